import PyProof.Rows.All
import Wide.All
import OpenK.AllK
import Wide.FinOn
import Lean
import PyProof.EqAt
import PyProof.EqKinds
import PyProof.TupleCall
import PyProof.NeKinds
import PyProof.FactsAll.tuple_2
import PyProof.FactsAll.str_0
import PyProof.FactsAll.str_1
import PyProof.FactsAll.str_2
import PyProof.FactsAll.str_3
import PyProof.Rows.MinMaxN
import PyProof.Rows.SumAny
import PyProof.Rows.SetFrom
import PyProof.ReprRoads
import PyProof.Rows.StrKeys3
import PyProof.CallFns
import KE.KSortTup
import KE.KDictSum
import PySem.Challenge.RW_treewithin_k18_ways_of_anything
local macro_rules | `(tactic| omega) => `(tactic| lia)
open PySem renaming wpAny_bind -> Aa, wpAny_pure -> Af, wpAny_callSpecial?_slot -> AX, wpAny_field -> A1, wpAny_newObj_type -> A2, wpAny_setField_rec -> Ba, Value -> Bb, wpAny_holding -> Bc, wpAny_call_entry -> Bg, wpAny_truthy_bool -> Bt, wpAny_Call_Name_kw -> BB, wpAny_seqItems -> BE, Expr -> BJ, Addr -> BK, wpAny_mono -> BO, mem_of_lookup -> BQ, wpAny_typeNameOfWhole_keyiter -> B3, wpAny_typeOf -> Cj, Str -> Cp, wpAny_passesOwn -> Cq, wpAny_typeNameOf_keyiter -> Cs, Pos -> Cu, wpAny_getItem_str_slice -> Cv, wpAny_of_eq -> Cz, wpAny_pyIter_list -> CK, wpAny_newTuple -> CS, wpAny_attempt -> C2, wpAny_rule -> C6, wpAny_sequenceKey -> Dg, wpAny_pyIter_enum -> Dh, wpAny_isInstance -> Ds, wpAny_updateSeq_pair -> DB, wpAny_letGo -> DC, wpAny_updateSeq -> DL, wpAny_specialOf -> DM, wpAny_execs_nil -> DP, Shared -> DZ, wpAny_setField -> D9, wpAny_pyIter_tuple -> Ea, wpAny_letOwnedTupleGo_enum -> Eb, wpAny_dictEntries -> Em, wpAny_standAt -> Et, wpAny_onRaise -> Eu, wpAny_comprehension_free -> Ew, wpAny_dictEpoch -> E7, wpAny_listPart -> Fj, Heap -> FD, Obj -> FQ, call -> FY
open PySem.W renaming Frag -> Ab, nsIn -> AH, mg_none_of -> AJ, kia_one -> Bl, kitOne -> BA, mg_of -> BN, fnOf -> BZ, keepIn -> CO, KasT -> DW, codeIn -> D3, methodObj -> Eh, kitx_list -> Ei, kitx_dict -> Ej, cellsFrom_some -> EM, kas_rev -> E3, instObj -> E4, OpenLaw -> E5, lookIn -> Fh, kitx_tuple -> Fy, callWith_K -> Fz, plainGet -> FJ, kat_cons -> FK, kas_sort -> FN
open List renaming length_append -> Ad, getElem?_eq_getElem -> Ae, length_map -> Ag, size_toArray -> Ai, getElem?_map -> Aj, replicate -> Al, getElem?_eq_some_iff -> Am, length_cons -> An, getD_eq_getElem?_getD -> Ap, mem_map -> Au, range -> Av, map_cons -> Aw, mem_cons -> Ax, getElem?_eq_none -> Ay, getElem?_append_right -> AA, getElem?_append_left -> AE, mem_append -> AG, mem_range -> AL, length_nil -> AN, mem_filter -> AQ, map_map -> AR, mem_append_right -> AU, mem_cons_of_mem -> AY, append_assoc -> A3, map_append -> A5, not_mem_nil -> A8, length_replicate -> A9, getElem?_set_ne -> Bf, mem_singleton -> Bh, length_filter_le -> Bi, drop_eq_getElem_cons -> Bk, mem_of_getElem? -> Bm, ext_getElem? -> Bn, lookup_cons -> Br, getElem?_set_self -> Bu, replicate_succ -> Bv, getElem?_range -> Bw, filterMap_cons -> Bx, getElem?_replicate -> Bz, mem_cons_self -> BC, length_set -> BH, find?_cons -> BI, any_eq_true -> BL, idxOf_lt_length_of_mem -> BM, length_range -> BP, pairwise_iff_getElem -> BS, mem_append_left -> B4, length -> B5, flatten_cons -> B9, forIn_cons -> Cb, map_congr_left -> Cd, length_reverse -> Ce, flatMap_append -> Cf, any_cons -> Ck, length_take -> Cm, all_eq_true -> Cw, eq_nil_of_length_eq_zero -> CA, take_of_length_le -> CB, reverse_cons -> CM, nodup_append -> CN, getElem?_of_mem -> CT, mem_flatMap -> CU, length_drop -> CV, mergeSort_perm -> CY, map_const' -> C3, append_nil -> C4, mem_filterMap -> C7, pairwise_lt_range -> Dk, replicate_append_replicate -> Dl, length_singleton -> Dm, getElem_mem -> Dv, filter_cons -> Dw, getElem_toArray -> DE, nodup_cons -> DR, length_pos_iff -> DT, getElem_of_mem -> DU, pairwise_cons -> Ed, pairwise_map -> En, map_drop -> Ex, length_erase_of_mem -> Ey, pairwise_mergeSort -> EE, length_eq_zero_iff -> EG, isEmpty_map -> EH, getElem_inj -> EI, drop_length -> EJ, range_succ_eq_map -> ET, map_set -> EU, map_nil -> EW, length_pos_of_mem -> EX, filter_eq_nil_iff -> EY, drop_eq_nil_of_le -> EZ, range_succ -> E8, of_mem_zip -> E9, nil_append -> Fb, set_append_right -> Fe, getElem?_toArray -> Ff, take_succ -> Fp, nodup_nil -> Fq, reverse_append -> Fv, map_eq_nil_iff -> Fw, map -> FZ
open PySem.Heap renaming get?_push_of_some -> Ah, get?_push_size -> Aq, lt_size -> Ar, SameBut -> Ci, get?_update_self -> CF, size_push -> CP, get?_update_other -> De, IsSliceOf -> D6, size_update -> EB, get?_update_ne -> Fu, ExtBut -> FT
open Bool renaming false_eq_true -> Ak, and_eq_true -> Az, false_ne_true -> AW, not_true -> Bj, eq_iff_iff -> BR, and_false -> B6, true_and -> CD, not_false -> Ee, false_and -> Ef, and_true -> Ez, or_eq_true -> Fc
open Nat renaming le_refl -> Ao, lt_of_lt_of_le -> AB, ne_of_lt -> AI, zero_add -> AO, zero_le -> A6, le_trans -> A7, lt_irrefl -> Bd, add_assoc -> Be, le_add_right -> BD, sub_self -> B1, add_sub_cancel_left -> B8, le_of_ble_eq_true -> CI, lt_succ_of_lt -> Di, lt_or_ge -> Dj, lt_succ_self -> Du, strongRecOn -> DQ, sub_zero -> D1, le_of_lt -> D2, eq_or_lt_of_le -> Ec, sub_sub -> Fm, le_succ -> Fo, succ_mul -> FH, succ -> FI
open PySem.Value renaming ref -> AD, none -> AZ, type -> BV, bool -> Ca, int -> C8, str -> Dn
open PySem.PassesOwn renaming never -> AM
open PyProof.Rows renaming slot_tuple_getitem -> AV, callWith_type1 -> Bp
open Int renaming toNat_natCast -> A4, emod_lt_of_pos -> BX, emod_nonneg -> Cc, le_refl -> DG, eq_ofNat_of_zero_le -> EK, zero_add -> E1
open PySem.NameKind renaming free -> Bo, cell -> Fx
open PySem.Obj renaming mapSeq -> Bq, data_mapFields -> C5, isFreed_of_fields -> Fd
open False renaming elim -> Bs
open PySem.F renaming slot_dict_keyiterator_next -> BF, plainAttrs_list -> B7, slot_tuple_iterator_next -> Cn, slot_enumerate_next -> CG, args_tuple_add_2 -> CZ, slot_list_getattribute -> C1, entry_tuple_add -> C9, slot_tuple_add -> Df, args_dict_keyiterator_next_1 -> Dq, entry_dict_keyiterator_next -> Dx, args_list_extend_2 -> Dy, slot_zip_next -> DH, args_tuple_iterator_next_1 -> DJ, entry_list_extend -> DS, entry_tuple_iterator_next -> DY, slot_list_extend -> D7, type_list_append -> Er, slot_list_append -> Es, args_enumerate_next_1 -> EC, entry_enumerate_next -> EO
open Ne renaming symm -> BG
open True renaming intro -> BU
open PySem.AutoSeq1 renaming wpAny_loadPart' -> BW, sub_tuple_tuple -> Dr, sub_tuple_list -> Dz, sub_list_tuple -> DA, sub_list_list -> DK, idx_int -> ES
open PySem.PyData renaming hasDict -> B2, hasDictAll -> Ek
open PySem.Str renaming ofString -> Cg, length_append -> Dc
open PySem.Calls renaming spliced_cons -> Co, spliced_nil -> CJ, Name_function_global -> D8, callWith_builtin -> ER
open ForInStep renaming yield -> Cr
open Or renaming inr -> Ct, inl -> CH
open And renaming right -> Cy
open Option renaming map_some -> CC, getD_none -> ED, isSome_map -> FG
open Array renaming getElem?_eq_getElem -> CW, length_toList -> DV, perm_iff_toList_perm -> Eg, size_append -> Eo, toList_inj -> EL, getElem?_eq_none -> E2, getElem?_toList -> Fg
open PySem.SeqAt renaming EqAt -> Dp
open PySem.SeqAt.RcNeAt renaming lists_lengths -> D4, lists -> FA
open PySem.SeqAt.EqAt renaming int_int -> D5, of_refs -> FC, same -> FU
open PySem.EqBoolInt renaming of_rcne -> El, of_rc -> E6
open PySem.SeqAt.RcAt renaming lists_lengths -> Ep, tuples -> FE, lists -> FO
open PySem.Txt renaming slice -> EA, slice_le -> EN
open PySem.Data renaming seq -> Fi
open Sum renaming inr -> Fs, inl -> Ft
open PySem.IsL renaming isList -> FP
open PyProof.Rows.IsTup renaming new -> FR
open PySem.Flow renaming ret -> FV
open PySem.Fin renaming done -> FX
set_option compiler.extract_closed false
set_option Elab.async false
set_option linter.all false
set_option maxRecDepth 100000
set_option maxHeartbeats 1000000
open Option renaming some→ap,none→bm
open PyProof.Rows renaming envOfC→sn,boot_str→sB,seqObj→tz,IntsAre→wS,AllBare→Gc
open PySem renaming Value→ce,Addr→ci,Shared→cr,wpAny→db,model→dL,mainGlobals→d4,starEach→ga,Expr→gt,compareOp→im,swapsWith→kt,eval→kw,behindInMarks→lc,tupleKind→lw,Heap→mo,bootBuiltins→nn,Scope→nw,cLine→o0,attributeBase→pc,Around→pr,holding→re,binaryOp→r9,Program→sw,Stmt→sK,sysModules→tt,World→t0,sliceBounds→ul,rawInt→ut,call_meets→u8,assignEach→wf,IntMulOk→wn,assign→ww,setField→wE,NameKind→wP,Builtin→wT,PassesOwn→xz,setItem→xL,getItem→zn,tupleKind_room_in1→BT,FuncData→Da,storedH→Db,sizeLine_eq→Ev,swapsWithSole→EQ,swappedStores→Fa,typeLookup→Fk,standAt→FB,codeAny→FM,backTo→FS,post_val_or_str→Ge,letOwnedTupleGo→Gf
local macro_rules | `(∅)=>`(by omega)
local macro_rules | `(⋯)=>`(by decide)
namespace L2
open PySem PySem.Spec PyProof.Rows
abbrev Key:=Sum Int Str
def vq:Key->ce->Bool
 | .inl k,v=>Value.isInt k v
 | .inr x,v=>Value.isStrOf x v
def keyH (w:t0):Key->Int
 | .inl k=>hashInt k
 | .inr x=>hashStr w x
def cD:∀{k:Key}{v:ce},vq k v=true->(∃i t,k=Ft i/\v=C8 i t)\/(∃x t,k=Fs x/\v=Dn x t)
 | .inl i,v,h=>by
  obtain⟨t,e⟩:=Value.isInt_shape (k:=i) (v:=v) h;exact .inl ⟨i,t,rfl,e⟩
 | .inr x,v,h=>by
  obtain⟨t,e⟩:=Value.isStrOf_shape (x:=x) (v:=v) h;exact .inr ⟨x,t,rfl,e⟩
def Lj (i:Int) (t:Tok):vq (.inl i) (.int i t)=true:=by simp [vq,Value.isInt]
def Li (x:Str) (t:Tok):vq (.inr x) (.str x t)=true:=by simp [vq,Value.isStrOf]
def W7 (a b:Int):decide ((Ft a:Key)=Ft b)=(a==b):=by
 by_cases e:a=b
 ·subst e;simp
 ·have h:¬(Ft a:Key)=Ft b:=λq=>e (Ft.inj q);rw [decide_eq_false h];exact (beq_eq_false_iff_ne.mpr e).symm
def W4 (a b:Str):decide ((Fs a:Key)=Fs b)=decide (a=b):=by
 by_cases e:a=b
 ·subst e;simp
 ·have h:¬(Fs a:Key)=Fs b:=λq=>e (Fs.inj q);rw [decide_eq_false h,decide_eq_false e]
def W6 (a:Int) (b:Str):decide ((Ft a:Key)=Fs b)=false:=decide_eq_false (λq=>nomatch q)
def W5 (a:Str) (b:Int):decide ((Fs a:Key)=Ft b)=false:=decide_eq_false (λq=>nomatch q)
def bM (prog:sw) (w:t0):PySem.KeyKind prog w Key where
 is:=vq
 hash:=keyH w
 inj:=λv a b ha hb=>by
  rcases cD ha with⟨i,t,rfl,rfl⟩ | ⟨x,t,rfl,rfl⟩
  ·rcases cD hb with⟨j,u,rfl,e⟩ | ⟨y,u,rfl,e⟩
   ·injection e with e1 _;rw [e1]
   ·exact nomatch e
  ·rcases cD hb with⟨j,u,rfl,e⟩ | ⟨y,u,rfl,e⟩
   ·exact nomatch e
   ·injection e with e1 _;rw [e1]
 byValue:=λk v h=>by
  rcases cD h with⟨i,t,rfl,rfl⟩ | ⟨x,t,rfl,rfl⟩ <;> rfl
 pyHash:=λhv h=>by
  rcases cD hv with⟨i,t,rfl,rfl⟩ | ⟨x,t,rfl,rfl⟩
  ·exact wpAny_pyHash_int h
  ·exact wpAny_pyHash_str h
 eqBool:=λhu hv h=>by
  rcases cD hu with⟨i,t,rfl,rfl⟩ | ⟨x,t,rfl,rfl⟩
  ·rcases cD hv with⟨j,u,rfl,rfl⟩ | ⟨y,u,rfl,rfl⟩
   ·rw [W7] at h;exact wpAny_eqBool_int h
   ·rw [W6] at h;exact Dp.int_str i t y u _ _ _ _ h
  ·rcases cD hv with⟨j,u,rfl,rfl⟩ | ⟨y,u,rfl,rfl⟩
   ·rw [W5] at h;exact Dp.str_int x t j u _ _ _ _ h
   ·rw [W4] at h;exact wpAny_eqBool_str h
 «strs»:=λk x t v h=>by
  rcases cD h with⟨i,u,rfl,e⟩ | ⟨y,u,rfl,e⟩
  ·exact nomatch e
  ·injection e with e1 _;subst e1;cases v <;> rfl
def zF (prog:sw) (w:t0) (i:Int) (t:Tok):(bM prog w).is (.inl i) (.int i t)=true:=Lj i t
def zE (prog:sw) (w:t0) (x:Str) (t:Tok):(bM prog w).is (.inr x) (.str x t)=true:=Li x t
end L2
variable {us:List Bb}{u:Bb}{κ α β:Type}{a b e:BK}{P:PySem.Program}{w:PySem.World}{h h':FD}{ob:FQ}
namespace L2
open PySem PySem.Spec PyProof.Rows
inductive V where
 | aO | bl (b:Bool) | int (i:Int) | str (x:Str) | X2 (b:Array UInt8) | YD (b:UInt64) | ref (a:ci) | ty (n:String)
 deriving DecidableEq
def RelV:V->ce->Prop
 | .aO,u=>u=AZ
 | .bl b,u=>u=Ca b
 | .int i,u=>∃t,u=C8 i t
 | .str x,u=>∃t,u=Dn x t
 | .X2 b,u=>∃t,u=Value.bytes b t
 | .YD b,u=>∃t,u=Value.float b t
 | .ref a,u=>u=AD a
 | .ty n,u=>u=BV n
abbrev Vals:List V->List ce->Prop:=Paired RelV
def Vals.length {xs:List V} (r:Vals xs us):xs.length=us.length:=Paired.length r
theorem Vals.get:∀{xs:List V}{us:List ce}{i:Nat}{x:V},Vals xs us->xs[i]?=ap x->∃u,us[i]?=ap u/\RelV x u
 | _,_,_,_,.nil,e=>by simp at e
 | _,_,0,_,.cons r _,e=>by simp at e;subst e;exact⟨_,rfl,r⟩
 | _,_,i+1,x,.cons _ t,e=>by
  obtain⟨u,h1,h2⟩:=Vals.get (i:=i) (x:=x) t (by simpa using e);exact⟨u,by simpa using h1,h2⟩
theorem Vals.set {x:V} (r:RelV x u):∀{xs:List V}{us:List ce} (i:Nat),Vals xs us->Vals (xs.set i x) (us.set i u)
 | _,_,_,.nil=>.nil
 | _,_,0,.cons _ t=>.cons r t
 | _,_,i+1,.cons q t=>.cons q (Vals.set r i t)
theorem Vals.append:∀{xs ys:List V}{us ws:List ce},Vals xs us->Vals ys ws->Vals (xs++ys) (us++ws)
 | _,_,_,_,.nil,s=>s
 | _,_,_,_,.cons r t,s=>.cons r (Vals.append t s)
theorem Vals.take:∀{xs:List V}{us:List ce} (n:Nat),Vals xs us->Vals (xs.take n) (us.take n)
 | _,_,0,_=>.nil
 | _,_,_+1,.nil=>.nil
 | _,_,n+1,.cons r t=>.cons r (Vals.take n t)
theorem Vals.drop:∀{xs:List V}{us:List ce} (n:Nat),Vals xs us->Vals (xs.drop n) (us.drop n)
 | _,_,0,r=>r
 | _,_,_+1,.nil=>.nil
 | _,_,n+1,.cons _ t=>Vals.drop n t
def tX:Option V->Option ce->Prop
 | some v,ap u=>RelV v u
 | none,bm=>True
 | _,_=>False
def KV:List (κ×V)->List (κ×ce)->Prop:=Paired λ(p:κ×V) (q:κ×ce)=>p.1=q.1/\RelV p.2 q.2
def kV:Key->V
 | .inl i=>.int i
 | .inr x=>.str x
inductive HO where
 | lst (xs:List V)
 | tup (xs:List V)
 | dK (kvs:List (Key×V)) | dT (kvs:List (List Key×V))
 | set (S:Int->Bool) (n:Nat)
 | ins (C dx:ci) (fs:List (Str×V))
 | own (x:ci)
 | xd (fs:List (Str×V))
 | met (f x:ci)
 | rng (lo hi:Int)
 | cM (o:Obj) (u:HO)
 | Vu (ps:Array ce)
 | ext (φ:mo->Prop)
abbrev Hp:=ci->Option HO
def upd (H:Hp) (a:ci) (o:HO):Hp:=λb=>if b=a then ap o else H b
def aP {H:Hp}{o:HO}:upd H a o a=ap o:=by unfold upd;rw [if_pos rfl]
def aA {H:Hp}{o:HO} (h:b≠a):upd H a o b=H b:=by unfold upd;rw [if_neg h]
def JS {H:Hp}{o u:HO} (h:H a=ap o) (h':H b=ap u) (d:o≠u):a≠b:=by
 intro e;subst e;rw [h] at h';exact d (Option.some.inj h')
def bN {H:Hp}{o:HO} (h:H a=ap o) (h':H b=bm):a≠b:=by
 intro e;subst e;rw [h] at h';cases h'
section
variable (P:sw) (w:t0)
def bx (H:Hp) (h:mo) (a:ci):HO->Prop
 | .lst xs=>xs.length<=sizeLine/\∃(aw:List ce) (n:Nat),Vals xs aw/\h.get? a=ap {cls:=.type "list",data:=.seq aw.toArray n}
 | .tup xs=>xs.length<=sizeLine/\∃aw:List ce,Vals xs aw/\IsTup h a aw.toArray
 | .dK kvs=>kvs.length<=sizeLine/\(a==tt)=false/\∃vs,KV kvs vs/\h.DictOf (bM P w) a vs
 | .dT kvs=>kvs.length<=sizeLine/\(a==tt)=false/\∃xs:List (List Key×ci×ce),
   Paired (λ(p:List Key×V) (q:List Key×ci×ce)=>p.1=q.1/\H q.2.1=ap (.tup (p.1.map kV))/\RelV p.2 q.2.2) kvs xs/\
   ∃o es ep,h.get? a=ap o/\o.ExactDict/\o.data=.dict es ep/\es.toList=xs.map (entryOfKey (lw (bM P w)))/\(xs.map (·.1)).Nodup
 | .set S n=>h.SetOf (intKind P w) a S n
 | .ins C dx fs=>H dx=ap (.own a)/\fs.length<=1000/\dx≠a/\h.get? a=ap (E4 C dx)/\
   ∃mA,h.Ns1 dx mA/\(∀f,tX (fs.lookup f) (mA f))/\PySem.Within mA (fs.map (·.1))
 | .own _=>∃o,h.get? a=ap o
 | .xd fs=>∃mA,h.Ns1 a mA/\∀f,tX (fs.lookup f) (mA f)
 | .rng lo hi=>∃t u v,h.get? a=ap {cls:=.type "range",data:=.fields #[.int lo t,.int hi u,.int 1 v]}
 | .cM o u=>h.get? a=ap o/\bx H h a u
 | .Vu ps=>h.get? a=ap {cls:=.none,data:=.fields ps}
 | .met f x=>h.get? a=ap (Eh (.ref f) (.ref x))
 | .ext φ=>φ h/\(∃o,h.get? a=ap o)/\∀h1 h2:mo,φ h1->(∀o,h1.get? a=ap o->h2.get? a=ap o)->φ h2
def lX (H:Hp) (h:mo):Prop:=∀a o,H a=ap o->bx P w H h a o
end
section
variable {H H':Hp}{o:HO}
def bx.lt (x:bx P w H h a o):a < h.objs.size:=by
 cases o with
 | lst xs=>obtain⟨_,_,_,_,e⟩:=x;exact Ar e
 | tup xs=>obtain⟨_,_,_,p⟩:=x;exact p.lt
 | dK kvs=>obtain⟨_,_,_,_,o,_,_,e,_⟩:=x;exact Ar e
 | dT kvs=>obtain⟨_,_,_,_,o,_,_,e,_⟩:=x;exact Ar e
 | set S n=>obtain⟨o,_,_,_,e,_⟩:=x;exact Ar e
 | ins C dx fs=>obtain⟨_,_,_,e,_⟩:=x;exact Ar e
 | own y=>obtain⟨_,e⟩:=x;exact Ar e
 | xd fs=>obtain⟨_,⟨_,_,_,e,_⟩,_⟩:=x;exact Ar e
 | rng lo hi=>obtain⟨_,_,_,e⟩:=x;exact Ar e
 | cM ob u=>obtain⟨e,_⟩:=x;exact Ar e
 | Vu ps=>exact Ar (show h.get? a=ap _ from x)
 | met f y=>exact Ar (show h.get? a=ap _ from x)
 | ext φ=>obtain⟨_,⟨_,e⟩,_⟩:=x;exact Ar e
theorem Paired.WM {F G:α->β->Prop}:∀{l₁:List α}{l₂:List β},Paired F l₁ l₂->(∀a b,F a b->G a b)->Paired G l₁ l₂
 | _,_,.nil,_=>.nil
 | _,_,.cons r t,f=>.cons (f _ _ r) (Paired.WM t f)
def bx.wu (x:bx P w H h a o) (k:∀b u,(b=a\/H b=ap (.own a))->h.get? b=ap u->h'.get? b=ap u)
  (ho:∀b,H b=ap (.own a)->H' b=ap (.own a)) (ht:∀b xs,H b=ap (.tup xs)->H' b=ap (.tup xs)):bx P w H' h' a o:=by
 induction o with
 | lst xs=>obtain⟨z,aw,n,r,e⟩:=x;exact⟨z,aw,n,r,k _ _ (.inl rfl) e⟩
 | tup xs=>obtain⟨z,aw,r,ob,e,c⟩:=x;exact⟨z,aw,r,ob,k _ _ (.inl rfl) e,c⟩
 | dK kvs=>obtain⟨z,y,vs,r,ob,es,ep,e,c⟩:=x;exact⟨z,y,vs,r,ob,es,ep,k _ _ (.inl rfl) e,c⟩
 | dT kvs=>
  obtain⟨z,y,xs,r,ob,es,ep,e,c⟩:=x;exact⟨z,y,xs,Paired.WM r λp q z=>⟨z.1,ht _ _ z.2.1,z.2.2⟩,ob,es,ep,k _ _ (.inl rfl) e,c⟩
 | set S n=>obtain⟨ob,es,ep,t,e,c⟩:=x;exact⟨ob,es,ep,t,k _ _ (.inl rfl) e,c⟩
 | ins C dx fs=>
  obtain⟨d,z,ne,e,mA,⟨od,es,ep,e2,c⟩,r⟩:=x;exact⟨ho _ d,z,ne,k _ _ (.inl rfl) e,mA,⟨od,es,ep,k _ _ (.inr d) e2,c⟩,r⟩
 | own y=>obtain⟨ob,e⟩:=x;exact⟨ob,k _ _ (.inl rfl) e⟩
 | xd fs=>obtain⟨mA,⟨od,es,ep,e,c⟩,r⟩:=x;exact⟨mA,⟨od,es,ep,k _ _ (.inl rfl) e,c⟩,r⟩
 | rng lo hi=>obtain⟨t,u,v,e⟩:=x;exact⟨t,u,v,k _ _ (.inl rfl) e⟩
 | cM ob u ih=>obtain⟨e,q⟩:=x;exact⟨k _ _ (.inl rfl) e,ih q⟩
 | Vu ps=>
  have e:h.get? a=ap {cls:=.none,data:=.fields ps}:=x;show h'.get? a=ap {cls:=.none,data:=.fields ps};exact k a _ (.inl rfl) e
 | met f y=>
  have e:h.get? a=ap (Eh (.ref f) (.ref y)):=x;show h'.get? a=ap (Eh (.ref f) (.ref y));exact k a _ (.inl rfl) e
 | ext φ=>obtain⟨p,⟨o,e⟩,st⟩:=x;exact⟨st _ _ p λo q=>k _ _ (.inl rfl) q,⟨o,k _ _ (.inl rfl) e⟩,st⟩
def lX.lt (x:lX P w H h) (e:H a=ap o):a < h.objs.size:=(x a o e).lt
def lX.fresh (x:lX P w H h) (e:h.objs.size<=a):H a=bm:=by
 cases q:H a with
 | none=>rfl
 | some u=>exact absurd (AB (x.lt q) e) (Bd _)
def lX.kept (x:lX P w H h) (k:∀b u,h.get? b=ap u->h'.get? b=ap u):lX P w H h':=λa o e=>
 (x a o e).wu (λb u _ q=>k b u q) (λ_ q=>q) λ_ _ q=>q
def lX.laid (x:lX P w H h) (k:∀b u,h.get? b=ap u->h'.get? b=ap u) (hp:h.objs.size<=a) (new:bx P w (upd H a o) h' a o):lX P w (upd H a o) h':=λb u e=>by
 have hn:=x.fresh hp;by_cases hb:b=a
 ·subst hb;rw [aP] at e;cases e;exact new
 ·rw [aA hb] at e;exact (x b u e).wu (λc v _ q=>k c v q) (λc q=>by rw [aA (bN q hn)];exact q) λc xs q=>by rw [aA (bN q hn)];exact q
end
def Rd (H:Hp) (a:ci) (u:HO):Prop:=H a=ap u\/∃o,H a=ap (.cM o u)
def Rd.ok {H:Hp}{u:HO} (r:Rd H a u) (x:lX P w H h):bx P w H h a u:=by
 rcases r with r | ⟨o,r⟩
 ·exact x a u r
 ·obtain⟨_,q⟩:=x a _ r;exact q
def Mut:Option HO->Prop
 | some (.lst _)=>True
 | some (.dK _)=>True
 | some (.dT _)=>True
 | some (.set _ _)=>True
 | some (.ins _ _ _)=>True
 | some (.ext _)=>True
 | _=>False
section
variable {H:Hp}{x:ci}{o':HO}
def lX.write (ok:lX P w H h) (mu:Mut (H x)) (he:e=x\/H e=ap (.own x)) (k:∀b u,b≠e->h.get? b=ap u->h'.get? b=ap u) (Yy:∃u,h'.get? e=ap u)
  (new:bx P w (upd H x o') h' x o'):lX P w (upd H x o') h':=λb u q=>by
 have N6:∀c y,H c=ap (.own y)->c≠x:=λc y r z=>by subst z;rw [r] at mu;exact mu
 have ad0:∀c xs,H c=ap (.tup xs)->c≠x:=λc xs r z=>by subst z;rw [r] at mu;exact mu
 by_cases hb:b=x
 ·subst hb;rw [aP] at q;cases q;exact new
 ·rw [aA hb] at q;by_cases Xo:b=e
  ·have q':H b=ap (.own x):=by
    rcases he with z | z
    ·exact absurd (Xo.trans z) hb
    ·rw [Xo];exact z
   rw [q] at q';cases q';obtain⟨v,hv⟩:=Yy;exact⟨v,by rw [Xo];exact hv⟩
  ·refine (ok b u q).wu (λc v hc r=>k c v ?_ r) (λc r=>by rw [aA (N6 c b r)];exact r) λc xs r=>by rw [aA (ad0 c xs r)];exact r
   rcases hc with rfl | hc
   ·exact Xo
   ·rintro rfl;rcases he with z | z
    ·exact N6 c b hc z
    ·rw [hc] at z;cases z;exact hb rfl
end
structure Un (fs ex:List ci) (H H':Hp) (h h':mo):Prop where
 keep:∀b o,h.get? b=ap o->H b=bm->b∉fs->b∉ex->h'.get? b=ap o
 slot:∀b o,h.get? b=ap o->H b=bm->b∈fs->b∉ex->∃sl,h'.get? b=ap {o with slots:=sl}
 free:∀b o,h.get? b=ap o->H b=bm->b∉ex->H' b=bm
 there:∀b o,h.get? b=ap o->b∉ex->∃o',h'.get? b=ap o'
 eJ:∀b xs,H b=ap (.tup xs)->H' b=ap (.tup xs)
 qk:∀b o u,H b=ap (.cM o u)->H' b=ap (.cM o u)
 v9:∀b ps,H b=ap (.Vu ps)->∃more,H' b=ap (.Vu (ps++more))
section
variable {fs ex:List ci}{H H1:Hp}{h1:mo}{x:ci}{o:HO}
def Un.any (u:Un fs ex H H1 h h1) (q:h.get? b=ap ob) (n:H b=bm) (hx:b∉ex):∃sl,h1.get? b=ap {ob with slots:=sl}:=by
 by_cases hb:b∈fs
 ·exact u.slot b ob q n hb hx
 ·exact⟨ob.slots,u.keep b ob q n hb hx⟩
def Un.kept (k:∀b u,h.get? b=ap u->h'.get? b=ap u):Un fs ex H H h h':=
 ⟨λb ob q _ _ _=>k b ob q,λb ob q _ _ _=>⟨ob.slots,k b ob q⟩,λ_ _ _ n _=>n,λb ob q _=>⟨ob,k b ob q⟩,λ_ _ q=>q,λ_ _ _ q=>q,λ_ ps q=>⟨#[],by rw [q];simp⟩⟩
def Un.refl:Un fs ex H H h h:=Un.kept λ_ _ q=>q
def Un.laid (k:∀b u,h.get? b=ap u->h'.get? b=ap u) (hp:h.objs.size<=a) (hn:H a=bm):Un fs ex H (upd H a o) h h' where
 keep:=λb u q _ _ _=>k b u q
 slot:=λb u q _ _ _=>⟨u.slots,k b u q⟩
 free:=λb u q n _=>by rw [aA (AI (AB (Ar q) hp))];exact n
 there:=λb u q _=>⟨u,k b u q⟩
 eJ:=λb xs q=>by rw [aA (bN q hn)];exact q
 qk:=λb u xs q=>by rw [aA (bN q hn)];exact q
 v9:=λb ps q=>⟨#[],by rw [aA (bN q hn),q];simp⟩
def Un.write (mu:Mut (H x)) (he:e=x\/H e=ap (.own x)) (k:∀b u,b≠e->h.get? b=ap u->h'.get? b=ap u) (Yy:∃u,h'.get? e=ap u):Un fs ex H (upd H x o) h h':=by
 have hx:∀b,H b=bm->b≠x:=λb n z=>by subst z;rw [n] at mu;exact mu
 have hb:∀b,H b=bm->b≠e:=λb n z=>by
  subst z;rcases he with r | r
  ·exact hx b n r
  ·rw [n] at r;cases r
 have hm:∀b u,H b=ap u->¬Mut (ap u)->b≠x:=λb u q nm z=>by subst z;rw [q] at mu;exact nm mu
 refine⟨λb u q n _ _=>k b u (hb b n) q,λb u q n _ _=>⟨u.slots,k b u (hb b n) q⟩,λb u q n _=>by rw [aA (hx b n)];exact n,λb u q _=>?_,
  λb xs q=>by rw [aA (hm b _ q λz=>z)];exact q,λb u xs q=>by rw [aA (hm b _ q λz=>z)];exact q,λb ps q=>⟨#[],by rw [aA (hm b _ q λz=>z),q];simp⟩⟩
 by_cases Xo:b=e
 ·subst Xo;exact Yy
 ·exact⟨u,k b u Xo q⟩
end
def trk (h:mo) (H:Hp):List ci:=(Av h.objs.size).filter λa=>(H a).isSome
def xw (h:mo) (H:Hp):mo:=PySem.W.hideAll h (trk h H)
def Lx (h:mo) (H:Hp):(xw h H).objs.size=h.objs.size:=PySem.W.hideAll_size _ _
def OT {H:Hp}{o:Obj} (e:h.get? b=ap o) (n:H b=bm):(xw h H).get? b=ap o:=
 PySem.W.hideAll_get _ e λhm=>by
  have q:=(AQ.mp hm).2;rw [n] at q;simp at q
def R5 {H:Hp}{o:Obj} (e:(xw h H).get? b=ap o):h.get? b=ap o/\H b=bm:=by
 have e':=PySem.W.of_hideAll (trk h H) e;refine⟨e',?_⟩;cases q:H b with
 | none=>rfl
 | some x=>
  have hm:b∈trk h H:=AQ.mpr ⟨AL.mpr (Ar e'),by simp [q]⟩;have z:(xw h H).get? b=bm:=PySem.W.hideAll_none (trk h H) hm;rw [z] at e;cases e
def TY (g h:mo) (L:ci):List (ci×Obj):=(Av h.objs.size).filterMap λa=>if a=L\/(g.get? a).isSome=true then bm else (h.get? a).map λo=>(a,o)
def rest (g h:mo) (L d:ci):List (ci×Obj):=(TY g h L).filter λp=>decide (p.1≠d)
end L2
variable {o:FQ}{ch:List BK}{it:BK}{i j:Nat}{M:PySem.Model}{A:PySem.Around}{E:Bb->DZ->Prop}{v:L2.V}{Q:Unit->DZ->Prop}{s' s:DZ}
namespace L2
open PySem PySem.Spec PyProof.Rows
structure Mod (K:Ab) (mg:Str->Option ce) (base:mo):Prop where
 kin:K.In base
 glob:base.Ns d4 mg
 blt:∃mb,base.Ns builtinsNs mb/\∀x:Str,x≠"__name__"->mb x=nn x
 nolimit:base.NoLimit
structure Cx where
 prog:sw
 w:t0
 K:Ab
 mg:Str->Option ce
 base:mo
 A:pr
 N:List Str
 s₀:cr
 H₀:Hp
 env:Env
 outer:List Env
 stack:List Env
 ex:List ci
 fn:Str->Bool
 calm:Bool
 pn:List (ci×Obj)
 xe:ce->cr->Prop
abbrev jg (x:Str):Prop:=(x==("__debug__":Str))=false
abbrev yK (x:Str):Prop:=(x==("__classdict__":Str))=false
abbrev iB (X:Cx) (e:gt) (es:List gt):Prop:=ga (e::es) X.env=(false,kw e X.env)::ga es X.env
abbrev lH (X:Cx) (p:Pos) (es:List gt):Prop:=(FS p (ga es X.env)).any (·.1)=false
abbrev vS (X:Cx) (e:gt):Prop:=∀x,foldedSetIterable e X.env x=pure x
abbrev YQ (X:Cx) (p:Pos) (l:List gt):Prop:=((FS p (ga l X.env)).all (λx=>!x.1)&&(backToKw p (keywordEach [] X.env)).all (λx=>x.1.isSome)&&decide (l.length+([]:List Keyword).length+(if ([]:List Keyword).isEmpty then 0 else 1) < 30))=true
abbrev QJ (p q:Pos):Prop:=(p.endLine==q.line)=true
abbrev MM (X:Cx) (y:Str):Prop:=X.fn y=true\/X.env.scope.names.lookup y=ap .local
def MJ (l:List Env):List ci:=l.filterMap (·.frame)
abbrev Cx.fs (X:Cx):List ci:=MJ X.outer
def yr (sc:nw) (x:Str):Prop:=sc.names.lookup x=ap .local\/sc.names.lookup x=ap .cell\/sc.names.lookup x=ap .free
def Loc (sc:nw) (x:Str):Prop:=sc.names.lookup x=ap .local\/sc.names.lookup x=ap .cell
def Look (env:Env) (h:mo) (m:Str->Option ce) (x:Str) (u:ce):Prop:=
 (env.kindOf x=ap .local/\m x=ap u)\/((env.kindOf x=ap .cell\/env.kindOf x=ap .free)/\∃c,env.cells.lookup x=ap c/\h.IsCell c (ap u))
structure Cx.Ok (X:Cx):Prop where
 mod:Mod X.K X.mg X.base
 kind:X.env.scope.kind=.function
 glob:X.env.globals=d4
 blt:X.env.builtins=builtinsNs
 above:X.s₀.heap.objs.size<=X.env.locals
 inj:∀x y c,X.env.cells.lookup x=ap c->X.env.cells.lookup y=ap c->x=y
 has:∀x,(X.env.kindOf x=ap .cell\/X.env.kindOf x=ap .free)->∃c,X.env.cells.lookup x=ap c
 cab:∀x c,X.fn x=true->X.env.cells.lookup x=ap c->X.s₀.heap.objs.size<=c
 hd:X.calm=true->X.A.handled=bm
 frames:X.A.frames=ap X.stack
 stk:X.stack=X.outer\/(X.stack=X.env::X.outer/\X.env.frame=ap X.env.locals)
 exf:∀b∈X.ex,b≠X.env.locals/\∀x c,X.env.cells.lookup x=ap c->c≠b
 bs:∀b o,X.base.get? b=ap o->X.s₀.heap.get? b=ap o/\X.H₀ b=bm
 Vd:X.base.objs.size<=X.s₀.heap.objs.size
 N7:∀b o,X.base.get? b=ap o->b∉X.ex
 Pe:∀b∈X.ex,b∉X.fs
 sW:X.s₀.heap.FunFrames X.base X.outer
 YA:∀b∈X.fs,X.H₀ b=bm
structure Inv (X:Cx) (Z:List (ci×Obj)) (σ:List (Option V)) (H:Hp) (s:cr):Prop where
 ok:X.Ok
 os:s.os=X.s₀.os
 bare:Gc s.gens
 base:Un X.fs X.ex X.H₀ H X.s₀.heap s.heap
 loc:∃m,s.heap.Ns X.env.locals m/\∀(i:Nat) (x:Str) (v:V),X.N[i]?=ap x->σ[i]?=ap (ap v)->yr X.env.scope x->∃u,RelV v u/\Look X.env s.heap m x u
 cell:∀x c,X.env.cells.lookup x=ap c->∃v,s.heap.IsCell c v
 free:H X.env.locals=bm
 ko:∀x c,X.env.cells.lookup x=ap c->H c=bm
 pin:∀p∈X.pn++Z,s.heap.get? p.1=ap p.2/\H p.1=bm/\p.1≠X.env.locals/\p.1∉X.fs/\∀v,p.2.data≠.cell v
 bH:lX X.prog X.w H s.heap
 len:σ.length=X.N.length
section
variable {X:Cx}{Z:List (ci×Obj)}{σ:List (Option V)}{H H':Hp}{s:cr}{h':mo}
def Cx.Ok.ad2 (ok:X.Ok) (e:X.base.get? b=ap o):b∉X.fs:=λhb=>by
 have:=(ok.sW.mem hb).1;rw [e] at this;cases this
def Inv.bs (I:Inv X Z σ H s):∀b o,X.base.get? b=ap o->s.heap.get? b=ap o/\H b=bm:=λb o e=>
 ⟨I.base.keep b o (I.ok.bs b o e).1 (I.ok.bs b o e).2 (I.ok.ad2 e) (I.ok.N7 b o e),I.base.free b o (I.ok.bs b o e).1 (I.ok.bs b o e).2 (I.ok.N7 b o e)⟩
def Inv.bk (I:Inv X Z σ H s):∀b o,X.base.get? b=ap o->s.heap.get? b=ap o:=λb o e=>(I.bs b o e).1
def Inv.mod (I:Inv X Z σ H s):Mod X.K X.mg X.base:=I.ok.mod
def Inv.tZ (I:Inv X Z σ H s):X.K.In s.heap:=I.ok.mod.kin.keeps I.bk
def Inv.lt (I:Inv X Z σ H s):X.env.locals < s.heap.objs.size:=let ⟨_,hn,_⟩:=I.loc;hn.lt
def Inv.sz (I:Inv X Z σ H s):X.s₀.heap.objs.size<=s.heap.objs.size:=A7 I.ok.above (D2 I.lt)
def Inv.ad1 (I:Inv X Z σ H s) (h:s.heap.objs.size<=a):a∉X.fs:=λhb=>by
 obtain⟨_,o,ho,_⟩:=I.ok.sW.mem hb;exact absurd (AB (Ar ho) (A7 I.sz h)) (Bd _)
def Inv.XZ (I:Inv X Z σ H s):∀x c,X.env.cells.lookup x=ap c->c≠X.env.locals:=λx c e z=>by
 obtain⟨v,o,ho,hd⟩:=I.cell x c e;obtain⟨m,⟨o',es,ep,OO,ĳ,_⟩,_⟩:=I.loc;rw [z,OO] at ho;cases ho;rw [ĳ] at hd;cases hd
def Inv.sW (I:Inv X Z σ H s):s.heap.FunFrames X.base X.outer:=by
 have all:∀(l:List Env),(∀b∈MJ l,b∈X.fs)->X.s₀.heap.FunFrames X.base l->s.heap.FunFrames X.base l:=by
  intro l
  induction l with
  | nil=>intro _ _;trivial
  | cons env r ih=>
   intro hs hl;obtain⟨hk,⟨L,o,hf,hn,ho,hd⟩,hr⟩:=hl;have hL:=hs L (by unfold MJ;rw [Bx,hf];exact BC);obtain⟨sl,e⟩:=I.base.slot L o ho (I.ok.YA L hL) hL λz=>I.ok.Pe L z hL;exact⟨hk,⟨L,_,hf,hn,e,hd⟩,ih (λb hb=>hs b (by unfold MJ;rw [Bx,hf];exact AY _ hb)) hr⟩
 exact all X.outer (λ_ hb=>hb) I.ok.sW
def Inv.stack (I:Inv X Z σ H s):s.heap.FunFrames X.base X.stack:=by
 rcases I.ok.stk with e | ⟨e,hf⟩
 ·rw [e];exact I.sW
 ·rw [e];obtain⟨m,hn,_⟩:=I.loc;refine .cons (by rw [I.ok.kind];decide) hf hn ?_ I.sW;exact Heap.get?_none_of_le (A7 I.ok.Vd I.ok.above)
def Inv.G1 (I:Inv X Z σ H s):∀b∈MJ X.stack,b∈X.env.locals::X.fs:=λb hb=>by
 rcases I.ok.stk with e | ⟨e,hf⟩
 ·rw [e] at hb;exact AY _ hb
 ·rw [e] at hb;unfold MJ at hb;rw [Bx,hf] at hb;exact hb
def Inv.Js (I:Inv X Z σ H s):∀b∈MJ X.stack,H b=bm:=λb hb=>by
 rcases Ax.mp (I.G1 b hb) with e | hb
 ·rw [e];exact I.free
 ·obtain⟨_,o,ho,_⟩:=I.ok.sW.mem hb;exact I.base.free b o ho (I.ok.YA b hb) λz=>I.ok.Pe b z hb
def Inv.step {g':Array GenState}{t':Nat}{d':Drawn}{ch:List ci} (I:Inv X Z σ H s)
  (QA:∀b∈ch,(b∈X.ex\/X.s₀.heap.objs.size<=b)/\b≠X.env.locals/\(∀x c,X.env.cells.lookup x=ap c->c≠b)/\∀p∈X.pn++Z,p.1≠b)
  (keep:∀b o,b≠X.env.locals->b∉X.fs->b∉ch->s.heap.get? b=ap o->H b=bm->h'.get? b=ap o)
  (slot:∀b o,b≠X.env.locals->b∈X.fs->b∉ch->s.heap.get? b=ap o->H b=bm->∃sl,h'.get? b=ap {o with slots:=sl}) (free:∀b o,b∉ch->s.heap.get? b=ap o->H b=bm->H' b=bm)
  (there:∀b o,b∉ch->s.heap.get? b=ap o->∃o',h'.get? b=ap o')
  (eJ:∀b xs,H b=ap (.tup xs)->H' b=ap (.tup xs)) (qk:∀b o u,H b=ap (.cM o u)->H' b=ap (.cM o u)) (v9:∀b ps,H b=ap (.Vu ps)->∃more,H' b=ap (.Vu (ps++more)))
  (ns:∀m,s.heap.Ns X.env.locals m->h'.Ns X.env.locals m) (bH:lX X.prog X.w H' h') (hg:Gc g') :
  Inv X Z σ H' {s with heap:=h',gens:=g',drawn:=d',toks:=t'}:=by
 have neL:∀b o,X.s₀.heap.get? b=ap o->b≠X.env.locals:=λb o e=>AI (AB (Ar e) I.ok.above);have Ā:∀b o,X.s₀.heap.get? b=ap o->b∉X.ex->b∉ch:=λb o e hx hb=>by
  rcases (QA b hb).1 with z | z
  ·exact hx z
  ·exact absurd (AB (Ar e) z) (Bd _)
 have Ü:∀x c,X.env.cells.lookup x=ap c->∀v,s.heap.IsCell c v->h'.IsCell c v:=λx c e v ⟨o,ho,hd⟩=>by
  have ä:c∉ch:=λz=>(QA c z).2.2.1 x c e rfl;by_cases hc:c∈X.fs
  ·obtain⟨sl,q⟩:=slot c o (I.XZ x c e) hc ä ho (I.ko x c e);exact⟨_,q,hd⟩
  ·exact⟨o,keep c o (I.XZ x c e) hc ä ho (I.ko x c e),hd⟩
 refine⟨I.ok,I.os,hg,⟨λb o e n hb hx=>?_,λb o e n hb hx=>?_,λb o e n hx=>?_,λb o e hx=>?_,λb xs e=>eJ b xs (I.base.eJ b xs e),λb o xs e=>qk b o xs (I.base.qk b o xs e),λb ps e=>?_⟩,?_,λx c e=>?_,?_,λx c e=>?_,λp hp=>?_,bH,I.len⟩
 ·exact keep b o (neL b o e) hb (Ā b o e hx) (I.base.keep b o e n hb hx) (I.base.free b o e n hx)
 ·obtain⟨sl,e1⟩:=I.base.slot b o e n hb hx;obtain⟨sl',e2⟩:=slot b _ (neL b o e) hb (Ā b o e hx) e1 (I.base.free b o e n hx);exact⟨sl',e2⟩
 ·obtain⟨o',e1⟩:=I.base.there b o e hx;exact free b o' (Ā b o e hx) e1 (I.base.free b o e n hx)
 ·obtain⟨o',e1⟩:=I.base.there b o e hx;exact there b o' (Ā b o e hx) e1
 ·obtain⟨m1,e1⟩:=I.base.v9 b ps e;obtain⟨m2,e2⟩:=v9 b _ e1;exact⟨m1++m2,by rw [e2,Array.append_assoc]⟩
 ·obtain⟨m,hn,hl⟩:=I.loc;refine⟨m,ns m hn,λi x v e1 e2 e3=>?_⟩;obtain⟨u,r,l⟩:=hl i x v e1 e2 e3;refine⟨u,r,?_⟩;rcases l with l | ⟨k,c,e,z⟩
  ·exact .inl l
  ·exact .inr ⟨k,c,e,Ü x c e _ z⟩
 ·obtain⟨v,z⟩:=I.cell x c e;exact⟨v,Ü x c e v z⟩
 ·obtain⟨m,⟨o,_,_,ho,_⟩,_⟩:=I.loc;exact free _ o (λz=>(QA _ z).2.1 rfl) ho I.free
 ·obtain⟨v,o,ho,hd⟩:=I.cell x c e;exact free c o (λz=>(QA c z).2.2.1 x c e rfl) ho (I.ko x c e)
 ·obtain⟨e,n,ne,nf,d⟩:=I.pin p hp;have ä:p.1∉ch:=λz=>(QA p.1 z).2.2.2 p hp rfl;exact⟨keep p.1 p.2 ne nf ä e n,free p.1 p.2 ä e n,ne,nf,d⟩
def Inv.un {t':Nat} (I:Inv X Z σ H s) (u:Un X.fs [] H H' s.heap h') (bH:lX X.prog X.w H' h'):Inv X Z σ H' {s with heap:=h',toks:=t'}:=by
 obtain⟨m,⟨o,es,ep,ho,r⟩,_⟩:=id I.loc;obtain⟨sl,hL⟩:=u.any ho I.free (by simp);exact I.step (g':=s.gens) (d':=s.drawn) (ch:=[]) (λ_ z=>nomatch z) (λb o _ hb _ e n=>u.keep b o e n hb (by simp)) (λb o _ hb _ e n=>u.slot b o e n hb (by simp)) (λb o _ e n=>u.free b o e n (by simp)) (λb o _ e=>u.there b o e (by simp)) u.eJ u.qk u.v9 (λm' hm=>by
  obtain⟨o',č,Ď,OO,r'⟩:=hm;rw [ho] at OO;cases OO;exact⟨_,č,Ď,hL,r'⟩) bH I.bare
def Inv.call {g':Array GenState}{t':Nat}{d':Drawn} (I:Inv X Z σ H s) (u:Un (MJ X.stack) ch H H' s.heap h') (bH:lX X.prog X.w H' h') (hg:Gc g')
  (QA:∀b∈ch,(b∈X.ex\/X.s₀.heap.objs.size<=b)/\b≠X.env.locals/\(∀x c,X.env.cells.lookup x=ap c->c≠b)/\∀p∈X.pn++Z,p.1≠b) :
  Inv X Z σ H' {s with heap:=h',gens:=g',drawn:=d',toks:=t'}:=by
 obtain⟨m,⟨o,es,ep,ho,r⟩,_⟩:=id I.loc;obtain⟨sl,hL⟩:=u.any ho I.free λz=>(QA _ z).2.1 rfl;exact I.step (ch:=ch) QA (λb o hL hb hc e n=>u.keep b o e n (λz=>(Ax.mp (I.G1 b z)).elim hL hb) hc) (λb o _ _ hc e n=>u.any e n hc) (λb o hc e n=>u.free b o e n hc) (λb o hc e=>u.there b o e hc) u.eJ u.qk u.v9 (λm' hm=>by
  obtain⟨o',č,Ď,OO,r'⟩:=hm;rw [ho] at OO;cases OO;exact⟨_,č,Ď,hL,r'⟩) bH hg
def Inv.turned {t':Nat} (I:Inv X Z σ H s) (k:∀b o,b≠it->s.heap.get? b=ap o->h'.get? b=ap o) (hn:H it=bm) (hL:it≠X.env.locals)
  (h1:it∈X.ex\/X.s₀.heap.objs.size<=it) (h2:∀x c,X.env.cells.lookup x=ap c->c≠it) (h3:∀p∈X.pn++Z,p.1≠it):Inv X Z σ H {s with heap:=h',toks:=t'}:=by
 have UA:∀b u,H b=ap u->b≠it:=λb u e z=>by rw [z,hn] at e;cases e
 refine I.step (g':=s.gens) (d':=s.drawn) (ch:=[it]) (λb hb=>?_) (λb o _ _ hc e _=>k b o (λz=>hc (by simp [z])) e) (λb o _ _ hc e _=>⟨o.slots,k b o (λz=>hc (by simp [z])) e⟩) (λ_ _ _ _ n=>n)
  (λb o hc e=>⟨o,k b o (λz=>hc (by simp [z])) e⟩) (λ_ _ e=>e) (λ_ _ _ e=>e) (λb ps e=>⟨#[],by rw [e];simp⟩) (λm hm=>?_) (λb u e=>?_) I.bare
 ·have e:b=it:=by simpa using hb
  subst e;exact⟨h1,hL,h2,h3⟩
 ·obtain⟨o,es,ep,ho,r⟩:=hm;exact⟨o,es,ep,k _ o (BG hL) ho,r⟩
 ·refine (I.bH b u e).wu (λc v hc q=>k c v ?_ q) (λ_ q=>q) λ_ _ q=>q;rcases hc with z | z
  ·rw [z];exact UA b u e
  ·exact UA c _ z
def Inv.tok (I:Inv X Z σ H s) (t:Nat):Inv X Z σ H {s with toks:=t}:=I.un (h':=s.heap) (t':=t) Un.refl I.bH
def Inv.kept {t':Nat} (I:Inv X Z σ H s) (k:∀b u,s.heap.get? b=ap u->h'.get? b=ap u):Inv X Z σ H {s with heap:=h',toks:=t'}:=I.un (Un.kept k) (I.bH.kept k)
def Inv.laid {o:HO}{t':Nat} (I:Inv X Z σ H s) (k:∀b u,s.heap.get? b=ap u->h'.get? b=ap u) (hp:s.heap.objs.size<=a) (new:bx X.prog X.w (upd H a o) h' a o) :
  Inv X Z σ (upd H a o) {s with heap:=h',toks:=t'}:=I.un (Un.laid k hp (I.bH.fresh hp)) (I.bH.laid k hp new)
def Inv.write {x:ci}{o:HO}{t':Nat} (I:Inv X Z σ H s) (mu:Mut (H x)) (he:e=x\/H e=ap (.own x)) (k:∀b u,b≠e->s.heap.get? b=ap u->h'.get? b=ap u) (Yy:∃u,h'.get? e=ap u)
  (new:bx X.prog X.w (upd H x o) h' x o):Inv X Z σ (upd H x o) {s with heap:=h',toks:=t'}:=I.un (Un.write mu he k Yy) (I.bH.write mu he k Yy new)
def Inv.JH {zk:List (ci×Obj)} (I:Inv X Z σ H s) (h:∀p∈zk,s.heap.get? p.1=ap p.2/\H p.1=bm/\p.1≠X.env.locals/\p.1∉X.fs/\∀v,p.2.data≠.cell v):Inv X zk σ H s:=
 ⟨I.ok,I.os,I.bare,I.base,I.loc,I.cell,I.free,I.ko,λp hp=>(AG.mp hp).elim (λz=>I.pin p (B4 _ z)) (h p),I.bH,I.len⟩
def zC {N:List Str} (hN:N.Nodup) {x:Str} (a:N[i]?=ap x) (b:N[j]?=ap x):i=j:=by
 obtain⟨h1,e1⟩:=Am.mp a;obtain⟨h2,e2⟩:=Am.mp b;exact (EI hN).mp (e1.trans e2.symm)
def va {x:Str} (I:Inv X Z σ H s) (hN:X.N.Nodup) (hi:X.N[i]?=ap x) (hx:Loc X.env.scope x) (r:RelV v u)
  (h:∀s',Inv X Z (σ.set i (ap v)) H s'->(∃a,Ci a s.heap s'.heap/\(a=X.env.locals\/X.env.cells.lookup x=ap a))->Q () s') (hf:MM X x:=by first | exact .inl rfl | exact .inr rfl | assumption):db M A (storeName X.env x u) Q E s:=by
 obtain⟨m,hn,hl⟩:=id I.loc;have ae5:(X.env.scope.kind==.class||(X.env.scope.kind==.module&&X.env.locals != X.env.globals))=false:=by rw [I.ok.kind];rfl
 have aaV:i < σ.length:=by rw [I.len];exact (Am.mp hi).1
 have XZ:=I.XZ;have Ò:∀{a:ci}{h':mo},(∃o,s.heap.get? a=ap o/\H a=bm)->Ci a s.heap h'->lX X.prog X.w H h':=λ{a h'} ha hs b ob e=>by
  obtain⟨_,_,US⟩:=ha;refine (I.bH b ob e).wu (λc w' hc q=>(hs.2 c ?_).trans q) (λ_ q=>q) λ_ _ q=>q;rintro rfl;rcases hc with rfl | hc
  ·rw [US] at e;cases e
  ·rw [US] at hc;cases hc
 rcases hx with hk | hk
 ·refine wpAny_storeName_local hk hn (λh' hn' hs=>?_) ae5;obtain⟨oL,_,_,Ĉ,_⟩:=id hn;refine h _ ⟨I.ok,I.os,I.bare,⟨λb o e n hb hx=>?_,λb o e n hb hx=>?_,I.base.free,λb o e hx=>?_,I.base.eJ,I.base.qk,I.base.v9⟩,⟨_,hn',λj y v' e1 e2 e3=>?_⟩,λy c e=>?_,I.free,I.ko,λp hp=>?_,Ò ⟨oL,Ĉ,I.free⟩ hs,by simpa using I.len⟩ ⟨_,hs,.inl rfl⟩
  ·exact (hs.2 b (AI (AB (Ar e) I.ok.above))).trans (I.base.keep b o e n hb hx)
  ·obtain⟨sl,e1⟩:=I.base.slot b o e n hb hx;exact⟨sl,(hs.2 b (AI (AB (Ar e) I.ok.above))).trans e1⟩
  ·obtain⟨o',e1⟩:=I.base.there b o e hx;exact⟨o',(hs.2 b (AI (AB (Ar e) I.ok.above))).trans e1⟩
  ·by_cases hj:j=i
   ·subst hj;rw [hi] at e1;cases e1;rw [Bu aaV] at e2;cases e2;exact⟨u,r,.inl ⟨hk,by simp⟩⟩
   ·rw [Bf (BG hj)] at e2;obtain⟨u',r',q⟩:=hl j y v' e1 e2 e3;refine⟨u',r',?_⟩;rcases q with⟨k,e⟩ | ⟨k,c,e,z⟩
    ·refine .inl ⟨k,?_⟩;have:y≠x:=λe=>hj (zC hN e1 (e▸hi));simp [this,e]
    ·exact .inr ⟨k,c,e,z.sameBut hs (XZ y c e)⟩
  ·obtain⟨w',z⟩:=I.cell y c e;exact⟨w',z.sameBut hs (XZ y c e)⟩
  ·obtain⟨e,n,ne,nf,d⟩:=I.pin p hp;exact⟨(hs.2 p.1 ne).trans e,n,ne,nf,d⟩
 ·have ï:X.fn x=true:=by
   rcases hf with z | z
   ·exact z
   ·rw [z] at hk;cases hk
  obtain⟨c,hc⟩:=I.ok.has x (.inl hk);obtain⟨w',z⟩:=I.cell x c hc;refine wpAny_storeName_cell I.ok.kind hk hc z (λh' QB hs=>?_);obtain⟨oc,hoc,aeP⟩:=id z;refine h {s with heap:=h'} ⟨I.ok,I.os,I.bare,⟨λb o e n hb hx=>?_,λb o e n hb hx=>?_,I.base.free,λb o e hx=>?_,I.base.eJ,I.base.qk,I.base.v9⟩,⟨m,hn.sameBut hs (BG (XZ x c hc)),λj y v' e1 e2 e3=>?_⟩,λy c' e=>?_,I.free,I.ko,λp hp=>?_,Ò ⟨oc,hoc,I.ko x c hc⟩ hs,by simpa using I.len⟩ ⟨c,hs,.inr hc⟩
  ·exact (hs.2 b (AI (AB (Ar e) (I.ok.cab x c ï hc)))).trans (I.base.keep b o e n hb hx)
  ·obtain⟨sl,e1⟩:=I.base.slot b o e n hb hx;exact⟨sl,(hs.2 b (AI (AB (Ar e) (I.ok.cab x c ï hc)))).trans e1⟩
  ·obtain⟨o',e1⟩:=I.base.there b o e hx;exact⟨o',(hs.2 b (AI (AB (Ar e) (I.ok.cab x c ï hc)))).trans e1⟩
  ·by_cases hj:j=i
   ·subst hj;rw [hi] at e1;cases e1;rw [Bu aaV] at e2;cases e2;exact⟨u,r,.inr ⟨.inl hk,c,hc,QB⟩⟩
   ·rw [Bf (BG hj)] at e2;obtain⟨u',r',q⟩:=hl j y v' e1 e2 e3;refine⟨u',r',?_⟩;rcases q with q | ⟨k,c',e,z'⟩
    ·exact .inl q
    ·refine .inr ⟨k,c',e,z'.sameBut hs ?_⟩;rintro rfl;exact hj (zC hN e1 (I.ok.inj _ _ _ e hc▸hi))
  ·by_cases hcc:c'=c
   ·subst hcc;exact⟨_,QB⟩
   ·obtain⟨w2,z2⟩:=I.cell y c' e;exact⟨w2,z2.sameBut hs hcc⟩
  ·obtain⟨e,n,ne,nf,d⟩:=I.pin p hp;refine⟨(hs.2 p.1 ?_).trans e,n,ne,nf,d⟩;intro q;rw [q,hoc] at e;have q':oc=p.2:=Option.some.inj e;exact d w' (by rw [<- q'];exact aeP)
def yZ {x:Str} (I:Inv X Z σ H s) (hN:X.N.Nodup) (hi:X.N[i]?=ap x) (hx:Loc X.env.scope x) (r:RelV v u)
  (h:∀s',Inv X Z (σ.set i (ap v)) H s'->Q () s') (hf:MM X x:=by first | exact .inl rfl | exact .inr rfl | assumption):db M A (storeName X.env x u) Q E s:=
 va I hN hi hx r (λs' I' _=>h s' I') hf
def Inv.abK (I:Inv X Z σ H s) (ho:s'.os=s.os) (u:Un (MJ X.stack) ch H H' s.heap s'.heap) (bH:lX X.prog X.w H' s'.heap) (hg:Gc s'.gens)
  (QA:∀b∈ch,(b∈X.ex\/X.s₀.heap.objs.size<=b)/\b≠X.env.locals/\(∀x c,X.env.cells.lookup x=ap c->c≠b)/\∀p∈X.pn++Z,p.1≠b):Inv X Z σ H' s':=by
 obtain⟨h',g',d',t',o'⟩:=s';have e:o'=s.os:=ho;subst e;exact I.call (g':=g') (t':=t') (d':=d') u bH hg QA
end
abbrev XK:=ce->Option ci->Hp->Prop
abbrev St:=List (Option V)
abbrev VK:=V->Hp->Prop
abbrev TE:=St->Hp->VK->Prop
abbrev TT:=St->Hp->(Bool->Hp->Prop)->Prop
abbrev TA:=St->Hp->(List V->Hp->Prop)->Prop
structure Ends where
 nx:St->Hp->Prop
 rt:VK
 bk:St->Hp->Prop:=λ_ _=>False
 ct:St->Hp->Prop:=λ_ _=>False
abbrev TS:=Ends->St->Hp->Prop
def EP (X:Cx) (Z:List (ci×Obj)) (σ:St) (Q:VK) (u:ce) (s':cr):Prop:=∃v H',Inv X Z σ H' s'/\RelV v u/\Q v H'
def TP (X:Cx) (Z:List (ci×Obj)) (σ:St) (Q:Bool->Hp->Prop) (b:Bool) (s':cr):Prop:=∃H',Inv X Z σ H' s'/\Q b H'
def AP (X:Cx) (Z:List (ci×Obj)) (σ:St) (Q:List V->Hp->Prop) (us:List ce) (s':cr):Prop:=∃vs H',Inv X Z σ H' s'/\Vals vs us/\Q vs H'
def SP (X:Cx) (Z:List (ci×Obj)) (D:Ends) (f:Flow) (s':cr):Prop:=
 match f with
 | .next=>∃σ' H',Inv X Z σ' H' s'/\D.nx σ' H'
 | .brk=>∃σ' H',Inv X Z σ' H' s'/\D.bk σ' H'
 | .cont=>∃σ' H',Inv X Z σ' H' s'/\D.ct σ' H'
 | .ret u=>∃v σ' H',Inv X Z σ' H' s'/\RelV v u/\D.rt v H'
def PE (X:Cx) (e:gt) (t:TE):Prop:=
 ∀(Z:List (ci×Obj)) (s:cr) (σ:St) (H:Hp) (Q:VK),Inv X Z σ H s->t σ H Q->db (dL X.prog X.w) X.A (kw e X.env) (EP X Z σ Q) X.xe s
def PT (X:Cx) (e:gt) (t:TT):Prop:=
 ∀(Z:List (ci×Obj)) (s:cr) (σ:St) (H:Hp) (Q:Bool->Hp->Prop),Inv X Z σ H s->t σ H Q->db (dL X.prog X.w) X.A (isTrue e X.env (kw e X.env)) (TP X Z σ Q) X.xe s
def PW (X:Cx) (e:gt) (t:TT):Prop:=
 ∀(Æ:Sem ce) (Z:List (ci×Obj)) (s:cr) (σ:St) (H:Hp) (Q:Bool->Hp->Prop),Inv X Z σ H s->t σ H Q->db (dL X.prog X.w) X.A (isTrue e X.env Æ) (TP X Z σ Q) X.xe s
def PW.pt {X:Cx}{e:gt}{t:TT} (h:PW X e t):PT X e t:=h _
def PA (X:Cx) (es:List gt) (t:TA):Prop:=
 ∀(pos:Pos) (Z:List (ci×Obj)) (s:cr) (σ:St) (H:Hp) (Q:List V->Hp->Prop),Inv X Z σ H s->t σ H Q->db (dL X.prog X.w) X.A (spliced (FS pos (ga es X.env))) (AP X Z σ Q) X.xe s
def PS (X:Cx) (st:sK) (t:TS):Prop:=
 ∀(Z:List (ci×Obj)) (s:cr) (σ:St) (H:Hp) (D:Ends),Inv X Z σ H s->t D σ H->db (dL X.prog X.w) X.A (exec st X.env) (SP X Z D) X.xe s
def qY (X:Cx) (st:List sK) (t:TS):Prop:=
 ∀(Z:List (ci×Obj)) (s:cr) (σ:St) (H:Hp) (D:Ends),Inv X Z σ H s->t D σ H->db (dL X.prog X.w) X.A (execs st X.env) (SP X Z D) X.xe s
def bC {t:Sem α}{Q Q':α->cr->Prop} (h:db M A t Q E s) (hQ:∀a s,Q a s->Q' a s):db M A t Q' E s:=BO h hQ λ_ _ x=>x
end L2
variable {x:Cp}{H:L2.Hp}{a:BJ}{Q:Bb->DZ->Prop}{X:L2.Cx}{ta tb:L2.TE}{Z:List (BK×FQ)}{σ:L2.St}{R:L2.V->L2.V->L2.Hp->Prop}{pos:Cu}{op:PySem.CmpOp}
namespace L2
open PySem PySem.Spec PyProof.Rows
section
def bin {b:gt} (ha:PE X a ta) (hb:PE X b tb) (I:Inv X Z σ H s) (h:ta σ H λx H1=>tb σ H1 λy H2=>R x y H2) {Q:α->cr->Prop}{f:ce->ce->Sem α}
  (hf:∀v u s2 x y H2,Inv X Z σ H2 s2->RelV x v->RelV y u->R x y H2->db (dL X.prog X.w) X.A (f v u) Q X.xe s2) :
  db (dL X.prog X.w) X.A (kw a X.env) (λv s₁=>db (dL X.prog X.w) X.A (kw b X.env) (λu s₂=>db (dL X.prog X.w) X.A (f v u) Q X.xe s₂) X.xe s₁) X.xe s:=by
 refine bC (ha Z s σ H _ I h) λv s1 ⟨x,H1,I1,r1,q1⟩=>?_;refine bC (hb Z s1 σ H1 _ I1 q1) λu s2 ⟨y,H2,I2,r2,q2⟩=>?_;exact hf v u s2 x y H2 I2 r1 r2 q2
def Zc (i:Nat):TE:=λσ H Q=>∃v,σ[i]?=ap (ap v)/\Q v H
def tC (v:V):TE:=λ_ H Q=>Q v H
def dr (hN:X.N[i]?=ap x) (hv:yr X.env.scope x) (hd:jg x:=by decide) (iV:yK x:=by decide):PE X (.Name x pos) (Zc i):=by
 intro Z s σ H Q I h;obtain⟨v,e,h⟩:=h;obtain⟨m,hn,hl⟩:=I.loc;obtain⟨u,r,l⟩:=hl i x v hN e hv;have fin:EP X Z σ Q u s:=⟨v,H,I,r,h⟩;rcases l with⟨hk,hm⟩ | ⟨hk,c,hc,UW⟩
 ·exact wpAny_Name (wpAny_loadName_local I.ok.kind hk hn hm fin) hd
 ·rcases hk with hk | hk
  ·exact wpAny_Name (wpAny_loadName_cell I.ok.kind hk hc UW fin) hd
  ·exact wpAny_Name (wpAny_loadName_free I.ok.kind hk hc UW fin iV) hd
def Wj {i j pos}:PE X (.Constant (.int i) j pos) (tC (.int i)):=λ_ _ _ H _ I h=>wpAny_Constant_int ⟨.int i,H,I.tok _,⟨_,rfl⟩,h⟩
def Z0 {b j pos}:PE X (.Constant (.bool b) j pos) (tC (.bl b)):=λ_ _ _ H _ I h=>Constant_bool ⟨.bl b,H,I,rfl,h⟩
def Wi {j pos}:PE X (.Constant .none j pos) (tC .aO):=λ_ _ _ H _ I h=>Constant_none ⟨.aO,H,I,rfl,h⟩
def Wf {x j pos}:PE X (.Constant (.str x) j pos) (tC (.str x)):=λ_ _ _ H _ I h=>Calls.Constant_str ⟨.str x,H,I.tok _,⟨_,rfl⟩,h⟩
def Gl (X:Cx) (x:Str):Prop:=X.env.kindOf x=ap .globalImplicit
def xf (I:Inv X Z σ H s) (hg:Gl X x) (hm:X.mg x=ap u) (h:Q u s)
  (hd:jg x:=by decide):db (dL X.prog X.w) X.A (kw (.Name x pos) X.env) Q E s:=
 D8 I.ok.kind hg (Calls.loadGlobal_global (by rw [I.ok.glob];exact I.mod.glob.keeps I.bk) hm h) hd
def jY (I:Inv X Z σ H s) (hg:Gl X x) (hm:X.mg x=bm) (hv:nn x=ap u) (h:Q u s)
  (hn:x≠"__name__":=by decide) (hd:jg x:=by decide):db (dL X.prog X.w) X.A (kw (.Name x pos) X.env) Q E s:=by
 obtain⟨mb,h1,h2⟩:=I.mod.blt;exact D8 I.ok.kind hg (Calls.loadGlobal_builtin (by rw [I.ok.glob];exact I.mod.glob.keeps I.bk) hm (by rw [I.ok.blt];exact h1.keeps I.bk) ((h2 x hn).trans hv) h) hd
def wM (hg:Gl X x) (hm:X.mg x=ap u) (r:RelV v u) (hd:jg x:=by decide):PE X (.Name x pos) (tC v):=
 λ_ _ _ H _ I h=>xf I hg hm ⟨v,H,I,r,h⟩ hd
def RP (hg:Gl X x) (hm:X.mg x=bm) (hv:nn x=ap u) (r:RelV v u) (hn:x≠"__name__":=by decide) (hd:jg x:=by decide):PE X (.Name x pos) (tC v):=
 λ_ _ _ H _ I h=>jY I hg hm hv ⟨v,H,I,r,h⟩ hn hd
variable {b:gt}
def PC (X:Cx) (op:CmpOp) (a b:gt) (t:TE):Prop:=
 ∀(Z:List (ci×Obj)) (s:cr) (σ:St) (H:Hp) (Q:VK),Inv X Z σ H s->t σ H Q->
  db (dL X.prog X.w) X.A (kw a X.env) (λv s₁=>db (dL X.prog X.w) X.A (kw b X.env) (λu s₂=>db (dL X.prog X.w) X.A (im op v u) (EP X Z σ Q) X.xe s₂) X.xe s₁) X.xe s
def tB (t:TE):TT:=λσ H Q=>t σ H λx H1=>∃c,x=.bl c/\Q c H1
def V8 {t:TE} (h:PC X op a b t) (h1:lc op b=false:=by first | exact aaf _ ⋯ ⋯ | rfl):PT X (.Compare a [op] [b] pos) (tB t):=by
 intro Z s σ H Q I hw;refine wpAny_isTrue_Compare1 (bC (h Z s σ H _ I hw) λv s1 h1=>bC h1 λu s2 h2=>bC h2 λc s3 ⟨x,H1,I1,r1,q1⟩=>?_) h1;obtain⟨d,rfl,q⟩:=q1;cases r1;exact Bt ⟨H1,I1,q⟩
variable {tA û:TT}{rest:List gt}
def adF (t u:TT):TT:=λσ H Q=>t σ H λc H1=>if c=true then u σ H1 Q else Q false H1
def tOr (t u:TT):TT:=λσ H Q=>t σ H λc H1=>if c=true then Q true H1 else u σ H1 Q
def adA (t:TT):TT:=λσ H Q=>t σ H λc H1=>Q (!c) H1
def Ry (ha:PT X a tA):PW X (.BoolOp .And [a] pos) tA:=by
 intro wh Z s σ H Q I h;refine isTrue_and (bC (ha Z s σ H Q I h) λc s1 e=>?_);cases c with
 | true=>exact isTrue_and_nil e
 | false=>exact e
def V4 (ha:PT X a tA):PW X (.BoolOp .Or [a] pos) tA:=by
 intro wh Z s σ H Q I h;refine isTrue_or (bC (ha Z s σ H Q I h) λc s1 e=>?_);cases c with
 | false=>exact isTrue_or_nil e
 | true=>exact e
def V5 (ha:PT X a tA) (hb:PW X (.BoolOp .And (b::rest) pos) û):PW X (.BoolOp .And (a::b::rest) pos) (adF tA û):=by
 intro wh Z s σ H Q I h;refine isTrue_and (bC (ha Z s σ H _ I h) λc s1 ⟨H1,I1,q1⟩=>?_);cases c with
 | true=>exact hb wh Z s1 σ H1 Q I1 q1
 | false=>exact⟨H1,I1,q1⟩
def ZT (ha:PT X a tA) (hb:PW X (.BoolOp .Or (b::rest) pos) û):PW X (.BoolOp .Or (a::b::rest) pos) (tOr tA û):=by
 intro wh Z s σ H Q I h;refine isTrue_or (bC (ha Z s σ H _ I h) λc s1 ⟨H1,I1,q1⟩=>?_);cases c with
 | true=>exact⟨H1,I1,q1⟩
 | false=>exact hb wh Z s1 σ H1 Q I1 q1
def V7 (ha:PT X a tA):PT X (.UnaryOp .Not a pos) (adA tA):=by
 intro Z s σ H Q I h;exact isTrue_not (ha Z s σ H (λc H1=>Q (!c) H1) I h)
def Zr (ta tb:TE):TE:=λσ H Q=>ta σ H λx H1=>∃c,x=.bl c/\if c=true then tb σ H1 Q else Q (.bl false) H1
def adz (ta tb:TE):TE:=λσ H Q=>ta σ H λx H1=>∃c,x=.bl c/\if c=true then Q (.bl true) H1 else tb σ H1 Q
def Zg (ta:TE):TE:=λσ H Q=>ta σ H λx H1=>∃c,x=.bl c/\Q (.bl (!c)) H1
def Wg {op}{t:TE} (h:PE X a t):PE X (.BoolOp op [a] pos) t:=λZ s σ H Q I hw=>BoolOp_one (h Z s σ H Q I hw)
def Wl (ha:PE X a ta) (hb:PE X (.BoolOp .And (b::rest) pos) tb):PE X (.BoolOp .And (a::b::rest) pos) (Zr ta tb):=by
 intro Z s σ H Q I h;refine BoolOp_and (bC (ha Z s σ H _ I h) λv s1 ⟨x,H1,I1,r1,q1⟩=>?_);obtain⟨c,rfl,q1⟩:=q1;cases r1;refine Bt ?_;cases c with
 | true=>exact hb Z s1 σ H1 Q I1 q1
 | false=>exact⟨.bl false,H1,I1,rfl,q1⟩
def ZX (ha:PE X a ta) (hb:PE X (.BoolOp .Or (b::rest) pos) tb):PE X (.BoolOp .Or (a::b::rest) pos) (adz ta tb):=by
 intro Z s σ H Q I h;refine BoolOp_or (bC (ha Z s σ H _ I h) λv s1 ⟨x,H1,I1,r1,q1⟩=>?_);obtain⟨c,rfl,q1⟩:=q1;cases r1;refine Bt ?_;cases c with
 | false=>exact hb Z s1 σ H1 Q I1 q1
 | true=>exact⟨.bl true,H1,I1,rfl,q1⟩
def Wh (ha:PE X a ta):PE X (.UnaryOp .Not a pos) (Zg ta):=by
 intro Z s σ H Q I h;refine UnaryOp_ (bC (ha Z s σ H _ I h) λv s1 ⟨x,H1,I1,r1,q1⟩=>?_);obtain⟨c,rfl,q1⟩:=q1;cases r1;exact not_of (Bt ⟨.bl (!c),H1,I1,rfl,q1⟩)
def tIf (t:TT) (ta tb:TE):TE:=λσ H Q=>t σ H λc H1=>if c=true then ta σ H1 Q else tb σ H1 Q
def zp {c:gt} (hc:PT X c tA) (ha:PE X a ta) (hb:PE X b tb):PE X (.IfExp c a b pos) (tIf tA ta tb):=by
 intro Z s σ H Q I h;refine wpAny_IfExp (bC (hc Z s σ H _ I h) λd s1 ⟨H1,I1,q1⟩=>?_);cases d with
 | true=>exact ha Z s1 σ H1 Q I1 q1
 | false=>exact hb Z s1 σ H1 Q I1 q1
end
end L2
variable {xs ys:List L2.V}{H':L2.Hp}{e tg:BJ}{y:L2.V}{D:L2.Ends}{te to:L2.TE}{es:List BJ}{n:Nat}{Ö gq:Cu}{body:List PySem.Stmt}
namespace L2
open PySem PySem.Spec PyProof.Rows
def di (K:Ab) (H:Hp) (a:ci) (xs:List V):Prop:=
 Rd H a (.lst xs)\/
  ∃(o:Obj) (aw:Array ce) (n:Nat),K.lookup a=ap o/\o.cls=.type "list"/\o.dict=bm/\o.data=.seq aw n/\aw.size<=sizeLine/\Vals xs aw.toList
def dU (K:Ab) (H:Hp) (a:ci) (xs:List V):Prop:=
 Rd H a (.tup xs)\/
  ∃(o:Obj) (aw:Array ce) (n:Nat),K.lookup a=ap o/\o.cls=.type "tuple"/\o.data=.seq aw n/\aw.size<=sizeLine/\Vals xs aw.toList
def afB:ce->Option V
 | .none=>ap .aO
 | .bool b=>ap (.bl b)
 | .int i _=>ap (.int i)
 | .str x _=>ap (.str x)
 | .bytes b _=>ap (.X2 b)
 | .float b _=>ap (.YD b)
 | .ref a=>ap (.ref a)
 | .type n=>ap (.ty n)
 | _=>bm
def RelV.abs {x:V} (r:RelV x u):afB u=ap x:=by
 cases x with
 | aO=>cases r;rfl
 | bl _=>cases r;rfl
 | int _=>obtain⟨t,rfl⟩:=r;rfl
 | str _=>obtain⟨t,rfl⟩:=r;rfl
 | X2 _=>obtain⟨t,rfl⟩:=r;rfl
 | YD _=>obtain⟨t,rfl⟩:=r;rfl
 | ref _=>cases r;rfl
 | ty _=>cases r;rfl
def RelV.inj {x:V} (r:RelV x u) (q:RelV y u):x=y:=Option.some.inj (r.abs.symm.trans q.abs)
theorem Vals.inj:∀{xs ys:List V}{us:List ce},Vals xs us->Vals ys us->xs=ys
 | _,_,_,.nil,.nil=>rfl
 | _,_,_,.cons r t,.cons r' t'=>by rw [r.inj r',Vals.inj t t']
section
variable {a:ci}
def di.of {K:Ab} (h:H a=ap (.lst xs)):di K H a xs:=.inl (.inl h)
def dU.of {K:Ab} (h:H a=ap (.tup xs)):dU K H a xs:=.inl (.inl h)
theorem Inv.list (I:Inv X Z σ H s) (h:di X.K H a xs):∃aw:List ce,Vals xs aw/\PlainL s.heap a aw.toArray/\xs.length<=sizeLine:=by
 rcases h with h | ⟨o,aw,n,hk,hc,hd,hs,hz,r⟩
 ·obtain⟨z,aw,n,r,e⟩:=h.ok I.bH;exact⟨aw,r,⟨_,n,e,rfl,rfl,rfl⟩,z⟩
 ·refine⟨aw.toList,r,⟨o,n,I.tZ a o hk,hc,hd,by simpa using hs⟩,?_⟩;have e:=r.length;simp only [DV] at e;omega
theorem Inv.tuple (I:Inv X Z σ H s) (h:dU X.K H a xs):∃aw:List ce,Vals xs aw/\IsTup s.heap a aw.toArray/\xs.length<=sizeLine:=by
 rcases h with h | ⟨o,aw,n,hk,hc,hs,hz,r⟩
 ·obtain⟨z,aw,r,p⟩:=h.ok I.bH;exact⟨aw,r,p,z⟩
 ·refine⟨aw.toList,r,⟨o,I.tZ a o hk,hc,n,by simpa using hs⟩,?_⟩;have e:=r.length;simp only [DV] at e;omega
def Inv.zI (I:Inv X Z σ H s) (h:di X.K H a xs) (h':di X.K H a ys):xs=ys:=by
 obtain⟨aw,r,⟨o,n,e,_,_,d⟩,_⟩:=I.list h;obtain⟨its',r',⟨o',n',e',_,_,d'⟩,_⟩:=I.list h';rw [e] at e';cases e';rw [d] at d';injection d' with d1 _;have:aw=its':=by simpa using congrArg Array.toList d1
 subst this;exact r.inj r'
def Inv.lJ (I:Inv X Z σ H s) (h:dU X.K H a xs) (h':dU X.K H a ys):xs=ys:=by
 obtain⟨aw,r,⟨o,e,_,n,d⟩,_⟩:=I.tuple h;obtain⟨its',r',⟨o',e',_,n',d'⟩,_⟩:=I.tuple h';rw [e] at e';cases e';rw [d] at d';injection d' with d1 _;have:aw=its':=by simpa using congrArg Array.toList d1
 subst this;exact r.inj r'
end
abbrev Cx.ug (X:Cx) (E:ce->cr->Prop):Cx:={X with xe:=E}
abbrev Cx.wW (X:Cx):Cx:=X.ug λ_ _=>False
def Cx.Ok.ug (ok:X.Ok) (E:ce->cr->Prop):(X.ug E).Ok:=
 ⟨ok.mod,ok.kind,ok.glob,ok.blt,ok.above,ok.inj,ok.has,ok.cab,ok.hd,ok.frames,ok.stk,ok.exf,ok.bs,ok.Vd,ok.N7,ok.Pe,ok.sW,ok.YA⟩
def Cx.Ok.kK (ok:(X.ug E).Ok):X.Ok:=
 ⟨ok.mod,ok.kind,ok.glob,ok.blt,ok.above,ok.inj,ok.has,ok.cab,ok.hd,ok.frames,ok.stk,ok.exf,ok.bs,ok.Vd,ok.N7,ok.Pe,ok.sW,ok.YA⟩
section
def Inv.ug (I:Inv X Z σ H s) (E:ce->cr->Prop):Inv (X.ug E) Z σ H s:=⟨I.ok.ug E,I.os,I.bare,I.base,I.loc,I.cell,I.free,I.ko,I.pin,I.bH,I.len⟩
def Inv.kK (I:Inv (X.ug E) Z σ H s):Inv X Z σ H s:=⟨I.ok.kK,I.os,I.bare,I.base,I.loc,I.cell,I.free,I.ko,I.pin,I.bH,I.len⟩
def SP.kK {f:Flow} (h:SP (X.ug E) Z D f s'):SP X Z D f s':=by
 cases f with
 | next=>obtain⟨σ',H',I,q⟩:=h;exact⟨σ',H',I.kK,q⟩
 | brk=>obtain⟨σ',H',I,q⟩:=h;exact⟨σ',H',I.kK,q⟩
 | cont=>obtain⟨σ',H',I,q⟩:=h;exact⟨σ',H',I.kK,q⟩
 | ret u=>obtain⟨v,σ',H',I,r,q⟩:=h;exact⟨v,σ',H',I.kK,r,q⟩
def qY.wW {st:List sK}{t:TS} (h:qY X.wW st t):qY X st t:=λZ s σ H D I hw=>
 BO (h Z s σ H D (I.ug _) hw) (λ_ _ q=>q.kK) λ_ _ z=>Bs z
end
section
variable {st:sK}{rest:List sK}{t u:TS}
def Zi:TS:=λD σ H=>D.nx σ H
def adx (t u:TS):TS:=λD σ H=>t {D with nx:=u D} σ H
def wH:qY X [] Zi:=λ_ _ σ H _ I h=>DP ⟨σ,H,I,h⟩
def zg (h1:PS X st t) (h2:qY X rest u):qY X (st::rest) (adx t u):=by
 intro Z s σ H D I h;refine wpAny_execs_cons (bC (h1 Z s σ H {D with nx:=u D} I h) λf s1 q=>?_);cases f with
 | next=>
  obtain⟨σ',H',I',q⟩:=q;exact h2 Z s1 σ' H' D I' q
 | ret v=>exact q
 | brk=>exact q
 | cont=>exact q
def Rz (h1:PS X st t):qY X [st] t:=by
 intro Z s σ H D I h;refine wpAny_execs_cons (bC (h1 Z s σ H D I h) λf s1 q=>?_);cases f with
 | next=>exact DP q
 | ret v=>exact q
 | brk=>exact q
 | cont=>exact q
def Zn:TS:=λD σ H=>D.ct σ H
def zj:PS X (.Continue pos) Zn:=λ_ _ σ H _ I h=>wpAny_Continue ⟨σ,H,I,h⟩
def Inv.quiet (I:Inv X Z σ H s):interactive X.env=false:=by simp [interactive,I.ok.kind]
def Zk (te:TE):TS:=λD σ H=>te σ H λ_ H1=>D.nx σ H1
def nv (he:PE X e te) (hs:kt e bm pos.line X.env=pure false:=by rfl):PS X (.Expr e pos) (Zk te):=by
 intro Z s σ H D I h;exact wpAny_Expr_any (bC (he Z s σ H _ I h) λv s1 ⟨x,H1,I1,r1,q1⟩=>⟨σ,H1,I1,q1⟩) I.quiet hs
def ady (te:TE):TS:=λD σ H=>te σ H D.rt
def wI (he:PE X e te):PS X (.Return (ap e) pos) (ady te):=by
 intro Z s σ H D I h;exact wpAny_Return_some (bC (he Z s σ H _ I h) λv s1 ⟨x,H1,I1,r1,q1⟩=>⟨x,σ,H1,I1,r1,q1⟩)
def adC (c:TT) (t u:TS):TS:=λD σ H=>c σ H λb H1=>if b=true then t D σ H1 else u D σ H1
def NG {c:gt}{a b:List sK}{tc:TT} (hc:PT X c tc) (ha:qY X a t) (hb:qY X b u):PS X (.If c a b pos) (adC tc t u):=by
 intro Z s σ H D I h;refine wpAny_If (bC (hc Z s σ H _ I h) λd s1 ⟨H1,I1,q1⟩=>?_);cases d with
 | true=>exact ha Z s1 σ H1 D I1 q1
 | false=>exact hb Z s1 σ H1 D I1 q1
def Vw:TS:=λ_ _ _=>False
end
abbrev TG:=V->St->Hp->(St->Hp->Prop)->Prop
abbrev Yd:=List V->St->Hp->(St->Hp->Prop)->Prop
def PG (X:Cx) (Ë:gt) (t:TG):Prop:=
 ∀(Z:List (ci×Obj)) (s:cr) (σ:St) (H:Hp) (v:V) (u:ce) (Q:St->Hp->Prop),Inv X Z σ H s->RelV v u->t v σ H Q->
  db (dL X.prog X.w) X.A (ww Ë X.env u) (λ_ s'=>∃σ' H',Inv X Z σ' H' s'/\Q σ' H') X.xe s
def PGs (X:Cx) (ts:List gt) (t:Yd):Prop:=
 ∀(Z:List (ci×Obj)) (s:cr) (σ:St) (H:Hp) (vs:List V) (us:List ce) (Q:St->Hp->Prop),Inv X Z σ H s->Vals vs us->t vs σ H Q->
  db (dL X.prog X.w) X.A (assignInOrder ((wf ts X.env).map (·.2)) us) (λ_ s'=>∃σ' H',Inv X Z σ' H' s'/\Q σ' H') X.xe s
abbrev Jd:=V->V->V->Hp->(Hp->Prop)->Prop
def Je (X:Cx) (t:Jd):Prop:=
 ∀(Z:List (ci×Obj)) (s:cr) (σ:St) (H:Hp) (o i v:V) (ov iv u:ce) (Q:Hp->Prop),Inv X Z σ H s->RelV o ov->RelV i iv->RelV v u->t o i v H Q->
  db (dL X.prog X.w) X.A (xL ov iv u) (λ_ s'=>∃H',Inv X Z σ H' s'/\Q H') X.xe s
abbrev TIp:=V->V->Hp->VK->Prop
def PIp (X:Cx) (op:Operator) (t:TIp):Prop:=
 ∀(Z:List (ci×Obj)) (s:cr) (σ:St) (H:Hp) (x y:V) (v u:ce) (Q:VK),Inv X Z σ H s->RelV x v->RelV y u->t x y H Q->
  db (dL X.prog X.w) X.A (inplaceOp op v u) (EP X Z σ Q) X.xe s
section
def dM (i:Nat):TG:=λv σ H Q=>Q (σ.set i (ap v)) H
def RH (hN:X.N.Nodup) (hi:X.N[i]?=ap x) (hx:Loc X.env.scope x) (hf:MM X x:=by first | exact .inl rfl | exact .inr rfl | assumption):PG X (.Name x pos) (dM i):=by
 intro Z s σ H v u Q I r h;exact wpAny_assign_Name (yZ I hN hi hx r (λs' I'=>⟨_,H,I',h⟩) hf)
def S3:Yd:=λvs σ H Q=>vs=[]/\Q σ H
def mr (t:TG) (u:Yd):Yd:=λvs σ H Q=>∃v r,vs=v::r/\t v σ H λσ' H'=>u r σ' H' Q
def dB:PGs X [] S3:=by
 intro Z s σ H vs us Q I r h;obtain⟨e,h⟩:=h;subst e;cases r;exact assignInOrder_nil ⟨σ,H,I,h⟩
def aN {t:TG}{u:Yd} (h1:PG X e t) (h2:PGs X es u)
  (hs:(wf (e::es) X.env).map (·.2)=ww e X.env::(wf es X.env).map (·.2):=by rfl):PGs X (e::es) (mr t u):=by
 intro Z s σ H vs us Q I r h;obtain⟨v,vr,e1,h⟩:=h;subst e1;cases r with
 | cons r rr=>
  rw [hs];refine assignInOrder_cons (bC (h1 Z s σ H _ _ _ I r h) λ_ s1 ⟨σ1,H1,I1,q1⟩=>?_);exact h2 Z s1 σ1 H1 _ _ Q I1 rr q1
def S2 (K:Ab) (n:Nat) (t:Yd):TG:=λv σ H Q=>∃a xs,v=.ref a/\dU K H a xs/\xs.length=n/\t xs σ H Q
def fv {k:Nat}{t:Yd} (hc:X.calm=true) (h:PGs X es t)
  (hn:(wf es X.env).length=n:=by rfl) (xr:(wf es X.env).findIdx? (·.1)=bm:=by rfl):PG X (.Tuple es k pos) (S2 X.K n t):=by
 intro Z s σ H v u Q I r hw;obtain⟨a,xs,e1,hq,hl,hw⟩:=hw;subst e1;cases r;obtain⟨aw,rv,ht,hz⟩:=I.tuple hq;refine assign_Tuple_tuple (I.ok.hd hc) ht (by simp [hn,<- hl,rv.length]) xr λh' hx=>?_;have I1:Inv X Z σ H {s with heap:=h'}:=I.kept (t':=s.toks) λb o e=>hx b o (AI (Ar e)) e;exact h Z _ σ H xs _ Q I1 (by simpa using rv) hw
def aff (to ti:TE) (t:Jd):TG:=λv σ H Q=>to σ H λo H1=>ti σ H1 λi H2=>t o i v H2 λH3=>Q σ H3
def NN {o i:gt}{ti:TE}{t:Jd} (ho:PE X o to) (hi:PE X i ti) (hs:Je X t)
  (ha:∀v,ww (.Subscript o i pos) X.env v=(do
   let ov <- re [v] (kw o X.env)
   let iv <- re [v,ov] (kw i X.env)
   FB pos
   re [v,ov,iv] (xL ov iv v)
   release [v,ov,iv] []):=by intro _;rfl):PG X (.Subscript o i pos) (aff to ti t):=by
 intro Z s σ H v u Q I r h;refine Aa (Bc (bC (ho Z s σ H _ I h) λov s1 ⟨x,H1,I1,r1,q1⟩=>?_));refine Aa (Bc (bC (hi Z s1 σ H1 _ I1 q1) λiv s2 ⟨y,H2,I2,r2,q2⟩=>?_));refine Aa (Et (Aa (Bc (bC (hs Z s2 σ H2 x y v ov iv u _ I2 r1 r2 r q2) λ_ s3 ⟨H3,I3,q3⟩=>?_))));exact wpAny_release ⟨σ,H3,I3,q3⟩
def VA (te:TE) (g:TG):TS:=λD σ H=>te σ H λx H1=>g x σ H1 D.nx
def wJ {g:TG} (he:PE X e te) (hg:PG X tg g) (hs:EQ [tg] e pos.line X.env=pure false:=by rfl) (hw:Fa [tg] e X.env=pure bm:=by rfl)
  (h1:(wf [tg] X.env).map (·.2)=[ww tg X.env]:=by rfl):PS X (.Assign [tg] e pos) (VA te g):=by
 intro Z s σ H D I h;refine wpAny_Assign_stores (bC (he Z s σ H _ I h) λv s1 ⟨x,H1,I1,r1,q1⟩=>?_) hs hw;rw [h1];exact bC (hg Z s1 σ H1 x v _ I1 r1 q1) λ_ s2 q=>q
def rR (hN:X.N.Nodup) (hi:X.N[i]?=ap x) (hx:Loc X.env.scope x) (he:PE X e te) (hs:kt e (ap (.Name x Ö)) pos.line X.env=pure false:=by rfl) (hf:MM X x:=by first | exact .inl rfl | exact .inr rfl | assumption) :
  PS X (.Assign [.Name x Ö] e pos) (VA te (dM i)):=by
 intro Z s σ H D I h;refine wpAny_Assign_Name (bC (he Z s σ H _ I h) λv s1 ⟨y,H1,I1,r1,q1⟩=>?_) hs;exact yZ I1 hN hi hx r1 (λs2 I2=>⟨_,H1,I2,q1⟩) hf
def Zq (to ti te:TE) (Q0:V->V->Hp->VK->Prop) (ú:TIp) (QZ:Jd):TS:=λD σ H=>to σ H λo H1=>ti σ H1 λi H2=>Q0 o i H2 λx H3=>te σ H3 λy H4=>ú x y H4 λz H5=>QZ o i z H5 λH6=>D.nx σ H6
def abR (X:Cx) (t:V->V->Hp->VK->Prop):Prop:=
 ∀(Z:List (ci×Obj)) (s:cr) (σ:St) (H:Hp) (o i:V) (ov iv:ce) (Q:VK),Inv X Z σ H s->RelV o ov->RelV i iv->t o i H Q->
  db (dL X.prog X.w) X.A (zn ov iv) (EP X Z σ Q) X.xe s
def RB {o i:gt}{ti:TE}{Q0:V->V->Hp->VK->Prop}{ú:TIp}{QZ:Jd}{op:Operator} (ho:PE X o to) (hi:PE X i ti) (hg:abR X Q0) (he:PE X e te) (hp:PIp X op ú) (hs:Je X QZ)
  (ha:∀ov iv new,augStore i ov iv new=(do re [new,ov,iv] (xL ov iv new);release [new,ov,iv] [];pure .next):=by intros;rfl):PS X (.AugAssign (.Subscript o i gq) op e pos) (Zq to ti te Q0 ú QZ):=by
 intro Z s σ H D I h;refine wpAny_AugAssign_SubscriptAny (bC (ho Z s σ H _ I h) λov s1 ⟨x1,H1,I1,r1,q1⟩=>?_) ha;refine bC (hi Z s1 σ H1 _ I1 q1) λiv s2 ⟨x2,H2,I2,r2,q2⟩=>?_;refine bC (hg Z s2 σ H2 x1 x2 ov iv _ I2 r1 r2 q2) λÎ s3 ⟨x3,H3,I3,r3,q3⟩=>?_;refine bC (he Z s3 σ H3 _ I3 q3) λv s4 ⟨x4,H4,I4,r4,q4⟩=>?_;refine bC (hp Z s4 σ H4 x3 x4 Î v _ I4 r3 r4 q4) λnew s5 ⟨x5,H5,I5,r5,q5⟩=>?_;exact bC (hs Z s5 σ H5 x1 x2 x5 ov iv new _ I5 r1 r2 r5 q5) λ_ s6 ⟨H6,I6,q6⟩=>⟨σ,H6,I6,q6⟩
def ipI (f:Int->Int->Int):TIp:=λx y H Q=>∃i j,x=.int i/\y=.int j/\Q (.int (f i j)) H
def Xg:PIp X .Add (ipI λi j=>i+j):=by
 intro Z s σ H x y v u Q I r1 r2 h;obtain⟨i,j,e1,e2,q⟩:=h;subst e1;subst e2;obtain⟨t,rfl⟩:=r1;obtain⟨t',rfl⟩:=r2;exact iadd_int ⟨.int _,H,I.tok _,⟨_,rfl⟩,q⟩
end
section
def Vv (c:TT) (tb:TS):TS:=λD σ H=>∃W:Nat->St->Hp->Prop,(∃m,W m σ H)/\∀m σ H,W m σ H->
 c σ H λb H1=>if b=true then ∃N:St->Hp->Prop,(∀σ' H',N σ' H'->∃m',m' < m/\W m' σ' H')/\tb {D with nx:=N,ct:=N,bk:=D.nx} σ H1 else D.nx σ H1
def zh {c:gt}{tc:TT}{tb:TS} (hp:xz (dL X.prog X.w) X.A X.env X.xe) (hc:PT X c tc) (hb:qY X body tb):PS X (.While c body [] pos) (Vv tc tb):=by
 intro Z s σ H D I h;obtain⟨W,⟨m0,w0⟩,turn⟩:=h;refine wpAny_While (codeAny_whileLoop (λn s'=>∃σ' H',Inv X Z σ' H' s'/\W n σ' H') ?_ m0 ⟨σ,H,I,w0⟩);rintro n s1 ⟨σ1,H1,I1,w1⟩;refine Cq hp (bC (hc Z s1 σ1 H1 _ I1 (turn n σ1 H1 w1)) λb s2 ⟨H2,I2,q2⟩=>?_);cases b with
 | true=>
  obtain⟨N,hN,q2⟩:=q2;refine Cq hp (bC (hb Z s2 σ1 H2 _ I2 q2) λf s3 q3=>?_);cases f with
  | next=>
   obtain⟨σ3,H3,I3,n3⟩:=q3;obtain⟨m',hm,w3⟩:=hN σ3 H3 n3;exact⟨m',hm,σ3,H3,I3,w3⟩
  | cont=>
   obtain⟨σ3,H3,I3,n3⟩:=q3;obtain⟨m',hm,w3⟩:=hN σ3 H3 n3;exact⟨m',hm,σ3,H3,I3,w3⟩
  | brk=>exact q3
  | ret v=>exact q3
 | false=>
  exact DP ⟨σ1,H2,I2,q2⟩
end
structure It where
 go:Nat->Hp->Prop
 Ud:Nat->Hp->V->Hp->Prop
 stop:Nat->Hp->Prop
def uV (X:Cx) (Z:List (ci×Obj)) (H:Hp) (b:ci):Prop:=
 H b=bm/\b≠X.env.locals/\b∉X.fs/\(b∈X.ex\/X.s₀.heap.objs.size<=b)/\(∀x c,X.env.cells.lookup x=ap c->c≠b)/\∀p∈X.pn++Z,p.1≠b
def Inv.xG (I:Inv X Z σ H s) (hb:s.heap.objs.size<=b) (hn:H' b=bm):uV X Z H' b:=by
 refine⟨hn,Nat.ne_of_gt (AB I.lt hb),I.ad1 hb,.inr (A7 I.sz hb),λx c e z=>?_,λp hp z=>?_⟩
 ·obtain⟨v,q⟩:=I.cell x c e;exact absurd (AB q.lt (by rw [z];exact hb)) (Bd _)
 ·exact absurd (AB (Ar (I.pin p hp).1) (by rw [z];exact hb)) (Bd _)
structure Turn (P:sw) (w:t0) (K:Ab) (tg:gt) (J:It) (fp:List ci) (it:ci) (tn:Nat->mo->Prop):Prop where
 mem:it∈fp
 obj:∀i h,tn i h->∀b∈fp,∃o,h.get? b=ap o/\∀v,o.data≠.cell v
 keep:∀i h h',tn i h->(∀b∈fp,∀o,h.get? b=ap o->h'.get? b=ap o)->tn i h'
 item:∀(X:Cx),X.prog=P->X.w=w->X.K=K->X.calm=true->∀(i:Nat) (Z:List (ci×Obj)) (s:cr) (σ:St) (H:Hp) (E:ce->cr->Prop),Inv X Z σ H s->(∀b∈fp,uV X Z H b)->tn i s.heap->J.go i H->
  db (dL P w) X.A (pyNext (.ref it)) (λr s1=>∃u,r=ap u/\
   db (dL P w) X.A (Gf tg (.ref it) u) (λ_ s2=>∃x H',Inv X Z σ H' s2/\RelV x u/\J.Ud i H x H'/\tn (i+1) s2.heap/\∀b∈fp,H' b=bm) E s1) E s
 done:∀(X:Cx),X.prog=P->X.w=w->X.K=K->X.calm=true->∀(i:Nat) (Z:List (ci×Obj)) (s:cr) (σ:St) (H:Hp) (E:ce->cr->Prop),Inv X Z σ H s->(∀b∈fp,uV X Z H b)->tn i s.heap->J.stop i H->
  db (dL P w) X.A (pyNext (.ref it)) (λr s1=>r=bm/\Inv X Z σ H s1) E s
 self:∀(A:pr) (i:Nat) (s:cr) (Q:ce->cr->Prop) (E:ce->cr->Prop),tn i s.heap->Q (.ref it) s->db (dL P w) A (pyIter (.ref it)) Q E s
abbrev TI:=St->Hp->(It->Hp->Prop)->Prop
def PIE (X:Cx) (Z:List (ci×Obj)) (σ:St) (tg:gt) (R:It->Hp->Prop) (Ă:ce) (s2:cr):Prop:=
 ∃(it:ci) (fp:List ci) (tn:Nat->mo->Prop) (J:It) (H':Hp),Ă=.ref it/\Inv X Z σ H' s2/\Turn X.prog X.w X.K tg J fp it tn/\tn 0 s2.heap/\(∀b∈fp,uV X Z H' b)/\R J H'
def PI (X:Cx) (tg iter:gt) (wi:TI):Prop:=
 ∀(Z:List (ci×Obj)) (s:cr) (σ:St) (H:Hp) (R:It->Hp->Prop),Inv X Z σ H s->wi σ H R->
  db (dL X.prog X.w) X.A (kw iter X.env) (λv s1=>db (dL X.prog X.w) X.A (pyIter v) (PIE X Z σ tg R) X.xe s1) X.xe s
def sR {n:String}{vs:Array ce}{Q:Unit->cr->Prop} (ho:s.heap.get? it=ap o) (hc:o.cls=.type n) (hd:o.data=.fields vs)
  (hn:["enumerate","zip","dict_itemiterator","dict_reverseitemiterator","odict_iterator","itertools.zip_longest","itertools.pairwise"].contains n=false) (hQ:Q () s):db M A (Gf tg (.ref it) u) Q E s:=by
 unfold Gf;cases tg <;> first
  | exact Af hQ
  | (cases u <;> first
    | exact Af hQ
    | (
      refine Aa (wpAny_load ho ?_);rw [hc,hd];show db M A (if (["enumerate","zip","dict_itemiterator","dict_reverseitemiterator","odict_iterator","itertools.zip_longest","itertools.pairwise"].contains n&&vs[0]?==ap (ut _))=true then _ else _) Q E s;rw [if_neg (by intro h;rw [hn,Ef] at h;cases h)];exact Af hQ))
def Itl (K:Ab) (a:ci):It:=
 ⟨λi H=>∃xs x,di K H a xs/\xs[i]?=ap x,λi H x H'=>H'=H/\∀xs,di K H a xs->xs[i]?=ap x,λi H=>∃xs,di K H a xs/\xs.length<=i⟩
def Itt (K:Ab) (a:ci):It:=
 ⟨λi H=>∃xs x,dU K H a xs/\xs[i]?=ap x,λi H x H'=>H'=H/\∀xs,dU K H a xs->xs[i]?=ap x,λi H=>∃xs,dU K H a xs/\xs.length<=i⟩
def Itr (lo:Int) (n:Nat):It:=⟨λi _=>i < n,λi H x H'=>H'=H/\x=.int (lo+i),λi _=>n<=i⟩
theorem KH {K:Ab} (a it:ci):Turn P w K tg (Itl K a) [it] it (λi h=>h.IsListIter it a i) where
 mem:=by simp
 obj:=λi h st b hb=>by
  have e:b=it:=by simpa using hb
  subst e;obtain⟨o,e,c,d⟩:=st;exact⟨o,e,λv z=>by rw [d] at z;cases z⟩
 keep:=λi h h' st k=>st.at λo e=>k it (by simp) o e
 item:=by
  intro X hP hw hK hc i Z s σ H E I hf st hg;subst hP hw hK;obtain⟨xs,x,hq,hx⟩:=hg;obtain⟨aw,rv,p,hz⟩:=I.list hq;obtain⟨u,hu,ru⟩:=rv.get hx;obtain⟨f0,f1,f2,f3,f4,f5⟩:=hf it (by simp);refine wpAny_pyNext_list_item st p.isList (x:=u) (by simpa using hu) λh' mZ sb=>?_;have I1:Inv X Z σ H {s with heap:=h'}:=I.turned (t':=s.toks) (λb o hb e=>(sb.2 b hb).trans e) f0 f1 f3 f4 f5;obtain⟨o,e,c,d⟩:=id mZ;exact⟨u,rfl,sR (s:={s with heap:=h'}) e c d ⋯ ⟨x,H,I1,ru,⟨rfl,λys hy=>by rw [I.zI hy hq];exact hx⟩,mZ,λb hb=>(hf b hb).1⟩⟩
 done:=by
  intro X hP hw hK hc i Z s σ H E I hf st hg;subst hP hw hK;obtain⟨xs,hq,hx⟩:=hg;obtain⟨aw,rv,p,hz⟩:=I.list hq;obtain⟨f0,f1,f2,f3,f4,f5⟩:=hf it (by simp);have hl:=rv.length;exact wpAny_pyNext_list_end (I.ok.hd hc) st p.isList (by simp;omega) λh' eb=>⟨rfl,I.turned (t':=s.toks) (λb o hb e=>eb b o hb e) f0 f1 f3 f4 f5⟩
 self:=λ_ _ _ _ _ st h=>wpAny_pyIter_listiter st h
theorem GS {K:Ab} (a it:ci):Turn P w K tg (Itt K a) [it] it (λi h=>h.IsTupleIter it a i) where
 mem:=by simp
 obj:=λi h st b hb=>by
  have e:b=it:=by simpa using hb
  subst e;obtain⟨o,e,c,d⟩:=st;exact⟨o,e,λv z=>by rw [d] at z;cases z⟩
 keep:=λi h h' st k=>st.at λo e=>k it (by simp) o e
 item:=by
  intro X hP hw hK hc i Z s σ H E I hf st hg;subst hP hw hK;obtain⟨xs,x,hq,hx⟩:=hg;obtain⟨aw,rv,p,hz⟩:=I.tuple hq;obtain⟨u,hu,ru⟩:=rv.get hx;obtain⟨f0,f1,f2,f3,f4,f5⟩:=hf it (by simp);refine wpAny_pyNext_tuple_item st (show s.heap.IsTuple a aw.toArray from p) (x:=u) (by simpa using hu) λh' mZ sb=>?_;have I1:Inv X Z σ H {s with heap:=h'}:=I.turned (t':=s.toks) (λb o hb e=>(sb.2 b hb).trans e) f0 f1 f3 f4 f5;obtain⟨o,e,c,d⟩:=id mZ;exact⟨u,rfl,sR (s:={s with heap:=h'}) e c d ⋯ ⟨x,H,I1,ru,⟨rfl,λys hy=>by rw [I.lJ hy hq];exact hx⟩,mZ,λb hb=>(hf b hb).1⟩⟩
 done:=by
  intro X hP hw hK hc i Z s σ H E I hf st hg;subst hP hw hK;obtain⟨xs,hq,hx⟩:=hg;obtain⟨aw,rv,p,hz⟩:=I.tuple hq;obtain⟨f0,f1,f2,f3,f4,f5⟩:=hf it (by simp);have hl:=rv.length;exact wpAny_pyNext_tuple_end (I.ok.hd hc) st (show s.heap.IsTuple a aw.toArray from p) (by simp;omega) λh' eb=>⟨rfl,I.turned (t':=s.toks) (λb o hb e=>eb b o hb e) f0 f1 f3 f4 f5⟩
 self:=λ_ _ _ _ _ st h=>wpAny_pyIter_tupleiter st h
theorem GV {K:Ab} (it:ci) (lo:Int) (n:Nat):Turn P w K tg (Itr lo n) [it] it (λi h=>IsRangeIter h it (lo+(i:Nat)*1) ((n:Int)-(i:Nat)) 1) where
 mem:=by simp
 obj:=λi h st b hb=>by
  have e:b=it:=by simpa using hb
  subst e;exact⟨_,st,λv z=>by
   have z':=z;cases z'⟩
 keep:=λi h h' st k=>k it (by simp) _ st
 item:=by
  intro X hP hw hK hc i Z s σ H E I hf st hg;subst hP hw hK;obtain⟨f0,f1,f2,f3,f4,f5⟩:=hf it (by simp);have W:=Walks.range (prog:=X.prog) (w:=X.w) (I.ok.hd hc) it lo 1 n;refine W.item i s _ _ hg st λv h' tk hv mZ kk=>?_;obtain⟨t,rfl⟩:=hv;have I1:Inv X Z σ H {s with heap:=h',toks:=tk}:=I.turned (λb o hb e=>kk b o (by simpa using hb) e) f0 f1 f3 f4 f5;refine⟨_,rfl,sR (s:={s with heap:=h',toks:=tk}) (n:="range_iterator") mZ rfl rfl ⋯ ⟨.int (lo+i),H,I1,⟨t,?_⟩,⟨rfl,rfl⟩,mZ,λb hb=>(hf b hb).1⟩⟩;rw [Int.mul_one]
 done:=by
  intro X hP hw hK hc i Z s σ H E I hf st hg;obtain⟨f0,f1,f2,f3,f4,f5⟩:=hf it (by simp);exact wpAny_pyNext_range_end (I.ok.hd hc) st (by have:n<=i:=hg;omega) λh' eb=>⟨rfl,I.turned (t':=s.toks) (λb o hb e=>eb b o hb e) f0 f1 f3 f4 f5⟩
 self:=λ_ _ _ _ _ st h=>wpAny_pyIter_rangeiter st h
end L2
variable {p:Cu}{fp:List BK}{iter:BJ}{wi:L2.TI}
namespace L2
open PySem PySem.Spec PyProof.Rows
section
theorem Nv {R:It->Hp->Prop}{lo hi:Int}{t u v:Tok}{tk:Nat} (I:Inv X Z σ H s) (h1:-(2 ^ 62)<=lo) (h2:lo < 2 ^ 62) (h3:-(2 ^ 62)<=hi) (h4:hi < 2 ^ 62)
  (q:R (Itr lo (hi-lo).toNat) H):db (dL X.prog X.w) X.A (pyIter (.ref s.heap.objs.size)) (PIE X Z σ tg R) E {s with heap:=s.heap.push {cls:=.type "range",data:=.fields #[.int lo t,.int hi u,.int 1 v]},toks:=tk}:=by
 refine wpAny_pyIter_range (IsRange.new ..) (small_one h1 h2 h3 h4) ?_;have I1:Inv X Z σ H {s with heap:=s.heap.push {cls:=.type "range",data:=.fields #[.int lo t,.int hi u,.int 1 v]},toks:=tk}:=I.kept λb o e=>Ah _ e;refine⟨(s.heap.push {cls:=.type "range",data:=.fields #[.int lo t,.int hi u,.int 1 v]}).objs.size,[(s.heap.push {cls:=.type "range",data:=.fields #[.int lo t,.int hi u,.int 1 v]}).objs.size],_,_,H,rfl,
  I1.kept (t':=tk) λb o e=>Ah _ e,GV _ lo (hi-lo).toNat,?_,λb hb=>?_,q⟩
 ·have e1:lo+((0:Nat):Int)*1=lo:=by simp
  have e2:(((hi-lo).toNat:Nat):Int)-((0:Nat):Int)=Builtin.Range.rangeSize lo hi 1:=by rw [rangeSize_one];split <;> omega
  show IsRangeIter _ _ (lo+((0:Nat):Int)*1) ((((hi-lo).toNat:Nat):Int)-((0:Nat):Int)) 1;rw [e1,e2];exact Aq _ rfl
 ·have e:b=(s.heap.push {cls:=.type "range",data:=.fields #[.int lo t,.int hi u,.int 1 v]}).objs.size:=by simpa using hb
  subst e;exact I1.xG (Ao _) (I1.bH.fresh (Ao _))
def aaE (ta:TA):TI:=λσ H R=>ta σ H λvs H1=>∃j:Int,vs=[.int j]/\-(2 ^ 62)<=j/\j < 2 ^ 62/\R (Itr 0 j.toNat) H1
theorem K5 {ta:TA} (hg:Gl X "range") (hm:X.mg "range"=bm) (ha:PA X [a] ta) (hs:ga [a] X.env=[(false,kw a X.env)]:=by rfl):PI X tg (.Call (.Name "range" p) [a] [] pos) (aaE ta):=by
 intro Z s σ H R I h;refine Call_ (jY I hg hm boot_range (Bp (bC (ha pos Z s σ H _ I h) λus s1 ⟨vs,H1,I1,r1,q1⟩=>?_) hs rfl));obtain⟨j,e,q1,q2,q⟩:=q1;subst e;cases r1 with
 | cons r rr=>
  cases rr;obtain⟨t,rfl⟩:=r;exact call_range_1 (Nv I1 ∅ ∅ q1 q2 (by simpa using q))
def adD (wi:TI) (g:TG) (tb:TS):TS:=λD σ H=>wi σ H λJ H1=>∃W:Nat->Nat->St->Hp->Prop,(∃m,W 0 m σ H1)/\∀i m σ H,W i m σ H->
 (J.stop i H/\D.nx σ H)\/(J.go i H/\∃N:St->Hp->Prop,(∀σ' H',N σ' H'->∃m',m' < m/\W (i+1) m' σ' H')/\∀x H',J.Ud i H x H'->g x σ H' λσ2 H2=>tb {D with nx:=N,ct:=N,bk:=D.nx} σ2 H2)
def oQ (fp:List ci) (h:mo):List (ci×Obj):=fp.filterMap λb=>(h.get? b).map λo=>(b,o)
def jW (hb:b∈fp) (e:h.get? b=ap o):(b,o)∈oQ fp h:=C7.mpr ⟨b,hb,by rw [e];rfl⟩
def K8 {p:ci×Obj} (hp:p∈oQ fp h):p.1∈fp/\h.get? p.1=ap p.2:=by
 obtain⟨b,hb,e⟩:=C7.mp hp;cases q:h.get? b with
 | none=>rw [q] at e;cases e
 | some o=>
  rw [q] at e;have e':=Option.some.inj e;subst e';exact⟨hb,q⟩
def Inv.pinned (I:Inv X Z σ H s) (hf:∀b∈fp,uV X Z H b) (ho:∀b∈fp,∃o,s.heap.get? b=ap o/\∀v,o.data≠.cell v):Inv X (Z++oQ fp s.heap) σ H s:=
 I.JH λp hp=>(AG.mp hp).elim (λz=>I.pin p (AU _ z)) λz=>by
  obtain⟨hb,e⟩:=K8 z;obtain⟨f0,f1,f2,_⟩:=hf p.1 hb;obtain⟨o,e',d⟩:=ho p.1 hb;rw [e] at e';cases e';exact⟨e,f0,f1,f2,d⟩
def Inv.kL {pl:List (ci×Obj)} (I:Inv X (Z++pl) σ H s):Inv X Z σ H s:=I.JH λp hp=>I.pin p (AU _ (B4 _ hp))
def NH {g:TG}{tb:TS} (hp:xz (dL X.prog X.w) X.A X.env X.xe) (hc:X.calm=true) (hi:PI X tg iter wi) (hg:PG X tg g) (hb:qY X body tb)
  (hs:vS X iter:=by intro _;rfl):PS X (.For tg iter body [] pos) (adD wi g tb):=by
 intro Z s σ H D I h;refine wpAny_For (bC (hi Z s σ H _ I h) λv s1 h1=>bC h1 λĂ s2 h2=>?_) hs;obtain⟨it,fp,tn,J,H2,e,I2,T,KO,f2,W,⟨m0,w0⟩,turn⟩:=h2;subst e;have VC:∀{H':Hp},(∀b∈fp,H' b=bm)->∀b∈fp,uV X Z H' b:=λhn b hb=>⟨hn b hb,(f2 b hb).2⟩;refine codeAny_forLoop_any (λn s'=>∃i σ' H',Inv X Z σ' H' s'/\tn i s'.heap/\(∀b∈fp,H' b=bm)/\W i n σ' H') ?_ m0 ⟨0,σ,H2,I2,KO,λb hb=>(f2 b hb).1,w0⟩;rintro n s3 ⟨i,σ3,H3,I3,Zv,ô,w3⟩;rcases turn i n σ3 H3 w3 with⟨stop,qn⟩ | ⟨go,N,hN,step⟩
 ·refine Cq hp (bC (T.done X rfl rfl rfl hc i Z s3 σ3 H3 X.xe I3 (VC ô) Zv stop) λr s4 ⟨hr,I4⟩=>?_);subst hr;exact DP ⟨σ3,H3,I4,qn⟩
 ·refine Cq hp (bC (T.item X rfl rfl rfl hc i Z s3 σ3 H3 X.xe I3 (VC ô) Zv go) λr s4 ⟨u,hr,h4⟩=>?_);subst hr;refine Cq hp (bC h4 λ_ s5 ⟨x,H5,I5,r5,y5,VD,Ĺ⟩=>?_);have Ľ:=I5.pinned (VC Ĺ) (T.obj _ _ VD);refine Cq hp (bC (hg _ s5 σ3 H5 x u _ Ľ r5 (step x H5 y5)) λ_ s6 ⟨σ6,H6,I6,q6⟩=>?_);refine Cq hp (bC (hb _ s6 σ6 H6 _ I6 q6) λf s7 q7=>?_);have again:∀{σ7:St}{H7:Hp},Inv X (Z++oQ fp s5.heap) σ7 H7 s7->N σ7 H7->∃m,m < n/\∃i σ' H',Inv X Z σ' H' s7/\tn i s7.heap/\(∀b∈fp,H' b=bm)/\W i m σ' H':=λ{σ7 H7} I7 n7=>by
   obtain⟨m',hm,w7⟩:=hN σ7 H7 n7;refine⟨m',hm,i+1,σ7,H7,I7.kL,T.keep _ _ _ VD λb hb o e=>(I7.pin (b,o) (AU _ (AU _ (jW hb e)))).1,λb hb=>?_,w7⟩;obtain⟨o,e,d⟩:=T.obj _ _ VD b hb;exact (I7.pin (b,o) (AU _ (AU _ (jW hb e)))).2.1
  cases f with
  | next=>obtain⟨σ7,H7,I7,n7⟩:=q7;exact again I7 n7
  | cont=>obtain⟨σ7,H7,I7,n7⟩:=q7;exact again I7 n7
  | brk=>obtain⟨σ7,H7,I7,q7⟩:=q7;exact⟨σ7,H7,I7.kL,q7⟩
  | ret v=>obtain⟨x7,σ7,H7,I7,r7,q7⟩:=q7;exact⟨x7,σ7,H7,I7.kL,r7,q7⟩
end
end L2
variable {i:Int}{g:Int->Int->Int}{MB:PySem.CmpOp}{aw:List Bb}
namespace L2
open PySem PySem.Spec PyProof.Rows
abbrev R2:=V->V->Hp->VK->Prop
def ir (X:Cx) (f:ce->ce->Sem ce) (r:R2):Prop:=
 ∀(Z:List (ci×Obj)) (s:cr) (σ:St) (H:Hp) (x y:V) (v u:ce) (Q:VK),Inv X Z σ H s->RelV x v->RelV y u->r x y H Q->
  db (dL X.prog X.w) X.A (f v u) (EP X Z σ Q) X.xe s
def UnR (X:Cx) (f:ce->Sem ce) (r:V->Hp->VK->Prop):Prop:=
 ∀(Z:List (ci×Obj)) (s:cr) (σ:St) (H:Hp) (x:V) (v:ce) (Q:VK),Inv X Z σ H s->RelV x v->r x H Q->
  db (dL X.prog X.w) X.A (f v) (EP X Z σ Q) X.xe s
def bR (X:Cx) (f:ce) (r:List V->Hp->VK->Prop):Prop:=
 ∀(Z:List (ci×Obj)) (s:cr) (σ:St) (H:Hp) (xs:List V) (us:List ce) (Q:VK),Inv X Z σ H s->Vals xs us->r xs H Q->
  db (dL X.prog X.w) X.A (call f us) (EP X Z σ Q) X.xe s
def afE (X:Cx) (r:V->Hp->(Bool->Hp->Prop)->Prop):Prop:=
 ∀(Z:List (ci×Obj)) (s:cr) (σ:St) (H:Hp) (x:V) (v:ce) (Q:Bool->Hp->Prop),Inv X Z σ H s->RelV x v->r x H Q->
  db (dL X.prog X.w) X.A (truthy v) (TP X Z σ Q) X.xe s
def Uk (r:R2) (ta tb:TE):TE:=λσ H Q=>ta σ H λx H1=>tb σ H1 λy H2=>r x y H2 Q
def tUn (r:V->Hp->VK->Prop) (ta:TE):TE:=λσ H Q=>ta σ H λx H1=>r x H1 Q
def rI (C:Int->Int->Prop) (g:Int->Int->V):R2:=λx y H Q=>∃i j,x=.int i/\y=.int j/\C i j/\Q (g i j) H
def Rt (g:Int->Int->V):R2:=λx y H Q=>∃i j,x=.int i/\y=.int j/\Q (g i j) H
def rU (g:Int->V):V->Hp->VK->Prop:=λx H Q=>∃i,x=.int i/\Q (g i) H
section
variable {b:gt}
def X5 (ha:PE X a ta) (hb:PE X b tb) (I:Inv X Z σ H s)
  (h:ta σ H λx H1=>tb σ H1 λy H2=>R x y H2) {f:ce->ce->Sem ce}
  (hf:∀v u s2 x y H2,Inv X Z σ H2 s2->RelV x v->RelV y u->R x y H2->db (dL X.prog X.w) X.A (f v u) Q X.xe s2) :
  db (dL X.prog X.w) X.A (kw a X.env) (λv s₁=>db (dL X.prog X.w) X.A (kw b X.env) (λu s₂=>db (dL X.prog X.w) X.A (f v u) Q X.xe s₂) X.xe s₁) X.xe s:=by
 refine bC (ha Z s σ H _ I h) λv s1 ⟨x,H1,I1,r1,q1⟩=>?_;refine bC (hb Z s1 σ H1 _ I1 q1) λu s2 ⟨y,H2,I2,r2,q2⟩=>?_;exact hf v u s2 x y H2 I2 r1 r2 q2
def JI {op:Operator}{r:R2} (ho:ir X (r9 op) r) (ha:PE X a ta) (hb:PE X b tb):PE X (.BinOp a op b pos) (Uk r ta tb):=by
 intro Z s σ H Q I h;exact wpAny_BinOp (X5 ha hb I h λv u s2 x y H2 I2 rx ry q=>ho Z s2 σ H2 x y v u Q I2 rx ry q)
def ZW {op:UnaryOp}{r:V->Hp->VK->Prop} (ho:UnR X (unaryOp op) r) (ha:PE X a ta):PE X (.UnaryOp op a pos) (tUn r ta):=by
 intro Z s σ H Q I h;exact UnaryOp_ (bC (ha Z s σ H _ I h) λv s1 ⟨x,H1,I1,r1,q1⟩=>ho Z s1 σ H1 x v Q I1 r1 q1)
def opI {f:ce->ce->Sem ce}{C:Int->Int->Prop}
  (rule:∀(i j:Int) (t u:Tok) (s:cr) (Q:ce->cr->Prop) (E:ce->cr->Prop),C i j->Q (.int (g i j) s.toks) {s with toks:=s.toks+1}->db (dL X.prog X.w) X.A (f (.int i t) (.int j u)) Q E s) :
  ir X f (rI C λi j=>.int (g i j)):=by
 intro Z s σ H x y v u Q I rx ry h;obtain⟨i,j,rfl,rfl,hc,q⟩:=h;obtain⟨t,rfl⟩:=rx;obtain⟨t',rfl⟩:=ry;exact rule i j t t' s _ _ hc ⟨.int (g i j),H,I.tok _,⟨_,rfl⟩,q⟩
def Z9 {f:ce->ce->Sem ce}
  (rule:∀(i j:Int) (t u:Tok) (s:cr) (Q:ce->cr->Prop) (E:ce->cr->Prop),Q (.int (g i j) s.toks) {s with toks:=s.toks+1}->db (dL X.prog X.w) X.A (f (.int i t) (.int j u)) Q E s) :
  ir X f (Rt λi j=>.int (g i j)):=by
 intro Z s σ H x y v u Q I rx ry h;obtain⟨i,j,rfl,rfl,q⟩:=h;obtain⟨t,rfl⟩:=rx;obtain⟨t',rfl⟩:=ry;exact rule i j t t' s _ _ ⟨.int (g i j),H,I.tok _,⟨_,rfl⟩,q⟩
def R4 {f:ce->ce->Sem ce}{g:Int->Int->Bool}
  (rule:∀(i j:Int) (t u:Tok) (s:cr) (Q:ce->cr->Prop) (E:ce->cr->Prop),Q (.bool (g i j)) s->db (dL X.prog X.w) X.A (f (.int i t) (.int j u)) Q E s) :
  ir X f (Rt λi j=>.bl (g i j)):=by
 intro Z s σ H x y v u Q I rx ry h;obtain⟨i,j,rfl,rfl,q⟩:=h;obtain⟨t,rfl⟩:=rx;obtain⟨t',rfl⟩:=ry;exact rule i j t t' s _ _ ⟨.bl (g i j),H,I,rfl,q⟩
def Uc (i j:Int):Prop:=0 < j/\j < 1073741824
def yF (i j:Int):Prop:=0<=j/\j<=1000000/\i.natAbs < 2 ^ 64
def Ub (i j:Int):Prop:=(-(2 ^ 64) < i/\i < 2 ^ 64)\/(-(2 ^ 64) < j/\j < 2 ^ 64)
def Ub.ok {j:Int} (h:Ub i j):wn i j:=by
 rcases h with⟨h1,h2⟩ | ⟨h1,h2⟩
 ·exact .of_left (intBits_le_64 h1 h2)
 ·exact .of_right (intBits_le_64 h1 h2)
def Wy:ir X (r9 .Add) (Rt λi j=>.int (i+j)):=Z9 λ_ _ _ _ _ _ _ q=>add_int q
def Wn:ir X (r9 .Sub) (Rt λi j=>.int (i-j)):=Z9 λ_ _ _ _ _ _ _ q=>sub_int q
theorem RY:ir X (r9 .FloorDiv) (rI Uc λi j=>.int (i / j)):=opI λi j _ _ _ _ _ hc q=>by
 have h1:(0:Int) < j:=hc.1;have h2:j < 1073741824:=hc.2;exact floordiv_int ∅ (by rw [Int.fdiv_eq_ediv_of_nonneg i ∅];exact q) (.inl (PyProof.noPylong_small ∅))
theorem Wt:ir X (r9 .Mod) (rI (λ_ j=>0 < j) λi j=>.int (i % j)):=opI λi j _ _ _ _ _ hc q=>by
 have h1:(0:Int) < j:=hc;exact mod_int' ∅ (by rw [Int.fmod_eq_emod_of_nonneg i ∅];exact q)
def Wq:ir X (r9 .Pow) (rI yF λi j=>.int (i ^ j.toNat)):=opI λ_ _ _ _ _ _ _ hc q=>pow_int_small hc.1 hc.2.1 hc.2.2 q
def unI {f:ce->Sem ce}{g:Int->Int}
  (rule:∀(i:Int) (t:Tok) (s:cr) (Q:ce->cr->Prop) (E:ce->cr->Prop),Q (.int (g i) s.toks) {s with toks:=s.toks+1}->db (dL X.prog X.w) X.A (f (.int i t)) Q E s) :
  UnR X f (rU λi=>.int (g i)):=by
 intro Z s σ H x v Q I rx h;obtain⟨i,rfl,q⟩:=h;obtain⟨t,rfl⟩:=rx;exact rule i t s _ _ ⟨.int (g i),H,I.tok _,⟨_,rfl⟩,q⟩
def Vq:UnR X (unaryOp .USub) (rU λi=>.int (-i)):=unI λ_ _ _ _ _ q=>neg_int q
end
section
variable {b c:gt}{tc:TE}
def O8 {Q:VK}{k k':Bool} (I:Inv X Z σ H s) (q:Q (.bl k) H) (e:k=k'):EP X Z σ Q (.bool k') s:=by
 subst e;exact⟨.bl k,H,I,rfl,q⟩
def Z5:ir X (im .Lt) (Rt λi j=>.bl (decide (i < j))):=R4 λ_ _ _ _ _ _ _ q=>lt_int q
def Z6:ir X (im .LtE) (Rt λi j=>.bl (decide (i<=j))):=R4 λ_ _ _ _ _ _ _ q=>le_int q
def Z7:ir X (im .Gt) (Rt λi j=>.bl (decide (j < i))):=R4 λ_ _ _ _ _ _ _ q=>gt_int q
def Z8:ir X (im .GtE) (Rt λi j=>.bl (decide (j<=i))):=R4 λ_ _ _ _ _ _ _ q=>ge_int q
def K7:ir X (im .In) (λx y H Q=>∃i j,x=.str i/\y=.str j/\Q (.bl (!(Builtin.Str.occurrences j i 0 j.length 1).isEmpty)) H):=by
 intro Z s σ H x y v u Q I rx ry h;obtain⟨i,j,rfl,rfl,q⟩:=h;obtain⟨t,rfl⟩:=rx;obtain⟨t',rfl⟩:=ry;exact in_str (O8 I q rfl)
def Wu:ir X (im .Is) (λx y H Q=>y=.aO/\Q (.bl (decide (x=.aO))) H):=by
 intro Z s σ H x y v u Q I rx ry h;obtain⟨rfl,q⟩:=h;cases ry;refine is_none_gen (O8 I q ?_);cases x <;> first
  | (cases rx;rfl)
  | (obtain⟨t,rfl⟩:=rx;rfl)
def ir.or {f:ce->ce->Sem ce}{r r':R2} (h:ir X f r) (h':ir X f r'):ir X f (λx y H Q=>r x y H Q\/r' x y H Q):=by
 intro Z s σ H x y v u Q I rx ry q;rcases q with q | q
 ·exact h Z s σ H x y v u Q I rx ry q
 ·exact h' Z s σ H x y v u Q I rx ry q
def kS (b:gt) (h:op≠.In:=by decide) (h2:op≠.NotIn:=by decide):lc op b=false:=by
 have e1:(op==CmpOp.In)=false:=by cases op <;> first | rfl | exact absurd rfl h
 have e2:(op==CmpOp.NotIn)=false:=by cases op <;> first | rfl | exact absurd rfl h2
 cases b <;> simp [lc,e1,e2]
def qC {r:R2} (ho:ir X (im op) r) (ha:PE X a ta) (hb:PE X b tb) (hm:lc op b=false):PE X (.Compare a [op] [b] pos) (Uk r ta tb):=by
 intro Z s σ H Q I h;exact wpAny_Compare1 (X5 ha hb I h λv u s2 x y H2 I2 rx ry q=>ho Z s2 σ H2 x y v u Q I2 rx ry q) hm
def Uj (t:TE):TT:=λσ H Q=>t σ H λx H'=>∃k,x=.bl k/\Q k H'
def qB {r:R2} (ho:ir X (im op) r) (ha:PE X a ta) (hb:PE X b tb) (hm:lc op b=false):PT X (.Compare a [op] [b] pos) (Uj (Uk r ta tb)):=by
 intro Z s σ H Q I h;refine wpAny_isTrue_Compare1 (bC (ha Z s σ H _ I h) λv s1 ⟨x,H1,I1,r1,q1⟩=>bC (hb Z s1 σ H1 _ I1 q1) λu s2 ⟨y,H2,I2,r2,q2⟩=>
  bC (ho Z s2 σ H2 x y v u _ I2 r1 r2 q2) λc s3 ⟨z,H3,I3,r3,k,e,q3⟩=>?_) hm
 subst e;cases r3;exact Bt ⟨H3,I3,q3⟩
def G0 (r r':R2) (ta tb tc:TE):TE:=λσ H Q=>ta σ H λx H1=>tb σ H1 λy H2=>r x y H2 λz H3=>∃k,z=.bl k/\
 (if k=true then tc σ H3 λw' H4=>r' y w' H4 Q else Q (.bl false) H3)
def NT {r r':R2} (ho:ir X (im op) r) (OO:ir X (im MB) r') (ha:PE X a ta) (hb:PE X b tb) (hc:PE X c tc)
  (hm:lastMarks [op,MB] [b,c]=false:=by with_unfolding_all rfl):PE X (.Compare a [op,MB] [b,c] pos) (G0 r r' ta tb tc):=by
 intro Z s σ H Q I h;refine Compare_chain (bC (ha Z s σ H _ I h) λv s1 ⟨x,H1,I1,r1,q1⟩=>chain_link (bC (hb Z s1 σ H1 _ I1 q1) λu s2 ⟨y,H2,I2,r2,q2⟩=>
  bC (ho Z s2 σ H2 x y v u _ I2 r1 r2 q2) λd s3 ⟨z,H3,I3,r3,k,e,q3⟩=>?_)) hm
 subst e;cases r3;refine Bt ?_;cases k with
 | false=>exact ite_ff ⟨.bl false,H3,I3,rfl,q3⟩
 | true=>exact ite_tt (chain_last (bC (hc Z s3 σ H3 _ I3 q3) λw' s4 ⟨z',H4,I4,r4,q4⟩=>OO Z s4 σ H4 y z' u w' Q I4 r2 r4 q4))
def NF {r r':R2} (ho:ir X (im op) r) (OO:ir X (im MB) r') (ha:PE X a ta) (hb:PE X b tb) (hc:PE X c tc)
  (hm:lastMarks [op,MB] [b,c]=false:=by with_unfolding_all rfl):PT X (.Compare a [op,MB] [b,c] pos) (Uj (G0 r r' ta tb tc)):=by
 intro Z s σ H Q I h;refine isTrue_chain (bC (ha Z s σ H _ I h) λv s1 ⟨x,H1,I1,r1,q1⟩=>test_link (bC (hb Z s1 σ H1 _ I1 q1) λu s2 ⟨y,H2,I2,r2,q2⟩=>
  bC (ho Z s2 σ H2 x y v u _ I2 r1 r2 q2) λd s3 ⟨z,H3,I3,r3,k,e,q3⟩=>?_)) hm
 subst e;cases r3;refine Bt ?_;cases k with
 | false=>
  obtain⟨k',e',q'⟩:=q3;cases e';exact ite_ff ⟨H3,I3,q'⟩
 | true=>
  refine ite_tt (test_last (bC (hc Z s3 σ H3 _ I3 q3) λw' s4 ⟨z',H4,I4,r4,q4⟩=>bC (OO Z s4 σ H4 y z' u w' _ I4 r2 r4 q4) λd' s5 ⟨z2,H5,I5,r5,k2,e2,q5⟩=>?_));subst e2;cases r5;exact Bt ⟨H5,I5,q5⟩
def Yc (K:Ab) (x:V) (H:Hp) (k:Bool):Prop:=
 match x with
 | .aO=>k=false
 | .bl b=>k=b
 | .int i=>k=(i != 0)
 | .str y=>y.length<=sizeLine/\k=((y.length:Int) != 0)
 | .X2 y=>y.size<=sizeLine/\k=((y.size:Int) != 0)
 | .ref p=>(∃xs,di K H p xs/\k=!xs.isEmpty)\/(∃xs,dU K H p xs/\k=!xs.isEmpty)\/∃kvs,H p=ap (.dK kvs)/\k=!kvs.isEmpty
 | _=>False
def HD {kvs:List (κ×V)}{vs:List (κ×ce)} (r:KV kvs vs):(!vs.isEmpty)=!kvs.isEmpty:=by
 cases r <;> rfl
def sH (r:Vals xs aw):(!aw.toArray.isEmpty)=!xs.isEmpty:=by
 cases r <;> simp
def xb:(sizeLine:Nat) < 2 ^ 63:=by rw [Ev];decide
theorem Vs:afE X (λx H Q=>∃k,Yc X.K x H k/\Q k H):=by
 intro Z s σ H x v Q I rx h;obtain⟨k,e,q⟩:=h;have hs:=Ev;cases x with
 | aO=>
  cases rx;have e':=e;subst e';exact truthy_none ⟨H,I,q⟩
 | bl b=>
  cases rx;have e':=e;subst e';exact Bt ⟨H,I,q⟩
 | int i=>
  obtain⟨t,rfl⟩:=rx;have e':=e;subst e';exact PySem.P.truthy_int ⟨H,I,q⟩
 | str y=>
  obtain⟨t,rfl⟩:=rx;obtain⟨hy,e'⟩:y.length<=sizeLine/\k=((y.length:Int) != 0):=e;subst e';exact PySem.P.truthy_str ∅ ⟨H,I.tok _,q⟩
 | X2 y=>
  obtain⟨t,rfl⟩:=rx;obtain⟨hy,e'⟩:y.size<=sizeLine/\k=((y.size:Int) != 0):=e;subst e';exact PySem.W.truthy_bytes ∅ ⟨H,I.tok _,q⟩
 | ref p=>
  cases rx;have e':=e;rcases e' with⟨xs,hx,e'⟩ | ⟨xs,hx,e'⟩ | ⟨kvs,hx,e'⟩
  ·subst e';obtain⟨aw,r,pl,hz⟩:=I.list hx;have Á:=r.length;exact wpAny_truthy_list pl.isList (by simp only [Ai];omega) ⟨H,I.tok _,by rw [sH r];exact q⟩
  ·subst e';obtain⟨aw,r,pl,hz⟩:=I.tuple hx;have Á:=r.length;exact truthy_tuple pl (by simp only [Ai];omega) ⟨H,I.tok _,by rw [sH r];exact q⟩
  ·subst e';obtain⟨hz,hS,vs,r,m⟩:kvs.length<=sizeLine/\(p==tt)=false/\∃vs,KV kvs vs/\s.heap.DictOf (bM X.prog X.w) p vs:=I.bH p _ hx;have Á:=Paired.length r;exact wpAny_truthy_dict hS m ∅ ⟨H,I.tok _,by rw [HD r];exact q⟩
 | _=>exact (show False from e).elim
def ND (ha:PE X a ta) (he:∀Æ,isTrue a X.env Æ=(do let v <- Æ;FB a.pos;re [v] (truthy v))) :
  PT X a (λσ H Q=>ta σ H λx H'=>∃k,Yc X.K x H' k/\Q k H'):=by
 intro Z s σ H Q I h;exact isTrue_plain (bC (ha Z s σ H _ I h) λv s1 ⟨x,H1,I1,r1,q1⟩=>Vs Z s1 σ H1 x v Q I1 r1 q1) (he _)
def Hc:ir X (r9 .Add) (λx y H Q=>∃i j,x=.str i/\y=.str j/\i.length+j.length<=sizeLine/\Q (.str (i++j)) H):=by
 intro Z s σ H x y v u Q I rx ry h;obtain⟨i,j,rfl,rfl,hz,q⟩:=h;obtain⟨t,rfl⟩:=rx;obtain⟨t',rfl⟩:=ry;exact add_str (λt' tk=>⟨.str (i++j),H,I.tok _,⟨_,rfl⟩,q⟩) hz
def vals1 {x:V} (r:Vals [x] us):∃u,us=[u]/\RelV x u:=by
 cases r with
 | cons r1 r2=>cases r2;exact⟨_,rfl,r1⟩
def vals2 {x:V} (r:Vals [x,y] us):∃u w',us=[u,w']/\RelV x u/\RelV y w':=by
 cases r with
 | cons r1 r2=>
  cases r2 with
  | cons r3 r4=>cases r4;exact⟨_,_,rfl,r1,r3⟩
def Qa:bR X (.builtin "abs") (λxs H Q=>∃i,xs=[.int i]/\Q (.int (if i < 0 then -i else i)) H):=by
 intro Z s σ H xs us Q I r h;obtain⟨i,rfl,q⟩:=h;obtain⟨u,rfl,t,rfl⟩:=vals1 r;exact call_abs_int λu tk=>⟨.int (if i < 0 then -i else i),H,I.tok _,⟨_,rfl⟩,q⟩
def Mf (hc:X.calm=true):bR X (.builtin "max") (λxs H Q=>∃i j,xs=[.int i,.int j]/\Q (.int (if j > i then j else i)) H):=by
 intro Z s σ H xs us Q I r h;obtain⟨i,j,rfl,q⟩:=h;obtain⟨u,w',rfl,⟨t,rfl⟩,⟨t',rfl⟩⟩:=vals2 r;refine max_two_ints (I.ok.hd hc) λh' tk k=>⟨_,H,I.kept k,?_,q⟩;by_cases hj:j > i
 ·rw [if_pos hj,if_pos hj];exact⟨_,rfl⟩
 ·rw [if_neg hj,if_neg hj];exact⟨_,rfl⟩
def Me (hc:X.calm=true):bR X (.builtin "min") (λxs H Q=>∃i j,xs=[.int i,.int j]/\Q (.int (if j < i then j else i)) H):=by
 intro Z s σ H xs us Q I r h;obtain⟨i,j,rfl,q⟩:=h;obtain⟨u,w',rfl,⟨t,rfl⟩,⟨t',rfl⟩⟩:=vals2 r;refine min_two_ints (I.ok.hd hc) λh' tk k=>⟨_,H,I.kept k,?_,q⟩;by_cases hj:j < i
 ·rw [if_pos hj,if_pos hj];exact⟨_,rfl⟩
 ·rw [if_neg hj,if_neg hj];exact⟨_,rfl⟩
def Mi:bR X (.type "int") (λxs H Q=>(∃i,xs=[.int i]/\Q (.int i) H)\/∃k,xs=[.bl k]/\Q (.int (if k then 1 else 0)) H):=by
 intro Z s σ H xs us Q I r h;rcases h with⟨i,rfl,q⟩ | ⟨k,rfl,q⟩
 ·obtain⟨u,rfl,t,rfl⟩:=vals1 r;exact call_int_int ⟨.int i,H,I,⟨_,rfl⟩,q⟩
 ·obtain⟨u,rfl,r1⟩:=vals1 r;cases r1;exact call_int_bool ⟨.int (if k then 1 else 0),H,I.tok _,⟨_,rfl⟩,q⟩
def abU (K:Ab) (x:V) (H:Hp) (n:Nat):Prop:=
 match x with
 | .str y=>y.length<=sizeLine/\n=y.length
 | .X2 y=>y.size<=sizeLine/\n=y.size
 | .ref p=>(∃xs,di K H p xs/\n=xs.length)\/∃xs,dU K H p xs/\n=xs.length
 | _=>False
theorem P9:bR X (.builtin "len") (λxs H Q=>∃x n,xs=[x]/\abU X.K x H n/\Q (.int n) H):=by
 intro Z s σ H xs us Q I r h;obtain⟨x,n,rfl,e,q⟩:=h;obtain⟨u,rfl,rx⟩:=vals1 r;have hs:=Ev;cases x with
 | str y=>
  obtain⟨t,rfl⟩:=rx;obtain⟨hy,e'⟩:y.length<=sizeLine/\n=y.length:=e;subst e';exact len_str ∅ ⟨.int _,H,I.tok _,⟨_,rfl⟩,q⟩
 | X2 y=>
  obtain⟨t,rfl⟩:=rx;obtain⟨hy,e'⟩:y.size<=sizeLine/\n=y.size:=e;subst e';exact PySem.W.len_bytes ∅ ⟨.int _,H,I.tok _,⟨_,rfl⟩,q⟩
 | ref p=>
  cases rx;have e':=e;rcases e' with⟨xs,hx,e'⟩ | ⟨xs,hx,e'⟩
  ·subst e';obtain⟨aw,r',pl,hz⟩:=I.list hx;have Á:=r'.length;exact Calls.call_len_list pl.isList (by simp only [Ai];omega) ⟨.int xs.length,H,I.tok _,⟨_,by simp only [Ai];rw [Á]⟩,q⟩
  ·subst e';obtain⟨aw,r',pl,hz⟩:=I.tuple hx;have Á:=r'.length;exact len_tuple pl (by simp only [Ai];omega) ⟨.int xs.length,H,I.tok _,⟨_,by simp only [Ai];rw [Á]⟩,q⟩
 | _=>exact (show False from e).elim
end
end L2
variable {a:BK}{mA:Cp->Option Bb}
namespace L2
open PySem PySem.Spec PyProof.Rows
structure Yf (h:mo) (x dx C:ci) (mA:Str->Option ce):Prop where
 obj:h.get? x=ap (E4 C dx)
 ns:h.Ns1 dx mA
 ne:dx≠x
def Lc {dx:ci} (n:h.Ns1 dx mA):∃od,h.get? dx=ap od/\∀name,Fh name od=ap (mA name):=by
 obtain⟨o,es,ep,ho,hd,hk,_,hm⟩:=n;refine⟨o,ho,λname=>?_⟩;have e:=hm name;unfold nsFind findBy at e;rw [<- Array.find?_toList] at e;unfold Fh;rw [hd];dsimp only
 split
 ·rename_i y q;rw [q] at e;exact congrArg ap e
 ·rename_i q;rw [q] at e;have a:es.toList.any (·.refKey)=false:=by
   rw [List.any_eq_false];intro y hy;obtain⟨z,t,aeW⟩:=hk y (Array.mem_toList_iff.mp hy);simp [DictEntry.refKey,aeW]
  have a':¬es.toList.any (·.refKey)=true:=by rw [a];exact AW
  rw [if_neg a'];exact congrArg ap e
def Yf.look {x dx C:ci} (I:Yf h x dx C mA):∃od,PySem.W.InstAt h x (E4 C dx) C (ap od)/\∀name,Fh name od=ap (mA name):=
 let ⟨od,ho,hl⟩:=Lc I.ns
 ⟨od,⟨I.obj,rfl,rfl,ho⟩,hl⟩
def tX.some_of {o:Option ce} (r:tX (ap v) o):∃u,o=ap u/\RelV v u:=by
 cases o with
 | none=>exact (show False from r).elim
 | some u=>exact⟨u,rfl,r⟩
section
variable {C dx:ci}{fs:List (Str×V)}
def SJ (bH:lX P w H h) (e:H a=ap (.ins C dx fs)):∃mA,Yf h a dx C mA/\(∀f,tX (fs.lookup f) (mA f))/\PySem.Within mA (fs.map (·.1))/\fs.length<=1000/\H dx=ap (.own a):=by
 obtain⟨d,z,ne,ob,mA,n,r,q⟩:=(show bx P w H h a (.ins C dx fs) from bH a _ e);exact⟨mA,⟨ob,n,ne⟩,r,q,z,d⟩
end
structure Cls (K:Ab) (C:ci):Prop where
 pg:FJ K C Str.empty=true
 hd:PySem.W.hasDictIn K C=true
 po:PySem.W.plainOver K C=true
 sa:PySem.W.findIn K (.ref C) "__setattr__"=ap (ap (.builtin "object.__setattr__"))
def Cls.get {K:Ab}{C:ci} (c:Cls K C) (f:Str):FJ K C f=true:=c.pg
section
variable {c:ce}{b:Bool}
inductive mf (K:Ab) (H:Hp):V->ce->Prop where
 | aO:mf K H .aO (.type "NoneType")
 | bl (x:Bool):mf K H (.bl x) (.type "bool")
 | int (i:Int):mf K H (.int i) (.type "int")
 | str (x:Str):mf K H (.str x) (.type "str")
 | YD (x:UInt64):mf K H (.YD x) (.type "float")
 | lst {a:ci}{xs:List V} (e:H a=ap (.lst xs)):mf K H (.ref a) (.type "list")
 | cM {a:ci}{o:Obj}{xs:List V} (e:H a=ap (.cM o (.lst xs))):mf K H (.ref a) (.type "list")
 | tup {a:ci}{xs:List V} (e:H a=ap (.tup xs)):mf K H (.ref a) (.type "tuple")
 | dK {a:ci}{kvs:List (Key×V)} (e:H a=ap (.dK kvs)):mf K H (.ref a) (.type "dict")
 | dT {a:ci}{kvs:List (List Key×V)} (e:H a=ap (.dT kvs)):mf K H (.ref a) (.type "dict")
 | ins {a C dx:ci}{fs:List (Str×V)} (e:H a=ap (.ins C dx fs)) (cl:Cls K C) (ha:PySem.W.findIn K (.ref C) "__class__"=ap (ap (.builtin "object.__class__")))
   (hn:PySem.W.specialIn K (.builtin "object.__class__") "__get__"=ap (ap (.builtin "getset_descriptor.__get__"))) (htk:PySem.W.takesIn K (.builtin "object.__class__")=ap true)
   (hm:PySem.W.mroIn K C (.type "object")=ap true):mf K H (.ref a) (.ref C)
def Lo {x:V}{t:ce} (I:Inv X Z σ H s) (rx:RelV x u) (ty:mf X.K H x t) (e:BA X.K t c=ap b) (h:∀tk,Q (.bool b) {s with toks:=tk}) :
  db (dL X.prog X.w) A (call (.builtin "isinstance") [u,c]) Q E s:=by
 cases ty with
 | aO=>cases (show u=AZ from rx);exact Bl PySem.W.kitx_none I.tZ BU e (λz=>nomatch z) h
 | bl y=>cases (show u=Ca y from rx);exact Bl PySem.W.kitx_bool I.tZ BU e (λz=>nomatch z) h
 | int i=>obtain⟨t,q⟩:=(show ∃t,u=C8 i t from rx);cases q;exact Bl PySem.W.kitx_int I.tZ BU e (λz=>nomatch z) h
 | str y=>obtain⟨t,q⟩:=(show ∃t,u=Dn y t from rx);cases q;exact Bl PySem.W.kitx_str I.tZ BU e (λz=>nomatch z) h
 | YD y=>obtain⟨t,q⟩:=(show ∃t,u=Value.float y t from rx);cases q;exact Bl PySem.W.kitx_float I.tZ BU e (λz=>nomatch z) h
 | @lst a xs ea=>
  cases (show u=AD a from rx);obtain⟨_,_,n,_,h1⟩:=(show bx X.prog X.w H s.heap a (.lst xs) from I.bH a _ ea);exact Bl Ei I.tZ ⟨_,h1,rfl⟩ e (λz=>nomatch z) h
 | @cM a ob xs ea=>
  cases (show u=AD a from rx);obtain⟨_,_,_,n,_,h1⟩:=(show bx X.prog X.w H s.heap a (.cM ob (.lst xs)) from I.bH a _ ea);exact Bl Ei I.tZ ⟨_,h1,rfl⟩ e (λz=>nomatch z) h
 | @tup a xs ea=>
  cases (show u=AD a from rx);obtain⟨_,_,_,p⟩:=(show bx X.prog X.w H s.heap a (.tup xs) from I.bH a _ ea);obtain⟨o,h1,h2,_⟩:=p;exact Bl Fy I.tZ ⟨o,h1,h2⟩ e (λz=>nomatch z) h
 | @dK a kvs ea=>
  cases (show u=AD a from rx);obtain⟨_,_,vs,_,p⟩:=(show bx X.prog X.w H s.heap a (.dK kvs) from I.bH a _ ea);obtain⟨o,es,ep,h1,h2,_⟩:=p;exact Bl Ej I.tZ ⟨o,h1,h2.1⟩ e (λz=>nomatch z) h
 | @dT a kvs ea=>
  cases (show u=AD a from rx);obtain⟨_,_,xs,_,o,es,ep,h1,h2,_⟩:=(show bx X.prog X.w H s.heap a (.dT kvs) from I.bH a _ ea);exact Bl Ej I.tZ ⟨o,h1,h2.1⟩ e (λz=>nomatch z) h
 | @ins a C dx fs ea cl ha hn htk hm=>
  cases (show u=AD a from rx);obtain⟨mA,O,_⟩:=SJ I.bH ea;obtain⟨od,J,_⟩:=O.look;exact Bl (PySem.W.kitx_own (cl.get _) cl.hd ha hn htk hm) I.tZ J e (λz=>nomatch z) h
end
end L2
variable {v È pm cK ct oc:Bb}{vs:List L2.V}{mg:Cp->Option Bb}{base:FD}{fd:PySem.FuncData}{ps:List Cp}{Ã:Cu}{sc scope:PySem.Scope}{qual:Cp}{an od:Option BK}{RU:Array (Option Bb)}
namespace L2
open PySem PySem.Spec PyProof.Rows
structure cL (k:Nat) (A:pr):Prop where
 hd:A.handled=bm
 dp:A.depth+3*k+5 < recursionLimit
 un:A.units+16*k+200 < o0
 gd:A.guards=ap []
theorem cL.mono {k:Nat} (r:cL k A) (h:j<=k):cL j A:=⟨r.hd,by have:=r.dp;omega,by have:=r.un;omega,r.gd⟩
theorem cL.deeper {k:Nat} (r:cL (k+1) A) (env:Env):cL k (A.deeper env):=
 ⟨r.hd,by have:=r.dp;show A.depth+1+3*k+5 < _;omega,by have:=r.un;show A.units+3+16*k+200 < _;omega,r.gd⟩
theorem cL.depth {k:Nat} (r:cL k A):A.depth < recursionLimit:=by have:=r.dp;omega
def Zh:TA:=λ_ H Q=>Q [] H
def Zo (ta:TE) (tr:TA):TA:=λσ H Q=>ta σ H λx H1=>tr σ H1 λxs H2=>Q (x::xs) H2
section
variable {t:TA}
def cX:PA X [] Zh:=λ_ _ _ _ H Q I h=>CJ ⟨[],H,I,.nil,h⟩
def bz (ha:PE X e te) (hr:PA X es t) (hs:iB X e es:=by rfl):PA X (e::es) (Zo te t):=by
 intro pos Z s σ H Q I h;rw [hs];refine Co (bC (ha Z s σ H _ I h) λu s1 ⟨x,H1,I1,r1,q1⟩=>?_);exact bC (hr pos Z s1 σ H1 _ I1 q1) λus s2 ⟨xs,H2,I2,r2,q2⟩=>⟨x::xs,H2,I2,.cons r1 r2,q2⟩
end
abbrev Sp:=List V->Hp->VK->XK->Prop
abbrev MN:=List Env->Hp->cr->XK->ce->cr->Prop
structure T9 (P:sw) (w:t0) (K:Ab) (mg:Str->Option ce) (base:mo) (A:pr) (outer:List Env) (s:cr) (H:Hp):Prop where
 frames:A.frames=ap outer
 mod:Mod K mg base
 bs:∀b o,base.get? b=ap o->s.heap.get? b=ap o/\H b=bm
 Vd:base.objs.size<=s.heap.objs.size
 sW:s.heap.FunFrames base outer
 YA:∀b∈MJ outer,H b=bm
 bH:lX P w H s.heap
 bare:Gc s.gens
def CE (outer:List Env) (P:sw) (w:t0) (H:Hp) (s:cr) (Q:VK) (u:ce) (s':cr):Prop:=
 ∃v H',s'.os=s.os/\Gc s'.gens/\Un (MJ outer) [] H H' s.heap s'.heap/\lX P w H' s'.heap/\RelV v u/\Q v H'
def CR (CX:MN) (outer:List Env) (P:sw) (w:t0) (H:Hp) (s:cr) (Q:VK) (E:XK) (r:Result) (s':cr):Prop:=
 match r with
 | .ok (.ret u)=>CE outer P w H s Q u s'
 | .ok _=>False
 | .error e=>CX outer H s E e s'
structure gJ (P:sw) (w:t0) (K:Ab) (mg:Str->Option ce) (base:mo) (CX:MN) (k:Nat) (f:ci) (fd:Da) (ps:List Str) (sp:Sp):Prop where
 len:∀vs H Q E,sp vs H Q E->vs.length=ps.length
 run:∀(A:pr) (outer:List Env) (s:cr) (H:Hp) (args:Args) (us:List ce) (vs:List V) (Q:VK) (E:XK),cL k A->T9 P w K mg base A outer s H->BindsTo s fd args (ps.zip us)->Vals vs us->sp vs H Q E->
  FM (dL P w) A (.call (.ref f) args) (CR CX outer P w H s Q E) s
def gJ.imp {K:Ab}{CX:MN}{k:Nat}{f:ci}{sp sp':Sp} (F:gJ P w K mg base CX k f fd ps sp)
  (h:∀vs H Q E,sp' vs H Q E->sp vs H Q E):gJ P w K mg base CX k f fd ps sp':=
 ⟨λvs H Q E q=>F.len vs H Q E (h _ _ _ _ q),λA outer s H args us vs Q E hr he hb hv hs=>F.run A outer s H args us vs Q E hr he hb hv (h _ _ _ _ hs)⟩
section
def Inv.aft (I:Inv X Z σ H s):T9 X.prog X.w X.K X.mg X.base X.A X.stack s H:=
 ⟨I.ok.frames,I.ok.mod,I.bs,A7 I.ok.Vd I.sz,I.stack,I.Js,I.bH,I.bare⟩
def Inv.after {Q:VK} (I:Inv X Z σ H s) (h:CE X.stack X.prog X.w H s Q u s'):EP X Z σ Q u s':=by
 obtain⟨v,H',os,bare,un,bH,r,q⟩:=h;obtain⟨hh,g,d,t,os'⟩:=s';obtain rfl:os'=s.os:=os;exact⟨v,H',I.call (h':=hh) (g':=g) (d':=d) (t':=t) (ch:=[]) un bH bare (λb z=>absurd z (by simp)),r,q⟩
end
def Binds (K:Ab) (fd:Da) (ps:List Str) (ds:List ce):Prop:=
 ∀(s:cr) (us:List ce),K.In s.heap->(us++ds).length=ps.length->BindsTo s fd ⟨us,[]⟩ (ps.zip (us++ds))
def Binds.all {K:Ab} (h:∀us:List ce,us.length=ps.length->bindArgs fd ⟨us,[]⟩=pure (ps.zip us)):Binds K fd ps []:=λs us _ hl=>by
 rw [C4] at hl ⊢;exact .of_eq (h us hl)
def Passes (CX:MN) (X:Cx) (E:XK):Prop:=∀(Z:List (ci×Obj)) (σ:St) (H:Hp) (s:cr) (e:ce) (s':cr),Inv X Z σ H s->CX X.stack H s E e s'->X.xe e s'
section
variable {CX:MN}{k:Nat}{f:ci}{sp:Sp}{dvs:List V}{ds:List ce}{E:XK}
def G7 {Q:VK} (F:gJ X.prog X.w X.K X.mg X.base CX k f fd ps sp) (hr:cL k X.A) (hb:Binds X.K fd ps ds) (hd:Vals dvs ds) (hx:Passes CX X E)
  (I:Inv X Z σ H s) (r:Vals vs us) (h:sp (vs++dvs) H Q E):db (dL X.prog X.w) X.A (call (.ref f) us) (EP X Z σ Q) X.xe s:=by
 have r2:Vals (vs++dvs) (us++ds):=r.append hd;have hl:(us++ds).length=ps.length:=by rw [<- r2.length];exact F.len _ _ _ _ h
 refine wpAny_call (codeAny_mono (F.run X.A X.stack s H ⟨us,[]⟩ (us++ds) (vs++dvs) Q E hr I.aft (hb s us I.tZ hl) r2 h) λr s' hq=>?_);cases r with
 | error e=>exact hx Z σ H s e s' I hq
 | ok fl=>
  cases fl with
  | ret u=>exact I.after hq
  | next=>exact Bs hq
  | brk=>exact Bs hq
  | cont=>exact Bs hq
end
structure ar (N P:List Str) (sc:nw):Prop where
 kind:sc.kind=.function
 co:sc.isCoroutine=false
 gen:sc.isGenerator=false
 nd:N.Nodup
 pre:N.take P.length=P
 par:∀x∈P,sc.names.lookup x=ap .local\/sc.names.lookup x=ap .cell
 WC:∀y∈sc.names,y.2≠.free
theorem vL {kindOf:Str->Option wP}:∀{binds:List (Str×ce)}{m:Str->Option ce},(∀v,(x,v)∉binds)->bindL kindOf binds m x=m x
 | [],_,_=>rfl
 | (n,v)::r,m,h=>by
  unfold bindL;rw [vL λw hw=>h w (AY _ hw)]
  split
  ·have:x≠n:=by rintro rfl;exact h v BC
   simp [this]
  ·rfl
theorem vN {kindOf:Str->Option wP}:∀{binds:List (Str×ce)}{m:Str->Option ce},(∀v,(x,v)∉binds)->bindC kindOf binds m x=m x
 | [],_,_=>rfl
 | (n,v)::r,m,h=>by
  unfold bindC;rw [vN λw hw=>h w (AY _ hw)]
  split
  ·rfl
  ·have:x≠n:=by rintro rfl;exact h v BC
   simp [this]
theorem vM {kindOf:Str->Option wP}:∀{P:List Str}{vs:List ce}{i:Nat}{m:Str->Option ce},P.Nodup->P[i]?=ap x->vs[i]?=ap v->kindOf x=ap .local->
  bindL kindOf (P.zip vs) m x=ap v
 | [],_,_,_,_,h,_,_=>by simp at h
 | _::_,[],_,_,_,_,h,_=>by simp at h
 | p::P,w::vs,0,m,nd,h1,h2,hk=>by
  simp at h1 h2;subst h1;subst h2;show bindL kindOf ((p,w)::P.zip vs) m p=_;unfold bindL;rw [vL λv hv=>(DR.mp nd).1 (E9 hv).1,if_pos hk];simp
 | p::P,w::vs,i+1,m,nd,h1,h2,hk=>by
  show bindL kindOf ((p,w)::P.zip vs) m x=_;unfold bindL;exact vM (i:=i) (DR.mp nd).2 (by simpa using h1) (by simpa using h2) hk
theorem vO {kindOf:Str->Option wP}:∀{P:List Str}{vs:List ce}{i:Nat}{m:Str->Option ce},P.Nodup->P[i]?=ap x->vs[i]?=ap v->kindOf x≠ap .local->
  bindC kindOf (P.zip vs) m x=ap v
 | [],_,_,_,_,h,_,_=>by simp at h
 | _::_,[],_,_,_,_,h,_=>by simp at h
 | p::P,w::vs,0,m,nd,h1,h2,hk=>by
  simp at h1 h2;subst h1;subst h2;show bindC kindOf ((p,w)::P.zip vs) m p=_;unfold bindC;rw [vN λv hv=>(DR.mp nd).1 (E9 hv).1,if_neg hk];simp
 | p::P,w::vs,i+1,m,nd,h1,h2,hk=>by
  show bindC kindOf ((p,w)::P.zip vs) m x=_;unfold bindC;exact vO (i:=i) (DR.mp nd).2 (by simpa using h1) (by simpa using h2) hk
def start (N:List Str) (vs:List V):St:=vs.map ap++Al (N.length-vs.length) bm
def i7 (CX:MN) (P:sw) (w:t0) (K:Ab) (mg:Str->Option ce) (base:mo) (N:List Str) (qual:Str) (scope:nw) (f:ci) (cd:ce) (A:pr) (outer:List Env) (s:cr) (H:Hp) (E:XK):Cx where
 prog:=P
 w:=w
 K:=K
 mg:=mg
 base:=base
 A:=A.deeper (sn qual scope s.heap.objs.size f cd)
 N:=N
 s₀:=s
 H₀:=H
 env:=sn qual scope s.heap.objs.size f cd
 outer:=outer
 stack:=sn qual scope s.heap.objs.size f cd::outer
 ex:=[]
 calm:=true
 fn:=λ_=>true
 pn:=[]
 xe:=λe s'=>db (dL P w) (A.deeper (sn qual scope s.heap.objs.size f cd)) (leaving (sn qual scope s.heap.objs.size f cd) e) (λ_ ZC=>CX outer H s E e ZC) (λe' ZC=>CX outer H s E e' ZC) s'
def Gn (h:sc.names.lookup x=ap .cell):∃c,(cellsFrom n sc.names []).lookup x=ap c:=by
 have q:=EM sc.names n [] (.inl h);exact Option.isSome_iff_exists.mp q
theorem Lr {CX:MN}{K:Ab}{N:List Str}{f:ci}{cd:ce}{outer:List Env}{s1:cr}{E:XK}
  (S:ar N ps scope) (hd:A.handled=bm) (e0:T9 P w K mg base A outer s H) (hl:vs.length=ps.length) (r:Vals vs us)
  (x:InCallC s s.heap.objs.size (bindL (sn qual scope s.heap.objs.size f cd).kindOf (ps.zip us) λ_=>bm) (cellsFrom (s.heap.objs.size+1) scope.names []) (bindC (sn qual scope s.heap.objs.size f cd).kindOf (ps.zip us) λ_=>bm) s1) :
  Inv (i7 CX P w K mg base N qual scope f cd A outer s H E) [] (start N vs) H s1:=by
 have dJ:ps.length<=N.length:=by have:=congrArg B5 S.pre;rw [Cm] at this;omega
 obtain⟨h1,tk,rfl,hk⟩:=x.done;have ã:∀b:ci,b∉(i7 CX P w K mg base N qual scope f cd A outer s H E).ex:=λb z=>absurd (show b∈([]:List ci) from z) (by simp);refine⟨⟨e0.mod,S.kind,rfl,rfl,Ao _,λy z c h1 h2=>?_,λy hy=>?_,λy c _ h=>?_,λ_=>hd,Around.frames_deeper e0.frames,.inr ⟨rfl,rfl⟩,λb z=>absurd z (ã b),e0.bs,e0.Vd,λb _ _=>ã b,λb z=>absurd z (ã b),e0.sW,e0.YA⟩,
  rfl,e0.bare,Un.kept hk,⟨_,x.toInCall.ns,λi y v h1 h2 h3=>?_⟩,λy c h=>⟨_,x.cell y c h⟩,e0.bH.fresh (Ao _),λy c h=>?_,λp hp=>absurd (show p∈([]:List (ci×Obj)) from hp) (by simp),e0.bH.kept hk,?_⟩
 ·exact name_of_addr x.apart (BQ h1) (BQ h2)
 ·rcases hy with hy | hy
  ·exact Gn hy
  ·exact absurd rfl (S.WC _ (BQ hy))
 ·exact D2 (x.above y c (BQ h))
 ·have hi:i < vs.length:=by
   unfold start at h2;by_cases hi:i < vs.length
   ·exact hi
   ·rw [AA (by simpa using hi)] at h2;rw [Bz] at h2
    split at h2 <;> cases h2
  have ha:vs[i]?=ap v:=by
   unfold start at h2;rw [AE (by simpa using hi),Aj] at h2;cases e:vs[i]? with
   | none=>rw [e] at h2;cases h2
   | some a=>rw [e] at h2;cases h2;rfl
  obtain⟨u,hu,rv⟩:=r.get ha;have hp:ps[i]?=ap y:=by
   rw [<- S.pre,List.getElem?_take_of_lt ∅];exact h1
  have ndP:ps.Nodup:=by rw [<- S.pre];exact S.nd.sublist (List.take_sublist _ _)
  refine⟨u,rv,?_⟩;rcases S.par y (Bm hp) with k | k
  ·exact .inl ⟨k,vM ndP hp hu k⟩
  ·obtain⟨c,e⟩:=Gn (n:=s.heap.objs.size+1) k;refine .inr ⟨.inl k,c,e,?_⟩;have q:=x.cell y c e;rw [vO ndP hp hu (by show scope.names.lookup y≠_;rw [k];decide)] at q;exact q
 ·exact e0.bH.fresh (D2 (x.above y c (BQ h)))
 ·unfold start;show _=N.length;rw [Ad,Ag,A9];omega
def abg {CX:MN}{K:Ab}{k:Nat}{f:ci}{name:Str}{params:Arguments}{dV kV:ce}{N:List Str}{sp:Sp} (lk:K.lookup f=ap ⟨oc,od,.func (BZ name qual params body scope dV kV È pm an cK ct),RU⟩) (iV:D3 K cK qual=true) (S:ar N ps scope)
  (len:∀vs H Q E,sp vs H Q E->vs.length=ps.length)
  (OW:∀(A:pr) (outer:List Env) (s:cr) (H:Hp) (vs:List V) (Q:VK) (E:XK),cL k (A.deeper (sn qual scope s.heap.objs.size f cK))->sp vs H Q E->
   ∃t,qY (i7 CX P w K mg base N qual scope f cK A outer s H E) body t/\t {nx:=λ_ H'=>Q .aO H',rt:=Q} (start N vs) H) :
  gJ P w K mg base CX (k+1) f (BZ name qual params body scope dV kV È pm an cK ct) ps sp:=by
 refine⟨len,λA outer s H args us vs Q E hr e0 hb r SR=>?_⟩;have hl:=len _ _ _ _ SR;have KX:K.In s.heap:=e0.mod.kin.keeps λb o e=>(e0.bs b o e).1;have lim:s.heap.NoLimit:=e0.mod.nolimit.keeps λb o e=>(e0.bs b o e).1;have aaU:∀y∈ps.zip us,scope.names.lookup y.1=ap .local\/(scope.names.lookup y.1=ap .cell/\((cellsFrom (s.heap.objs.size+1) scope.names []).lookup y.1).isSome=true):=λ⟨n,v⟩ hy=>by
  rcases S.par n (E9 hy).1 with q | q
  ·exact .inl q
  ·exact .inr ⟨q,EM _ _ _ (.inl q)⟩
 refine codeAny_call_function hr.depth (KX _ _ lk) rfl S.co S.gen rfl (PySem.W.codeRec_of KX iV) (hb _ _ _ _ ?_);refine wpAny_newFunctionEnv_cells S.kind aaU λenv he s1 x=>?_;subst he;refine⟨lim.keeps x.toInCall.keep,codeAny_func ?_⟩;obtain⟨t,ht,hq⟩:=OW A outer s H vs Q E (hr.deeper _) SR;have I:Inv (i7 CX P w K mg base N qual scope f cK A outer s H E) [] (start N vs) H s1:=Lr S hr.hd e0 hl r x;refine BO (ht [] s1 (start N vs) H _ I hq) (λfl s' hs=>?_) λe s' hs=>hs;have fin:∀{σ':St}{H':Hp}{v:V}{u:ce},Inv (i7 CX P w K mg base N qual scope f cK A outer s H E) [] σ' H' s'->RelV v u->Q v H'->CE outer P w H s Q u s':=
  λ{σ' H' v u} J rv q=>⟨v,H',J.os,J.bare,J.base,J.bH,rv,q⟩
 cases fl with
 | ret u=>
  obtain⟨v,σ',H',J,rv,q⟩:=hs;exact fin J rv q
 | next=>
  obtain⟨σ',H',J,q⟩:=hs;exact fin (v:=V.aO) (u:=AZ) J rfl q
 | brk=>
  obtain⟨_,_,_,q⟩:=hs;exact Bs q
 | cont=>
  obtain⟨_,_,_,q⟩:=hs;exact Bs q
end L2
variable {T:String}
namespace L2
open PySem PySem.Spec PyProof.Rows
section
variable {t:TA}{id:String}{r:List V->Hp->VK->Prop}
def tCB (r:List V->Hp->VK->Prop) (t:TA):TE:=λσ H Q=>t σ H λvs H1=>r vs H1 Q
def fZ (hc:bR X (.builtin id) r) (hg:Gl X x) (hm:X.mg x=bm) (hv:nn x=ap (.builtin id)) (ha:PA X (e::es) t) (hn:x≠"__name__":=by decide) (ma:jg x:=by decide)
  (he:iB X e es:=by rfl) (dJ:lH X pos es:=by rfl):PE X (.Call (.Name x p) (e::es) [] pos) (tCB r t):=by
 intro Z s σ H Q I h;refine BB (jY I hg hm hv ?_ hn ma);exact PyProof.Rows.callWith_builtin1 (bC (ha pos Z s σ H _ I h) λus s1 ⟨vs,H1,I1,r1,q1⟩=>hc Z s1 σ H1 vs us Q I1 r1 q1) he dJ
def jq (hc:bR X (.type T) r) (hg:Gl X x) (hm:X.mg x=bm) (hv:nn x=ap (.type T)) (ha:PA X (e::es) t) (hn:x≠"__name__":=by decide) (ma:jg x:=by decide)
  (he:iB X e es:=by rfl) (dJ:lH X pos es:=by rfl):PE X (.Call (.Name x p) (e::es) [] pos) (tCB r t):=by
 intro Z s σ H Q I h;refine BB (jY I hg hm hv ?_ hn ma);exact Bp (bC (ha pos Z s σ H _ I h) λus s1 ⟨vs,H1,I1,r1,q1⟩=>hc Z s1 σ H1 vs us Q I1 r1 q1) he dJ
end
end L2
variable {hi:Option Int}{prog:PySem.Program}{l:BK}{items:Array Bb}{ns ms:List Int}{vl vu:Bb}
namespace HT
open PySem PyProof.Rows
def lexLt:List Int->List Int->Bool
 | [],[]=>false
 | [],_::_=>true
 | _::_,[]=>false
 | x::xs,y::ys=>if x=y then lexLt xs ys else decide (x < y)
theorem Ht (x y:Int) (xs ys:List Int):lexLt (x::xs) (y::ys)=if x=y then lexLt xs ys else decide (x < y):=rfl
def Pq (A:pr) (s:cr) (a:Int) (t:Tok) (c:Int) (u:Tok):∃e,Dp A s (.int a t) (.int c u) e/\(e=true↔a=c):=
 ⟨(a==c),D5 a t c u,by simp⟩
def Nu (A:pr) (s:cr) (a:Int) (t:Tok) (c:Int) (u:Tok) (prog:sw) (w:t0) (E:ce->cr->Prop) (Q:ce->cr->Prop) (h:Q (.bool (decide (a < c))) s) :
  db (dL prog w) A (richCompare .Lt (.int a t) (.int c u)) Q E s:=
 (PyProof.Rows.lt_int h:db (dL prog w) A (im .Lt (.int a t) (.int c u)) Q E s)
section
open PySem.SeqAt
open PySem.AutoSeq1 (wpAny_loadPart')
open PySem.MeetsSeq PySem.MeetsSeq2 PySem.MeetsSeq3
theorem uk (l b:ci) (items cp:Array ce) (n n2:Nat) (dd Tx:Option ci) (sl Qx:Array (Option ce)) (ns ms:List Int) (hi:wS items.toList ns) (hj:wS cp.toList ms) :
  Meets (wT.«tuple.__lt__» ⟨[.ref l,.ref b],[]⟩)
   (λ_ R s=>s.heap.get? l=ap {cls:=.type "tuple",dict:=dd,data:=.seq items n,slots:=sl}/\s.heap.get? b=ap {cls:=.type "tuple",dict:=Tx,data:=.seq cp n2,slots:=Qx}/\
    R (.ok (.ret (.bool (lexLt ns ms)))) s):=
 .of_wp λprog w A R s h=>by
  obtain⟨hp,g,d,tk,os⟩:=s;obtain⟨hl,hb,h⟩:=h;have f2:=AutoSeq1.sub_tuple_tuple;have z1:items.size=ns.length:=by rw [<- hi.length];simp
  have z2:cp.size=ms.length:=by rw [<- hj.length];simp
  wp_walk using wpAny_loadPart' hl,wpAny_loadPart' hb,wpAny_forIn_list _ (λrest b s'=>b.1=bm/\s'=⟨hp,g,d,tk,os⟩/\∃(vs ws:List ce) (JP Ys:List Int),rest=vs.zip ws/\
   wS vs JP/\wS ws Ys/\JP.length+cp.size=Ys.length+items.size/\R (.ok (.ret (.bool (lexLt JP Ys)))) ⟨hp,g,d,tk,os⟩) _
  case turn=>
   rintro⟨y,x⟩ rest b s' ⟨Č,rfl,vs,ws,JP,Ys,hz,hvi,hwi,Á,hR⟩;cases hvi with
   | nil=>rw [List.zip_nil_left] at hz;cases hz
   | cons a t aez=>
    cases hwi with
    | nil=>rw [List.zip_nil_right] at hz;cases hz
    | cons c u aey=>
     rw [List.zip_cons_cons] at hz;injection hz with hyx aaO;injection hyx with hy hx;subst hy hx;rw [Ht] at hR;simp only [An] at Á;obtain⟨e,he,aaX⟩:=Pq A.in1 ⟨hp,g,d,tk,os⟩ a t c u;refine Aa (he prog w _ _ ?_);cases e with
     | true=>
      rw [if_pos (aaX.mp rfl)] at hR
      wp_walk
      exact⟨rfl,rfl,_,_,_,_,aaO,aez,aey,by omega,hR⟩
     | false=>
      rw [if_neg (λq=>absurd (aaX.mpr q) AW)] at hR;have hri:=Nu A.in1 ⟨hp,g,d,tk,os⟩ a t c u prog w
      wp_walk using hri
      exact⟨_,rfl,by simpa using hR⟩
  case fin=>
   rintro⟨b1,b2⟩ s' ⟨Č,rfl,vs,ws,JP,Ys,hz,hvi,hwi,Á,hR⟩;simp only at Č;subst Č;have hv:lexLt JP Ys=decide (items.size < cp.size):=by
    cases hvi with
    | nil=>
     cases hwi with
     | nil=>
      exact (decide_eq_false ∅).symm
     | cons c u hw=>
      simp only [AN,An] at Á;exact (decide_eq_true ∅).symm
    | cons a t hv=>
     cases hwi with
     | nil=>
      simp only [AN,An] at Á;exact (decide_eq_false ∅).symm
     | cons c u hw=>
      rw [List.zip_cons_cons] at hz;cases hz
   rw [hv] at hR
   wp_walk
   exact⟨_,rfl,by simpa [Builtin.Tuple.tupleCompareSizes] using hR⟩
  case h=>
   exact⟨rfl,rfl,items.toList,cp.toList,ns,ms,rfl,hi,hj,by omega,h⟩
end
section
def Hq {cp:Array ce} (hl:IsTup s.heap l items) (hb:IsTup s.heap b cp) (hi:wS items.toList ns) (hj:wS cp.toList ms)
  (hu:A.units < o0) (h:Q (.bool (lexLt ns ms)) s):db (dL prog w) A (im .Lt (.ref l) (.ref b)) Q E s:=by
 obtain⟨⟨cls,dd,data,sl⟩,ho,hc,n,hd⟩:=id hl;obtain⟨⟨X1,Tx,data2,Qx⟩,Lw,OV,n2,Ç⟩:=id hb;simp only at hc hd OV Ç;subst hc hd OV Ç;exact richCompare_meets_room (op:=.Lt) ⟨_,ho,rfl⟩ ⟨_,Lw,rfl⟩ PySem.F.slot_tuple_lt PySem.F.entry_tuple_lt (PySem.F.args_tuple_lt_2 _ _) (uk l b items cp n n2 dd Tx sl Qx ns ms hi hj)
  ⟨ho,Lw,show Ca (lexLt ns ms)≠Value.notImplemented/\Q (.bool (lexLt ns ms)) s from⟨(λx=>nomatch x),h⟩⟩ hu
def TH {t:ci}{vs ws:List ce} (ht:IsTup s.heap t vs.toArray) (hb:IsTup s.heap b ws.toArray) (hv:vs≠[])
  (h1:ws=[]->Q (.ref t) s) (h2:ws≠[]->Q (.ref s.heap.objs.size) {s with heap:=s.heap.push {cls:=.type "tuple",data:=.seq (vs++ws).toArray}})
  (hsz:vs.length+ws.length<=sizeLine):db (dL prog w) A (r9 .Add (.ref t) (.ref b)) Q E s:=by
 obtain⟨⟨cls,dd,data,sl⟩,ho,hc,n,hd⟩:=id ht;obtain⟨⟨X1,Tx,data2,Qx⟩,Lw,OV,n2,Ç⟩:=id hb;simp only at hc hd OV Ç;subst hc hd OV Ç;have e:vs.toArray++ws.toArray=(vs++ws).toArray:=by simp
 by_cases hw:ws=[]
 ·exact concat_meets ⟨_,ho,rfl⟩ ⟨_,Lw,rfl⟩ noFill_tuple_add seq_tuple_add Df C9 (CZ _ _)
   (tuple_addW1 t b vs.toArray ws.toArray n n2 dd Tx sl Qx (by simpa using hv) (by simp [hw])) ⟨ho,Lw,h1 hw⟩
 ·refine concat_meets ⟨_,ho,rfl⟩ ⟨_,Lw,rfl⟩ noFill_tuple_add seq_tuple_add Df C9 (CZ _ _)
   (tuple_addW2 t b vs.toArray ws.toArray n n2 dd Tx sl Qx (by simpa using hv) (by simpa using hw) (by rw [Ai,Ai];exact hsz)) ⟨ho,Lw,?_⟩
  rw [e];exact h2 hw
def dX (n d:Nat):Option Int->Nat
 | none=>d
 | some v=>if v < 0 then (v+(n:Int)).toNat else min v.toNat n
theorem za (n d:Nat):dX n d bm=d:=rfl
theorem JB (n d k:Nat):dX n d (ap (k:Int))=min k n:=by
 show (if (k:Int) < 0 then ((k:Int)+(n:Int)).toNat else min (k:Int).toNat n)=min k n;rw [if_neg ∅,A4]
theorem Kt (v:Int) (n d:Nat):(if v < 0 then max (v+(n:Int)) 0 else min v (n:Int))=((dX n d (ap v):Nat):Int):=by
 show (if v < 0 then max (v+(n:Int)) 0 else min v (n:Int))=(((if v < 0 then (v+(n:Int)).toNat else min v.toNat n):Nat):Int);by_cases hv:v < 0
 ·simp only [if_pos hv];omega
 ·simp only [if_neg hv];omega
theorem IM (lo hi:Option Int) (n:Nat):Builtin.Slice.sliceAdjust lo hi 1 (n:Int)=(((dX n 0 lo:Nat):Int),((dX n n hi:Nat):Int)):=by
 have h1:¬((1:Int) < 0):=by omega
 unfold Builtin.Slice.sliceAdjust;refine Prod.ext ?_ ?_
 ·cases lo with
  | none=>rfl
  | some v=>exact Kt v n 0
 ·cases hi with
  | none=>rfl
  | some v=>exact Kt v n n
theorem G9 (i j:Nat):Builtin.Slice.slicePlaces (i:Int) (j:Int) 1=j-i:=by
 unfold Builtin.Slice.slicePlaces;have h1:(1:Int) > 0:=by omega
 split <;> omega
def gU {o:Option Int}{Q:Option Int->cr->Prop} (p:IsPart v o) (h:Q o s):db (dL prog w) A (Builtin.Slice.slicePartIndex v) Q E s:=by
 cases p with
 | none=>exact slicePart_none h
 | int i t=>exact slicePart_int h
def jo {sl:ci}{lo:Option Int}{Q:Int×Int×Nat->cr->Prop} (hs:s.heap.IsSliceOf sl vl vu .none) (pl:IsPart vl lo) (pu:IsPart vu hi)
  (h:Q (((dX n 0 lo:Nat):Int),1,dX n n hi-dX n 0 lo) s):db (dL prog w) A (Builtin.Slice.sliceApplied (.ref sl) (pure (n:Int))) Q E s:=by
 obtain⟨os,t4,Ly,yH⟩:=id hs;refine Aa (Aa (A1 t4 yH (x:=vl) rfl (Aa (A1 t4 yH (x:=vu) rfl (Aa (A1 t4 yH (x:=.none) rfl (Af ?_)))))));refine Aa (slicePart_none ?_);refine Aa (gU pl (Aa (gU pu (Aa (Af ?_)))));show db _ _ (match Builtin.Slice.sliceAdjust lo hi 1 (n:Int) with | (lo,hi)=>pure (lo,(1:Int),Builtin.Slice.slicePlaces lo hi 1)) _ _ s;rw [IM lo hi n];show db _ _ (pure (((dX n 0 lo:Nat):Int),(1:Int),Builtin.Slice.slicePlaces ((dX n 0 lo:Nat):Int) ((dX n n hi:Nat):Int) 1)) _ _ s;rw [G9];exact Af h
theorem NK (xs:Array ce) (i k:Nat):((Av k).filterMap λ(m:Nat)=>xs[((i:Int)+(m:Int)*1).toNat]?).toArray=((xs.toList.drop i).take k).toArray:=by
 have e:(λ(m:Nat)=>xs[((i:Int)+(m:Int)*1).toNat]?)=λm=>xs[i+m]?:=by
  funext m;have:((i:Int)+(m:Int)*1).toNat=i+m:=by omega
  rw [this]
 rw [e];have:=pick_run xs i k;rw [List.filterMap_map] at this;have e2:((λx=>xs[x]?)∘λx=>i+x)=λm=>xs[i+m]?:=rfl;rw [e2] at this;rw [this]
theorem nW {t sl:ci}{lo:Option Int} (ht:IsTup s.heap t items) (hs:s.heap.IsSliceOf sl vl vu .none) (pl:IsPart vl lo) (pu:IsPart vu hi)
  (hw:¬(dX items.size 0 lo=0/\dX items.size items.size hi=items.size))
  (h:Q (.ref s.heap.objs.size) {s with heap:=s.heap.push {cls:=.type "tuple",data:=.seq ((items.toList.drop (dX items.size 0 lo)).take (dX items.size items.size hi-dX items.size 0 lo)).toArray}})
  (hsz:items.size<=sizeLine):db (dL prog w) A (zn (.ref t) (.ref sl)) Q E s:=by
 have J9:sizeOk (.seq ((items.toList.drop (dX items.size 0 lo)).take (dX items.size items.size hi-dX items.size 0 lo)).toArray):=by
  show ((items.toList.drop (dX items.size 0 lo)).take (dX items.size items.size hi-dX items.size 0 lo)).toArray.size<=sizeLine;rw [Ai,Cm,CV,DV];omega
 obtain⟨os,t4,Ly,yH⟩:=id hs;have UX:s.TypeIs (.ref sl) "slice":=⟨os,t4,Ly⟩;unfold zn
 try with_reducible refine Bc ?_
 first | refine Aa (Af ?_) | skip
 refine Aa (Dg ht.typeIs ⋯ ?_);refine Aa (AX (name:=Cg "__getitem__") ht.typeIs AV
  (Bg AV ht.typeIs entry_tuple_getitem ?_ (args_tuple_getitem _ _)))
 show db _ _ (Builtin.Tuple.tupleItemsOf (.ref t) >>= _) _ _ s;refine Aa (tupleItemsOf_ ht ?_);refine Aa (Cj UX ?_);refine Aa (jo hs pl pu ?_);have hno:¬((((dX items.size 0 lo:Nat):Int)==0&&(1:Int)==1&&(dX items.size items.size hi-dX items.size 0 lo)==items.size)=true):=by
  intro q;rw [Az,Az] at q;have q1:=eq_of_beq q.1.1;have q2:=eq_of_beq q.2;exact hw ⟨by omega,by omega⟩
 show db _ _ (if (((dX items.size 0 lo:Nat):Int)==0&&(1:Int)==1&&(dX items.size items.size hi-dX items.size 0 lo)==items.size)=true then _ else _) _ _ s;rw [if_neg hno,NK]
 first
  | exact Aa (m:=Builtin.Tuple.tupleExact _) (A2 (Af ⟨_,rfl,Af h⟩) J9)
  | exact Aa (m:=Builtin.Tuple.tupleExact _) (A2 (Aa (Af (Af ⟨_,rfl,Af h⟩))) J9)
  | exact Aa (Aa (m:=Builtin.Tuple.tupleExact _) (A2 (Af (Af ⟨_,rfl,Af h⟩)) J9))
  | exact Aa (Aa (m:=Builtin.Tuple.tupleExact _) (A2 (Af ⟨_,rfl,Af h⟩) J9))
end
end HT
variable {p2:Cu}
namespace L2
open PySem PySem.Spec PyProof.Rows
abbrev TO:=St->Hp->(Option Int->Hp->Prop)->Prop
def PO (X:Cx) (e:Option gt) (t:TO):Prop:=
 ∀(Z:List (ci×Obj)) (s:cr) (σ:St) (H:Hp) (Q:Option Int->Hp->Prop),Inv X Z σ H s->t σ H Q->
  db (dL X.prog X.w) X.A (evalPart e X.env) (λu s'=>∃o H',Inv X Z σ H' s'/\IsPart u o/\Q o H') X.xe s
def Q4:TO:=λ_ H Q=>Q bm H
def Zf (t:TE):TO:=λσ H Q=>t σ H λx H1=>∃i,x=.int i/\Q (ap i) H1
def intsAre_of:∀{us:List ce},Vals (ns.map V.int) us->wS us ns:=by
 induction ns with
 | nil=>intro us r;rw [EW] at r;cases r;exact .nil
 | cons n ns ih=>
  intro us r;rw [Aw] at r;cases r with
  | cons r1 r2=>
   obtain⟨t,e⟩:=r1;subst e;exact .cons n t (ih r2)
section
variable {lo hi:Option gt}{tl th:TO}
def RF:PO X bm Q4:=by
 intro Z s σ H Q I h;exact Af ⟨bm,H,I,.none,h⟩
def RE (h:PE X e te):PO X (ap e) (Zf te):=by
 intro Z s σ H Q I hw;refine bC (h Z s σ H _ I hw) λu s1 ⟨x,H1,I1,r1,q1⟩=>?_;obtain⟨i,rfl,q⟩:=q1;obtain⟨t,rfl⟩:=r1;exact⟨ap i,H1,I1,.int i t,q⟩
def SlR (X:Cx) (r:V->Option Int->Option Int->Hp->VK->Prop):Prop:=
 ∀(Z:List (ci×Obj)) (s:cr) (σ:St) (H:Hp) (x:V) (v vl vu:ce) (lo hi:Option Int) (sl:ci) (Q:VK),Inv X Z σ H s->RelV x v->s.heap.IsSliceOf sl vl vu .none->IsPart vl lo->IsPart vu hi->r x lo hi H Q->
  ∃T id,Fk (.type T) "__getitem__"=pure (ap (.builtin id))/\s.TypeIs v T/\db (dL X.prog X.w) X.A (zn v (.ref sl)) (EP X Z σ Q) X.xe s
def tSl (r:V->Option Int->Option Int->Hp->VK->Prop) (te:TE) (tl th:TO):TE:=λσ H Q=>te σ H λx H1=>tl σ H1 λl H2=>th σ H2 λu H3=>r x l u H3 Q
def zm {r:V->Option Int->Option Int->Hp->VK->Prop} (hr:SlR X r) (he:PE X e te) (hl:PO X lo tl) (hu:PO X hi th):PE X (.Subscript e (.Slice lo hi bm p2) pos) (tSl r te tl th):=by
 intro Z s σ H Q I h;refine Subscript_ (bC (he Z s σ H _ I h) λv s1 ⟨x,H1,I1,r1,q1⟩=>?_);refine wpAny_Slice (bC (hl Z s1 σ H1 _ I1 q1) λvl s2 ⟨l,H2,I2,pl,q2⟩=>bC (hu Z s2 σ H2 _ I2 q2) λvu s3 ⟨u,H3,I3,pu,q3⟩=>?_);rw [evalPart_none];refine Af ?_;have I4:Inv X Z σ H3 {s3 with heap:=s3.heap.push {cls:=.type "slice",data:=.fields #[vl,vu,.none]}}:=I3.kept (t':=s3.toks) λb ob q=>Ah _ q;obtain⟨T,id,hT,ht,hg⟩:=hr Z {s3 with heap:=s3.heap.push {cls:=.type "slice",data:=.fields #[vl,vu,.none]}} σ H3 x v vl vu l u s3.heap.objs.size Q I4 r1 (D6.new ..) pl pu q3;show db (dL X.prog X.w) X.A (subscriptTail e (.Slice lo hi bm p2) v (.ref s3.heap.objs.size)) (EP X Z σ Q) X.xe {s3 with heap:=s3.heap.push {cls:=.type "slice",data:=.fields #[vl,vu,.none]}};exact tail_any (ops:=[.ref s3.heap.objs.size,v]) ht hT hg (by with_unfolding_all rfl)
def yh (xs:List V) (lo hi:Option Int):List V:=(xs.drop (HT.dX xs.length 0 lo)).take (HT.dX xs.length xs.length hi-HT.dX xs.length 0 lo)
theorem pO (xs:List V) (lo hi:Option Int):(yh xs lo hi).length<=xs.length:=by
 unfold yh;rw [Cm,CV];omega
def adQ (K:Ab):V->Option Int->Option Int->Hp->VK->Prop:=λx lo hi H Q=>∃a xs,x=.ref a/\dU K H a xs/\
 ¬(HT.dX xs.length 0 lo=0/\HT.dX xs.length xs.length hi=xs.length)/\∀p,H p=bm->Q (.ref p) (upd H p (.tup (yh xs lo hi)))
def VF:SlR X (adQ X.K):=by
 intro Z s σ H x v vl vu lo hi sl Q I rx hs pl pu h;obtain⟨a,xs,rfl,hx,hw,q⟩:=h;cases rx;obtain⟨aw,r,ht,hz⟩:=I.tuple hx;have Á:aw.toArray.size=xs.length:=by rw [Ai];exact r.length.symm
 refine⟨"tuple",_,AV.lookup,ht.typeIs,?_⟩;refine HT.nW ht hs pl pu (by rw [Á];exact hw) ?_ (by rw [Á];exact hz);rw [Á];refine⟨.ref s.heap.objs.size,_,I.laid (t':=s.toks) (o:=.tup (yh xs lo hi)) (λb ob q=>Ah _ q) (Ao _) ?_,rfl,q _ (I.bH.fresh (Ao _))⟩;exact⟨A7 (pO xs lo hi) hz,_,(r.drop (HT.dX xs.length 0 lo)).take (HT.dX xs.length xs.length hi-HT.dX xs.length 0 lo),FR _ _⟩
def Uw (K:Ab):R2:=λx y H Q=>∃a b xs ys,x=.ref a/\y=.ref b/\dU K H a xs/\dU K H b ys/\xs≠[]/\xs.length+ys.length<=sizeLine/\
 (ys=[]->Q (.ref a) H)/\(ys≠[]->∀p,H p=bm->Q (.ref p) (upd H p (.tup (xs++ys))))
def Vals.jV (r:Vals xs us):us=[]↔xs=[]:=by
 cases r with
 | nil=>simp
 | cons _ _=>simp
def JO:ir X (r9 .Add) (Uw X.K):=by
 intro Z s σ H x y v u Q I rx ry h;obtain⟨a,b,xs,ys,rfl,rfl,ha,hb,hx,hz,q1,q2⟩:=h;cases rx;cases ry;obtain⟨aw,r1,p1,_⟩:=I.tuple ha;obtain⟨cJ,r2,p2,_⟩:=I.tuple hb;refine HT.TH p1 p2 (λz=>hx (r1.jV.mp z)) (λz=>⟨.ref a,H,I,rfl,q1 (r2.jV.mp z)⟩) (λz=>?_) (by rw [<- r1.length,<- r2.length];exact hz);refine⟨.ref s.heap.objs.size,_,I.laid (t':=s.toks) (o:=.tup (xs++ys)) (λb ob q=>Ah _ q) (Ao _) ?_,rfl,q2 (λw=>z (r2.jV.mpr w)) _ (I.bH.fresh (Ao _))⟩;exact⟨by rw [Ad];exact hz,_,r1.append r2,FR _ _⟩
end
end L2
variable {r':L2.R2}{its':List Bb}
namespace L2
open PySem PySem.Spec PyProof.Rows
def mn (n:Nat) (i:Int):Option Nat:=if 0<=i then (if i < n then ap i.toNat else bm) else if -(n:Int)<=i then ap (i+n).toNat else bm
def bX (xs:List α) (i:Int):Option α:=(mn xs.length i).bind λj=>xs[j]?
theorem xk (h:mn n i=ap j):seqIndex? i n=ap j/\j < n/\-(n:Int)<=i/\i < n:=by
 unfold mn at h;by_cases h0:0<=i
 ·rw [if_pos h0] at h;by_cases h1:i < n
  ·rw [if_pos h1] at h;have e:=Option.some.inj h;exact⟨by rw [seqIndex_of h0 h1,e],by omega,by omega,h1⟩
  ·rw [if_neg h1] at h;cases h
 ·rw [if_neg h0] at h;by_cases h1:-(n:Int)<=i
  ·rw [if_pos h1] at h;have e:=Option.some.inj h;exact⟨by rw [seqIndex_neg ∅ h1,e],by omega,h1,by omega⟩
  ·rw [if_neg h1] at h;cases h
def ym {xs:List α}{v:α} (h:bX xs i=ap v):∃j,seqIndex? i xs.length=ap j/\xs[j]?=ap v/\j < xs.length/\-(xs.length:Int)<=i/\i < xs.length:=by
 unfold bX at h;cases e:mn xs.length i with
 | none=>rw [e] at h;cases h
 | some j=>
  rw [e] at h;obtain⟨h1,h2,h3,h4⟩:=xk e;exact⟨j,h1,h,h2,h3,h4⟩
theorem bw {xs:List α}{v:α} (h:xs[j]?=ap v):bX xs (j:Int)=ap v:=by
 have hj:=(Am.mp h).1;have e:mn xs.length (j:Int)=ap j:=by
  unfold mn;rw [if_pos ∅,if_pos ∅];simp
 unfold bX;rw [e];exact h
theorem Qi (xs:List α) (v:α):bX (xs++[v]) (-1)=ap v:=by
 have hl:(xs++[v]).length=xs.length+1:=by simp
 have e:mn (xs++[v]).length (-1)=ap xs.length:=by
  unfold mn;rw [hl,if_neg ⋯,if_pos ∅];congr 1;omega
 unfold bX;rw [e];simp
def qX (b:gt):Prop:=∀o i,subscripted b false o i=operate [o,i] (zn o i)
def QG (X:Cx) (r:R2):Prop:=
 ∀(value slice:gt) (Z:List (ci×Obj)) (s:cr) (σ:St) (H:Hp) (x y:V) (v u:ce) (Q:VK),Inv X Z σ H s->RelV x v->RelV y u->r x y H Q->
  subscripted slice false v u=operate [v,u] (zn v u)->db (dL X.prog X.w) X.A (subscriptTail value slice v u) (EP X Z σ Q) X.xe s
def MtR (X:Cx) (id:String) (r:V->List V->Hp->VK->Prop):Prop:=
 ∀(Z:List (ci×Obj)) (s:cr) (σ:St) (H:Hp) (x:V) (xs:List V) (v:ce) (us:List ce) (Q:VK),Inv X Z σ H s->RelV x v->Vals xs us->r x xs H Q->
  db (dL X.prog X.w) X.A (call (.builtin id) (v::us)) (EP X Z σ Q) X.xe s
section
variable {X:Cx}{a b:gt}{ta tb:TE}{pos:Pos}
def QG.or {r:R2} (h:QG X r) (h':QG X r'):QG X (λx y H Q=>r x y H Q\/r' x y H Q):=by
 intro value slice Z s σ H x y v u Q I rx ry q hs;rcases q with q | q
 ·exact h value slice Z s σ H x y v u Q I rx ry q hs
 ·exact h' value slice Z s σ H x y v u Q I rx ry q hs
def NR {r:R2} (hr:QG X r) (ha:PE X a ta) (hb:PE X b tb) (hs:qX b):PE X (.Subscript a b pos) (Uk r ta tb):=by
 intro Z s σ H Q I h;exact Subscript_ (X5 ha hb I h λv u s2 x y H2 I2 rx ry q=>hr a b Z s2 σ H2 x y v u Q I2 rx ry q (hs _ _))
def ZL (K:Ab):R2:=λx y H Q=>∃p xs i v,x=.ref p/\y=.int i/\di K H p xs/\bX xs i=ap v/\Q v H
def ZK (K:Ab):R2:=λx y H Q=>∃p xs i v,x=.ref p/\y=.int i/\dU K H p xs/\bX xs i=ap v/\Q v H
def VY:R2:=λx y H Q=>∃z i c,x=.str z/\y=.int i/\z.length<=sizeLine/\bX z.cps.toList i=ap c/\Q (.str ⟨#[c]⟩) H
theorem SE:QG X (ZL X.K):=by
 intro value slice Z s σ H x y v u Q I rx ry h hs;obtain⟨p,xs,i,z,rfl,rfl,hq,he,q⟩:=h;cases rx;obtain⟨t,rfl⟩:=ry;obtain⟨aw,r,pl,hz⟩:=I.list hq;obtain⟨j,h1,h2,h3,h4,h5⟩:=ym he;obtain⟨w,ew,iT⟩:=r.get h2;have hl:=r.length;have hn:=xb;have fin:EP X Z σ Q w s:=⟨z,H,I,iT,q⟩;by_cases h0:0<=i
 ·have hj:i.toNat=j:=by
   rw [seqIndex_of h0 h5] at h1;exact Option.some.inj h1
  exact item_listR pl.isList h0 ∅ (by rw [hj];simpa using ew) fin hs
 ·have hj:(i+(aw.toArray.size:Int)).toNat=j:=by
   rw [seqIndex_neg ∅ h4] at h1;rw [Ai,<- hl];exact Option.some.inj h1
  exact subscriptTail_builtinR (x:=w) pl.isList.typeIs slot_list_getitem.lookup
   (wpAny_getItem_list_neg (Q:=λr s'=>r=w/\EP X Z σ Q r s') pl.isList ∅ (by rw [Ai] <;> omega) ∅ (by rw [hj];simpa using ew) ⟨rfl,fin⟩) hs
theorem Xc:QG X (ZK X.K):=by
 intro value slice Z s σ H x y v u Q I rx ry h hs;obtain⟨p,xs,i,z,rfl,rfl,hq,he,q⟩:=h;cases rx;obtain⟨t,rfl⟩:=ry;obtain⟨aw,r,pl,hz⟩:=I.tuple hq;obtain⟨j,h1,h2,h3,h4,h5⟩:=ym he;obtain⟨w,ew,iT⟩:=r.get h2;have hl:=r.length;have hn:=xb;have fin:EP X Z σ Q w s:=⟨z,H,I,iT,q⟩;exact subscriptTail_builtinR (x:=w) pl.typeIs slot_tuple_getitem.lookup
  (getItem_tuple (j:=j) (Q:=λr s'=>r=w/\EP X Z σ Q r s') pl ∅ ∅ (by rw [Ai,<- hl];exact h1) (by simpa using ew) ⟨rfl,fin⟩) hs
theorem OB:QG X VY:=by
 intro value slice Z s σ H x y v u Q I rx ry h hs;obtain⟨z,i,c,rfl,rfl,hz,he,q⟩:=h;obtain⟨t,rfl⟩:=rx;obtain⟨t',rfl⟩:=ry;obtain⟨j,h1,h2,h3,h4,h5⟩:=ym he;have hl:z.cps.toList.length=z.length:=by simp [Str.length]
 rw [hl] at h1 h4 h5;have hn:=xb;exact tail_any (typeIs_str s z t) slot_str_getitem.lookup (getItem_str (c:=c) (by
  have e1:decide (i < -(2 ^ 63:Int))=false:=decide_eq_false ∅;have e2:decide (i≥2 ^ 63)=false:=decide_eq_false ∅;rw [e1,e2,Bool.or_false]) (by rw [h1];simpa using h2) ⟨.str ⟨#[c]⟩,H,I.tok _,⟨_,rfl⟩,q⟩) hs
def rIx (K:Ab):R2:=λx y H Q=>ZL K x y H Q\/ZK K x y H Q\/VY x y H Q
def Xd:QG X (rIx X.K):=SE.or (Xc.or OB)
def Ho (aw:List ce) (n j:Nat) (u:ce):Bq (·.setIfInBounds j u) {cls:=.type "list",data:=.seq aw.toArray n}={cls:=.type "list",data:=.seq (aw.set j u).toArray n}:=by
 simp [Bq]
def Inv.lst {Z:List (ci×Obj)}{σ:St}{H:Hp}{s:cr}{p:ci}{xs:List V} (I:Inv X Z σ H s) (h:H p=ap (.lst xs)) :
  ∃(aw:List ce) (n:Nat),Vals xs aw/\s.heap.get? p=ap {cls:=.type "list",data:=.seq aw.toArray n}/\xs.length<=sizeLine:=by
 obtain⟨z,aw,n,r,e⟩:=I.bH p _ h;exact⟨aw,n,r,e,z⟩
def Inv.WN {p:ci}{n':Nat}{f:Obj->Obj} (I:Inv X Z σ H s) (h:H p=ap (.lst xs))
  (ho:s.heap.get? p=ap {cls:=.type "list",data:=.seq aw.toArray n}) (hf:f {cls:=.type "list",data:=.seq aw.toArray n}={cls:=.type "list",data:=.seq its'.toArray n'}) (r:Vals ys its') (hz:ys.length<=sizeLine) (t:Nat) :
  Inv X Z σ (upd H p (.lst ys)) {s with heap:=s.heap.update p f,toks:=t}:=by
 have e:(s.heap.update p f).get? p=ap {cls:=.type "list",data:=.seq its'.toArray n'}:=by
  rw [CF f ho (by rw [hf] <;> rfl),hf]
 refine I.write (x:=p) (e:=p) (by rw [h];trivial) (.inl rfl) (λb u hb q=>(De _ _ (BG hb)).trans q) ⟨_,e⟩ ?_;exact⟨hz,its',n',r,e⟩
def ZI:V->V->V->Hp->(Hp->Prop)->Prop:=λo i v H Q=>∃p xs k j,o=.ref p/\i=.int k/\H p=ap (.lst xs)/\mn xs.length k=ap j/\Q (upd H p (.lst (xs.set j v)))
theorem set_list:Je X ZI:=by
 intro Z s σ H o i v ov iv u Q I ro ri rv h;obtain⟨p,xs,k,j,rfl,rfl,hp,hj,q⟩:=h;cases ro;obtain⟨t,rfl⟩:=ri;obtain⟨aw,n,r,ho,hz⟩:=I.lst hp;obtain⟨h1,h2,h3,h4⟩:=xk hj;have hl:=r.length;have hn:=xb;have I':Inv X Z σ (upd H p (.lst (xs.set j v))) {s with heap:=s.heap.update p (Bq (·.setIfInBounds j u))}:=
  I.WN hp ho (Ho aw n j u) (r.set rv j) (by rw [BH];exact hz) s.toks
 by_cases h0:0<=k
 ·have hk:k.toNat=j:=by
   rw [seqIndex_of h0 h4] at h1;exact Option.some.inj h1
  exact PySem.W.ki_setAt ho h0 ∅ (by rw [Ai,<- hl];exact h4) (by rw [hk];exact⟨_,I',q⟩)
 ·have hk:(k+(aw.toArray.size:Int)).toNat=j:=by
   rw [seqIndex_neg ∅ h3] at h1;rw [Ai,<- hl];exact Option.some.inj h1
  exact PySem.W.ki_setBack ho ∅ (by rw [Ai,<- hl];exact h3) ∅ (by rw [hk];exact⟨_,I',q⟩)
theorem wC (lo hi:Option Int) (n:Nat):(ul lo hi bm n).1=((HT.dX n 0 lo:Nat):Int)/\(ul lo hi bm n).2.1=((HT.dX n n hi:Nat):Int)/\(ul lo hi bm n).2.2=1:=by
 refine⟨?_,?_,rfl⟩
 ·cases lo with
  | none=>simp [ul,HT.dX]
  | some i=>
   simp only [ul,HT.dX,ED,show (1:Int) > 0 by decide,if_true];by_cases h:i < 0
   ·simp only [h,if_true] <;> omega
   ·simp only [h,if_false] <;> omega
 ·cases hi with
  | none=>simp [ul,HT.dX]
  | some i=>
   simp only [ul,HT.dX,ED,show (1:Int) > 0 by decide,if_true];by_cases h:i < 0
   ·simp only [h,if_true] <;> omega
   ·simp only [h,if_false] <;> omega
def uq (aw:List ce) (lo hi:Option Int):slicePick aw.toArray lo hi bm=((aw.drop (HT.dX aw.length 0 lo)).take (HT.dX aw.length aw.length hi-HT.dX aw.length 0 lo)).toArray:=by
 obtain⟨h1,h2,h3⟩:=wC lo hi aw.toArray.size;unfold slicePick;rw [h1,h2,h3];simp only [sliceRange_one,pick_run,Ai] <;> rfl
def adT (K:Ab):V->Option Int->Option Int->Hp->VK->Prop:=λx lo hi H Q=>∃a xs,x=.ref a/\di K H a xs/\∀p,H p=bm->Q (.ref p) (upd H p (.lst (yh xs lo hi)))
theorem ab7:SlR X (adT X.K):=by
 intro Z s σ H x v vl vu lo hi sl Q I rx hs pl pu h;obtain⟨a,xs,rfl,hx,q⟩:=h;cases rx;obtain⟨aw,r,ht,hz⟩:=I.list hx;have Á:=r.length;refine⟨"list",_,slot_list_getitem.lookup,ht.isList.typeIs,?_⟩;refine wpAny_getItem_list_slice ht.isList hs pl pu .none (by simp) ?_ (by rw [Ai] <;> omega);rw [uq,<- Á];refine⟨.ref s.heap.objs.size,_,I.laid (t':=s.toks) (o:=.lst (yh xs lo hi)) (λb ob q=>Ah _ q) (Ao _) ?_,rfl,q _ (I.bH.fresh (Ao _))⟩;exact⟨A7 (pO xs lo hi) hz,_,0,(r.drop (HT.dX xs.length 0 lo)).take (HT.dX xs.length xs.length hi-HT.dX xs.length 0 lo),Aq _ rfl⟩
theorem yi:bR X (.type "list") (λxs H Q=>∃p ys,xs=[.ref p]/\(di X.K H p ys\/dU X.K H p ys)/\∀l,H l=bm->Q (.ref l) (upd H l (.lst ys))):=by
 intro Z s σ H xs us Q I r h;obtain⟨p,ys,rfl,hq,q⟩:=h;obtain⟨u,rfl,rx⟩:=vals1 r;cases rx;have fin:∀(aw:List ce),Vals ys aw->ys.length<=sizeLine->∀(h':mo) (c':Nat),(∀b o',s.heap.get? b=ap o'->h'.get? b=ap o')->
   h'.get? s.heap.objs.size=ap {cls:=.type "list",dict:=bm,data:=.seq aw.toArray c',slots:=#[]}->EP X Z σ Q (.ref s.heap.objs.size) {s with heap:=h'}:=λaw r' hz h' c' kp e=>
  ⟨.ref s.heap.objs.size,_,I.laid (t':=s.toks) kp (Ao _) (show bx X.prog X.w _ h' _ (.lst ys) from⟨hz,aw,c',r',e⟩),rfl,q _ (I.bH.fresh (Ao _))⟩
 rcases hq with hq | hq
 ·obtain⟨aw,r',pl,hz⟩:=I.list hq;have Á:=r'.length;obtain⟨o,ho,hc,n,hd⟩:=pl.isList;exact call_list_seq p (.inl rfl) ho hc hd (λh' c' kp e=>fin aw r' hz h' c' kp e) (by simp only [Ai] <;> omega)
 ·obtain⟨aw,r',pl,hz⟩:=I.tuple hq;have Á:=r'.length;obtain⟨o,ho,hc,n,hd⟩:=pl;exact call_list_seq p (.inr rfl) ho hc hd (λh' c' kp e=>fin aw r' hz h' c' kp e) (by simp only [Ai] <;> omega)
theorem uP:bR X (.type "tuple") (λxs H Q=>∃p ys,xs=[.ref p]/\((di X.K H p ys/\∀l,H l=bm->Q (.ref l) (upd H l (.tup ys)))\/(dU X.K H p ys/\Q (.ref p) H))):=by
 intro Z s σ H xs us Q I r h;obtain⟨p,ys,rfl,h⟩:=h;obtain⟨u,rfl,rx⟩:=vals1 r;cases rx;rcases h with⟨hq,q⟩ | ⟨hq,q⟩
 ·obtain⟨aw,r',pl,hz⟩:=I.list hq;have Á:=r'.length;refine call_tuple_list pl.isList (λh' kp=>?_) (by simp only [Ai] <;> omega);have I1:Inv X Z σ H {s with heap:=h'}:=I.kept (t':=s.toks) kp;have I2:Inv X Z σ (upd H h'.objs.size (.tup ys)) {s with heap:=h'.push {cls:=.type "tuple",data:=.seq aw.toArray}}:=
   I1.laid (t':=s.toks) (λb o e=>Ah _ e) (Ao _) (show bx X.prog X.w _ _ _ (.tup ys) from⟨hz,aw,r',FR _ _⟩)
  exact⟨.ref h'.objs.size,_,I2,rfl,q _ (I1.bH.fresh (Ao _))⟩
 ·obtain⟨aw,r',pl,hz⟩:=I.tuple hq;exact call_tuple_same pl ⟨.ref p,H,I,rfl,q⟩
def tyV (K:Ab) (T:String) (x:V) (H:Hp):Prop:=match x with
 | .str _=>T="str"
 | .int _=>T="int"
 | .ref p=>(T="list"/\∃xs,di K H p xs)\/(T="tuple"/\∃o,K.lookup p=ap o/\o.cls=.type "tuple"/\o.dict=bm)\/
   (T="dict"/\((∃kvs,H p=ap (.dK kvs))\/∃kvs,H p=ap (.dT kvs)))\/(T="set"/\∃S n,H p=ap (.set S n))
 | _=>False
def MX {x:V} (I:Inv X Z σ H s) (r:RelV x v) (ty:tyV X.K T x H) :
  s.TypeIs v T/\∀a,v=.ref a->∃ob,s.heap.get? a=ap ob/\ob.dict=bm:=by
 cases x with
 | str z=>
  obtain⟨t,rfl⟩:=r;cases (show T="str" from ty);exact⟨typeIs_str s z t,λ_ e=>nomatch e⟩
 | int i=>
  obtain⟨t,rfl⟩:=r;cases (show T="int" from ty);exact⟨typeIs_int s i t,λ_ e=>nomatch e⟩
 | ref p=>
  cases r;rcases ty with⟨rfl,xs,hq⟩ | ⟨rfl,o,hk,hc,hd⟩ | ⟨rfl,hk⟩ | ⟨rfl,S,n,hk⟩
  ·obtain⟨aw,_,pl,_⟩:=I.list hq;refine⟨pl.isList.typeIs,λa e=>?_⟩;cases e;obtain⟨o,n,e,c,hd,_⟩:=pl;exact⟨o,e,hd⟩
  ·refine⟨⟨o,I.tZ p o hk,hc⟩,λa e=>?_⟩;cases e;exact⟨o,I.tZ _ o hk,hd⟩
  ·have z:∃o,s.heap.get? p=ap o/\o.ExactDict:=by
    rcases hk with⟨kvs,hk⟩ | ⟨kvs,hk⟩
    ·obtain⟨_,_,_,_,o,_,_,e,ex,_⟩:=I.bH p _ hk;exact⟨o,e,ex⟩
    ·obtain⟨_,_,_,_,o,_,_,e,ex,_⟩:=I.bH p _ hk;exact⟨o,e,ex⟩
   obtain⟨o,e,ex⟩:=z;refine⟨⟨o,e,ex.1⟩,λa e2=>?_⟩;cases e2;exact⟨o,e,ex.2.1⟩
  ·obtain⟨o,_,_,_,e,ex,_⟩:=I.bH p _ hk;refine⟨⟨o,e,ex.1⟩,λa e2=>?_⟩;cases e2;exact⟨o,e,ex.2.1⟩
 | _=>exact Bs ty
def Zp (K:Ab) (T:String) (r:V->List V->Hp->VK->Prop) (to:TE):TE:=λσ H Q=>to σ H λx H1=>tyV K T x H1/\r x [] H1 Q
def tBM (K:Ab) (T:String) (r:V->List V->Hp->VK->Prop) (to:TE) (t:TA):TE:=λσ H Q=>to σ H λx H1=>tyV K T x H1/\t σ H1 λxs H2=>r x xs H2 Q
variable {o e:gt}{es:List gt}{to:TE}{t:TA}{name:Str}{Ã cu:Pos}{T id:String}{r:V->List V->Hp->VK->Prop}
def Wk (pa:PlainAttrs T) (slot:Slot T name id) (J8:typeOf (.builtin id)=pure (.type "method_descriptor")) (hm:MtR X id r) (ho:PE X o to)
  (eY:pc o name X.env (kw o X.env)=kw o X.env:=by rfl) (eX:QJ Ã cu:=by rfl):PE X (.Call (.Attribute o name Ã) [] [] cu) (Zp X.K T r to):=by
 intro Z s σ H Q I h;refine wpAny_Call_method0_late eY eX (bC (ho Z s σ H _ I h) λv s1 ⟨x,H1,I1,r1,ty,q1⟩=>?_);obtain⟨h1,h2⟩:=MX I1 r1 ty;exact⟨T,id,pa,slot,J8,h1,h2,ER rfl (PySem.evalArgs_none (hm Z s1 σ H1 x [] v [] Q I1 r1 .nil q1))⟩
def ZZ (pa:PlainAttrs T) (slot:Slot T name id) (J8:typeOf (.builtin id)=pure (.type "method_descriptor")) (hm:MtR X id r) (ho:PE X o to) (ha:PA X (e::es) t)
  (eY:pc o name X.env (kw o X.env)=kw o X.env:=by rfl)
  (sP:YQ X cu (e::es):=by rfl)
  (eX:QJ Ã cu:=by rfl) (hs:iB X e es:=by rfl) (hZ:lH X cu es:=by rfl) :
  PE X (.Call (.Attribute o name Ã) (e::es) [] cu) (tBM X.K T r to t):=by
 intro Z s σ H Q I h;refine wpAny_Call_method_late eY sP eX rfl (bC (ho Z s σ H _ I h) λv s1 ⟨x,H1,I1,r1,ty,q1⟩=>?_);obtain⟨h1,h2⟩:=MX I1 r1 ty;refine⟨T,id,pa,slot,J8,h1,h2,?_⟩;have hA:=ha cu Z s1 σ H1 _ I1 q1;rw [hs] at hA ⊢;refine ER (by show (false||(FS cu (ga es X.env)).any (·.1))=false;rw [hZ] <;> rfl) (Calls.evalArgs_plain ?_);exact bC hA λus s2 ⟨vs,H2,I2,r2,q2⟩=>hm Z s2 σ H2 x vs v us Q I2 r1 r2 q2
end
def Mu (X:Cx) (id:String) (r:V->List V->Hp->VK->Prop):Prop:=
 ∀(Z:List (ci×Obj)) (s:cr) (σ:St) (H:Hp) (x:V) (xs:List V) (v:ce) (us:List ce) (Q:VK),Inv X Z σ H s->RelV x v->Vals xs us->r x xs H Q->
  db (dL X.prog X.w) X.A (call (.builtin id) (v::us)) (EP X Z σ Q) X.xe s
def Vals.one:∀{x:V}{us:List ce},Vals [x] us->∃u,us=[u]/\RelV x u
 | _,_,.cons r .nil=>⟨_,rfl,r⟩
def Vals.zero:∀{us:List ce},Vals [] us->us=[]
 | _,.nil=>rfl
def Vals.dropLast (h:Vals xs us):Vals xs.dropLast us.dropLast:=by
 induction h with
 | nil=>exact .nil
 | cons r t ih=>
  cases t with
  | nil=>exact .nil
  | cons q t'=>exact .cons r ih
theorem Vals.rep (h:Vals xs us):∀k:Nat,Vals (Al k xs).flatten (Al k us).flatten
 | 0=>.nil
 | k+1=>by
  rw [Bv,Bv,B9,B9];exact Vals.append h (Vals.rep h k)
theorem Ic (l:List α):l.eraseIdx (l.length-1)=l.dropLast:=by
 induction l with
 | nil=>rfl
 | cons a r ih=>
  cases r with
  | nil=>rfl
  | cons b r=>
   have e:(a::b::r).length-1=((b::r).length-1)+1:=by
    have h1:(a::b::r).length=r.length+2:=rfl;have h2:(b::r).length=r.length+1:=rfl;omega
   rw [e,List.eraseIdx_cons_succ,ih]
   all_goals rfl
theorem foldl_rep (aw:List ce):∀(k:Nat) (Ä:List ce),
  List.foldl (λx1 x2=>x1++x2) Ä.toArray (Al k aw.toArray)=(Ä++(Al k aw).flatten).toArray
 | 0,Ä=>by simp
 | k+1,Ä=>by
  have e:Ä.toArray++aw.toArray=(Ä++aw).toArray:=by simp
  have e2:(Ä++aw)++(Al k aw).flatten=Ä++(Al (k+1) aw).flatten:=by
   rw [Bv,B9,A3]
  rw [<- e2,<- foldl_rep aw k (Ä++aw),<- e,Bv,List.foldl_cons]
section
def Inv.Hr {f:Array ce->Array ce}{t':Nat} (I:Inv X Z σ H s) (hH:H l=ap (.lst xs))
  (e:s.heap.get? l=ap {cls:=.type "list",data:=.seq aw.toArray n}) (hf:f aw.toArray=its'.toArray) (hv:Vals ys its') (hz:ys.length<=sizeLine) :
  Inv X Z σ (upd H l (.lst ys)) {s with heap:=s.heap.update l (Bq f),toks:=t'}:=by
 have q:=PySem.IsL.update e f;rw [hf] at q;refine I.write (x:=l) (e:=l) (by rw [hH];exact trivial) (.inl rfl) (λb' u hb hu=>(De s.heap (Bq f) (BG hb)).trans hu) ⟨_,q⟩ ?_;exact⟨hz,its',_,hv,q⟩
def Inv.WQ {t':Nat} (I:Inv X Z σ H s) (hv:Vals ys aw) (hz:ys.length<=sizeLine) :
  Inv X Z σ (upd H s.heap.objs.size (.lst ys)) {s with heap:=s.heap.push {cls:=.type "list",data:=.seq aw.toArray},toks:=t'}:=
 I.laid (λ_ _ q=>Ah _ q) (Ao _) ⟨hz,aw,0,hv,Aq _ rfl⟩
def Inv.fresh (I:Inv X Z σ H s):H s.heap.objs.size=bm:=I.bH.fresh (Ao _)
def Inv.oV (I:Inv X Z σ H s) (hH:H l=ap (.lst xs)):xs.length<=sizeLine/\∃(aw:List ce) (n:Nat),Vals xs aw/\xs.length=aw.length/\s.heap.get? l=ap {cls:=.type "list",data:=.seq aw.toArray n}:=by
 obtain⟨z,aw,n,r,e⟩:=I.bH l _ hH;exact⟨z,aw,n,r,r.length,e⟩
theorem jv (h:n<=sizeLine):Builtin.List.listTooLong n=false:=by
 exact decide_eq_false ∅
end
section
def Rx:V->List V->Hp->VK->Prop:=λx vs H Q=>∃l xs y,x=.ref l/\vs=[y]/\H l=ap (.lst xs)/\xs.length < sizeLine/\Q .aO (upd H l (.lst (xs++[y])))
theorem La:Mu X "list.append" Rx:=by
 intro Z s σ H x vs v us Q I rx rv h;obtain⟨l,xs,y,rfl,rfl,hH,hz,q⟩:=h;cases rx;obtain⟨u,rfl,ru⟩:=rv.one;obtain⟨z,aw,n,r,hl,e⟩:=I.oV hH;refine u8 F.slot_list_append ⟨_,e,rfl⟩ F.entry_list_append (F.args_list_append_2 _ _) (PySem.list_append l aw.toArray n u (by rw [Ai];omega)) ⟨e,?_⟩;refine⟨.aO,_,I.Hr (its':=aw++[u]) hH e (by simp) (r.append (.cons ru .nil)) ?_,rfl,q⟩;rw [Ad,Dm];omega
def Ru:V->List V->Hp->VK->Prop:=λx vs H Q=>∃l b xs zs,x=.ref l/\vs=[.ref b]/\H l=ap (.lst xs)/\H b=ap (.lst zs)/\xs.length+zs.length<=sizeLine/\Q .aO (upd H l (.lst (xs++zs)))
theorem Yr:Mu X "list.extend" Ru:=by
 intro Z s σ H x vs v us Q I rx rv h;obtain⟨l,b,xs,zs,rfl,rfl,hH,hB,hz,q⟩:=h;cases rx;obtain⟨u,rfl,ru⟩:=rv.one;cases ru;obtain⟨z,aw,n,r,hl,e⟩:=I.oV hH;obtain⟨z2,cJ,n2,r2,MF,e2⟩:=I.oV hB;have hsz:aw.toArray.size+cJ.toArray.size<=sizeLine:=by rw [Ai,Ai];omega
 have sN:¬(!aw.toArray.isEmpty&&Builtin.List.listTooLong (aw.toArray.size+cJ.toArray.size))=true:=by
  rw [jv hsz,B6];exact AW
 refine u8 D7 ⟨_,e,rfl⟩ DS (Dy _ _)
  (AutoSeq1.list_extend_list_list_0 l aw.toArray n b cJ.toArray n2 sN (by rw [Ai];omega) ∅) ⟨e,e2,?_⟩
 refine⟨.aO,_,I.Hr (its':=aw++cJ) hH e (by simp) (r.append r2) ?_,rfl,q⟩;rw [Ad];omega
def adV:V->List V->Hp->VK->Prop:=λx vs H Q=>∃l xs y,x=.ref l/\vs=[]/\H l=ap (.lst xs)/\xs[xs.length-1]?=ap y/\Q y (upd H l (.lst xs.dropLast))
theorem WJ:Mu X "list.pop" adV:=by
 intro Z s σ H x vs v us Q I rx rv h;obtain⟨l,xs,y,rfl,rfl,hH,hy,q⟩:=h;cases rx;have hus:=rv.zero;subst hus;obtain⟨z,aw,n,r,hl,e⟩:=I.oV hH;obtain⟨u,hu,ru⟩:=r.get hy;have SO:aw.toArray[aw.toArray.size-1]?=ap u:=by
  show aw.toArray[aw.length-1]?=ap u;rw [<- Fg,<- hl];exact hu
 refine u8 F.slot_list_pop ⟨_,e,rfl⟩ F.entry_list_pop (F.args_list_pop_1 _) (MeetsSeq.list_pop_last l aw.toArray n u SO (by rw [Ai];omega)) ⟨e,?_⟩;refine⟨y,_,I.Hr (its':=aw.dropLast) hH e ?_ r.dropLast ?_,ru,q⟩
 ·rw [Ai,List.eraseIdxIfInBounds_toArray,Ic]
 ·rw [List.length_dropLast];omega
def adW:R2:=λx y H Q=>∃l b xs zs,x=.ref l/\y=.ref b/\H l=ap (.lst xs)/\H b=ap (.lst zs)/\xs.length+zs.length<=sizeLine/\∀p,H p=bm->Q (.ref p) (upd H p (.lst (xs++zs)))
theorem Wx:ir X (r9 .Add) adW:=by
 intro Z s σ H x y v u Q I rx ry h;obtain⟨l,b,xs,zs,rfl,rfl,hH,hB,hz,q⟩:=h;cases rx;cases ry;obtain⟨z,aw,n,r,hl,e⟩:=I.oV hH;obtain⟨z2,cJ,n2,r2,MF,e2⟩:=I.oV hB;refine PySem.P.add_list e e2 ?_ (by rw [Ai,Ai];omega);have ea:aw.toArray++cJ.toArray=(aw++cJ).toArray:=by simp
 rw [ea];exact⟨.ref _,_,I.WQ (t':=s.toks) (r.append r2) (by rw [Ad];omega),rfl,q _ I.fresh⟩
def adU:R2:=λx y H Q=>∃l k xs,x=.ref l/\y=.int k/\H l=ap (.lst xs)/\-(2 ^ 63)<=k/\k < 2 ^ 63/\xs.length*k.toNat<=sizeLine/\
 ∀p,H p=bm->Q (.ref p) (upd H p (.lst (Al k.toNat xs).flatten))
def len_rep (xs:List α) (k:Nat):(Al k xs).flatten.length=k*xs.length:=by
 induction k with
 | zero=>simp
 | succ k ih=>rw [Bv,B9,Ad,ih,FH,Nat.add_comm]
theorem Wo:ir X (r9 .Mult) adU:=by
 intro Z s σ H x y v u Q I rx ry h;obtain⟨l,k,xs,rfl,rfl,hH,h1,h2,hz,q⟩:=h;cases rx;obtain⟨t,rfl⟩:=ry;obtain⟨z,aw,n,r,hl,e⟩:=I.oV hH;have Á:aw.toArray.size*k.toNat<=sizeLine:=by rw [Ai,<- hl];exact hz
 have ae7:¬aw.toArray.size*k.toNat > (2 ^ 63-1) / 8:=by
  have:(sizeLine:Nat)<=(2 ^ 63-1) / 8:=by decide
  omega
 have ae1:¬(!Builtin.List.listFitsIndex k)=true:=by
  rw [fitsIndex_both h1 h2];exact AW
 have sN:¬Builtin.List.listTooLong (aw.toArray.size*k.toNat)=true:=by
  rw [jv Á];exact AW
 have SV:List.foldl (λx1 x2=>x1++x2) #[] (Al (if aw.toArray.isEmpty=true then 0 else k.toNat) aw.toArray)=(Al k.toNat aw).flatten.toArray:=by
  have f0:∀m:Nat,List.foldl (λx1 x2=>x1++x2) #[] (Al m aw.toArray)=(Al m aw).flatten.toArray:=λm=>by
   have:=foldl_rep aw m [];exact this
  rw [f0];cases aw with
  | nil=>simp
  | cons a r'=>rw [if_neg (by simp)]
 refine wpAny_binaryOp_repeat_ref (T:="list") (U:="int") ⋯ ⟨_,e,rfl⟩ (λs'=>typeIs_int s' k t) noFill_list_mul F.fills_int_mul F.slot_int_rmul repeat_list F.slot_int_index.lookup
  (u8 F.slot_int_rmul (typeIs_int s k t) F.entry_int_rmul (F.args_int_rmul_2 _ _) (int___rmul___int_list k t l aw.toArray n)
   ⟨e,rfl,⟨_,e,rfl⟩,u8 F.slot_list_mul ⟨_,e,rfl⟩ F.entry_list_mul (F.args_list_mul_2 _ _) (AutoListH.list___mul___list_int_3 l aw.toArray n k t ae1 ae7 sN) ⟨e,?_⟩⟩)
 rw [SV];exact⟨.ref _,_,I.WQ (t':=s.toks) (r.rep k.toNat) (by rw [len_rep,Nat.mul_comm];exact hz),rfl,q _ I.fresh⟩
end
section
def KP (aw cJ:List ce) (a c:Nat):aw.toArray.extract 0 a++cJ.toArray++aw.toArray.extract c aw.toArray.size=(aw.take a++cJ++aw.drop c).toArray:=by
 apply EL.mp
 first
  | (
    simp;exact CB (by simp))
  | simp [CB]
  | simp
theorem II {a c:Nat} (Yz:a<=c) (hc:c<=n):ul (ap (a:Int)) (ap (c:Int)) bm n=((a:Int),(c:Int),1):=by
 simp only [ul,ED];have h1:¬((a:Int) < 0):=by omega
 have h2:¬((c:Int) < 0):=by omega
 congr 1
 ·omega
 ·congr 1;omega
set_option maxRecDepth 100000 in
theorem ur {l b sl:ci}{items new:Array ce}{n n2:Nat}{vl vu:ce}{a c:Nat}{Q:Unit->cr->Prop}
  (e:s.heap.get? l=ap {cls:=.type "list",data:=.seq items n}) (e2:s.heap.get? b=ap {cls:=.type "list",data:=.seq new n2}) (OP:l≠b)
  (hs:s.heap.IsSliceOf sl vl vu .none) (pl:IsPart vl (ap (a:Int))) (pu:IsPart vu (ap (c:Int))) (Yz:a<=c) (hc:c<=items.size)
  (hsz:items.size+new.size<=sizeLine) (h:Q () {s with heap:=s.heap.update l (Bq λxs=>xs.extract 0 a++new++xs.extract c xs.size)}) :
  db (dL prog w) A (xL (.ref l) (.ref sl) (.ref b)) Q E s:=by
 have hl:s.heap.IsList l items:=FP e;have hb:s.heap.IsList b new:=FP e2;obtain⟨os,t4,Ly,yH⟩:=id hs;have UX:s.TypeIs (.ref sl) "slice":=⟨os,t4,Ly⟩;have aaM:¬((rawPart bm==ut 0)=true):=AW;have OM:Builtin.List.listSameRef (.ref l) (.ref b)=false:=by
  unfold Builtin.List.listSameRef;exact beq_eq_false_iff_ne.mpr OP
 have aeR:(max (a:Int) (c:Int)).toNat=c:=by omega
 have HH:((λxs:Array ce=>xs.extract 0 a++new++xs.extract c xs.size) items).size<=sizeLine+1:=by
  simp only [Eo,Array.size_extract];omega
 unfold xL
 try with_reducible refine Bc ?_
 first | refine Aa (Af ?_) | skip
 refine Aa (Dg hl.typeIs ⋯ ?_);refine Aa (AX (name:=Cg "__setitem__") hl.typeIs slot_list_setitem
  (Bg slot_list_setitem hl.typeIs entry_list_setitem ?_ (args_list_setitem _ _ _)))
 show db _ _ (Builtin.List.listSubscript? (.ref sl) >>= _) _ _ s;refine Aa ?_;unfold Builtin.List.listSubscript?;refine Aa (DM UX slice_no_index ?_);simp only [Option.isNone_none,if_true];refine Af ?_;show db _ _ (typeOf (.ref sl) >>= _) _ _ s;refine Aa (Cj UX ?_)
 first
  | rw [if_neg ⋯]
  | refine PySem.W.KFB.if_not ⋯ ?_
 rw [listSliceParts_eq];refine Aa (Aa (A1 t4 yH (x:=.none) rfl (Aa (Fj .none ?_))));rw [if_neg aaM];refine Aa (A1 t4 yH (x:=vl) rfl (Aa (Fj pl ?_)));refine Aa (A1 t4 yH (x:=vu) rfl (Aa (Fj pu (Af ?_))))
 first
  | simp only [OM,Ak,if_false]
  | refine PySem.W.KFB.if_not OM ?_
  | (
    dsimp only;rw [if_neg (by rw [OM];exact AW)])
 refine Aa (m:=Builtin.List.listAllItems (.ref b) "must assign iterable to extended slice") ?_;unfold Builtin.List.listAllItems;refine Aa (Cj hb.typeIs ?_)
 first
  | refine PySem.W.KFB.if_so ⋯ ?_
  | rw [if_pos ⋯]
  | simp only [beq_self_eq_true,Bool.true_or,if_true]
 unfold Builtin.List.listItems;refine Aa (BE e2 rfl (Af ?_));refine Aa (Aa (BE e rfl (Af ?_)));refine Aa (Cz ((sliceIndices_raw (ap (a:Int)) (ap (c:Int)) bm items.size (by simp)).trans (congrArg (pure:Int×Int×Int->Sem (Int×Int×Int)) (II Yz hc))) ?_);show db _ _ (if ((1:Int)==1)=true then _ else _) _ _ s;rw [if_pos ⋯];refine Aa (C6 ?_)
 first
  | simp only [jv hsz,Ak,if_false]
  | refine PySem.W.KFB.if_not (jv hsz) ?_
 first | refine Aa (Af ?_) | skip
 show db _ _ (updateSeq l (λxs=>xs.extract 0 ((a:Int)).toNat++new++xs.extract (max (a:Int) (c:Int)).toNat xs.size) >>= _) _ _ s;rw [aeR,A4];refine Aa (DL (hz:=A7 (BD _ _) hsz) (_hz':=HH) e rfl ?_);refine Aa (DC ?_)
 first
  | exact Aa (Af (Af ⟨.none,rfl,Af h⟩))
  | exact Af ⟨.none,rfl,Af h⟩
end
section
theorem KU {sl:ci}{a c:Int}{Q:Unit->cr->Prop} (I:Inv X Z σ H s)
  (hH:H l=ap (.lst xs)) (hB:H b=ap (.lst ys)) (OP:l≠b) (hs:s.heap.IsSliceOf sl vl vu .none) (ra:RelV (.int a) vl) (rc:RelV (.int c) vu) (h0:0<=a) (Yz:a<=c) (hc:c<=xs.length)
  (hz:xs.length+ys.length<=sizeLine) (h:∀s',Inv X Z σ (upd H l (.lst (xs.take a.toNat++ys++xs.drop c.toNat))) s'->Q () s') :
  db (dL X.prog X.w) X.A (xL (.ref l) (.ref sl) (.ref b)) Q X.xe s:=by
 obtain⟨ta,rfl⟩:=ra;obtain⟨tc,rfl⟩:=rc;obtain⟨z,aw,n,r,hl,e⟩:=I.oV hH;obtain⟨z2,cJ,n2,r2,MF,e2⟩:=I.oV hB;obtain⟨a',rfl⟩:=EK h0;obtain⟨c',rfl⟩:=EK (Int.le_trans h0 Yz);simp only [A4] at h;refine ur (a:=a') (c:=c') e e2 OP hs (.int _ _) (.int _ _) ∅ (by rw [Ai];omega) (by rw [Ai,Ai];omega) (h _ ?_);refine I.Hr (its':=aw.take a'++cJ++aw.drop c') (t':=s.toks) hH e ?_ (Vals.append (Vals.append (r.take _) r2) (r.drop _)) ?_
 ·exact KP aw cJ a' c'
 ·rw [Ad,Ad,Cm,CV];omega
end
end L2
variable {xs:List (List L2.Key×BK×Bb)}{o:Option L2.V}{v:L2.V}{kvs:List (List L2.Key×L2.V)}{env:PySem.Env}{value:BJ}{Uh:List (L2.TE×L2.TE)}
namespace L2
open PySem PySem.Spec PyProof.Rows
section
variable {κ:Type} [DecidableEq κ]
def iQ (kvs:List (κ×V)) (k:κ):Option V:=(kvs.find? λkv=>decide (kv.1=k)).map (·.2)
def putK (kvs:List (κ×V)) (k:κ) (v:V):List (κ×V):=
 if (kvs.any λkv=>decide (kv.1=k))=true then kvs.map (λkv=>if kv.1=k then (kv.1,v) else kv) else kvs++[(k,v)]
def kI {p:κ×V}{r:List (κ×V)}{k:κ} (e:p.1=k):iQ (p::r) k=ap p.2:=by simp [iQ,BI,e]
def kJ {p:κ×V}{r:List (κ×V)}{k:κ} (e:¬p.1=k):iQ (p::r) k=iQ r k:=by simp [iQ,BI,e]
theorem ng (k:κ):∀kvs:List (κ×V),(kvs.any λkv=>decide (kv.1=k))=(iQ kvs k).isSome
 | []=>rfl
 | p::r=>by
  rw [Ck];by_cases e:p.1=k
  ·simp only [kI e,decide_eq_true e,Bool.true_or,Option.isSome_some]
  ·rw [kJ e,decide_eq_false e,Bool.false_or];exact ng k r
theorem k6 (kvs:List (κ×V)) (k:κ) (v:V):(putK kvs k v).length<=kvs.length+1:=by
 unfold putK
 split
 ·rw [Ag];omega
 ·rw [Ad,An,AN];omega
def tX.oX {u:Option ce} (r:tX o u):o.isSome=u.isSome:=by
 cases o with
 | none=>cases u with
  | none=>rfl
  | some _=>exact (show False from r).elim
 | some _=>cases u with
  | none=>exact (show False from r).elim
  | some _=>rfl
def KV.val {kvs:List (κ×V)}{vs:List (κ×ce)} (r:KV kvs vs) (k:κ):tX (iQ kvs k) (valueAt vs k):=by
 unfold KV at r
 induction r with
 | nil=>exact BU
 | @cons p q ps qs h t ih=>
  obtain⟨h1,h2⟩:=h;by_cases e:p.1=k
  ·have e':q.1=k:=h1.symm.trans e;have b:valueAt (q::qs) k=ap q.2:=by simp [valueAt,BI,e']
   rw [kI e,b];exact h2
  ·have e':¬q.1=k:=λz=>e (h1.trans z);have b:valueAt (q::qs) k=valueAt qs k:=by simp [valueAt,BI,e']
   rw [kJ e,b];exact ih
def KV.any {kvs:List (κ×V)}{vs:List (κ×ce)} (r:KV kvs vs) (k:κ):(kvs.any λkv=>decide (kv.1=k))=vs.any λkv=>decide (kv.1=k):=by
 induction r with
 | nil=>rfl
 | cons h t ih=>rw [Ck,Ck,ih,h.1]
def KV.VO {kvs:List (κ×V)}{vs:List (κ×ce)} (r:KV kvs vs) (k:κ) (ry:RelV y u) :
  KV (kvs.map λkv=>if kv.1=k then (kv.1,y) else kv) (vs.map λkv=>if kv.1=k then (kv.1,u) else kv):=by
 induction r with
 | nil=>exact .nil
 | @cons p q ps qs h t ih=>
  rw [Aw,Aw];refine .cons ?_ ih;obtain⟨h1,h2⟩:=h;by_cases e:p.1=k
  ·rw [if_pos e,if_pos (h1.symm.trans e)];exact⟨h1,ry⟩
  ·rw [if_neg e,if_neg (λz=>e (h1.trans z))];exact⟨h1,h2⟩
def KV.put {kvs:List (κ×V)}{vs:List (κ×ce)} (r:KV kvs vs) (k:κ) (ry:RelV y u):KV (putK kvs k y) (stored vs k u):=by
 unfold putK stored;rw [r.any k];by_cases e:(vs.any λkv=>decide (kv.1=k))=true
 ·rw [if_pos e,if_pos e];exact r.VO k ry
 ·rw [if_neg e,if_neg e];exact Paired.snoc r ⟨rfl,ry⟩
def KV.length {kvs:List (κ×V)}{vs:List (κ×ce)} (r:KV kvs vs):kvs.length=vs.length:=Paired.length r
end
def zN {k:Key} (r:RelV (kV k) u):(bM P w).is k u=true:=by
 cases k with
 | inl i=>obtain⟨t,e⟩:=(show ∃t,u=C8 i t from r);subst e;exact zF P w i t
 | inr x=>obtain⟨t,e⟩:=(show ∃t,u=Dn x t from r);subst e;exact zE P w x t
theorem vv:∀{ks:List Key}{us:List ce},Vals (ks.map kV) us->ItemsAre (bM P w) ks us
 | [],_,r=>by rw [EW] at r;cases r;exact .nil
 | k::ks,_,r=>by
  rw [Aw] at r;cases r with
  | cons h t=>exact .cons (zN h) (vv t)
abbrev KT (H:Hp):List (List Key×V)->List (List Key×ci×ce)->Prop:=Paired λp q=>p.1=q.1/\H q.2.1=ap (.tup (p.1.map kV))/\RelV p.2 q.2.2
def KT.val (r:KT H kvs xs) (k:List Key):tX (iQ kvs k) ((atKey xs k).map (·.2)):=by
 induction r with
 | nil=>exact BU
 | @cons p q ps qs h t ih=>
  obtain⟨h1,_,h2⟩:=h;by_cases e:p.1=k
  ·have e':q.1=k:=h1.symm.trans e;have b:atKey (q::qs) k=ap q.2:=by simp [atKey,BI,e']
   rw [kI e,b];exact h2
  ·have e':¬q.1=k:=λz=>e (h1.trans z);have b:atKey (q::qs) k=atKey qs k:=by simp [atKey,BI,e']
   rw [kJ e,b];exact ih
def KT.VO (r:KT H kvs xs) (k:List Key) (ry:RelV y u) :
  KT H (kvs.map λkv=>if kv.1=k then (kv.1,y) else kv) (xs.map (putAt k u)):=by
 induction r with
 | nil=>exact .nil
 | @cons p q ps qs h t ih=>
  rw [Aw,Aw];refine .cons ?_ ih;obtain⟨h1,h2,h3⟩:=h;unfold putAt;by_cases e:p.1=k
  ·rw [if_pos e,if_pos (h1.symm.trans e)];exact⟨h1,h2,ry⟩
  ·rw [if_neg e,if_neg (λz=>e (h1.trans z))];exact⟨h1,h2,h3⟩
def KT.put (r:KT H kvs xs) (k:List Key) (hb:H b=ap (.tup (k.map kV))) (ry:RelV y u) :
  KT H (putK kvs k y) (Db xs k b u):=by
 have e:(kvs.any λkv=>decide (kv.1=k))=(atKey xs k).isSome:=by
  rw [ng,(r.val k).oX,FG]
 unfold putK Db;rw [e];by_cases q:(atKey xs k).isSome=true
 ·rw [if_pos q,if_pos q];exact r.VO k ry
 ·rw [if_neg q,if_neg q];exact Paired.snoc r ⟨rfl,hb,ry⟩
def KT.keeps (r:KT H kvs xs) (ht:∀b ys,H b=ap (.tup ys)->H' b=ap (.tup ys)):KT H' kvs xs:=
 Paired.WM r λ_ _ z=>⟨z.1,ht _ _ z.2.1,z.2.2⟩
section
def Ut {u:HO} (ok:lX P w H h) (e:Rd H a u):bx P w H h a u:=e.ok ok
def tL {kvs:List (Key×V)} (ok:lX P w H h) (e:Rd H a (.dK kvs)):kvs.length<=sizeLine/\(a==tt)=false/\∃vs,KV kvs vs/\h.DictOf (bM P w) a vs:=
 show bx P w H h a (.dK kvs) from Ut ok e
def U9 {kvs:List (Key×V)} (ok:lX P w H h) (e:H a=ap (.dK kvs)):kvs.length<=sizeLine/\(a==tt)=false/\∃vs,KV kvs vs/\h.DictOf (bM P w) a vs:=tL ok (.inl e)
def sF {ks:List Key} (ok:lX P w H h) (e:H a=ap (.tup (ks.map kV))):(lw (bM P w)).is h ks a:=by
 obtain⟨_,aw,r,o,h1,h2,n,h3⟩:=(show bx P w H h a (.tup (ks.map kV)) from ok a _ e);exact⟨o,aw.toArray,n,h1,h2,h3,by simpa using vv r⟩
def tK (ok:lX P w H h) (e:Rd H a (.dT kvs)):kvs.length<=sizeLine/\(a==tt)=false/\
  ∃xs,KT H kvs xs/\h.DictOfH (lw (bM P w)) a xs:=by
 obtain⟨z,y,xs,r,o,es,ep,h1,h2,h3,h4,h5⟩:=(show bx P w H h a (.dT kvs) from Ut ok e);refine⟨z,y,xs,r,o,es,ep,h1,h2,h3,h4,λx hx=>?_,h5⟩;have all:∀{l:List (List Key×V)}{m:List (List Key×ci×ce)},KT H l m->∀x∈m,(lw (bM P w)).is h x.1 x.2.1:=by
  intro l m q
  induction q with
  | nil=>intro x hx;exact nomatch hx
  | @cons p q ps qs hq t ih=>
   intro x hx;rcases Ax.mp hx with e | hx
   ·subst e;exact sF ok (by rw [<- hq.1];exact hq.2.1)
   ·exact ih x hx
 exact all r x hx
def abD (ok:lX P w H h) (e:H a=ap (.dT kvs)):kvs.length<=sizeLine/\(a==tt)=false/\
  ∃xs,KT H kvs xs/\h.DictOfH (lw (bM P w)) a xs:=tK ok (.inl e)
end
def uW (H:Hp) (a:ci) (y:V) (r:Option V):Prop:=
 (∃kvs k,Rd H a (.dK kvs)/\y=kV k/\r=iQ kvs k)\/∃kvs k b,Rd H a (.dT kvs)/\y=.ref b/\H b=ap (.tup (k.map kV))/\r=iQ kvs k
def Qt (H:Hp) (a:ci) (y v:V) (H':Hp):Prop:=
 (∃kvs k,H a=ap (.dK kvs)/\y=kV k/\kvs.length < sizeLine/\H'=upd H a (.dK (putK kvs k v)))\/
 ∃kvs k b,H a=ap (.dT kvs)/\y=.ref b/\H b=ap (.tup (k.map kV))/\kvs.length < sizeLine/\H'=upd H a (.dT (putK kvs k v))
theorem uW.k {kvs:List (Key×V)}{k:Key} (e:H a=ap (.dK kvs)):uW H a (kV k) (iQ kvs k):=.inl ⟨kvs,k,.inl e,rfl,rfl⟩
theorem Qt.k {kvs:List (Key×V)}{k:Key} (e:H a=ap (.dK kvs)) (hl:kvs.length < sizeLine):Qt H a (kV k) v (upd H a (.dK (putK kvs k v))):=.inl ⟨kvs,k,e,rfl,hl,rfl⟩
section
variable {r:ce}
def Inv.big (I:Inv X Z σ H s):tt < s.heap.objs.size:=by
 have h:=(I.mod.glob.keeps I.bk).lt;exact Nat.lt_trans ⋯ h
def L8 (hu:A.units+1 < o0) (I:Inv X Z σ H s) (g:uW H a y (ap v)) (ry:RelV y u) (h:∀w' s',Inv X Z σ H s'->RelV v w'->Q w' s') :
  db (dL X.prog X.w) A (zn (.ref a) u) Q E s:=by
 rcases g with⟨kvs,k,e,ey,l⟩ | ⟨kvs,k,b,e,ey,eb,l⟩
 ·subst ey;obtain⟨z,hd,vs,Ï,dd⟩:=tL I.bH e;obtain⟨w',hw,iT⟩:=tX.some_of (v:=v) (o:=valueAt vs k) (by rw [l];exact Ï.val k);exact wpAny_getItem_of (zN ry) dd.mapOf hw (h w' _ (I.tok _) iT)
 ·subst ey;cases (show u=AD b from ry);obtain⟨z,hd,xs,Ï,dd⟩:=tK I.bH e;obtain⟨w',hw,iT⟩:=tX.some_of (v:=v) (o:=(atKey xs k).map (·.2)) (by rw [l];exact Ï.val k);obtain⟨p,hp,xv⟩:=Option.map_eq_some_iff.mp hw;refine wpAny_getItem_heap (BT hu) (sF I.bH eb) dd hp ?_;rw [xv];exact h w' _ (I.tok _) iT
def afv (hu:A.units+1 < o0) (I:Inv X Z σ H s) (g:uW H a y o) (ry:RelV y u) (h:∀s',Inv X Z σ H s'->Q (.bool o.isSome) s') :
  db (dL X.prog X.w) A (im .In u (.ref a)) Q E s:=by
 rcases g with⟨kvs,k,e,ey,l⟩ | ⟨kvs,k,b,e,ey,eb,l⟩
 ·subst ey;obtain⟨z,hd,vs,Ï,dd⟩:=tL I.bH e;refine wpAny_in_of (zN ry) hd dd.mapOf ?_;rw [<- (Ï.val k).oX,<- l];exact h _ (I.tok _)
 ·subst ey;cases (show u=AD b from ry);obtain⟨z,hd,xs,Ï,dd⟩:=tK I.bH e;refine wpAny_in_heap (BT hu) (sF I.bH eb) hd dd ?_;have q:=(Ï.val k).oX;rw [FG] at q;rw [<- q,<- l];exact h _ (I.tok _)
def yf {t':Nat}{ob:HO} (I:Inv X Z σ H s) (mu:Mut (H a)) (hs:Ci a s.heap h') (he:∃q,h'.get? a=ap q) (new:bx X.prog X.w (upd H a ob) h' a ob) :
  Inv X Z σ (upd H a ob) {s with heap:=h',toks:=t'}:=
 I.write (x:=a) (e:=a) mu (.inl rfl) (λb q hb z=>(hs.2 b hb).trans z) he new
def PQ {kvs:List (Key×V)}{vs:List (Key×ce)} (z:kvs.length<=sizeLine) (hd:(a==tt)=false) (Ï:KV kvs vs) (dd:h'.DictOf (bM P w) a vs) :
  bx P w H' h' a (.dK kvs):=⟨z,hd,vs,Ï,dd⟩
theorem L7 {Q:Unit->cr->Prop} (hu:A.units+1 < o0) (I:Inv X Z σ H s) (g:Qt H a y v H') (ry:RelV y u) (rv:RelV v r) (h:∀s',Inv X Z σ H' s'->Q () s') :
  db (dL X.prog X.w) A (xL (.ref a) u r) Q E s:=by
 rcases g with⟨kvs,k,e,ey,l,eH⟩ | ⟨kvs,k,b,e,ey,eb,l,eH⟩
 ·subst ey eH;obtain⟨z,hd,vs,Ï,dd⟩:=U9 I.bH e;have hz:vs.length<=sizeLine:=by rw [<- Ï.length];exact z
  have hl:(putK kvs k v).length<=sizeLine:=by have:=k6 kvs k v;omega
  refine wpAny_setItem_pairs (hsz:=hz) (zN ry) dd λh' XX hs=>h _ ?_;have he:∃q,h'.get? a=ap q:=let ⟨q,_,_,hq,_⟩:=XX;⟨q,hq⟩;exact yf I (by rw [e];exact BU) hs he (PQ hl hd (Ï.put k rv) XX)
 ·subst ey eH;cases (show u=AD b from ry);obtain⟨z,hd,xs,Ï,dd⟩:=abD I.bH e;have hz:xs.length<=sizeLine:=by rw [<- Paired.length Ï];exact z
  have hl:(putK kvs k v).length<=sizeLine:=by have:=k6 kvs k v;omega
  refine wpAny_setItem_heap (hsz:=hz) (BT hu) (sF I.bH eb) dd λh' XX hs=>h _ ?_;obtain⟨q,es,ep,hq,h2,h3,h4,_,h5⟩:=XX;refine yf I (by rw [e];exact BU) hs ⟨q,hq⟩ ⟨hl,hd,_,(Ï.put k eb rv).keeps λc ys ec=>?_,q,es,ep,hq,h2,h3,h4,h5⟩;rw [aA (JS ec e (λz=>nomatch z))];exact ec
end
def Yg (i:gt):Prop:=∀ov iv,subscripted i false ov iv=operate [ov,iv] (zn ov iv)
def Q6 {slice:gt}{id:String}
  (hl:Fk (.type T) "__getitem__"=pure (ap (.builtin id))) (hs:Yg slice)
  (h:db (dL prog w) A (kw value env) (λo s₁=>db (dL prog w) A (kw slice env) (λi s₂=>s₂.TypeIs o T/\db (dL prog w) A (zn o i) Q E s₂) E s₁) E s) :
  db (dL prog w) A (kw (.Subscript value slice pos) env) Q E s:=by
 refine Subscript_ (BO h (λo s₁ h₁=>BO h₁ (λi s₂ h₂=>?_) λ_ _ x=>x) λ_ _ x=>x);obtain⟨hT,h₂⟩:=h₂;refine Aa ?_;refine Aa (DM hT hl ?_);have fin:db (dL prog w) A (subscripted slice false o i) (λr s₃=>db (dL prog w) A (letTemporaryGo value o r >>= λ_=>pure r) Q E s₃) E s₂:=by
  rw [hs o i];exact wpAny_operating (BO h₂ (λr s₃ h₃=>Aa (wpAny_letTemporaryGo (Af h₃))) λ_ _ x=>x)
 first
  | exact Af (Aa fin)
  | exact Aa (Af (Aa fin))
  | exact Aa fin
def Gi (I:Inv X Z σ H s) (g:uW H a y o):s.TypeIs (.ref a) "dict":=by
 rcases g with⟨kvs,k,e,_,_⟩ | ⟨kvs,k,b,e,_,_,_⟩
 ·obtain⟨_,_,vs,_,dd⟩:=tL I.bH e;exact dd.typeIs
 ·obtain⟨_,_,xs,_,dd⟩:=tK I.bH e;exact dd.typeIs
def Zm (td ty:TE):TE:=λσ H Q=>td σ H λx H1=>ty σ H1 λy H2=>∃a v,x=.ref a/\uW H2 a y (ap v)/\Q v H2
def adE (ty td:TE):TE:=λσ H Q=>ty σ H λy H1=>td σ H1 λx H2=>∃a o,x=.ref a/\uW H2 a y o/\Q (.bl o.isSome) H2
def ZA (td ty tv:TE):TS:=λD σ H=>tv σ H λv H1=>td σ H1 λx H2=>ty σ H2 λy H3=>∃a H4,x=.ref a/\Qt H3 a y v H4/\D.nx σ H4
section
variable {o i:gt}{td ty tv:TE}
def RN (hu:X.A.units+1 < o0) (ho:PE X o td) (hi:PE X i ty) (hs:Yg i):PE X (.Subscript o i pos) (Zm td ty):=by
 intro Z s σ H Q I h;refine Q6 PySem.F.slot_dict_getitem.lookup hs (bC (ho Z s σ H _ I h) λu s1 ⟨x,H1,I1,rx,q1⟩=>bC (hi Z s1 σ H1 _ I1 q1) λiv s2 ⟨y,H2,I2,ry,a,v,ex,g,q2⟩=>?_);subst ex;obtain rfl:u=AD a:=rx;exact⟨Gi I2 g,L8 hu I2 g ry λw' s3 I3 iT=>⟨v,H2,I3,iT,q2⟩⟩
def Wm (hu:X.A.units+1 < o0) (hi:PE X i ty) (ho:PE X o td):PC X .In i o (adE ty td):=by
 intro Z s σ H Q I h;refine bC (hi Z s σ H _ I h) λiv s1 ⟨y,H1,I1,ry,q1⟩=>bC (ho Z s1 σ H1 _ I1 q1) λu s2 ⟨x,H2,I2,rx,a,ov,ex,g,q2⟩=>?_;subst ex;obtain rfl:u=AD a:=rx;exact afv hu I2 g ry λs3 I3=>⟨.bl ov.isSome,H2,I3,rfl,q2⟩
def RA (hu:X.A.units+1 < o0) (ho:PE X o td) (hi:PE X i ty) (hv:PE X value tv) (hs:kt value (ap (.Subscript o i Ö)) pos.line X.env=pure false) :
  PS X (.Assign [.Subscript o i Ö] value pos) (ZA td ty tv):=by
 intro Z s σ H D I h;refine wpAny_Assign_Subscript (bC (hv Z s σ H _ I h) λr s1 ⟨v,H1,I1,rv,q1⟩=>bC (ho Z s1 σ H1 _ I1 q1) λu s2 ⟨x,H2,I2,rx,q2⟩=>bC (hi Z s2 σ H2 _ I2 q2) λiv s3 ⟨y,H3,I3,ry,a,H4,ex,g,q3⟩=>?_) hs;subst ex;obtain rfl:u=AD a:=rx;exact L7 hu I3 g ry rv λs4 I4=>⟨σ,H4,I4,q3⟩
end
def Gh (h:mo) (hb:tt < h.objs.size):bx P w H (h.push {cls:=.type "dict",data:=.dict #[]}) h.objs.size (.dK []):=
 ⟨A6 _,beq_eq_false_iff_ne.mpr (BG (AI hb)),[],.nil,Heap.DictOf.new h⟩
def Vy:TE:=λ_ H Q=>∀p,H p=bm->Q (.ref p) (upd H p (.dK []))
section
def zq:PE X (.Dict [] [] pos) Vy:=λZ s σ H Q I h=>
 wpAny_Dict_empty ⟨.ref s.heap.objs.size,_,I.laid (a:=s.heap.objs.size) (o:=.dK []) (t':=s.toks) (λ_ _ q=>Ah _ q) (Ao _) (Gh s.heap I.big),rfl,h _ (I.bH.fresh (Ao _))⟩
end
def GZ:List (TE×TE)->St->Hp->(List (V×V)->Hp->Prop)->Prop
 | [],_,H,Q=>Q [] H
 | (tk,tv)::r,σ,H,Q=>tk σ H λx H1=>tv σ H1 λy H2=>GZ r σ H2 λps H3=>Q ((x,y)::ps) H3
abbrev VV:List (V×V)->List (ce×ce)->Prop:=Paired λp q=>RelV p.1 q.1/\RelV p.2 q.2
def PPs (X:Cx) (pos:Pos) (É:List (Option gt)) (Ê:List gt) (Uh:List (TE×TE)):Prop:=
 ∀(Z:List (ci×Obj)) (s:cr) (σ:St) (H:Hp) (Q:List (V×V)->Hp->Prop),Inv X Z σ H s->GZ Uh σ H Q->
  db (dL X.prog X.w) X.A (evalPairs (pairTrees É Ê X.env pos)) (λvs s'=>∃ps H',Inv X Z σ H' s'/\VV ps vs/\Q ps H') X.xe s
def RC:PPs X pos [] [] []:=λZ s σ H Q I h=>pairTrees_nil_walk ⟨[],H,I,.nil,h⟩
def NI {k v:gt}{ks:List (Option gt)}{vs:List gt}{tk tv:TE} (hk:PE X k tk) (hv:PE X v tv) (hr:PPs X pos ks vs Uh) :
  PPs X pos (ap k::ks) (v::vs) ((tk,tv)::Uh):=λZ s σ H Q I h=>
 pairTrees_cons_walk (bC (hk Z s σ H _ I h) λu s1 ⟨x,H1,I1,rx,q1⟩=>bC (hv Z s1 σ H1 _ I1 q1) λw2 s2 ⟨y,H2,I2,ry,q2⟩=>
  bC (hr Z s2 σ H2 _ I2 q2) λws s3 ⟨ps,H3,I3,Ï,q3⟩=>⟨(x,y)::ps,H3,I3,.cons ⟨rx,ry⟩ Ï,q3⟩)
def mergeK (kvs more:List (Key×V)):List (Key×V):=more.foldl (λÄ kv=>putK Ä kv.1 kv.2) kvs
def KV.merge:∀{more:List (Key×V)}{rs:List (Key×ce)}{kvs:List (Key×V)}{vs:List (Key×ce)},KV more rs->KV kvs vs->KV (mergeK kvs more) (merged vs rs):=by
 intro more rs kvs vs r
 induction r generalizing kvs vs with
 | nil=>intro q;exact q
 | @cons p q ps qs h t ih=>
  intro r0;have e:KV (putK kvs p.1 p.2) (stored vs q.1 q.2):=by
   have:=r0.put p.1 h.2;rw [<- h.1];exact this
  exact ih e
theorem mi:∀(more kvs:List (Key×V)),(mergeK kvs more).length<=kvs.length+more.length
 | [],kvs=>by show kvs.length<=kvs.length+0;omega
 | p::r,kvs=>by
  have h1:=mi r (putK kvs p.1 p.2);have h2:=k6 kvs p.1 p.2;show (mergeK (putK kvs p.1 p.2) r).length<=_;rw [An];omega
theorem tP {P:sw}{w:t0}:∀{kvs:List (Key×V)}{ws:List (ce×ce)},VV (kvs.map λkv=>(kV kv.1,kv.2)) ws->∃rs,Carries (bM P w) ws rs/\KV kvs rs
 | [],_,r=>by rw [EW] at r;cases r;exact⟨[],BU,.nil⟩
 | p::kvs,_,r=>by
  rw [Aw] at r;cases r with
  | @cons a b as bs h t=>
   obtain⟨rs,c,q⟩:=tP (P:=P) (w:=w) t;obtain⟨b1,b2⟩:=b;exact⟨(p.1,b2)::rs,⟨zN h.1,rfl,c⟩,.cons ⟨rfl,h.2⟩ q⟩
def Zl (Uh:List (TE×TE)):TE:=λσ H Q=>∀p,H p=bm->GZ Uh σ (upd H p (.dK [])) λps H2=>H2 p=ap (.dK [])/\∃kvs:List (Key×V),ps=kvs.map (λkv=>(kV kv.1,kv.2))/\kvs.length<=15/\Q (.ref p) (upd H2 p (.dK (mergeK [] kvs)))
theorem RM {É:List (Option gt)}{Ê:List gt} (h:PPs X pos É Ê Uh) (Xr:É.all (·.isSome)=true) (hl:É.length=Ê.length) (h0:É≠[])
  (h15:É.length<=15):PE X (.Dict É Ê pos) (Zl Uh):=by
 intro Z s σ H Q I q;have hn:=I.bH.fresh (Ao s.heap.objs.size);have I1:=I.laid (a:=s.heap.objs.size) (o:=.dK []) (h':=s.heap.push {cls:=.type "dict",data:=.dict #[]}) (t':=s.toks) (λ_ _ q=>Ah _ q) (Ao _) (Gh s.heap I.big);refine wpAny_Dict_walk (knd:=bM X.prog X.w) Xr hl h0 h15 (bC (h Z _ σ _ _ I1 (q _ hn)) λws s2 ⟨ps,H2,I2,Ï,e,kvs,ep,lk,q2⟩=>?_);subst ep;obtain⟨rs,c,rk⟩:=tP (P:=X.prog) (w:=X.w) Ï;obtain⟨z,hd,vs0,r0,dd⟩:=U9 I2.bH e;cases r0;refine⟨rs,c,dd,λh' XX hs=>⟨.ref s.heap.objs.size,_,?_,rfl,q2⟩⟩;have hz:(mergeK [] kvs).length<=sizeLine:=by
  have h1:=mi kvs [];rw [AN] at h1;rw [Ev];omega
 have he:∃q,h'.get? s.heap.objs.size=ap q:=let ⟨q,_,_,hq,_⟩:=XX;⟨q,hq⟩;exact yf I2 (by rw [e];exact BU) hs he (PQ hz hd (rk.merge .nil) XX)
structure M2 (X:Cx) (o:gt) (m:Str) (Ã:Pos) (e f:gt) (cu:Pos):Prop where
 base:pc o m X.env (kw o X.env)=kw o X.env
 few:((FS cu (ga [e,f] X.env)).all (λx=>!x.1)&&(backToKw cu (keywordEach [] X.env)).all (λx=>x.1.isSome)
  && decide (([e,f]:List gt).length+([]:List Keyword).length+(if ([]:List Keyword).isEmpty then 0 else 1) < 30))=true
 line:(Ã.endLine==cu.line)=true
 trees:FS cu (ga [e,f] X.env)=[(false,kw e X.env),(false,kw f X.env)]
def IsD (H:Hp) (a:ci):Prop:=(∃kvs,Rd H a (.dK kvs))\/∃kvs,Rd H a (.dT kvs)
end L2
variable {Ó:List Cp}{XP:(Cp->Option Bb)->FD->Prop}{YP:PySem.World->FD->Prop}{d:PySem.DefRec}
namespace Att
open PySem PySem.W PySem.Calls PyProof.Rows
def qf {P:Params}:∀(ns:List Int) (vs:List ce),WellAll P h vs (ns.map WData.int)->wS vs ns:=by
 intro ns
 induction ns with
 | nil=>
  intro vs w;cases w;exact .nil
 | cons n ns ih=>
  intro vs w;cases w with
  | cons a b=>
   cases a;exact .cons _ _ (ih _ b)
theorem KW {l:OpenLaw} (hn:l.most=ap n) {P:Params}{args:List WData}{Ý:List ce}
  (SS:l.row.toRowW.claim.pre args=true) (Ġ:WellAll P h Ý args) :
  ∃a vs ns,Ý=[AD a]/\args=[WData.list (ns.map WData.int)]/\h.get? a=ap {cls:=.type "list",data:=.seq vs.toArray}/\wS vs ns/\ns.length<=n:=by
 have hsh:=(pre_splitW SS).1;have hc:l.pre.holds [] {args:=args}=true:=(pre_splitW SS).2;obtain⟨d,r,rfl,h1,h2⟩:=hasAllW_cons hsh;obtain rfl:=hasAllW_nil h2;obtain⟨xs,rfl,h3⟩:=hasW_list h1;obtain⟨ns,rfl⟩:=items_int h3;have Á:ns.length<=n:=by
  unfold OpenLaw.pre at hc;have h4:(WTm.not (.lt (.lit (.int (n:Int))) (.len (.arg 0)))).holds [] {args:=[.list (ns.map .int)]}=true:=by
   have h4:=(holds_andW hc).1;rw [hn] at h4;exact h4
  have h5:=condW_of h4 (w_not (w_lt w_lit (w_len_list (w_arg rfl))));refine Nat.le_of_not_lt λq=>?_
  first
   | (rw [decide_eq_true q'] at h5;exact absurd h5 ⋯)
   | (simp at h5;omega)
 cases Ġ with
 | cons w1 w2=>
  cases w2;cases w1 with
  | list ho Xr=>exact⟨_,_,ns,rfl,rfl,ho,qf ns _ Xr,Á⟩
def K3 (l:OpenLaw) (args:List WData):l.row.toRowW.claim.post args (.bool true) args=true:=
 postW_of (r:=l.row.toRowW) (X:=(true==true))
  (show WShape.has [] (.bool true) .bool=true by first | rfl | decide | simp [WShape.has,WShape.arms,WShape.armsAll])
  (show (WTm.eq .res (.lit (.bool true))).value [] {args:=args,res:=ap (.bool true),after:=args}=ap (.bool (true==true)) from w_eq_bool (w_res rfl) w_lit) rfl
def Gq {l:OpenLaw}{q:sw}
  (hn:l.most=ap n) (ñ:d.params.defaults=[])
  (call:∀(w:t0) (s₀ s₁:cr) (mg mb:Str->Option ce) (fa:ci) (o:Obj) (pm cd È:ce) (a:ci) (vs:List ce) (ns:List Int),
   Ground q Ó [] XP w s₀ mg mb s₁.heap->YP w s₁.heap->
   s₁.heap.get? fa=ap o->o.data=.func (docDef d.name d.params d.body d.scope pm cd È)->s₁.heap.CodeRec cd d.name->mg d.name=ap (.ref fa)->
   s₁.heap.get? a=ap {cls:=.type "list",data:=.seq vs.toArray}->wS vs ns->ns.length<=n->s₁.gens=#[]->
   FM (dL l.prog w) callerA (.call (.ref fa) ⟨[.ref a],[]⟩) (λr s'=>r=.ok (.ret (.bool true))/\OldK s₁.heap s'.heap/\s'.os=s₁.os/\Gc s'.gens) s₁) :
  WalkO q Ó XP YP l.row.toRowW d [] (λf vs=>FY f vs):=by
 intro w s₀ s₁ mg mb G Y fa o pm cd È dV kV ho hd iV hD hmg hg args Ý as SS aji hrd Ġ hlo;obtain rfl:dV=.none:=Dflts.none hD ñ;obtain rfl:kV=.none:=Dflts.noKw hD;obtain⟨a,vs,ns,rfl,rfl,Xm,Õ,Á⟩:=KW hn SS Ġ;refine enter_call (codeAny_mono (call w s₀ s₁ mg mb fa o pm cd È a vs ns G Y ho (fd_plain hd) iV hmg Xm Õ Á hg) λr s' hq=>?_);obtain⟨rfl,h2,h3,h4⟩:=hq;exact⟨.inl ⟨.bool true,.bool true,[],rfl,λ_=>rfl,.bool true,K3 l _,λ_=>⟨List.Pairwise.nil,λ_ hm=>(nomatch hm)⟩⟩,h2,h3,h4⟩
end Att
variable {k:Nat}{sp:L2.Sp}
namespace L2
open PySem PySem.Spec PyProof.Rows
theorem oE:∀{vs:List ce}{ns:List Int},wS vs ns->Vals (ns.map V.int) vs
 | _,_,.nil=>.nil
 | _,_,.cons n t h=>.cons ⟨t,rfl⟩ (oE h)
def T6 (H:Hp):Prop:=∀b,H b=bm\/∃o xs,H b=ap (.cM o (.lst xs))
def Oo {K:Ab}{mb:Str->Option ce}{CX:MN}{fa:ci}{s₁:cr}{vs:List ce}
  (KX:K.In s₁.heap) (hns:s₁.heap.Ns d4 mg) (hb:s₁.heap.Ns builtinsNs mb) (hbb:∀x:Str,x≠"__name__"->mb x=nn x) (aeT:s₁.heap.NoLimit) (hg:s₁.gens=#[])
  (ha:s₁.heap.get? a=ap {cls:=.type "list",data:=.seq vs.toArray}) (hi:wS vs ns) (hl:ns.length<=sizeLine) (hr:cL k callerA)
  (F:∀base:mo,K.In base->base.Ns d4 mg->gJ P w K mg base CX k fa fd [x] sp) (aa5:∀(s:cr) (u:ce),BindsTo s fd ⟨[u],[]⟩ [(x,u)])
  (SR:∀H:Hp,T6 H->di K H a (ns.map V.int)->sp [.ref a] H (λv _=>v=.bl true) λ_ _ _=>False)
  (ķ:∀H e s',CX [] H s₁ (λ_ _ _=>False) e s'->False) :
  FM (dL P w) callerA (.call (.ref fa) ⟨[.ref a],[]⟩) (λr s'=>r=.ok (.ret (.bool true))/\OldK s₁.heap s'.heap/\s'.os=s₁.os/\Gc s'.gens) s₁:=by
 have rv:=oE hi;have ad8:=hi.length;have ö:∀H:Hp,T6 H->di K H a (ns.map V.int)->lX P w H s₁.heap->(∀b,H b≠bm->b=a)->(H a≠bm->K.lookup a=bm)->
   FM (dL P w) callerA (.call (.ref fa) ⟨[.ref a],[]⟩) (λr s'=>r=.ok (.ret (.bool true))/\OldK s₁.heap s'.heap/\s'.os=s₁.os/\Gc s'.gens) s₁:=by
  intro H hO hS bH hA hK;have Ku:∀{b:ci}{o:Obj},s₁.heap.get? b=ap o->H b=bm->(xw s₁.heap H).get? b=ap o:=λe n=>OT e n;have ã:∀{b:ci}{o:Obj}{es:Array DictEntry}{ep:Nat},s₁.heap.get? b=ap o->o.data=.dict es ep->H b=bm:=λ{b o es ep} e d=>by
   cases q:H b with
   | none=>rfl
   | some u=>
    have e':b=a:=hA b (by rw [q];simp);subst e';rw [ha] at e;cases e;have d':Fi vs.toArray _=Data.dict es ep:=d;cases d'
  have ÿ:∀{b:ci}{m:Str->Option ce},s₁.heap.Ns b m->(xw s₁.heap H).Ns b m:=λ{b m} ⟨o,es,ep,e,d,r⟩=>⟨o,es,ep,Ku e (ã e d),d,r⟩;have hKb:K.In (xw s₁.heap H):=λb o e=>Ku (KX b o e) (by
   cases q:H b with
   | none=>rfl
   | some u=>
    have e':b=a:=hA b (by rw [q];simp);subst e';rw [hK (by rw [q];simp)] at e;cases e)
  have hM:Mod K mg (xw s₁.heap H):=⟨hKb,ÿ hns,⟨mb,ÿ hb,hbb⟩,let ⟨mc,h1,h2⟩:=aeT;⟨mc,ÿ h1,h2⟩⟩;have e0:T9 P w K mg (xw s₁.heap H) callerA [] s₁ H:=⟨rfl,hM,λb o e=>R5 e,Nat.le_of_eq (Lx _ _),trivial,λb hb=>absurd (show b∈([]:List ci) from hb) (by simp),bH,.of_eq hg⟩;refine codeAny_mono ((F _ hKb (ÿ hns)).run callerA [] s₁ H ⟨[.ref a],[]⟩ [.ref a] [.ref a] _ _ hr e0 (aa5 s₁ (.ref a)) (.cons rfl .nil) (SR H hO hS)) λr s' h=>?_;cases r with
  | error e=>exact (ķ H e s' h).elim
  | ok fl=>
   cases fl with
   | next=>exact Bs h
   | brk=>exact Bs h
   | cont=>exact Bs h
   | ret u=>
    obtain⟨v,H',os,bare,un,aeO,r',q⟩:=h;have q':v=.bl true:=q;subst q';obtain rfl:u=Ca true:=r';refine⟨rfl,OldK.of_keep λb o e=>?_,os,bare⟩;cases q:H b with
    | none=>exact un.keep b o e q (by intro z;exact absurd (show b∈([]:List ci) from z) (by simp)) (by simp)
    | some u=>
     rcases hO b with z | ⟨ob,xs,z⟩
     ·rw [q] at z;cases z
     ·have z2:=un.qk b ob _ z;obtain⟨e1,_⟩:=bH b _ z;obtain⟨e2,_⟩:=aeO b _ z2;rw [e] at e1;cases e1;exact e2
 cases hk:K.lookup a with
 | some o=>
  have e:=KX a o hk;rw [ha] at e;cases e;refine ö (λ_=>bm) (λ_=>.inl rfl) (.inr ⟨_,vs.toArray,_,hk,rfl,rfl,rfl,by rw [Ai,ad8];exact hl,by simpa using rv⟩) (λb u z=>by have z':(bm:Option HO)=ap u:=z;cases z') (λb z=>absurd rfl z) λz=>absurd rfl z
 | none=>
  refine ö (λb=>if b=a then ap (.cM {cls:=.type "list",data:=.seq vs.toArray} (.lst (ns.map V.int))) else bm) (λb=>?_) (.inl (.inr ⟨{cls:=.type "list",data:=.seq vs.toArray},if_pos rfl⟩)) (λb u z=>?_) (λb z=>?_) λ_=>hk
  ·by_cases hb:b=a
   ·exact .inr ⟨_,_,if_pos hb⟩
   ·exact .inl (if_neg hb)
  ·by_cases hb:b=a
   ·have z':=(if_pos hb).symm.trans z;cases z';subst hb;exact⟨ha,by rw [Ag];exact hl,vs,_,rv,ha⟩
   ·have z':=(if_neg hb).symm.trans z;cases z'
  ·by_cases hb:b=a
   ·exact hb
   ·exact absurd (if_neg hb) z
def QR {l:E5}{q:sw}{K:Params->Ab}{CX:t0->MN}{sp:t0->Sp}
  (hn:l.most=ap n) (ī:n<=sizeLine) (ñ:d.params.defaults=[]) (hr:cL k callerA)
  (hY:∀(w:t0) (h:mo),YP w h->(K w.params).In h)
  (F:∀(w:t0) (mg:Str->Option ce) (fa:ci) (h:mo),(K w.params).In h->h.Ns d4 mg->mg d.name=ap (.ref fa)->
   ∃fd:Da,(∀(s:cr) (u:ce),BindsTo s fd ⟨[u],[]⟩ [(x,u)])/\
    ∀base:mo,(K w.params).In base->base.Ns d4 mg->gJ l.prog w (K w.params) mg base (CX w) k fa fd [x] (sp w))
  (SR:∀(w:t0) (H:Hp) (a:ci) (ns:List Int),ns.length<=n->T6 H->di (K w.params) H a (ns.map V.int)->sp w [.ref a] H (λv _=>v=.bl true) λ_ _ _=>False)
  (ķ:∀(w:t0) (H:Hp) (s:cr) (e:ce) (s':cr),CX w [] H s (λ_ _ _=>False) e s'->False) :
  PySem.W.WalkO q Ó XP YP l.row.toRowW d [] (λf vs=>FY f vs):=by
 refine Att.Gq hn ñ λw s₀ s₁ mg mb fa o pm cd È a vs ns G Y ho hd iV hmg Xm Õ Á hg=>?_;have KX:=hY w _ Y;obtain⟨fd,hb,hF⟩:=F w mg fa _ KX G.T.g hmg;exact Oo KX G.T.g G.T.b G.T.builtins G.T.nolimit hg Xm Õ (A7 Á ī) hr hF hb (λH hO hS=>SR w H a ns Á hO hS) λH e s'=>ķ w H s₁ e s'
end L2
variable {B:Prop}
namespace L2
open PySem PySem.Spec PyProof.Rows
def gI (s:sK):Arguments:=match s with
 | .FunctionDef _ a _ _ _ _ _ _ _ _=>a
 | _=>{posonlyargs:=[],args:=[],vararg:=bm,kwonlyargs:=[],kw_defaults:=[],kwarg:=bm,defaults:=[]}
def br (s:sK):List sK:=match s with
 | .FunctionDef _ _ b _ _ _ _ _ _ _=>b
 | _=>[]
def ai (s:sK):nw:=match s with
 | .FunctionDef _ _ _ _ _ _ sc _ _ _=>sc
 | _=>{kind:=.function,names:=[],isGenerator:=false,isCoroutine:=false}
abbrev lY:MN:=λ_ _ _ _ _ _=>False
abbrev E0:XK:=λ_ _ _=>False
def NW:Passes lY X E0:=λ_ _ _ _ _ _ _ h=>h.elim
structure QH (K:Ab) (x qual:Str) (st:sK) (f:ci) (fd:Da):Prop where
 ex:∃(oc:ce) (od:Option ci) (kV È pm:ce) (an:Option ci) (cK ct:ce) (RU:Array (Option ce)),
  fd=BZ x qual (gI st) (br st) (ai st) .none kV È pm an cK ct/\K.lookup f=ap ⟨oc,od,.func fd,RU⟩/\D3 K cK qual=true
 kp:CO K (.ref f)=true
section
variable {K:Ab}
def QH.ok {st:sK}{f:ci}{N:List Str} (F:QH K x qual st f fd) (S:ar N ps (ai st)) (len:∀vs H Q E,sp vs H Q E->vs.length=ps.length)
  (OW:∀(cK:ce) (A:pr) (outer:List Env) (s:cr) (H:Hp) (vs:List V) (Q:VK) (E:XK),cL k (A.deeper (sn qual (ai st) s.heap.objs.size f cK))->sp vs H Q E->
   ∃t,qY (i7 lY P w K mg base N qual (ai st) f cK A outer s H E).wW (br st) t/\t {nx:=λ_ H'=>Q .aO H',rt:=Q} (start N vs) H):gJ P w K mg base lY (k+1) f fd ps sp:=by
 obtain⟨oc,od,kV,È,pm,an,cK,ct,RU,rfl,lk,iV⟩:=F.ex;refine abg lk iV S len λA outer s H vs Q E hr SR=>?_;obtain⟨t,h,q⟩:=OW cK A outer s H vs Q E hr SR;exact⟨t,h.wW,q⟩
def QH.binds {st:sK}{f:ci} (F:QH K x qual st f fd)
  (h:∀(kV È pm:ce) (an:Option ci) (cK ct:ce) (us:List ce),us.length=ps.length->bindArgs (BZ x qual (gI st) (br st) (ai st) .none kV È pm an cK ct) ⟨us,[]⟩=pure (ps.zip us)):Binds K fd ps []:=by
 obtain⟨oc,od,kV,È,pm,an,cK,ct,RU,rfl,lk,iV⟩:=F.ex;exact .all (h kV È pm an cK ct)
def Xy {st:sK}{f:ci}{kV:ce} (l:K.lookup f=ap ⟨oc,od,.func (BZ x qual (gI st) (br st) (ai st) .none kV È pm an cK ct),RU⟩)
  (c:D3 K cK qual=true) (k:CO K (.ref f)=true):QH K x qual st f (BZ x qual (gI st) (br st) (ai st) .none kV È pm an cK ct):=⟨⟨oc,od,kV,È,pm,an,cK,ct,RU,rfl,l,c⟩,k⟩
end
def ve (h:n<=1000):n < sizeLine:=Nat.lt_of_le_of_lt h ⋯
def uE {A:Prop} (h:B):if false=true then A else B:=by
 exact h
def uD {A:Prop} (h:A):if true=true then A else B:=by
 exact h
def kF (H H':Hp):Prop:=∀b o,H b=ap o->H' b=ap o
def kF.refl (H:Hp):kF H H:=λ_ _ h=>h
end L2
variable {a b:Nat}{H2:L2.Hp}{R:PySem.Result->DZ->Prop}{Xs:PySem.Scope}{N':List Cp}{ix:List (Option Nat)}{Å:BJ}{Ì:List BJ}{px nt:Cu}
namespace L2
open PySem PySem.Spec PyProof.Rows
def lsz {o:Obj} (e:h.get? b=ap o):b < h.objs.size:=Ar e
def neN (h:a≠b):a≠b:=h
def ltN (h:a < b):a < b:=h
def Vc {c:Nat}{v:Option ce} (q:h.IsCell c v):c < h.objs.size:=q.lt
structure aG (Xs:nw) (N:List Str) (sc:nw) (N':List Str) (ix:List (Option Nat)):Prop where
 kind:sc.kind=.function
 nc:∀y∈sc.names,y.2≠.cell
 loc:∀y∈sc.names,y.2=.local->sc.names.lookup y.1=ap .local
 fr:∀y∈sc.names,y.2=.free->(Xs.names.lookup y.1=ap .cell\/Xs.names.lookup y.1=ap .free)
 nd:N'.Nodup
 len:ix.length=N'.length
 map:((ix.zip N').all λp=>match p.1 with | none=>true | some j=>decide (N[j]?=ap p.2)&&decide (sc.names.lookup p.2=ap .free))=true
def aG.at {N:List Str} (S:aG Xs N sc N' ix) {i:Nat} (h1:ix[i]?=ap (ap j)) (h2:N'[i]?=ap x) :
  N[j]?=ap x/\sc.names.lookup x=ap .free:=by
 have hm:((ap j,x):Option Nat×Str)∈ix.zip N':=by
  refine Bm (i:=i) ?_;rw [List.getElem?_zip_eq_some];exact⟨h1,h2⟩
 have q:=Cw.mp S.map _ hm;simp only [Az,decide_eq_true_eq] at q;exact q
def oq (ix:List (Option Nat)) (σ:St):St:=ix.map λo=>match o with | some j=>(σ[j]?).getD bm | none=>bm
def gA (X:Cx) (sc:nw) (N':List Str) (cl:List (Str×ci)) (C:ci) (s2:cr) (H2:Hp) (fp:List ci):Cx where
 prog:=X.prog
 w:=X.w
 K:=X.K
 mg:=X.mg
 base:=X.base
 A:=X.A
 N:=N'
 s₀:=s2
 H₀:=H2
 env:=compEnvC sc cl C X.env
 outer:=X.stack
 stack:=X.stack
 ex:=fp
 calm:=X.calm
 fn:=λ_=>false
 pn:=[]
 xe:=λ_ _=>False
theorem mR:∀(names:List (Str×wP)) (cs:List (Str×ci)),(∀y∈names,y.2=.free->∃c,env.cells.lookup y.1=ap c)->
  ∃cl,(forIn names cs λ(x:Str×wP) (c:List (Str×ci))=>(match x with | (name,kind)=>do
    let c <- if (kind==Bo)=true then do let a <- cellOf env name;pure ((name,a)::c) else pure c
    pure (Cr c):Sem (ForInStep (List (Str×ci)))))=pure cl/\(∀x c,cl.lookup x=ap c->cs.lookup x=ap c\/(env.cells.lookup x=ap c/\(x,Bo)∈names))/\(∀x,((x,Bo)∈names\/(∃c,cs.lookup x=ap c))->∃c,cl.lookup x=ap c)
 | [],cs,_=>⟨cs,rfl,λ_ _ h=>.inl h,λx h=>h.elim (λz=>nomatch z) λz=>z⟩
 | (n,k)::r,cs,h=>by
  by_cases hk:k=.free
  ·subst hk;obtain⟨c,hc⟩:=h (n,.free) BC rfl;obtain⟨cl,e,h1,h2⟩:=mR r ((n,c)::cs) λy hy=>h y (AY _ hy);refine⟨cl,?_,λx d hd=>?_,λx hx=>?_⟩
   ·rw [Cb,<- e];simp only [beq_self_eq_true,if_true,cellOf,hc,pure_bind]
   ·rcases h1 x d hd with z | ⟨z1,z2⟩
    ·rw [Br] at z;by_cases hx:(x==n)=true
     ·rw [hx] at z;have vz:x=n:=eq_of_beq hx;subst vz;cases z;exact .inr ⟨hc,BC⟩
     ·have vz:(x==n)=false:=by simpa using hx
      rw [vz] at z;exact .inl z
    ·exact .inr ⟨z1,AY _ z2⟩
   ·refine h2 x ?_;rcases hx with hx | ⟨d,hd⟩
    ·rcases Ax.mp hx with z | z
     ·injection z with z1 _;subst z1;exact .inr ⟨c,by rw [Br];simp⟩
     ·exact .inl z
    ·by_cases hx:(x==n)=true
     ·exact .inr ⟨c,by rw [Br,hx]⟩
     ·have vz:(x==n)=false:=by simpa using hx
      exact .inr ⟨d,by rw [Br,vz];exact hd⟩
  ·obtain⟨cl,e,h1,h2⟩:=mR r cs λy hy=>h y (AY _ hy);refine⟨cl,?_,λx d hd=>?_,λx hx=>?_⟩
   ·have hb:(k==Bo)=false:=by simpa using hk
    rw [Cb,<- e];simp only [hb,Ak,if_false,pure_bind]
   ·rcases h1 x d hd with z | ⟨z1,z2⟩
    ·exact .inl z
    ·exact .inr ⟨z1,AY _ z2⟩
   ·refine h2 x ?_;rcases hx with hx | hx
    ·rcases Ax.mp hx with z | z
     ·injection z with _ z2;exact absurd z2.symm hk
     ·exact .inl z
    ·exact .inr hx
def mz (h:∀y∈sc.names,y.2=.free->∃c,env.cells.lookup y.1=ap c) :
  ∃cl,closureFor sc env=pure cl/\(∀x c,cl.lookup x=ap c->env.cells.lookup x=ap c/\(x,Bo)∈sc.names)/\(∀x,(x,Bo)∈sc.names->∃c,cl.lookup x=ap c):=by
 obtain⟨cl,e,h1,h2⟩:=mR (env:=env) sc.names [] h;refine⟨cl,?_,λx c hc=>(h1 x c hc).resolve_left (λz=>nomatch z),λx hx=>h2 x (.inl hx)⟩;unfold closureFor;have e':(forIn sc.names ([]:List (Str×ci)) λx r=>(match x with | (name,kind)=>if (kind==Bo)=true then do let a <- cellOf env name;pure (Cr ((name,a)::r)) else pure (Cr r):Sem (ForInStep (List (Str×ci)))))=pure cl:=by
  rw [<- e]
  first
   | rfl
   | (
     congr 1;funext x r;obtain⟨n,k⟩:=x;by_cases hk:(k==Bo)=true
     ·simp only [hk,if_true,pure_bind]
     ·simp only [hk,if_false,pure_bind,Ak])
   | simp only [pure_bind]
 simpa using e'
theorem hU {env:Env}:∀{names:List (Str×wP)}{x:Str},
  (names.map λ(n,k)=>if (k==Bo&&env.scope.kind==.function&&env.kindOf n==ap .cell) then (n,Fx) else (n,k)).lookup x =
   (names.lookup x).map λk=>if (k==Bo&&env.scope.kind==.function&&env.kindOf x==ap .cell) then Fx else k
 | [],_=>rfl
 | (n,k)::r,x=>by
  have ih:=@hU env r x;show List.lookup x ((if (k==Bo&&env.scope.kind==.function&&env.kindOf n==ap .cell)=true then (n,Fx) else (n,k))::_)=_;cases hx:x==n with
  | true=>
   have e:=eq_of_beq hx;subst e;by_cases hc:(k==Bo&&env.scope.kind==.function&&env.kindOf x==ap .cell)=true
   ·rw [if_pos hc,Br,Br,hx];simp only [CC,hc,if_true]
   ·rw [if_neg hc,Br,Br,hx];simp only [CC,hc,if_false];simp
  | false=>
   by_cases hc:(k==Bo&&env.scope.kind==.function&&env.kindOf n==ap .cell)=true
   ·rw [if_pos hc,Br,Br,hx];exact ih
   ·rw [if_neg hc,Br,Br,hx];exact ih
def YO (X:Cx) (Ì:List gt) (t:TT):Prop:=
 ∀(Z:List (ci×Obj)) (s:cr) (σ:St) (H:Hp) (Q:Bool->Hp->Prop),Inv X Z σ H s->t σ H Q->
  db (dL X.prog X.w) X.A (forIn Ì true λc r=>if r=true then do let ok <- isTrue c X.env (kw c X.env);pure (Cr ok) else pure (Cr r)) (TP X Z σ Q) X.xe s
def adG:TT:=λ_ H Q=>Q true H
def RJ:YO X [] adG:=λZ s σ H Q I h=>by
 exact Af ⟨H,I,h⟩
def RI {c:gt}{t:TT} (hc:PT X c t):YO X [c] t:=λZ s σ H Q I h=>by
 rw [Cb];simp only [if_true,bind_assoc,pure_bind];refine Aa (bC (hc Z s σ H Q I h) λb s1 q=>?_);exact Af q
def tLc (ix:List (Option Nat)) (wi:TI) (g:TG) (tf:TT) (te:TE):TE:=λσ H Q=>wi σ H λJ H1=>∀D,H1 D=bm->∃W:Nat->Nat->St->List V->Hp->Prop,
 (∃m,W 0 m (oq ix σ) [] (upd H1 D (.lst [])))/\∀i m σ' ys H,W i m σ' ys H->H D=ap (.lst ys)/\
  ((J.stop i H/\Q (.ref D) H)\/(J.go i H/\∀x H',J.Ud i H x H'->g x σ' H' λσ2 H2=>tf σ2 H2 λb H3=>
   if b=true then te σ2 H3 λy H4=>H4 D=ap (.lst ys)/\ys.length+1<=sizeLine/\∃m',m' < m/\W (i+1) m' σ2 (ys++[y]) (upd H4 D (.lst (ys++[y]))) else ∃m',m' < m/\W (i+1) m' σ2 ys H3))
def me {Ë:gt}{it Ä:ce} (I:Nat->cr->Prop)
  (turn:∀n s,I n s->db (dL prog w) A (pyNext it) (λr s₁=>match r with
   | none=>R (.ok .next) s₁
   | some v=>db (dL prog w) A (Gf Ë it v) (λ_ Um=>db (dL prog w) A (ww Ë env v) (λ_ s₂=>
     db (dL prog w) A (forIn Ì true λc r=>if r=true then do let ok <- isTrue c env (kw c env);pure (Cr ok) else pure (Cr r)) (λok s₃=>
      if ok=true then db (dL prog w) A (kw Å env) (λx s₄=>
       db (dL prog w) A (call (.builtin "list.append") [Ä,x]) (λ_ s₅=>∃m,m < n/\I m s₅) (λ_ _=>False) s₄) (λ_ _=>False) s₃
      else ∃m,m < n/\I m s₃) (λ_ _=>False) s₂) (λ_ _=>False) Um) (λ_ _=>False) s₁) (λ_ _=>False) s)
  (n:Nat) (h:I n s) :
  FM (dL prog w) A (.compLoop (.ListComp Å [⟨Ë,iter,Ì,0⟩] scope pos) 0 it Ä env) R s:=by
 refine codeAny_loop rfl I (λn s hI=>?_) n h;refine wpAny_noted ?_;rw [compTurn_list];refine Aa (Et (Aa (BO (turn n s hI) (λr s₁ h₁=>?_) λ_ _ h'=>h'.elim)));cases r with
 | none=>exact Af h₁
 | some v=>
  refine Aa (BO h₁ (λ_ Um aaG=>?_) λ_ _ h'=>h'.elim);refine Aa (BO aaG (λ_ s₂ h₂=>Aa (BO h₂ (λok s₃ h₃=>?_) λ_ _ h'=>h'.elim)) λ_ _ h'=>h'.elim);cases ok with
  | false=>exact Af ⟨rfl,h₃⟩
  | true=>
   have aaF:db (dL prog w) A (kw Å env) (λx s₄=>
       db (dL prog w) A (call (.builtin "list.append") [Ä,x]) (λ_ s₅=>∃m,m < n/\I m s₅) (λ_ _=>False) s₄) (λ_ _=>False) s₃:=h₃
   exact Aa (Aa (BO aaF (λx s₄ h₄=>Aa (BO h₄ (λ_ s₅ h₅=>Af (Af ⟨rfl,h₅⟩)) λ_ _ h'=>h'.elim)) λ_ _ h'=>h'.elim))
section
variable {g:TG}{tf:TT}
structure abZ (X:Cx) (Z:List (ci×Obj)) (H:Hp) (C:ci):Prop where
 hn:H C=bm
 hL:C≠X.env.locals
 ab:X.s₀.heap.objs.size<=C
 cl:∀x c,X.env.cells.lookup x=ap c->c≠C
 pn:∀p∈X.pn++Z,p.1≠C
theorem JW (hc:X.calm=true) (S:aG X.env.scope X.N sc N' ix)
  (hg:∀cl C s2 H2 fp,PG (gA X sc N' cl C s2 H2 fp) tg g) (hf:∀cl C s2 H2 fp,YO (gA X sc N' cl C s2 H2 fp) Ì tf) (he:∀cl C s2 H2 fp,PE (gA X sc N' cl C s2 H2 fp) Å te) {s2:cr}{cl:List (Str×ci)} (sQ:∀x c,cl.lookup x=ap c->X.env.cells.lookup x=ap c/\(x,Bo)∈sc.names) (Lz:∀x,(x,Bo)∈sc.names->∃c,cl.lookup x=ap c) {tn:Nat->mo->Prop}{J:It}{Q:VK} (I2:Inv X Z σ H2 s2) (T:Turn X.prog X.w X.K tg J fp it tn) (KO:tn 0 s2.heap) (f2:∀b∈fp,uV X Z H2 b)
  (hW:∀D,H2 D=bm->∃W:Nat->Nat->St->List V->Hp->Prop,
   (∃m,W 0 m (oq ix σ) [] (upd H2 D (.lst [])))/\∀i m σ' ys H,W i m σ' ys H->H D=ap (.lst ys)/\
    ((J.stop i H/\Q (.ref D) H)\/(J.go i H/\∀x H',J.Ud i H x H'->g x σ' H' λσ2 H2=>tf σ2 H2 λb H3=>
     if b=true then te σ2 H3 λy H4=>H4 D=ap (.lst ys)/\ys.length+1<=sizeLine/\∃m',m' < m/\W (i+1) m' σ2 (ys++[y]) (upd H4 D (.lst (ys++[y]))) else ∃m',m' < m/\W (i+1) m' σ2 ys H3)))
  {RR:ce->ci->Result->cr->Prop}{E:ce->cr->Prop}
  (hRR:∀D C m s' H',Inv X Z σ H' s'->Q (.ref D) H'->s'.heap.Ns C m->abZ X Z H' C->RR (.ref D) C (.ok .next) s') :
  db (dL X.prog X.w) X.A (newList []) (λÄ s₃=>db (dL X.prog X.w) X.A (newFunctionEnv sc X.env.globals cl [] X.env.qual bm .none (ap X.env)) (λabJ s₄=>
   FM (dL X.prog X.w) X.A (.compStart (.ListComp Å [⟨tg,iter,Ì,0⟩] sc pos) 0 (.ref it) Ä {abJ with scope:=relabel sc X.env}) (RR Ä abJ.locals) s₄) E s₃) E s2:=by
 refine A2 (wpAny_newFunctionEnv S.nc (by intro y hy;simp at hy) (λh₁ HJ xu=>?_) S.kind);generalize hH2:s2.heap.push {cls:=.type "list",dict:=bm,data:=.seq ([]:List ce).toArray}=G2 at HJ xu ⊢;have hC:G2.objs.size=s2.heap.objs.size+1:=by rw [<- hH2,CP]
 obtain⟨D,hD⟩:∃D:Nat,s2.heap.objs.size=D:=⟨_,rfl⟩;obtain⟨C,hCC⟩:∃C:Nat,G2.objs.size=C:=⟨_,rfl⟩;simp only [hD,hCC] at HJ xu hC ⊢;have hDC:D≠C:=by omega
 have Î:∀b o,s2.heap.get? b=ap o->h₁.get? b=ap o:=λb o e=>by
  have hb:=lsz e;exact xu.extBut b o (neN ∅) (Ah _ (hH2▸Ah _ e))
 have aa6:h₁.get? D=ap {cls:=.type "list",data:=.seq ([]:List ce).toArray}:=by
  refine xu.extBut D _ hDC (Ah _ ?_);rw [<- hH2,<- hD];exact Aq _ rfl
 have hD2:H2 D=bm:=I2.bH.fresh ∅;have hC2:H2 C=bm:=I2.bH.fresh ∅;obtain⟨W,⟨m0,w0⟩,turn⟩:=hW D hD2;have Vb:∀x c,cl.lookup x=ap c->∃v,s2.heap.IsCell c v:=λx c e=>I2.cell x c (sQ x c e).1;have afy:∀x c,cl.lookup x=ap c->c < D:=λx c e=>by
  obtain⟨v,q⟩:=Vb x c e;have:=Vc q;exact ltN ∅
 have Ļ:∀b∈fp,b < D:=λb hb=>by
  obtain⟨o,e,_⟩:=T.obj 0 _ KO b hb;have:=lsz e;exact ltN ∅
 have Yok:(gA X sc N' cl C s2 H2 fp).Ok:=by
  refine⟨I2.ok.mod,S.kind,I2.ok.glob,I2.ok.blt,?_,?_,?_,?_,I2.ok.hd,I2.ok.frames,.inl rfl,?_,I2.bs,?_,?_,?_,I2.stack,I2.Js⟩
  ·show s2.heap.objs.size<=C;omega
  ·intro x y c e1 e2;exact I2.ok.inj x y c (sQ x c e1).1 (sQ y c e2).1
  ·intro x hx;have vz:(relabel sc X.env).names.lookup x=ap .cell\/(relabel sc X.env).names.lookup x=ap .free:=hx;unfold relabel at vz;rw [hU] at vz;cases q:sc.names.lookup x with
   | none=>rw [q] at vz;simp at vz
   | some k=>
    have hm:=BQ q;by_cases hk:k=.free
    ·subst hk;exact Lz x hm
    ·have Ċ:k≠.cell:=S.nc _ hm;rw [q] at vz;have hb:(k==Bo)=false:=by simpa using hk
     simp only [CC,hb,Ef,Ak,if_false] at vz;rcases vz with z | z
     ·exact absurd (Option.some.inj z) Ċ
     ·exact absurd (Option.some.inj z) hk
  ·intro x c ï;exact absurd ï AW
  ·intro b hb;refine⟨?_,λx c e z=>(f2 b hb).2.2.2.2.1 x c (sQ x c e).1 z⟩;show b≠C;have:=ltN (Ļ b hb);exact neN ∅
  ·exact A7 I2.ok.Vd I2.sz
  ·intro b o e hb;rcases (f2 b hb).2.2.2.1 with z | z
   ·exact I2.ok.N7 b o e z
   ·have h1:=lsz (h:=X.base) e;have h2:=I2.ok.Vd;omega
  ·intro b hb z;rcases Ax.mp (I2.G1 b z) with q | q
   ·exact (f2 b hb).2.1 q
   ·exact (f2 b hb).2.2.1 q
 have un0:Un (MJ X.stack) fp H2 (upd H2 D (.lst [])) s2.heap h₁:=Un.laid Î ∅ hD2;have aeN:lX X.prog X.w (upd H2 D (.lst [])) h₁:=I2.bH.laid Î ∅ ⟨A6 _,[],0,.nil,aa6⟩;have IY:∀tk,Inv (gA X sc N' cl C s2 H2 fp) [] (oq ix σ) (upd H2 D (.lst [])) {s2 with heap:=h₁,toks:=tk}:=λtk=>by
  refine⟨Yok,rfl,I2.bare,un0,⟨_,HJ,λi x v e1 e2 e3=>?_⟩,λx c e=>?_,?_,λx c e=>?_,λp hp=>absurd (show p∈([]:List (ci×Obj)) from hp) (by simp),aeN,?_⟩
  ·have m6:N'[i]?=ap x:=e1;unfold oq at e2;rw [Aj] at e2;cases q:ix[i]? with
   | none=>rw [q] at e2;cases e2
   | some o=>
    cases o with
    | none=>rw [q] at e2;cases e2
    | some j=>
     rw [q] at e2;have XQ:(σ[j]?).getD bm=ap v:=Option.some.inj e2;have e4:σ[j]?=ap (ap v):=by
      cases z:σ[j]? with
      | none=>rw [z] at XQ;cases XQ
      | some y=>rw [z] at XQ;exact congrArg ap XQ
     obtain⟨a1,a2⟩:=S.at q m6;have aaS:=BQ a2;have hk:=S.fr _ aaS rfl;obtain⟨m,_,hl⟩:=I2.loc;obtain⟨u,r,l⟩:=hl j x v a1 e4 (.inr hk);refine⟨u,r,.inr ⟨?_,?_⟩⟩
     ·show (relabel sc X.env).names.lookup x=ap .cell\/(relabel sc X.env).names.lookup x=ap .free;unfold relabel;rw [hU,a2];by_cases hb:(X.env.scope.kind==.function&&X.env.kindOf x==ap .cell)=true
      ·left
       simp only [CC,beq_self_eq_true,CD,hb,if_true]
      ·right
       simp only [CC,beq_self_eq_true,CD,hb,if_false,Ak]
     ·obtain⟨c,hcx⟩:=Lz x aaS;have hcX:=(sQ x c hcx).1;refine⟨c,hcx,?_⟩;rcases l with⟨k,_⟩ | ⟨k,c',e',z⟩
      ·have k':X.env.scope.names.lookup x=ap .local:=k;rcases hk with y | y <;> rw [k'] at y <;> cases y
      ·rw [hcX] at e';cases e';obtain⟨o,ho,hd⟩:=z;exact⟨o,Î _ _ ho,hd⟩
  ·obtain⟨v,o,ho,hd⟩:=Vb x c e;exact⟨v,o,Î _ _ ho,hd⟩
  ·show upd H2 D (.lst []) C=bm;rw [aA (BG hDC)];exact hC2
  ·have lT:=ltN (afy x c e);show upd H2 D (.lst []) c=bm;rw [aA (neN ∅)];exact I2.ko x c (sQ x c e).1
  ·unfold oq;rw [Ag];exact S.len
 have ĺ:∀{zk:List (ci×Obj)}{H':Hp},(∀b∈fp,H' b=bm)->(∀p∈zk,p.1∉fp)->∀b∈fp,uV (gA X sc N' cl C s2 H2 fp) zk H' b:=λhn hp b hb=>by
  refine⟨hn b hb,?_,?_,.inl hb,λx c e z=>(f2 b hb).2.2.2.2.1 x c (sQ x c e).1 z,λp Ĩ z=>?_⟩
  ·show b≠C;have:=ltN (Ļ b hb);exact neN ∅
  ·exact Yok.Pe b hb
  ·have aeI:p∈([]:List (ci×Obj))++_:=Ĩ;exact hp p aeI (z▸hb)
 have å:∀s₃:cr,s₃={s2 with heap:=h₁,toks:=s2.toks+([]:List (Str×ce)).length}->
   FM (dL X.prog X.w) X.A (.compLoop (.ListComp Å [⟨tg,iter,Ì,0⟩] sc pos) 0 (.ref it) (.ref D) (compEnvC sc cl C X.env)) (RR (.ref D) C) s₃:=by
  rintro s₃ rfl;refine me (λn s'=>∃i σ' ys H',Inv (gA X sc N' cl C s2 H2 fp) [] σ' H' s'/\tn i s'.heap/\(∀b∈fp,H' b=bm)/\W i n σ' ys H') ?_ m0
   ⟨0,_,[],_,IY _,T.keep _ _ _ KO (λb _ o e=>Î b o e),λb hb=>by rw [aA (AI (Ļ b hb))];exact (f2 b hb).1,w0⟩
  rintro n s3 ⟨i,σ3,ys,H3,I3,Zv,ô,w3⟩;obtain⟨hDl,w3⟩:=turn i n σ3 ys H3 w3;rcases w3 with⟨stop,qn⟩ | ⟨go,step⟩
  ·refine bC (T.done (gA X sc N' cl C s2 H2 fp) rfl rfl rfl hc i [] s3 σ3 H3 _ I3 (ĺ ô (by simp)) Zv stop) λr s4 ⟨hr,I4⟩=>?_;subst hr;obtain⟨m,hn,_⟩:=I4.loc;refine hRR D C m s4 H3 (I2.abK (ch:=fp) I4.os I4.base I4.bH I4.bare λb hb=>?_) qn hn ?_
   ·obtain⟨a0,a1,a2,a3,a4,a5⟩:=f2 b hb;exact⟨a3,a1,a4,a5⟩
   ·refine⟨I4.free,?_,?_,λx c e z=>?_,λp hp z=>?_⟩
    ·have:=ltN I2.lt;exact neN ∅
    ·have:=I2.sz;omega
    ·obtain⟨v,q⟩:=I2.cell x c e;have:=Vc q;exact neN (a:=c) (b:=C) ∅ z
    ·have:=lsz (I2.pin p hp).1;exact neN (a:=p.1) (b:=C) ∅ z
  ·refine bC (T.item (gA X sc N' cl C s2 H2 fp) rfl rfl rfl hc i [] s3 σ3 H3 (λ_ _=>False) I3 (ĺ ô (by simp)) Zv go) λr s4 ⟨u,hr,h4⟩=>?_;subst hr;refine bC h4 λ_ s5 ⟨x,H5,I5,r5,y5,VD,Ĺ⟩=>?_;have Ľ:=I5.pinned (ĺ Ĺ (by simp)) (T.obj _ _ VD);refine bC (hg _ _ _ _ _ _ s5 σ3 H5 x u _ Ľ r5 (step x H5 y5)) λ_ s6 ⟨σ6,H6,I6,q6⟩=>?_;refine bC (hf _ _ _ _ _ _ s6 σ6 H6 _ I6 q6) λb s7 ⟨H7,I7,q7⟩=>?_;have Ow:∀{s8:cr}{σ8:St}{H8:Hp},Inv (gA X sc N' cl C s2 H2 fp) ([]++oQ fp s5.heap) σ8 H8 s8->tn (i+1) s8.heap/\∀b∈fp,H8 b=bm:=λ{s8 σ8 H8} I8=>by
    refine⟨T.keep _ _ _ VD λb hb o e=>(I8.pin (b,o) (AU _ (AU _ (jW hb e)))).1,λb hb=>?_⟩;obtain⟨o,e,d⟩:=T.obj _ _ VD b hb;exact (I8.pin (b,o) (AU _ (AU _ (jW hb e)))).2.1
   cases b with
   | false=>
    have q7':=q7;obtain⟨m',hm,w7⟩:=q7';obtain⟨t7,fr7⟩:=Ow I7;exact⟨m',hm,i+1,σ6,ys,H7,I7.kL,t7,fr7,w7⟩
   | true=>
    refine bC (he _ _ _ _ _ _ s7 σ6 H7 _ I7 q7) λyv s8 ⟨y,H8,I8,r8,hD8,hz8,m',hm,w8⟩=>?_;obtain⟨z,aw,k,rv,hl8,e8⟩:=I8.oV hD8;obtain⟨t8,fr8⟩:=Ow I8;refine wpAny_list_append_plain (s:=s8) (items:=aw.toArray) (hsz:=by rw [Ai];omega) ⟨_,e8⟩ λh9 hl9 hs9=>?_;obtain⟨k9,e9⟩:=hl9;have hv9:=Vals.append rv (.cons r8 .nil);have I9:Inv (gA X sc N' cl C s2 H2 fp) ([]++oQ fp s5.heap) σ6 (upd H8 D (.lst (ys++[y]))) {s8 with heap:=h9,toks:=s8.toks}:=by
     refine I8.write (x:=D) (e:=D) (by rw [hD8];exact trivial) (.inl rfl) (λb u hb hu=>(hs9.2 b hb).trans hu) ⟨_,e9⟩ ?_;refine⟨by rw [Ad,Dm];exact hz8,aw++[yv],k9,hv9,?_⟩;rw [e9];simp
    obtain⟨t9,fr9⟩:=Ow I9;exact⟨m',hm,i+1,σ6,_,_,I9.kL,t9,fr9,w8⟩
 exact codeAny_compStart_list (å _ rfl) (T.self _ 0 _ _ _ (T.keep _ _ _ KO λb _ o e=>Î b o e) (å _ rfl))
def ZY (hc:X.calm=true) (S:aG X.env.scope X.N sc N' ix) (hi:PI X tg iter wi)
  (hg:∀cl C s2 H2 fp,PG (gA X sc N' cl C s2 H2 fp) tg g) (hf:∀cl C s2 H2 fp,YO (gA X sc N' cl C s2 H2 fp) Ì tf) (he:∀cl C s2 H2 fp,PE (gA X sc N' cl C s2 H2 fp) Å te)
  (hs:vS X iter:=by intro _;rfl):PE X (.ListComp Å [⟨tg,iter,Ì,0⟩] sc pos) (tLc ix wi g tf te):=by
 intro Z s σ H Q I h;have HK:∀y∈sc.names,y.2=.free->∃c,X.env.cells.lookup y.1=ap c:=λy hy hk=>I.ok.has y.1 (S.fr y hy hk);obtain⟨cl,OU,sQ,Lz⟩:=mz HK;refine Ew (use:=bm) rfl hs OU S.kind S.loc (bC (hi Z s σ H _ I h) λv s1 h1=>bC h1 λĂ s2 h2=>?_);obtain⟨it,fp,tn,J,H2,rfl,I2,T,KO,f2,hW⟩:=h2;refine JW (RR:=λÄ C=>compPost (dL X.prog X.w) X.A X.xe bm (EP X Z σ Q) Ä C) hc S hg hf he sQ Lz I2 T KO f2 hW λD C m s' H' I' q hn F=>?_;refine⟨m,hn,λh' ħ=>⟨.ref D,H',?_,rfl,q⟩⟩;exact I'.turned (it:=C) (t':=s'.toks) (λb o hb e=>(ħ.2 b hb).trans e) F.hn F.hL (.inr F.ab) F.cl F.pn
def zi {i:Nat} (hc:X.calm=true) (hN:X.N.Nodup) (zQ:X.N[i]?=ap x) (hx:X.env.scope.names.lookup x=ap .local) (S:aG X.env.scope X.N sc N' ix) (hi:PI X tg iter wi)
  (hg:∀cl C s2 H2 fp,PG (gA X sc N' cl C s2 H2 fp) tg g) (hf:∀cl C s2 H2 fp,YO (gA X sc N' cl C s2 H2 fp) Ì tf) (he:∀cl C s2 H2 fp,PE (gA X sc N' cl C s2 H2 fp) Å te)
  (qg:kt (.ListComp Å [⟨tg,iter,Ì,0⟩] sc pos) (ap (.Name x px)) nt.line X.env=pure true:=by rfl)
  (hs:vS X iter:=by intro _;rfl):PS X (.Assign [.Name x px] (.ListComp Å [⟨tg,iter,Ì,0⟩] sc pos) nt) (VA (tLc ix wi g tf te) (dM i)):=by
 intro Z s σ H D0 I h;rw [exec_Assign_Name_used _ _ _ _ qg];refine Aa (Et (Aa ?_));show db _ X.A (do let _ <- comprehension (.ListComp Å [⟨tg,iter,Ì,0⟩] sc pos) sc X.env _ (newList []) false (kw iter X.env) (ap (ww (.Name x px) X.env))) _ _ s;have HK:∀y∈sc.names,y.2=.free->∃c,X.env.cells.lookup y.1=ap c:=λy hy hk=>I.ok.has y.1 (S.fr y hy hk);obtain⟨cl,OU,sQ,Lz⟩:=mz HK;refine Aa (BO (Ew (use:=ap (ww (.Name x px) X.env)) (Q:=λ_ s'=>SP X Z D0 .next s') rfl hs OU S.kind S.loc (bC (hi Z s σ H _ I h) λv s1 h1=>bC h1 λĂ s2 h2=>?_)) (λ_ s' hq=>Af (Af hq)) λ_ _ e=>e);obtain⟨it,fp,tn,J,H2,rfl,I2,T,KO,f2,hW⟩:=h2;refine JW (RR:=λÄ C=>compPost (dL X.prog X.w) X.A X.xe (ap (ww (.Name x px) X.env)) (λ_ s'=>SP X Z D0 .next s') Ä C) (Q:=λx H1=>dM i x σ H1 D0.nx) hc S hg hf he sQ Lz I2 T KO f2 hW λD C m s' H' I' q hn F=>?_;show db _ X.A (ww (.Name x px) X.env (.ref D)) _ _ _;refine wpAny_assign_Name (va (v:=.ref D) I' hN zQ (.inl hx) rfl (λZC I'' Ħ=>?_) (.inr hx));obtain⟨a,Ħ,ha⟩:=Ħ;have haC:C≠a:=by
  rcases ha with z | z
  ·rw [z];exact F.hL
  ·exact BG (F.cl _ _ z)
 refine⟨m,hn.sameBut Ħ haC,λh' ħ=>⟨_,H',?_,q⟩⟩;exact I''.turned (it:=C) (t':=ZC.toks) (λb o hb e=>(ħ.2 b hb).trans e) F.hn F.hL (.inr F.ab) F.cl F.pn
end
end L2
variable {a o b:BJ}{tl:L2.TE}
namespace L2
open PySem PySem.Spec PyProof.Rows
section
def pP:bR X (.builtin "isinstance") (λxs H Q=>∃x c t b,xs=[x,.ty c]/\mf X.K H x t/\BA X.K t (.type c)=ap b/\Q (.bl b) H):=by
 intro Z s σ H xs us Q I r h;obtain⟨x,c,t,b,rfl,ty,hk,q⟩:=h;obtain⟨u,w',rfl,ru,iT⟩:=vals2 r;cases (show w'=BV c from iT);exact Lo I ru ty hk λtk=>⟨.bl b,H,I.tok _,rfl,q⟩
def zA:ir X (im .IsNot) (λx y H Q=>∃i j,x=.bl i/\y=.bl j/\Q (.bl (!(i==j))) H):=by
 intro Z s σ H x y v u Q I rx ry h;obtain⟨i,j,rfl,rfl,q⟩:=h;cases rx;cases ry;exact Af ⟨.bl (!(i==j)),H,I,by cases i <;> cases j <;> rfl,q⟩
def K6 (hu:X.A.units < o0):ir X (im .NotEq) (λx y H Q=>∃p q xs,x=.ref p/\y=.ref q/\di X.K H p xs/\di X.K H q []/\Q (.bl (!xs.isEmpty)) H):=by
 intro Z s σ H x y v u Q I rx ry h;obtain⟨p,q,xs,rfl,rfl,hp,hq,k⟩:=h;cases rx;cases ry;obtain⟨aw,r,pl,hz⟩:=I.list hp;obtain⟨cJ,r2,ZV,hz2⟩:=I.list hq;cases r2;cases xs with
 | nil=>
  cases r;refine El (FA (e:=λ_=>true) pl.isList ZV.isList rfl hu λj h1=>absurd h1 (by simp)) ?_;exact⟨.bl false,H,I,rfl,k⟩
 | cons y ys=>
  have hl:=r.length;refine El (D4 pl.isList ZV.isList (by simp at hl ⊢;intro z;subst z;simp at hl) hu) ?_;exact⟨.bl true,H,I,rfl,k⟩
def Gp {bs:List Bool}:∀{us:List ce},Vals (bs.map V.bl) us->us=bs.map Ca:=by
 induction bs with
 | nil=>intro us r;rw [EW] at r;cases r;rfl
 | cons n ns ih=>
  intro us r;cases r with
  | cons r1 r2=>
   cases r1;rw [ih r2];rfl
def IH (hc:X.calm=true):bR X (.builtin "all") (λxs H Q=>∃(p:ci) (bs:List Bool),xs=[.ref p]/\di X.K H p (bs.map V.bl)/\Q (.bl (bs.all id)) H):=by
 intro Z s σ H xs us Q I r h;obtain⟨p,bs,rfl,hp,q⟩:=h;obtain⟨u,rfl,ru⟩:=vals1 r;cases ru;obtain⟨aw,rv,pl,hz⟩:=I.list hp;have eb:=Gp rv;subst eb;have hl:=pl.isList;have lT:p < s.heap.objs.size:=by obtain⟨_,e,_⟩:=hl;exact Ar e
 refine call_all_walk (CK hl ?_);refine⟨s.heap.objs.size,[s.heap.objs.size,p],[s.heap.objs.size],(bs.map Ca).toArray.size,_,_,λi=>(bs[i]?).getD true,rfl,Walks.list (A:=X.A.in1) (I.ok.hd hc) _ p (AI lT) (bs.map Ca).toArray,
  ⟨⟨_,Aq _ rfl,rfl,rfl⟩,hl.push _⟩,λi v s' Q' E' hP hQ=>?_,λh' tk hk=>?_⟩
 ·have OX:(bs.map Ca)[i]?=ap v:=by simpa using hP
  rw [Aj] at OX;cases e:bs[i]? with
  | none=>rw [e] at OX;cases OX
  | some b=>
   rw [e] at OX;cases OX;simp only [e,Option.getD_some] at hQ;exact Bt hQ
 ·have e:((Av (bs.map Ca).toArray.size).all λi=>(bs[i]?).getD true)=bs.all id:=by
   rw [Ai,Ag];exact LSm.range_all bs
  rw [e];exact⟨.bl (bs.all id),H,I.kept (LSm.kept_iter hk),rfl,q⟩
def IG (hc:X.calm=true):bR X (.builtin "any") (λxs H Q=>∃(p:ci) (bs:List Bool),xs=[.ref p]/\di X.K H p (bs.map V.bl)/\Q (.bl (bs.any id)) H):=by
 intro Z s σ H xs us Q I r h;obtain⟨p,bs,rfl,hp,q⟩:=h;obtain⟨u,rfl,ru⟩:=vals1 r;cases ru;obtain⟨aw,rv,pl,hz⟩:=I.list hp;have eb:=Gp rv;subst eb;have hl:=pl.isList;have lT:p < s.heap.objs.size:=by obtain⟨_,e,_⟩:=hl;exact Ar e
 refine call_any_walk (CK hl ?_);refine⟨s.heap.objs.size,[s.heap.objs.size,p],[s.heap.objs.size],(bs.map Ca).toArray.size,_,_,λi=>(bs[i]?).getD false,rfl,Walks.list (A:=X.A.in1) (I.ok.hd hc) _ p (AI lT) (bs.map Ca).toArray,
  ⟨⟨_,Aq _ rfl,rfl,rfl⟩,hl.push _⟩,λi v s' Q' E' hP hQ=>?_,λh' tk hk=>?_⟩
 ·have OX:(bs.map Ca)[i]?=ap v:=by simpa using hP
  rw [Aj] at OX;cases e:bs[i]? with
  | none=>rw [e] at OX;cases OX
  | some b=>
   rw [e] at OX;cases OX;simp only [e,Option.getD_some] at hQ;exact Bt hQ
 ·have e:((Av (bs.map Ca).toArray.size).any λi=>(bs[i]?).getD false)=bs.any id:=by
   rw [Ai,Ag];exact LSm.range_any bs
  rw [e];exact⟨.bl (bs.any id),H,I.kept (LSm.kept_iter hk),rfl,q⟩
def qc (l:ci) (items:Array ce) (n:Nat) (b:ci) (cp:Array ce) (n2:Nat) (dd:Option ci) (sl:Array (Option ce)) (hs0:¬(!items.isEmpty&&Builtin.List.listTooLong (items.size+cp.size))=true) (GI:items.size<=sizeLine) (qN:items.size+cp.size<=sizeLine+1) :
  Meets (wT.«list.extend» ⟨[.ref l,.ref b],[]⟩) (λ_ R s=>s.heap.get? l=ap {cls:=.type "list",dict:=bm,data:=.seq items n,slots:=#[]}/\s.heap.get? b=ap {cls:=.type "tuple",dict:=dd,data:=.seq cp n2,slots:=sl}/\R (.ok (.ret AZ)) {s with heap:=s.heap.update l (Bq λx=>x++cp),toks:=s.toks}):=
 .of_wp λprog w A R s h=>by
  obtain⟨hp,g,d,tk,os⟩:=s;obtain⟨hl,hb,h⟩:=h;have f1:=ES;have f2:=Dr;have f3:=DK;have f4:=Dz;have f5:=DA;have HH:(items++cp).size<=sizeLine+1:=by rw [Eo];exact qN
  wp_walk using (DL hl rfl (hz:=GI) (_hz':=HH)),BW hl,BW hb;exact⟨_,rfl,h⟩
def Nz (K:Ab):V->List V->Hp->VK->Prop:=λx vs H Q=>∃l b xs zs,x=.ref l/\vs=[.ref b]/\H l=ap (.lst xs)/\dU K H b zs/\xs.length+zs.length<=sizeLine/\Q .aO (upd H l (.lst (xs++zs)))
theorem Hk:Mu X "list.extend" (Nz X.K):=by
 intro Z s σ H x vs v us Q I rx rv h;obtain⟨l,b,xs,zs,rfl,rfl,hH,hB,hz,q⟩:=h;cases rx;obtain⟨u,rfl,ru⟩:=rv.one;cases ru;obtain⟨z,aw,n,r,hl,e⟩:=I.oV hH;obtain⟨cJ,r2,⟨⟨cls,dd,data,sl⟩,e2,hc,n2,hd⟩,z2⟩:=I.tuple hB;simp only at hc hd;subst hc hd;have MF:=r2.length;have hsz:aw.toArray.size+cJ.toArray.size<=sizeLine:=by rw [Ai,Ai];omega
 have sN:¬(!aw.toArray.isEmpty&&Builtin.List.listTooLong (aw.toArray.size+cJ.toArray.size))=true:=by
  rw [jv hsz,B6];exact AW
 refine u8 D7 ⟨_,e,rfl⟩ DS (Dy _ _)
  (qc l aw.toArray n b cJ.toArray n2 dd sl sN (by rw [Ai];omega) ∅) ⟨e,e2,?_⟩
 refine⟨.aO,_,I.Hr (its':=aw++cJ) hH e (by simp) (r.append r2) ?_,rfl,q⟩;rw [Ad];omega
def Its (x:Str):It:=⟨λi _=>i < x.cps.size,λi H v H'=>H'=H/\∃c,x.cps[i]?=ap c/\v=.str ⟨#[c]⟩,λi _=>x.cps.size<=i⟩
def GU {K:Ab} (it:ci) (x:Str) (t:Tok) (ty:String) (J8:ty="str_ascii_iterator"\/ty="str_iterator"):Turn P w K tg (Its x) [it] it (λi h=>h.IsStrIter it ty x t i/\i<=x.cps.size) where
 mem:=by simp
 obj:=λi h st b hb=>by
  have e:b=it:=by simpa using hb
  subst e;obtain⟨⟨o,e,c,d⟩,_⟩:=st;exact⟨o,e,λv z=>by rw [d] at z;cases z⟩
 keep:=λi h h' st k=>⟨let ⟨o,ho,r⟩:=st.1;⟨o,k it (by simp) o ho,r⟩,st.2⟩
 item:=by
  intro X hP hw hK hc i Z s σ H E I hf st hg;subst hP hw hK;obtain⟨f0,f1,f2,f3,f4,f5⟩:=hf it (by simp);have UR:i < x.cps.size:=hg;obtain⟨st,_⟩:=st;rcases J8 with rfl | rfl
  ·refine wpAny_pyNext_ascii_item st (c:=x.cps[i]) (by simp [UR]) λh' mZ sb=>?_;have I1:Inv X Z σ H {s with heap:=h',toks:=s.toks+1}:=I.turned (λb o hb e=>(sb.2 b hb).trans e) f0 f1 f3 f4 f5;obtain⟨o,e,c,d⟩:=id mZ;exact⟨_,rfl,sR (s:={s with heap:=h',toks:=s.toks+1}) e c d ⋯ ⟨.str ⟨#[x.cps[i]]⟩,H,I1,⟨_,rfl⟩,⟨rfl,_,by simp [UR],rfl⟩,⟨mZ,UR⟩,λb hb=>(hf b hb).1⟩⟩
  ·refine wpAny_pyNext_wide_item st (c:=x.cps[i]) (by simp [UR]) λh' mZ sb=>?_;have I1:Inv X Z σ H {s with heap:=h',toks:=s.toks+1}:=I.turned (λb o hb e=>(sb.2 b hb).trans e) f0 f1 f3 f4 f5;obtain⟨o,e,c,d⟩:=id mZ;exact⟨_,rfl,sR (s:={s with heap:=h',toks:=s.toks+1}) e c d ⋯ ⟨.str ⟨#[x.cps[i]]⟩,H,I1,⟨_,rfl⟩,⟨rfl,_,by simp [UR],rfl⟩,⟨mZ,UR⟩,λb hb=>(hf b hb).1⟩⟩
 done:=by
  intro X hP hw hK hc i Z s σ H E I hf st hg;obtain⟨f0,f1,f2,f3,f4,f5⟩:=hf it (by simp);obtain⟨st,_⟩:=st;have hn:x.cps[i]?=bm:=by
   have UR:x.cps.size<=i:=hg;simp [UR]
  rcases J8 with rfl | rfl
  ·exact wpAny_pyNext_ascii_end (I.ok.hd hc) st hn λh' eb=>⟨rfl,I.turned (t':=s.toks) (λb o hb e=>eb b o hb e) f0 f1 f3 f4 f5⟩
  ·exact wpAny_pyNext_wide_end (I.ok.hd hc) st hn λh' eb=>⟨rfl,I.turned (t':=s.toks) (λb o hb e=>eb b o hb e) f0 f1 f3 f4 f5⟩
 self:=λ_ _ _ _ _ st h=>by
  obtain⟨st,_⟩:=st;rcases J8 with rfl | rfl
  ·exact wpAny_pyIter_striter_ascii st h
  ·exact wpAny_pyIter_striter_wide st h
def aer (tl:TE):TI:=λσ H R=>tl σ H λx H1=>∃z,x=.str z/\R (Its z) H1
def We {l:gt} (hl:PE X l tl):PI X tg l (aer tl):=by
 intro Z s σ H R I h;refine bC (hl Z s σ H _ I h) λv s1 ⟨x,H1,I1,r1,q1⟩=>?_;obtain⟨z,e,q⟩:=q1;subst e;obtain⟨t,rfl⟩:=r1;have fin:∀(ty:String) (J8:ty="str_ascii_iterator"\/ty="str_iterator") (o:Obj),(s1.heap.push o).IsStrIter s1.heap.objs.size ty z t 0->PIE X Z σ tg R (.ref s1.heap.objs.size) {s1 with heap:=s1.heap.push o}:=λty J8 o st=>by
  refine⟨s1.heap.objs.size,[s1.heap.objs.size],_,_,H1,rfl,I1.kept (t':=s1.toks) λb o e=>Ah _ e,GU _ z t ty J8,⟨st,A6 _⟩,λb hb=>?_,q⟩;have e:b=s1.heap.objs.size:=by simpa using hb
  subst e;exact I1.xG (Ao _) (I1.bH.fresh (Ao _))
 cases ha:z.cps.all (· < 128)
 ·exact wpAny_pyIter_wide ha (fin _ (.inr rfl) _ ⟨_,Aq _ rfl,rfl,rfl⟩)
 ·exact wpAny_pyIter_ascii ha (fin _ (.inl rfl) _ ⟨_,Aq _ rfl,rfl,rfl⟩)
end
section
variable {CX:MN}{f:ci}{dvs:List V}{ds:List ce}{E:XK}{t:TA}
def Vz (f:ci) (sp:Sp) (dvs:List V) (E:XK) (ta:TE) (t:TA):TE:=λσ H Q=>ta σ H λx H1=>x=.ref f/\t σ H1 λvs H2=>sp (vs++dvs) H2 Q E
def NU (F:gJ X.prog X.w X.K X.mg X.base CX k f fd ps sp) (hr:cL k X.A) (hf:PE X (.Name x p) ta) (hk:CO X.K (.ref f)=true) (hb:Binds X.K fd ps ds) (hd:Vals dvs ds) (hx:Passes CX X E)
  (ha:PA X (e::es) t) (he:iB X e es:=by rfl) (dJ:lH X pos es:=by rfl) :
  PE X (.Call (.Name x p) (e::es) [] pos) (Vz f sp dvs E ta t):=by
 intro Z s σ H Q I h;refine BB (bC (hf Z s σ H _ I h) λv s1 ⟨y,H1,I1,r1,ey,q1⟩=>?_);subst ey;cases r1;refine Fz (h₀:=X.base) I.ok.mod.kin hk (bC (ha pos Z s1 σ H1 _ I1 q1) λus s2 ⟨vs,H2,I2,r,q⟩=>⟨I2.tZ,?_⟩) he dJ;exact G7 F hr hb hd hx I2 r q
end
section
variable {lo hi:gt}{th:TE}
def Xx (to tl th:TE):TG:=λv σ H Q=>to σ H λx H1=>tl σ H1 λi H2=>th σ H2 λj H3=>∃l b xs ys a c,x=.ref l/\v=.ref b/\i=.int a/\j=.int c/\H3 l=ap (.lst xs)/\H3 b=ap (.lst ys)/\l≠b/\0<=a/\a<=c/\c<=xs.length/\xs.length+ys.length<=sizeLine/\
 Q σ (upd H3 l (.lst (xs.take a.toNat++ys++xs.drop c.toNat)))
def NP (ho:PE X o to) (hl:PE X lo tl) (hh:PE X hi th)
  (ha:∀v,ww (.Subscript o (.Slice (ap lo) (ap hi) bm p2) pos) X.env v=(do
   let ov <- re [v] (kw o X.env)
   let iv <- re [v,ov] (kw (.Slice (ap lo) (ap hi) bm p2) X.env)
   FB pos
   re [v,ov,iv] (xL ov iv v)
   release [iv,v,ov] []):=by intro _;rfl):PG X (.Subscript o (.Slice (ap lo) (ap hi) bm p2) pos) (Xx to tl th):=by
 intro Z s σ H v u Q I r h;refine Aa (Bc (bC (ho Z s σ H _ I h) λov s1 ⟨x,H1,I1,r1,q1⟩=>?_));refine Aa (Bc (wpAny_Slice ?_));rw [evalPart_some,evalPart_some,evalPart_none];refine bC (hl Z s1 σ H1 _ I1 q1) λvl s2 ⟨i,H2,I2,r2,q2⟩=>bC (hh Z s2 σ H2 _ I2 q2) λvu s3 ⟨j,H3,I3,r3,q3⟩=>Af ?_;obtain⟨l,b,xs,ys,a,c,rfl,rfl,rfl,rfl,hH,hB,OP,h0,Yz,hc,hz,q⟩:=q3;cases r;cases r1;have I4:Inv X Z σ H3 {s3 with heap:=s3.heap.push {cls:=.type "slice",data:=.fields #[vl,vu,.none]}}:=I3.kept (t':=s3.toks) λb ob q=>Ah _ q;refine Aa (Et (Aa (Bc (KU I4 hH hB OP (D6.new ..) r2 r3 h0 Yz hc hz λs' I'=>?_))));exact wpAny_release ⟨σ,_,I',q⟩
end
end L2
variable {k':Nat}{cu:Cu}
namespace L2
open PySem PySem.Spec PyProof.Rows
def oB (l:ci) (H H':Hp):Prop:=∀b u,b≠l->H b=ap u->H' b=ap u
def gV {p:ci} (h:H p=bm) (o:HO):kF H (upd H p o):=λb u q=>by rw [aA (bN q h)];exact q
def KY {p:ci} (o:HO):oB p H (upd H p o):=λb u n q=>by rw [aA n];exact q
def kA (H:Hp) (o:HO) (Q:VK):Prop:=∀p H',kF H H'->H' p=ap o->H p=bm->Q (.ref p) H'
def kA.at {o:HO}{Q:VK} (h:kA H o Q) (p:ci) (hp:H p=bm):Q (.ref p) (upd H p o):=h p _ (gV hp o) aP hp
def yR (H:Hp) (l:ci) (o:HO) (Q:Hp->Prop):Prop:=∀H',oB l H H'->H' l=ap o->Q H'
def yR.at {o:HO}{Q:Hp->Prop} (h:yR H l o Q):Q (upd H l o):=h _ (KY o) aP
def ir.mono {f:ce->ce->Sem ce}{r:R2} (h:ir X f r) (hr:∀x y H Q,r' x y H Q->r x y H Q):ir X f r':=λZ s σ H x y v u Q I rx ry q=>h Z s σ H x y v u Q I rx ry (hr _ _ _ _ q)
def bR.mono {f:ce}{r r':List V->Hp->VK->Prop} (h:bR X f r) (hr:∀xs H Q,r' xs H Q->r xs H Q):bR X f r':=λZ s σ H xs us Q I rx q=>h Z s σ H xs us Q I rx (hr _ _ _ q)
def Mu.mono {id:String}{r r':V->List V->Hp->VK->Prop} (h:Mu X id r) (hr:∀x xs H Q,r' x xs H Q->r x xs H Q):Mu X id r':=λZ s σ H x xs v us Q I rx rv q=>h Z s σ H x xs v us Q I rx rv (hr _ _ _ _ q)
def Je.mono {r r':Jd} (h:Je X r) (hr:∀o i v H Q,r' o i v H Q->r o i v H Q):Je X r':=λZ s σ H o i v ov iv u Q I ro ri rv q=>h Z s σ H o i v ov iv u Q I ro ri rv (hr _ _ _ _ _ q)
section
variable {t:TA}
def Zd (t:TA):TE:=λσ H Q=>t σ H λxs H1=>xs.length<=sizeLine/\kA H1 (.tup xs) Q
def Zj (t:TA):TE:=λσ H Q=>t σ H λxs H1=>xs.length<=sizeLine/\kA H1 (.lst xs) Q
def RK {x1} (h:PA X es t):PE X (.Tuple es x1 pos) (Zd t):=by
 intro Z s σ H Q I hq;refine wpAny_Tuple_spliced (bC (h pos Z s σ H _ I hq) λus s1 ⟨xs,H1,I1,r,z,q⟩=>⟨by rw [<- r.length];exact z,?_⟩);have hf:=I1.bH.fresh (Ao _);refine⟨.ref s1.heap.objs.size,upd H1 s1.heap.objs.size (.tup xs),I1.laid (t':=s1.toks) (λb u e=>Ah _ e) (Ao _) ?_,rfl,q.at _ hf⟩;exact⟨z,us,r,⟨_,Aq _ rfl,rfl,_,rfl⟩⟩
def JJ (h:PA X es t):PE X (.List es pos) (Zj t):=by
 intro Z s σ H Q I hq;refine wpAny_List_spliced (bC (h pos Z s σ H _ I hq) λus s1 ⟨xs,H1,I1,r,z,q⟩=>⟨by rw [<- r.length];exact z,?_⟩);have hf:=I1.bH.fresh (Ao _);refine⟨.ref s1.heap.objs.size,upd H1 s1.heap.objs.size (.lst xs),I1.laid (t':=s1.toks) (λb u e=>Ah _ e) (Ao _) ?_,rfl,q.at _ hf⟩;exact⟨z,us,0,r,Aq _ rfl⟩
def Vx:TE:=λ_ H Q=>kA H (.dK []) Q
def NS:PE X (.Dict [] [] pos) Vx:=λZ s σ H Q I h=>zq Z s σ H Q I λp hp=>h.at p hp
def Uu (K:Ab):R2:=λx y H Q=>match x with
 | .int i=>∃j,y=.int j/\Q (.int (i+j)) H
 | .str i=>∃j,y=.str j/\i.length+j.length<=sizeLine/\Q (.str (i++j)) H
 | .ref a=>(∃b xs zs,y=.ref b/\H a=ap (.lst xs)/\H b=ap (.lst zs)/\xs.length+zs.length<=sizeLine/\kA H (.lst (xs++zs)) Q)\/Uw K x y H Q
 | _=>False
def R3:ir X (r9 .Add) (Uu X.K):=by
 refine ((Wy.or Hc).or (Wx.or JO)).mono λx y H Q h=>?_;cases x with
 | int i=>obtain⟨j,rfl,q⟩:=h;exact .inl (.inl ⟨i,j,rfl,rfl,q⟩)
 | str i=>obtain⟨j,rfl,hl,q⟩:=h;exact .inl (.inr ⟨i,j,rfl,rfl,hl,q⟩)
 | ref a=>
  rcases h with⟨b,xs,zs,rfl,h1,h2,hz,q⟩ | h
  ·exact .inr (.inl ⟨a,b,xs,zs,rfl,rfl,h1,h2,hz,λp hp=>q.at p hp⟩)
  ·exact .inr (.inr h)
 | _=>exact h.elim
def RX:ir X (r9 .Mult) (rI wn λi j=>.int (i*j)):=opI λ_ _ _ _ _ _ _ hc q=>mul_int q hc
def IC:bR X (.type "list") (λxs H Q=>∃p ys,xs=[.ref p]/\(di X.K H p ys\/dU X.K H p ys)/\kA H (.lst ys) Q):=yi.mono λxs H Q ⟨p,ys,e,h,q⟩=>⟨p,ys,e,h,λl hl=>q.at l hl⟩
def NA:V->List V->Hp->VK->Prop:=λx vs H Q=>∃l xs y,x=.ref l/\vs=[y]/\H l=ap (.lst xs)/\xs.length < sizeLine/\yR H l (.lst (xs++[y])) (Q .aO)
def sf:Mu X "list.append" NA:=La.mono λx xs H Q ⟨l,ys,y,e1,e2,h,hz,q⟩=>⟨l,ys,y,e1,e2,h,hz,q.at⟩
def K1 (K:Ab):V->List V->Hp->VK->Prop:=λx vs H Q=>∃l b xs zs,x=.ref l/\vs=[.ref b]/\H l=ap (.lst xs)/\dU K H b zs/\xs.length+zs.length<=sizeLine/\yR H l (.lst (xs++zs)) (Q .aO)
def zD:Mu X "list.extend" (K1 X.K):=Hk.mono λx xs H Q ⟨l,b,ys,zs,e1,e2,h1,h2,hz,q⟩=>⟨l,b,ys,zs,e1,e2,h1,h2,hz,q.at⟩
def ZJ:V->List V->Hp->VK->Prop:=λx vs H Q=>∃l xs y,x=.ref l/\vs=[]/\H l=ap (.lst (xs++[y]))/\yR H l (.lst xs) (Q y)
def Sf:Mu X "list.pop" ZJ:=WJ.mono λx xs H Q ⟨l,ys,y,e1,e2,h,q⟩=>⟨l,ys++[y],y,e1,e2,h,by simp,by rw [List.dropLast_concat];exact q.at⟩
def VU:Jd:=λo i v H Q=>∃p xs k j,o=.ref p/\i=.int k/\H p=ap (.lst xs)/\mn xs.length k=ap j/\yR H p (.lst (xs.set j v)) Q
def oJ:Je X VU:=set_list.mono λo i v H Q ⟨p,xs,k,j,e1,e2,h,hj,q⟩=>⟨p,xs,k,j,e1,e2,h,hj,q.at⟩
end
section
variable (K:Ab) (hK:X.K=K) {t:TA}{name:Str}{Yv:String}{r:V->List V->Hp->VK->Prop}
include hK
def J0:QG X (rIx K):=hK▸Xd
def R1:ir X (r9 .Add) (Uu K):=hK▸R3
def VX (K:Ab):List V->Hp->VK->Prop:=λxs H Q=>∃x n,xs=[x]/\abU K x H n/\Q (.int n) H
def vK:bR X (.builtin "len") (VX K):=hK▸P9
def Ny (K:Ab):List V->Hp->VK->Prop:=λxs H Q=>∃p ys,xs=[.ref p]/\(di K H p ys\/dU K H p ys)/\kA H (.lst ys) Q
def IB:bR X (.type "list") (Ny K):=hK▸IC
def ZS (K:Ab):List V->Hp->VK->Prop:=λxs H Q=>∃(p:ci) (bs:List Bool),xs=[.ref p]/\di K H p (bs.map V.bl)/\Q (.bl (bs.all id)) H
def Mk (hc:X.calm=true):bR X (.builtin "all") (ZS K):=hK▸IH hc
def ZR (K:Ab):List V->Hp->VK->Prop:=λxs H Q=>∃(p:ci) (bs:List Bool),xs=[.ref p]/\di K H p (bs.map V.bl)/\Q (.bl (bs.any id)) H
def Mj (hc:X.calm=true):bR X (.builtin "any") (ZR K):=hK▸IG hc
def VW (K:Ab):R2:=λx y H Q=>∃p q xs,x=.ref p/\y=.ref q/\di K H p xs/\di K H q []/\Q (.bl (!xs.isEmpty)) H
def rT (hu:X.A.units < o0):ir X (im .NotEq) (VW K):=hK▸K6 hu
def adw (K:Ab) (ta:TE):TT:=λσ H Q=>ta σ H λx H'=>∃k,Yc K x H' k/\Q k H'
def vg (ha:PE X a ta) (he:∀Æ,isTrue a X.env Æ=(do let v <- Æ;FB a.pos;re [v] (truthy v))):PT X a (adw K ta):=hK▸ND ha he
def JK (pa:PlainAttrs T) (slot:Slot T name Yv) (J8:typeOf (.builtin Yv)=pure (.type "method_descriptor")) (hm:MtR X Yv r) (ho:PE X o to)
  (eY:pc o name X.env (kw o X.env)=kw o X.env:=by rfl) (eX:QJ Ã cu:=by rfl):PE X (.Call (.Attribute o name Ã) [] [] cu) (Zp K T r to):=hK▸Wk pa slot J8 hm ho eY eX
def wN (pa:PlainAttrs T) (slot:Slot T name Yv) (J8:typeOf (.builtin Yv)=pure (.type "method_descriptor")) (hm:MtR X Yv r) (ho:PE X o to) (ha:PA X (e::es) t)
  (eY:pc o name X.env (kw o X.env)=kw o X.env:=by rfl)
  (sP:YQ X cu (e::es):=by rfl)
  (eX:QJ Ã cu:=by rfl) (hs:iB X e es:=by rfl) (hZ:lH X cu es:=by rfl) :
  PE X (.Call (.Attribute o name Ã) (e::es) [] cu) (tBM K T r to t):=hK▸ZZ pa slot J8 hm ho ha eY sP eX hs hZ
omit hK
end
structure Qu (P:sw) (w:t0) (K:Ab) (mg:Str->Option ce) (base:mo) (x:Str) (k:Nat) (ps:List Str) (sp:Sp) where
 f:ci
 fd:Da
 ok:gJ P w K mg base lY k f fd ps sp
 bi:Binds K fd ps []
 kp:CO K (.ref f)=true
 at':mg x=ap (.ref f)
section
variable {t:TA}
def Ul (sp:Sp) (t:TA):TE:=λσ H Q=>t σ H λvs H1=>sp vs H1 Q E0
def NV (G:Qu X.prog X.w X.K X.mg X.base x k ps sp) (hr:cL k' X.A) (hk:k<=k') (hg:Gl X x) (ha:PA X (e::es) t) (ma:jg x:=by decide)
  (he:iB X e es:=by rfl) (dJ:lH X pos es:=by rfl) :
  PE X (.Call (.Name x p) (e::es) [] pos) (Ul sp t):=by
 intro Z s σ H Q I h;refine BB (xf I hg G.at' ?_ ma);refine Fz (h₀:=X.base) I.ok.mod.kin G.kp (bC (ha pos Z s σ H _ I h) λus s1 ⟨vs,H1,I1,r,q⟩=>⟨I1.tZ,?_⟩) he dJ;refine G7 (dvs:=[]) (ds:=[]) G.ok (hr.mono hk) G.bi .nil NW I1 r ?_;rw [C4];exact q
end
section
theorem Qh {xs:List α} (h0:0<=i) (h1:i < xs.length):∃v,bX xs i=ap v/\xs[i.toNat]?=ap v:=by
 have hk:i.toNat < xs.length:=by omega
 have q:=bw (by rw [Ae hk]);have e:((i.toNat:Nat):Int)=i:=by omega
 rw [e] at q;exact⟨_,q,by rw [Ae hk]⟩
def UB {j:Int} (h1:-18446744073709551616 < i) (h2:i < 18446744073709551616):wn i j:=Ub.ok (.inl ⟨h1,h2⟩)
def mul_r {j:Int} (h1:-18446744073709551616 < j) (h2:j < 18446744073709551616):wn i j:=Ub.ok (.inr ⟨h1,h2⟩)
end
def aY (h:n<=1000):n<=sizeLine:=D2 (ve h)
section
variable (K:Ab) (hK:X.K=K)
include hK
def adS:V->Option Int->Option Int->Hp->VK->Prop:=λx lo hi H Q=>∃z,x=.str z/\z.length<=sizeLine/\Q (.str (EA z lo hi)) H
omit hK in
def VG:SlR X adS:=by
 intro Z s σ H x v vl vu lo hi sl Q I rx hs pl pu h;obtain⟨z,rfl,hz,q⟩:=h;obtain⟨t,rfl⟩:=rx;refine⟨"str",_,F.slot_str_getitem.lookup,typeIs_str _ _ _,?_⟩;obtain⟨os,t4,Ly,yH⟩:=hs;have fin:∀t' k,EP X Z σ Q (.str (EA z lo hi) t') {s with toks:=k}:=λt' k=>⟨.str (EA z lo hi),H,I.tok _,⟨_,rfl⟩,q⟩;cases pl with
 | none=>
  cases pu with
  | none=>exact Cv (l:=bm) (u:=bm) (st:=bm) ⟨os,t4,Ly,yH⟩ rfl (Ge ⟨A7 (EN z _ _) hz,fin⟩)
  | int j uj=>exact Cv (l:=bm) (u:=ap (j,uj)) (st:=bm) ⟨os,t4,Ly,yH⟩ rfl (Ge ⟨A7 (EN z _ _) hz,fin⟩)
 | int i ui=>
  cases pu with
  | none=>exact Cv (l:=ap (i,ui)) (u:=bm) (st:=bm) ⟨os,t4,Ly,yH⟩ rfl (Ge ⟨A7 (EN z _ _) hz,fin⟩)
  | int j uj=>exact Cv (l:=ap (i,ui)) (u:=ap (j,uj)) (st:=bm) ⟨os,t4,Ly,yH⟩ rfl (Ge ⟨A7 (EN z _ _) hz,fin⟩)
end
section
variable (K:Ab) (hK:X.K=K)
include hK
def VZ (K:Ab):R2:=λx y H Q=>∃p q xs,x=.ref p/\y=.ref q/\di K H p xs/\di K H q []/\Q (.bl xs.isEmpty) H
def rV (hu:X.A.units < o0):ir X (im .Eq) (VZ K):=by
 subst hK;intro Z s σ H x y v u Q I rx ry h;obtain⟨p,q,xs,rfl,rfl,hp,hq,k⟩:=h;cases rx;cases ry;obtain⟨aw,r,pl,hz⟩:=I.list hp;obtain⟨cJ,r2,ZV,hz2⟩:=I.list hq;cases r2;cases xs with
 | nil=>
  cases r;refine E6 (FO (e:=λ_=>true) pl.isList ZV.isList rfl hu λj h1=>absurd h1 (by simp)) ?_;exact⟨.bl true,H,I,rfl,k⟩
 | cons y ys=>
  have hl:=r.length;refine E6 (Ep pl.isList ZV.isList (by simp at hl ⊢;intro z;subst z;simp at hl) hu) ?_;exact⟨.bl false,H,I,rfl,k⟩
omit hK
end
end L2
variable {p1:Cu}
namespace L2
open PySem PySem.Spec PyProof.Rows
theorem Vals.rP:∀{xs:List V}{us:List ce},Vals xs us->Vals xs.reverse us.reverse
 | _,_,.nil=>.nil
 | _,_,.cons h t=>by rw [CM,CM];exact (Vals.rP t).append (.cons h .nil)
def WR:Fk (.type "list_reverseiterator") (Cg "__len__")=pure bm:=by kernel_rfl
def Sk:Fk (.type "list_reverseiterator") (Cg "__length_hint__")=pure (ap (.builtin "list_reverseiterator.__length_hint__")):=by kernel_rfl
def Rb:splitId "list_reverseiterator.__length_hint__"=ap ("list_reverseiterator","__length_hint__"):=by kernel_rfl
def Q5:isSubtype (.type "list_reverseiterator") (.type "list_reverseiterator")=pure true:=by kernel_rfl
def OS {r:ci}{Q:Bool->cr->Prop} (h:s.heap.IsRevIter r l i) (q:Q false s):db (dL prog w) A (Builtin.List.listLengthHint (AD r)) Q E s:=by
 refine Aa (DM h.typeIs WR ?_);refine Aa (DM h.typeIs Sk ?_);dsimp only;rw [Rb];dsimp only;refine Aa (Ds h.typeIs Q5 ?_);rw [if_neg ⋯];exact Af q
def uz {r S:ci} (hA:A.handled=bm) (h:s.heap.IsRevIter r l (items.size-1)) (hl:s.heap.IsList l items) (OP:l≠r) (Ķ:S≠r) (hSl:S≠l) (hz:items.size<=sizeLine)
  (hS:s.heap.get? S=ap {cls:=BV "list",data:=Fi #[]})
  (q:∀(h':mo) (tk:Nat) (Ä:Array ce) (c:Nat),(∀b o,b≠S->b≠r->s.heap.get? b=ap o->h'.get? b=ap o)->h'.get? S=ap {cls:=BV "list",data:=Fi Ä c}->ItemsOf (λi v=>items[items.size-1-i]?=ap v) Ä items.size->R (.ok (.ret .none)) {s with heap:=h',toks:=tk}) :
  db (dL prog w) A.in1 (wT.«list.__init__» {pos:=[AD S,AD r]})
   (λfin s'=>match fin with | FX f=>R (Except.ok f) s' | Fin.again c'=>c'.quiet=true/\FM (dL prog w) A c' R s') (λe s'=>R (Except.error e) s') s:=by
 unfold wT.«list.__init__»;refine Aa (wpAny_listItems hS rfl ?_);refine Aa ?_;refine DL hS rfl ?_ (by simp) (by simp);refine Aa (DC ?_);have k1:∀b o,b≠S->s.heap.get? b=ap o->(s.heap.update S (Bq λ_=>#[])).get? b=ap o:=λb o hb e=>by rw [De _ _ (BG hb)];exact e
 have hS1:=CF (Bq λ_=>#[]) hS rfl;generalize s.heap.update S (Bq λ_=>#[])=h1 at k1 hS1 ⊢;have ą:h1.IsRevIter r l (items.size-1):=let ⟨o,e,p⟩:=h;⟨o,k1 _ _ (BG Ķ) e,p⟩;have ĭ:h1.IsList l items:=let ⟨o,e,p⟩:=hl;⟨o,k1 _ _ (BG hSl) e,p⟩;unfold Builtin.List.listExtendWith;refine Aa (Cj (T:="list_reverseiterator") ą.typeIs ?_);rw [if_neg (by
  have e1:Builtin.List.listSameRef (AD S) (AD r)=false:=by
   unfold Builtin.List.listSameRef;simpa using Ķ
  rw [e1];decide)]
 refine Aa (wpAny_pyIter_revIter ą ?_);refine Aa (Bc (OS ą ?_));rw [if_neg ⋯];refine Af ⟨plainId_quiet F.plain_extend_loop _,?_⟩;refine codeAny_extend_loopS (Walks.toS (Walks.listRev (A:=A.in1) hA r l OP items)) hz S (by simp [Ķ,hSl]) .none items.size 0 _ #[] _ (D1 _) (A6 _) ⟨A6 _,by simpa using ą,ĭ⟩ hS1 (ItemsOf.nil _) ?_;intro s' Ä c mv e io;rw [mv.eq_with];exact q s'.heap s'.toks Ä c (λb o n1 n2 e'=>mv.heap b o (by simp [n1,n2]) (k1 b o n1 e')) e io
def uQ {r:ci} (hA:A.handled=bm) (h:s.heap.IsRevIter r l (items.size-1)) (hl:s.heap.IsList l items) (OP:l≠r) (hz:items.size<=sizeLine)
  (q:∀(h':mo) (tk:Nat) (Ä:Array ce) (c:Nat),(∀b o,b≠r->s.heap.get? b=ap o->h'.get? b=ap o)->h'.get? s.heap.objs.size=ap {cls:=BV "list",data:=Fi Ä c}->ItemsOf (λi v=>items[items.size-1-i]?=ap v) Ä items.size->Q (.ref s.heap.objs.size) {s with heap:=h',toks:=tk}) :
  db (dL prog w) A (call (BV "list") [AD r]) Q E s:=by
 have lr:=let ⟨_,e,_⟩:=h;Ar e;have ll:=let ⟨_,e,_⟩:=hl;Ar e;refine callType_codes F.called_list (F.typeCall_list_1 _) F.entry_list_init (code_list_new (Q₁:=λv s₁=>v=.ref s.heap.objs.size/\s₁={s with heap:=s.heap.push {cls:=BV "list",data:=Fi #[]}}) _ ⟨rfl,rfl⟩) ?_;rintro obj s₁ ⟨rfl,rfl⟩;refine⟨⟨_,Aq _ rfl,rfl⟩,F.args_list_init_2 _ _,?_⟩;have kp:∀b o,s.heap.get? b=ap o->(s.heap.push {cls:=BV "list",data:=Fi #[]}).get? b=ap o:=λb o e=>Ah _ e;refine uz (A:=A.in1) (items:=items) (l:=l) hA (let ⟨o,e,p⟩:=h;⟨o,kp _ _ e,p⟩) (let ⟨o,e,p⟩:=hl;⟨o,kp _ _ e,p⟩) OP (λz=>by rw [z] at lr;exact Bd _ lr) (λz=>by rw [z] at ll;exact Bd _ ll) hz (Aq _ rfl) ?_;intro h' tk Ä c k e io;exact⟨rfl,q h' tk Ä c (λb o n e'=>k b o (λz=>by rw [z] at e';exact Bd _ (Ar e')) n (kp b o e')) e io⟩
def tLR (K:Ab) (te:TE):TE:=λσ H Q=>te σ H λx H1=>∃p ys,x=.ref p/\di K H1 p ys/\kA H1 (.lst ys.reverse) Q
section
variable (K:Ab) (hK:X.K=K) {q1 q2:Pos}
include hK
theorem Hb (hc:X.calm=true) (ı:Gl X "list") (Ĭ:X.mg "list"=bm) (İ:Gl X "reversed") (Yx:X.mg "reversed"=bm) (he:PE X e te)
  (GI:ga [.Call (.Name "reversed" q1) [e] [] q2] X.env=(false,kw (.Call (.Name "reversed" q1) [e] [] q2) X.env)::ga [] X.env:=by rfl) (qN:iB X e []:=by rfl) :
  PE X (.Call (.Name "list" p1) [.Call (.Name "reversed" q1) [e] [] q2] [] p2) (tLR K te):=by
 intro Z s σ H Q I h;subst hK;refine BB (jY I ı Ĭ boot_list ?_ ⋯ ⋯);refine Bp ?_ GI rfl;refine Co ?_;refine BB (jY I İ Yx boot_reversed ?_ ⋯ ⋯);refine Bp ?_ qN rfl;rw [qN];refine Co (bC (he Z s σ H _ I h) λu s1 ⟨x,H1,I1,r1,pa,ys,ex,hS,q⟩=>CJ ?_);subst ex;cases r1;obtain⟨aw,rv,pl,hz⟩:=I1.list hS;have Á:=rv.length;have lp:=let ⟨_,e,_⟩:=pl.isList;Ar e;refine call_reversed_list pl.isList ?_;refine CJ ?_;have kp:∀b o,s1.heap.get? b=ap o->(s1.heap.push (revObj pa (aw.toArray.size-1))).get? b=ap o:=λb o e=>Ah _ e;refine uQ (items:=aw.toArray) (l:=pa) (r:=s1.heap.objs.size) (I1.ok.hd hc) ⟨_,Aq _ rfl,rfl,rfl⟩ (let ⟨o,e,p⟩:=pl.isList;⟨o,kp _ _ e,p⟩) (λz=>by rw [z] at lp;exact Bd _ lp) (by rw [Ai];omega) ?_;intro h' tk Ä c k e io;have kk:∀b o,s1.heap.get? b=ap o->h'.get? b=ap o:=λb o eb=>k b o (λz=>by rw [z] at eb;exact Bd _ (Ar eb)) (kp b o eb);have ea:Ä=aw.reverse.toArray:=by
  obtain⟨z1,z2⟩:=io;apply Array.ext
  ·rw [z1,Ai,Ai,Ce]
  ·intro j h1 h2;have:=z2 j Ä[j] (CW h1);rw [Ai] at this;have hj:j < aw.length:=by rw [z1,Ai] at h1;exact h1
   rw [Ff] at this;have e3:aw.reverse[j]?=ap Ä[j]:=by rw [List.getElem?_reverse hj];exact this
   rw [DE];exact (Option.some.inj (((Ae (by rw [Ce];exact hj)).symm.trans e3))).symm
 subst ea;have qN:s1.heap.objs.size<=(s1.heap.push (revObj pa (aw.toArray.size-1))).objs.size:=by simp [Heap.push]
 refine⟨.ref _,upd H1 _ (.lst ys.reverse),I1.laid (t':=tk) kk qN ?_,rfl,q.at _ (I1.bH.fresh qN)⟩;exact⟨by rw [Ce];exact hz,aw.reverse,c,rv.rP,e⟩
end
end L2
variable {y:Cp}
namespace My
open PySem PySem.Spec PyProof.Rows L2
def Wd (x:Str):Prop:=1<=x.length/\x.length<=8/\∀c∈x.cps.toList,97<=c/\c < 123
def Part (x:Str) (n:Nat):Prop:=x.length<=n/\∀c∈x.cps.toList,97<=c/\c < 123
theorem Part.append {m:Nat} (a:Part x m) (b:Part y n):Part (x++y) (m+n):=by
 refine⟨?_,λc hc=>?_⟩
 ·rw [Dc];have:=a.1;have:=b.1;omega
 ·rw [Str.cps_append,Array.toList_append] at hc;rcases AG.mp hc with h | h
  ·exact a.2 c h
  ·exact b.2 c h
theorem uA {d st:Int} (h:st=1\/st=3\/st=5\/st=7\/st=9\/st=11) (hn:n<=26):((Av n).map λk:Nat=>ap (97+((d+st*(0+(k:Int))) % 26).toNat)).Nodup:=by
 unfold List.Nodup;rw [En];refine List.Pairwise.imp_of_mem ?_ Dk;intro a b ha hb SY hz;have Č:=AL.mp hb;have HH:=Option.some.inj hz;rcases h with rfl | rfl | rfl | rfl | rfl | rfl <;> omega
def wX {g:α->β}{l:List α} (h:(l.map g).Nodup):l.Nodup:=(En.mp h).imp λh e=>h (congrArg g e)
def KA (x y:Str) (c:Nat):(x++⟨#[c]⟩++y).cps[x.length]?=ap c:=by
 show ((x.cps++#[c])++y.cps)[x.cps.size]?=ap c;rw [Array.getElem?_append_left (by simp),Array.getElem?_append_right (Ao _)];simp
def Hu:∀k:_root_.Fin 26,bX ("abcdefghijklmnopqrstuvwxyz":Str).cps.toList (k.val:Int)=ap (97+k.val):=by decide +kernel
theorem Ld {n:Int} (h0:0<=n) (h1:n < 26):bX ("abcdefghijklmnopqrstuvwxyz":Str).cps.toList n=ap (97+n.toNat):=by
 have e:=Hu ⟨n.toNat,by omega⟩;have e2:((n.toNat:Nat):Int)=n:=by omega
 rw [e2] at e;exact e
def NZ {c:Nat} (h0:97<=c) (h1:c < 123):Part ⟨#[c]⟩ 1:=by
 refine⟨Ao _,λd hd=>?_⟩;have:d=c:=by simpa using hd
 subst this;exact⟨h0,h1⟩
inductive Tr where
 | leaf (x:Str)
 | node (l r:Tr)
def Tr.aJ:Tr->List Str
 | .leaf x=>[x]
 | .node l r=>l.aJ++r.aJ
def Tr.size:Tr->Nat
 | .leaf _=>1
 | .node l r=>l.size+r.size+1
def Tr.depth:Tr->Nat
 | .leaf _=>0
 | .node l r=>max l.depth r.depth+1
def Tr.Ws (t:Tr):Prop:=∀x∈t.aJ,Wd x
theorem Tr.mM:∀t:Tr,1<=t.aJ.length
 | .leaf _=>Ao _
 | .node l r=>by have:=l.mM;show 1<=(l.aJ++r.aJ).length;rw [Ad];omega
theorem Tr.oh:∀t:Tr,t.depth < t.aJ.length
 | .leaf _=>Du 0
 | .node l r=>by
  have h1:=l.oh;have h2:=r.oh;have h3:=l.mM;have h4:=r.mM;show max l.depth r.depth+1 < (l.aJ++r.aJ).length;rw [Ad];omega
theorem Tr.size_eq:∀t:Tr,t.size+1=2*t.aJ.length
 | .leaf _=>rfl
 | .node l r=>by
  have h1:=l.size_eq;have h2:=r.size_eq;show l.size+r.size+1+1=2*(l.aJ++r.aJ).length;rw [Ad];omega
def sL:∀k:_root_.Fin 26,(!(Builtin.Str.occurrences ("abcdefghijklmnopqrstuvwxyz":Str) ⟨#[97+k.val]⟩ 0 ("abcdefghijklmnopqrstuvwxyz":Str).length 1).isEmpty)=true:=by decide +kernel
theorem HF {c:Nat} (h0:97<=c) (h1:c < 123):(!(Builtin.Str.occurrences ("abcdefghijklmnopqrstuvwxyz":Str) ⟨#[c]⟩ 0 ("abcdefghijklmnopqrstuvwxyz":Str).length 1).isEmpty)=true:=by
 have e:=sL ⟨c-97,by omega⟩;have e2:97+(c-97)=c:=by omega
 simp only [e2] at e;exact e
def sizes (ts:List Tr):Nat:=(ts.map Tr.size).sum
def bS (a b:List Tr):sizes (a++b)=sizes a+sizes b:=by unfold sizes;rw [A5,List.sum_append]
def fu (t:Tr):sizes [t]=t.size:=by simp [sizes]
theorem Tr.size_pos:∀t:Tr,1<=t.size
 | .leaf _=>Ao _
 | .node l r=>by show 1<=l.size+r.size+1;omega
theorem len_sizes:∀ts:List Tr,ts.length<=sizes ts
 | []=>Ao _
 | t::r=>by have:=len_sizes r;have:=t.size_pos;show r.length+1<=t.size+sizes r;omega
def Tr.post:Tr->List Tr
 | .leaf x=>[.leaf x]
 | .node l r=>l.post++r.post++[.node l r]
def Tr.post_len:∀t:Tr,t.post.length=t.size
 | .leaf _=>rfl
 | .node l r=>by show (l.post++r.post++[_]).length=l.size+r.size+1;rw [Ad,Ad,l.post_len,r.post_len];rfl
def posts (ts:List Tr):List Tr:=(ts.map Tr.post).flatten
def jT (a b:List Tr):posts (a++b)=posts a++posts b:=by unfold posts;rw [A5,List.flatten_append]
def oP (t:Tr):posts [t]=t.post:=by simp [posts]
def K2 (t u:Tr):posts [t,u]=t.post++u.post:=by simp [posts]
inductive Ent where
 | word (x:Str)
 | pair (a b:Nat)
def Tr.nd:Tr->Nat->List Ent
 | .leaf x,_=>[.word x]
 | .node l r,o=>l.nd o++r.nd (o+l.size)++[.pair (o+l.size-1) (o+l.size+r.size-1)]
def Tr.bu:∀(t:Tr) (o:Nat),(t.nd o).length=t.size
 | .leaf _,_=>rfl
 | .node l r,o=>by show (l.nd o++r.nd (o+l.size)++[_]).length=l.size+r.size+1;rw [Ad,Ad,l.bu,r.bu];rfl
def run:List Tr->List Ent->List Nat->Option (List Ent×List Nat)
 | [],À,ls=>ap (À,ls)
 | .leaf x::k,À,ls=>run k (À++[.word x]) (À.length::ls)
 | .node _ _::k,À,b::a::ls=>run k (À++[.pair a b]) (À.length::ls)
 | .node _ _::_,_,_=>bm
theorem rM:∀(t:Tr) (k:List Tr) (À:List Ent) (ls:List Nat),run (t.post++k) À ls=run k (À++t.nd À.length) ((À.length+t.size-1)::ls)
 | .leaf x,k,À,ls=>rfl
 | .node l r,k,À,ls=>by
  have e1:(Tr.node l r).post++k=l.post++(r.post++(Tr.node l r::k)):=by show l.post++r.post++[_]++k=_;simp
  rw [e1,rM l,rM r];have e2:(À++l.nd À.length).length=À.length+l.size:=by rw [Ad,l.bu]
  rw [e2];show run k _ _=run k _ _;have e3:(À++l.nd À.length++r.nd (À.length+l.size)).length=À.length+(Tr.node l r).size-1:=by
   rw [Ad,Ad,l.bu,r.bu];show _=À.length+(l.size+r.size+1)-1;omega
  rw [e3];have e4:À++(Tr.node l r).nd À.length=À++l.nd À.length++r.nd (À.length+l.size)++[.pair (À.length+l.size-1) (À.length+l.size+r.size-1)]:=by
   show À++(l.nd À.length++r.nd (À.length+l.size)++[_])=_;simp
  rw [e4]
def KZ (t:Tr):run t.post [] []=ap (t.nd 0,[t.size-1]):=by
 have:=rM t [] [] [];rw [C4] at this;rw [this];show ap ([]++t.nd 0,[0+t.size-1])=_;simp
end My
variable {xs:List L2.V}{x:Bb}{i:Nat}{σ:L2.St}
namespace L2
open PySem PySem.Spec PyProof.Rows
def iG {t:ci} (h:s.heap.IsTupleIter it t i) (ht:s.heap.IsTuple t items) (hx:items[i]?=ap x)
  (q:∀h':mo,h'.IsTupleIter it t (i+1)->Ci it s.heap h'->Q x {s with heap:=h'}):db (dL prog w) A (Builtin.SmallTypes.nextOf (.ref it)) Q E s:=by
 unfold Builtin.SmallTypes.nextOf;refine Aa (AX h.typeIs Cn (Bg Cn h.typeIs DY ?_ (DJ _)));obtain⟨o,ho,hc,hd⟩:=id h;obtain⟨ot,Ī,htc,n,ĥ⟩:=id ht;show db _ _ (field (.ref it) 0 >>= λseq=>_) _ _ s;refine Aa (A1 ho hd rfl ?_);refine Aa (A1 ho hd rfl ?_);refine Aa (BE Ī ĥ ?_);show db _ _ (match items[i]? with | some x=>(do wE (.ref it) 1 (ut ((i:Int)+1));ret x) | none=>_) _ _ s;rw [hx];refine Aa (D9 ho hd (show 1 < 2 by decide) ?_);refine Af ⟨x,rfl,Af (q _ ⟨_,CF _ ho (by rw [Fd (C5 hd _)]),by rw [Obj.cls_mapFields];exact hc,by rw [C5 hd];rfl⟩ (Ci.update ..))⟩
def Q7 {Q:α->cr->Prop} (hA:A.handled=bm)
  (q:∀(h':mo) (e:ci),(∀b o,s.heap.get? b=ap o->h'.get? b=ap o)->(∃o,h'.get? e=ap o/\o.cls=.type "StopIteration")->E (.ref e) {s with heap:=h'}):db (dL prog w) A (Builtin.SmallTypes.stopIteration (α:=α)) Q E s:=by
 refine Aa ?_;refine Aa (CS ?_ (by show 0<=sizeLine;decide));refine Aa (Cz (a:=AZ) rfl ?_);refine A2 ?_ (sizeOk_excFields ..);unfold raiseNew;refine Aa (wpAny_handled ?_);rw [hA];refine wpAny_throw (q _ _ (λb o e=>Ah _ (Ah _ e)) ⟨_,Aq _ rfl,rfl⟩)
def jw {t:ci} (hA:A.handled=bm) (h:s.heap.IsTupleIter it t i) (ht:s.heap.IsTuple t items) (hx:items[i]?=bm)
  (q:∀(h':mo) (e:ci),FT it s.heap h'->(∃o,h'.get? e=ap o/\o.cls=.type "StopIteration")->E (.ref e) {s with heap:=h'}):db (dL prog w) A (Builtin.SmallTypes.nextOf (.ref it)) Q E s:=by
 unfold Builtin.SmallTypes.nextOf;refine Aa (AX h.typeIs Cn (Bg Cn h.typeIs DY ?_ (DJ _)));obtain⟨o,ho,hc,hd⟩:=id h;obtain⟨ot,Ī,htc,n,ĥ⟩:=id ht;show db _ _ (field (.ref it) 0 >>= λseq=>_) _ _ s;refine Aa (A1 ho hd rfl ?_);refine Aa (A1 ho hd rfl ?_);refine Aa (BE Ī ĥ ?_);show db _ _ (match items[i]? with | some x=>(do wE (.ref it) 1 (ut ((i:Int)+1));ret x) | none=>(do rule _;wE (.ref it) 0 .none;Builtin.SmallTypes.stopIteration)) _ _ s;rw [hx];refine Aa (C6 ?_);refine Aa (D9 ho hd (show 0 < 2 by decide) ?_);refine Q7 (A:=A.in1) hA λh' e k ex=>q h' e (λb o n eb=>k b o ?_) ex;rw [(Ci.update _ _ _).2 b n];exact eb
def Inv.rB {t':Nat}{a:ci}{o:HO} (I:Inv X Z σ H s) (hf:∀b∈ch,uV X Z H b) (k:∀b u,b∉ch->s.heap.get? b=ap u->h'.get? b=ap u)
  (hp:s.heap.objs.size<=a) (new:bx X.prog X.w (upd H a o) h' a o):Inv X Z σ (upd H a o) {s with heap:=h',toks:=t'}:=by
 have hn:=I.bH.fresh hp;have UA:∀b u,H b=ap u->b∉ch:=λb u e z=>by rw [(hf b z).1] at e;cases e
 have nL:X.env.locals∉ch:=λz=>(hf _ z).2.1 rfl;refine I.step (g':=s.gens) (d':=s.drawn) (ch:=ch) (λb hb=>⟨(hf b hb).2.2.2.1,(hf b hb).2.1,(hf b hb).2.2.2.2.1,(hf b hb).2.2.2.2.2⟩) (λb u _ _ hc e _=>k b u hc e) (λb u _ _ hc e _=>⟨u.slots,k b u hc e⟩)
  (λb u _ e n=>by rw [aA (AI (AB (Ar e) hp))];exact n) (λb u hc e=>⟨u,k b u hc e⟩) (λb xs e=>by rw [aA (bN e hn)];exact e) (λb u xs e=>by rw [aA (bN e hn)];exact e)
  (λb ps e=>⟨#[],by rw [aA (bN e hn),e];simp⟩) (λm hm=>?_) (λb u e=>?_) I.bare
 ·obtain⟨o',es,ep,ho,r⟩:=hm;exact⟨o',es,ep,k _ o' nL ho,r⟩
 ·by_cases hb:b=a
  ·subst hb;rw [aP] at e;cases e;exact new
  ·rw [aA hb] at e;refine (I.bH b u e).wu (λc v hc q=>k c v ?_ q) (λc q=>by rw [aA (bN q hn)];exact q) λc xs q=>by rw [aA (bN q hn)];exact q
   rcases hc with z | z
   ·rw [z];exact UA b u e
   ·exact UA c _ z
def Inv.vY {t':Nat} (I:Inv X Z σ H s) (hf:∀b∈ch,uV X Z H b) (k:∀b u,b∉ch->s.heap.get? b=ap u->h'.get? b=ap u) :
  Inv X Z σ H {s with heap:=h',toks:=t'}:=by
 have UA:∀b u,H b=ap u->b∉ch:=λb u e z=>by rw [(hf b z).1] at e;cases e
 have nL:X.env.locals∉ch:=λz=>(hf _ z).2.1 rfl;refine I.step (g':=s.gens) (d':=s.drawn) (ch:=ch) (λb hb=>⟨(hf b hb).2.2.2.1,(hf b hb).2.1,(hf b hb).2.2.2.2.1,(hf b hb).2.2.2.2.2⟩) (λb u _ _ hc e _=>k b u hc e) (λb u _ _ hc e _=>⟨u.slots,k b u hc e⟩)
  (λ_ _ _ _ n=>n) (λb u hc e=>⟨u,k b u hc e⟩) (λ_ _ e=>e) (λ_ _ _ e=>e) (λb ps e=>⟨#[],by rw [e];simp⟩) (λm hm=>?_) (λb u e=>?_) I.bare
 ·obtain⟨o',es,ep,ho,r⟩:=hm;exact⟨o',es,ep,k _ o' nL ho,r⟩
 ·refine (I.bH b u e).wu (λc v hc q=>k c v ?_ q) (λ_ q=>q) λ_ _ q=>q;rcases hc with z | z
  ·rw [z];exact UA b u e
  ·exact UA c _ z
def kH (h:Vals xs us):∀{i:Nat}{x:V},xs[i]?=ap x->∃u,us[i]?=ap u/\RelV x u:=by
 induction h with
 | nil=>intro i x e;simp at e
 | cons r t ih=>
  intro i x e;cases i with
  | zero=>simp at e;subst e;exact⟨_,rfl,r⟩
  | succ i=>exact ih (by simpa using e)
end L2
variable {e:BK}{Î:Bb}{Ñ:List BJ}{kk:Nat}
namespace L2
open PySem PySem.Spec PyProof.Rows
def qo {E:ce->cr->Prop}{t:ci} (MH:e≠it) (Ą:t≠e) (SQ:t≠it)
  (hz:IsEnum s.heap e it i Î) (hi:s.heap.IsTupleIter it t i) (ht:s.heap.IsTuple t items) (hx:items[i]?=ap x)
  (q:∀(h':mo) (tk:Nat),IsEnumOut h' e it (i+1:Nat) x s.heap.objs.size->h'.IsTupleIter it t (i+1)->IsPair h' s.heap.objs.size (.int i s.toks) x->(∀c o,c≠e->c≠it->s.heap.get? c=ap o->h'.get? c=ap o)->Q (.ref s.heap.objs.size) {s with heap:=h',toks:=tk}) :
  db (dL prog w) A (wT.«enumerate.__next__» {pos:=[.ref e]}) (λfin s'=>∃v,fin=FX (FV v)/\Q v s') E s:=by
 show db _ _ (field (.ref e) 2 >>= λr=>_) _ _ s;refine Aa (A1 hz rfl rfl ?_);refine Aa (iG hi ht hx λh1 j1 b1=>?_);have z1:=(b1.2 _ MH).trans hz;refine Aa (A1 z1 rfl rfl ?_);refine Aa (A1 z1 rfl rfl ?_);refine Aa (wpAny_mkInt ?_);refine Aa (Ba z1 (show 3 < 6 by decide) λh2 z2 b2=>?_);refine Aa (Ba z2 (show 4 < 6 by decide) λh3 z3 b3=>?_);have sz3:=b3.1.trans (b2.1.trans b1.1);have Ð:∀b,b≠e->b≠it->h3.get? b=s.heap.get? b:=λb n1 n2=>(b3.2 b n1).trans ((b2.2 b n1).trans (b1.2 b n2));refine Aa (CS ?_ (by show 2<=sizeLine;decide));have kp:∀b o,h3.get? b=ap o->(h3.push {cls:=.type "tuple",data:=.seq [C8 i s.toks,x].toArray}).get? b=ap o:=λb o e=>Ah _ e;have WH:(h3.push {cls:=.type "tuple",data:=.seq [C8 i s.toks,x].toArray}).get? h3.objs.size=ap {cls:=.type "tuple",data:=.seq #[.int i s.toks,x]}:=Aq _ rfl;generalize h3.push {cls:=.type "tuple",data:=.seq [C8 i s.toks,x].toArray}=h4 at kp WH ⊢;have z4:h4.get? e=ap {cls:=.type "enumerate",data:=.fields #[.none,.bool false,.ref it,ut (i+1),.none,Î]}:=kp _ _ z3;refine Aa ?_;refine Aa (A1 z4 rfl rfl ?_);refine Af ?_;refine Aa (C6 ?_);refine Aa (A1 z4 rfl rfl ?_);refine Aa (Ba z4 (show 5 < 6 by decide) λh5 z5 b5=>?_);refine Aa ?_;refine Aa (Ba z5 (show 0 < 6 by decide) λh6 z6 b6=>?_);refine Ba z6 (show 1 < 6 by decide) λh7 z7 b7=>?_;refine Aa (DC ?_);have Xv:∀b,b≠e->h7.get? b=h4.get? b:=λb n=>(b7.2 b n).trans ((b6.2 b n).trans (b5.2 b n));have ne:s.heap.objs.size≠e:=λz=>by have:=Ar hz;rw [<- z] at this;exact Bd _ this
 refine Af ⟨.ref h3.objs.size,rfl,?_⟩;rw [sz3] at z7 WH ⊢;refine q h7 _ ?_ ?_ ?_ ?_
 ·exact z7
 ·obtain⟨o,eo,p⟩:=j1;refine⟨o,?_,p⟩;rw [Xv _ (BG MH)];exact kp _ _ ((b3.2 _ (BG MH)).trans ((b2.2 _ (BG MH)).trans eo))
 ·rw [IsPair,Xv _ ne];exact WH
 ·intro c o n1 n2 ec;rw [Xv _ n1];exact kp _ _ ((Ð _ n1 n2).trans ec)
def tH {t:ci}{Q:PySem.Fin->cr->Prop} (hA:A.handled=bm)
  (hz:IsEnum s.heap e it i Î) (hi:s.heap.IsTupleIter it t i) (ht:s.heap.IsTuple t items) (hx:items[i]?=bm)
  (q:∀(h':mo) (x:ci),(∀c o,c≠it->s.heap.get? c=ap o->h'.get? c=ap o)->(∃o,h'.get? x=ap o/\o.cls=.type "StopIteration")->E (.ref x) {s with heap:=h'}) :
  db (dL prog w) A (wT.«enumerate.__next__» {pos:=[.ref e]}) Q E s:=by
 show db _ _ (field (.ref e) 2 >>= λr=>_) _ _ s;refine Aa (A1 hz rfl rfl ?_);exact Aa (jw hA hi ht hx λh' x k ex=>q h' x (λc o n e'=>k c o n e') ex)
def nu {t:ci}{Q:Option ce->cr->Prop} (MH:e≠it) (Ą:t≠e) (SQ:t≠it)
  (hz:IsEnum s.heap e it i Î) (hi:s.heap.IsTupleIter it t i) (ht:s.heap.IsTuple t items) (hx:items[i]?=ap x)
  (q:∀(h':mo) (tk:Nat),IsEnumOut h' e it (i+1:Nat) x s.heap.objs.size->h'.IsTupleIter it t (i+1)->IsPair h' s.heap.objs.size (.int i s.toks) x->(∀c o,c≠e->c≠it->s.heap.get? c=ap o->h'.get? c=ap o)->Q (ap (.ref s.heap.objs.size)) {s with heap:=h',toks:=tk}) :
  db (dL prog w) A (pyNext (.ref e)) Q E s:=by
 have ty:s.TypeIs (.ref e) "enumerate":=⟨_,hz,rfl⟩;refine Aa (C2 (AX ty CG (Bg CG ty EO ?_ (EC _))));exact qo MH Ą SQ hz hi ht hx λh' tk a b c d=>Af (q h' tk a b c d)
def oM {t:ci}{Q:Option ce->cr->Prop} (hA:A.handled=bm)
  (hz:IsEnum s.heap e it i Î) (hi:s.heap.IsTupleIter it t i) (ht:s.heap.IsTuple t items) (hx:items[i]?=bm)
  (q:∀h':mo,(∀c o,c≠it->s.heap.get? c=ap o->h'.get? c=ap o)->Q bm {s with heap:=h'}) :
  db (dL prog w) A (pyNext (.ref e)) Q E s:=by
 have ty:s.TypeIs (.ref e) "enumerate":=⟨_,hz,rfl⟩;refine Aa (C2 (AX ty CG (Bg CG ty EO ?_ (EC _))));refine tH (A:=A.in1) hA hz hi ht hx λh' x k ex=>?_;obtain⟨o,eo,hc⟩:=ex;refine Aa (Ds (T:="StopIteration") ⟨o,eo,hc⟩ isSubtype_stop ?_);exact Af (q h' k)
def qb (t:ci) (items:Array ce):Meets (wT.«enumerate.__new__» {pos:=[.type "enumerate",.ref t]}) (λ_ R s=>s.heap.IsTuple t items/\
  ∀h':mo,IsEnum h' (s.heap.objs.size+1) s.heap.objs.size (0:Nat) .none->h'.IsTupleIter s.heap.objs.size t 0->(∀b o,s.heap.get? b=ap o->h'.get? b=ap o)->R (.ok (.ret (.ref (s.heap.objs.size+1)))) {s with heap:=h'}):=
 .of_wp λprog w A R s h=>by
  obtain⟨h1,q⟩:=h;refine Aa ?_;refine Aa (Cz (a:=true) rfl ?_);refine Aa (Cz sub_enumerate ?_);refine Af ?_;refine Aa ?_;refine Aa (wpAny_stack_any λst=>Af ?_);have fin:db (dL prog w) A.in1 (pyIter (.ref t) >>= λit=>(Builtin.SmallTypes.newRecord (.type "enumerate") (Builtin.SmallTypes.ownedTupleFields++[it,ut 0,.none,.none]) >>= λr=>ret r)) (λfin s'=>∃v,fin=FX (FV v)/\R (Except.ok (FV v)) s') (λe s'=>R (Except.error e) s') s:=by
   refine Aa (Ea h1 ?_);have k1:∀b o,s.heap.get? b=ap o->(s.heap.push {cls:=.type "tuple_iterator",data:=.fields #[.ref t,.int 0 0]}).get? b=ap o:=λb o e=>Ah _ e;have g1:(s.heap.push {cls:=.type "tuple_iterator",data:=.fields #[.ref t,.int 0 0]}).get? s.heap.objs.size=ap {cls:=.type "tuple_iterator",data:=.fields #[.ref t,.int 0 0]}:=Aq _ rfl;have z1:(s.heap.push {cls:=.type "tuple_iterator",data:=.fields #[.ref t,.int 0 0]}).objs.size=s.heap.objs.size+1:=CP ..;generalize s.heap.push {cls:=.type "tuple_iterator",data:=.fields #[.ref t,.int 0 0]}=uG at k1 g1 z1 ⊢;show db _ _ (newObj (.type "enumerate") (.fields #[.none,.bool false,.ref s.heap.objs.size,ut 0,.none,.none]) >>= λr=>ret r) _ _ _;refine Aa (A2 ?_ (by simp [sizeOk];decide));have g2:(uG.push {cls:=.type "enumerate",data:=.fields #[.none,.bool false,.ref s.heap.objs.size,ut 0,.none,.none]}).get? uG.objs.size=ap {cls:=.type "enumerate",data:=.fields #[.none,.bool false,.ref s.heap.objs.size,ut 0,.none,.none]}:=Aq _ rfl;refine Af ⟨.ref uG.objs.size,rfl,?_⟩;rw [z1] at g2 ⊢;exact q _ g2 ⟨_,Ah _ g1,rfl,rfl⟩ λb o e=>Ah _ (k1 _ _ e)
  refine wpAny_ite_split (λ_=>?_) (λ_=>?_)
  ·exact Aa (Cz (a:=(AD t,bm)) rfl fin)
  ·exact Aa (Cz (a:=(AD t,bm)) rfl fin)
def ID {t:ci} (h1:s.heap.IsTuple t items)
  (q:∀h':mo,IsEnum h' (s.heap.objs.size+1) s.heap.objs.size (0:Nat) .none->h'.IsTupleIter s.heap.objs.size t 0->(∀b o,s.heap.get? b=ap o->h'.get? b=ap o)->Q (.ref (s.heap.objs.size+1)) {s with heap:=h'}) :
  db (dL prog w) A (call (.type "enumerate") [.ref t]) Q E s:=
 callType_new F.called_enumerate ⋯ (F.typeCall_enumerate_1 _) (F.newCall_enumerate_1 _) (λo=>F.args_object_init_2 o _) F.entry_enumerate_new (qb t items) ⟨h1,λh' z i k=>⟨⟨_,z,rfl⟩,q h' z i k⟩⟩
def Ite (K:Ab) (a:ci):It where
 go:=λi H=>∃xs x,dU K H a xs/\xs[i]?=ap x
 Ud:=λi H v H'=>∃p x,v=.ref p/\H p=bm/\H'=upd H p (.tup [.int i,x])/\∀xs,dU K H a xs->xs[i]?=ap x
 stop:=λi H=>∃xs,dU K H a xs/\xs.length<=i
theorem KI {K:Ab}{t:ci} (MH:e≠it) (Ą:t≠e) (SQ:t≠it):Turn P w K (.Tuple Ñ kk pos) (Ite K t) [e,it] e (λi h=>(∃Î,IsEnum h e it (i:Nat) Î)/\h.IsTupleIter it t i) where
 mem:=by simp
 obj:=λi h st b hb=>by
  simp only [Ax,A8,or_false] at hb;rcases hb with rfl | rfl
  ·obtain⟨⟨_,e⟩,_⟩:=st;exact⟨_,e,λv z=>by cases z⟩
  ·obtain⟨_,⟨o,e,_,d⟩⟩:=st;exact⟨o,e,λv z=>by rw [d] at z;cases z⟩
 keep:=λi h h' st k=>⟨let ⟨o,e'⟩:=st.1;⟨o,k e (by simp) _ e'⟩,let ⟨o,e',p⟩:=st.2;⟨o,k it (by simp) _ e',p⟩⟩
 item:=by
  intro X hP hw hK hc i Z s σ H E I hf st hg;subst hP hw hK;obtain⟨xs,x,hx,gx⟩:=hg;obtain⟨aw,rx,tx,_⟩:=I.tuple hx;obtain⟨u,gu,ru⟩:=kH rx gx;obtain⟨⟨Î,hz⟩,hi⟩:=st;refine nu MH Ą SQ hz hi tx (by simpa using gu) λh' tk zo j np k=>?_;refine⟨_,rfl,?_⟩;refine Eb zo λh2 z2 b2=>?_;have le:=Ar hz;have li:=let ⟨_,e',_⟩:=hi;Ar e';have lt:∀b∈[e,it],b < s.heap.objs.size:=λb hb=>by
   simp only [Ax,A8,or_false] at hb;rcases hb with rfl | rfl
   ·exact le
   ·exact li
  have nz:s.heap.objs.size≠e:=λz=>Bd _ (by have:=le;rw [<- z] at this;exact this);have æ:∀b o,b∉[e,it]->s.heap.get? b=ap o->h2.get? b=ap o:=λb o hb e'=>by
   have HH:b≠e:=λq=>hb (by simp [q]);rw [b2.2 b HH];exact k b o HH (λq=>hb (by simp [q])) e'
  have â:h2.get? s.heap.objs.size=ap {cls:=.type "tuple",data:=.seq #[.int i s.toks,u]}:=(b2.2 _ nz).trans np;have î:=I.bH.fresh (Ao s.heap.objs.size);refine⟨.ref s.heap.objs.size,upd H s.heap.objs.size (.tup [.int i,x]),I.rB (t':=tk) hf æ (Ao _) ⟨by show 2<=sizeLine;decide,[.int i s.toks,u],.cons ⟨_,rfl⟩ (.cons ru .nil),⟨_,â,rfl,_,rfl⟩⟩,rfl,⟨_,x,rfl,î,rfl,λxs' h'=>by rw [I.lJ h' hx];exact gx⟩,⟨⟨_,z2⟩,let ⟨o,e',p⟩:=j;⟨o,(b2.2 _ (BG MH)).trans e',p⟩⟩,λb hb=>?_⟩;rw [aA (AI (lt b hb))];exact (hf b hb).1
 done:=by
  intro X hP hw hK hc i Z s σ H E I hf st hg;subst hP hw hK;obtain⟨xs,hx,hl⟩:=hg;obtain⟨aw,rx,tx,_⟩:=I.tuple hx;have el:=rx.length;obtain⟨⟨Î,hz⟩,hi⟩:=st;refine oM (I.ok.hd hc) hz hi tx (by simp;omega) λh' k=>⟨rfl,I.vY (t':=s.toks) hf λb o hb e'=>k b o (λz=>hb (by simp [z])) e'⟩
 self:=λA i s Q E st h=>let ⟨_,e'⟩:=st.1;Dh e' h
end L2
namespace My
open PySem PySem.Spec PyProof.Rows L2
def Qn (l:List V) (i:Nat):Ent->List V
 | .word _=>l
 | .pair a b=>(l.set a (.int i)).set b (.int i)
def ah:List Ent->Nat->List V->List V
 | [],_,l=>l
 | e::es,i,l=>ah es (i+1) (Qn l i e)
theorem yp:∀(es:List Ent) (e:Ent) (i:Nat) (l:List V),ah (es++[e]) i l=Qn (ah es i l) (i+es.length) e
 | [],e,i,l=>rfl
 | x::es,e,i,l=>by
  show ah (es++[e]) (i+1) (Qn l i x)=Qn (ah es (i+1) (Qn l i x)) (i+(es.length+1)) e;rw [yp es e];congr 1;omega
def TZ (l:List V) (i:Nat) (e:Ent):(Qn l i e).length=l.length:=by cases e with
 | word=>rfl
 | pair=>show ((l.set _ _).set _ _).length=_;rw [BH,BH]
theorem IK:∀(es:List Ent) (i:Nat) (l:List V),(ah es i l).length=l.length
 | [],_,_=>rfl
 | e::es,i,l=>by show (ah es (i+1) (Qn l i e)).length=_;rw [IK es,TZ]
end My
namespace L2
open PySem PySem.Spec PyProof.Rows
def ZN (K:Ab):V->V->Hp->VK->Prop:=λo i H Q=>∃p xs k x,o=.ref p/\i=.int k/\di K H p xs/\0<=k/\k < 1000/\xs[k.toNat]?=ap x/\Q x H
theorem OZ (K:Ab) (hK:X.K=K):abR X (ZN K):=λZ s σ H o i ov iv Q I ro ri h=>by
 obtain⟨p,xs,k,x,rfl,rfl,hp,k0,k1,hx,q⟩:=h;subst hK;cases ro;obtain⟨t,rfl⟩:=ri;obtain⟨aw,r,pl,hz⟩:=I.list hp;obtain⟨u,gu,ru⟩:=kH r hx;exact wpAny_getItem_list pl.isList k0 ∅ (by simpa using gu) ⟨x,H,I,ru,q⟩
end L2
variable {x:Cp}
namespace My
open PySem PySem.Spec PyProof.Rows L2
theorem MR {c:Nat} (a:Part x 1) (b:Part y 6) (h0:97<=c) (h1:c < 123):Wd (x++⟨#[c]⟩++y):=by
 have q:=(a.append (NZ h0 h1)).append b;refine⟨?_,q.1,q.2⟩;rw [Dc,Dc];show 1<=x.length+1+y.length;omega
end My
namespace L2
open PySem PySem.Spec PyProof.Rows
def Itd (lo:Int) (n:Nat):It:=⟨λi _=>i < n,λi H x H'=>H'=H/\x=.int (lo-i),λi _=>n<=i⟩
theorem yT {K:Ab} (it:ci) (lo:Int) (n:Nat):Turn P w K tg (Itd lo n) [it] it (λi h=>IsRangeIter h it (lo+(i:Nat)*(-1)) ((n:Int)-(i:Nat)) (-1)) where
 mem:=by simp
 obj:=λi h st b hb=>by
  have e:b=it:=by simpa using hb
  subst e;exact⟨_,st,λv z=>by
   have z':=z;cases z'⟩
 keep:=λi h h' st k=>k it (by simp) _ st
 item:=by
  intro X hP hw hK hc i Z s σ H E I hf st hg;subst hP hw hK;obtain⟨f0,f1,f2,f3,f4,f5⟩:=hf it (by simp);have W:=Walks.range (prog:=X.prog) (w:=X.w) (I.ok.hd hc) it lo (-1) n;refine W.item i s _ _ hg st λv h' tk hv mZ kk=>?_;obtain⟨t,rfl⟩:=hv;have I1:Inv X Z σ H {s with heap:=h',toks:=tk}:=I.turned (λb o hb e=>kk b o (by simpa using hb) e) f0 f1 f3 f4 f5;refine⟨_,rfl,sR (s:={s with heap:=h',toks:=tk}) (n:="range_iterator") mZ rfl rfl ⋯ ⟨.int (lo-i),H,I1,⟨t,?_⟩,⟨rfl,rfl⟩,mZ,λb hb=>(hf b hb).1⟩⟩;rw [show lo+(i:Int)*(-1)=lo-i by omega]
 done:=by
  intro X hP hw hK hc i Z s σ H E I hf st hg;obtain⟨f0,f1,f2,f3,f4,f5⟩:=hf it (by simp);exact wpAny_pyNext_range_end (I.ok.hd hc) st (by have:n<=i:=hg;omega) λh' eb=>⟨rfl,I.turned (t':=s.toks) (λb o hb e=>eb b o hb e) f0 f1 f3 f4 f5⟩
 self:=λ_ _ _ _ _ st h=>wpAny_pyIter_rangeiter st h
section
theorem K0 {σ:St}{R:It->Hp->Prop}{lo hi:Int}{t u v:Tok}{tk:Nat} (I:Inv X Z σ H s) (h1:-(2 ^ 62)<=lo) (h2:lo < 2 ^ 62) (h3:-(2 ^ 62)<=hi) (h4:hi < 2 ^ 62)
  (q:R (Itd lo (lo-hi).toNat) H):db (dL X.prog X.w) X.A (pyIter (.ref s.heap.objs.size)) (PIE X Z σ tg R) E {s with heap:=s.heap.push {cls:=.type "range",data:=.fields #[.int lo t,.int hi u,.int (-1) v]},toks:=tk}:=by
 refine wpAny_pyIter_range (IsRange.new ..) (PySem.W.small_down h1 h2 h3 h4) ?_;have I1:Inv X Z σ H {s with heap:=s.heap.push {cls:=.type "range",data:=.fields #[.int lo t,.int hi u,.int (-1) v]},toks:=tk}:=I.kept λb o e=>Ah _ e;refine⟨(s.heap.push {cls:=.type "range",data:=.fields #[.int lo t,.int hi u,.int (-1) v]}).objs.size,[(s.heap.push {cls:=.type "range",data:=.fields #[.int lo t,.int hi u,.int (-1) v]}).objs.size],_,_,H,rfl,
  I1.kept (t':=tk) λb o e=>Ah _ e,yT _ lo (lo-hi).toNat,?_,λb hb=>?_,q⟩
 ·have e1:lo+((0:Nat):Int)*(-1)=lo:=by simp
  have e2:(((lo-hi).toNat:Nat):Int)-((0:Nat):Int)=Builtin.Range.rangeSize lo hi (-1):=by rw [PySem.W.rangeSize_down];split <;> omega
  show IsRangeIter _ _ (lo+((0:Nat):Int)*(-1)) ((((lo-hi).toNat:Nat):Int)-((0:Nat):Int)) (-1);rw [e1,e2];exact Aq _ rfl
 ·have e:b=(s.heap.push {cls:=.type "range",data:=.fields #[.int lo t,.int hi u,.int (-1) v]}).objs.size:=by simpa using hb
  subst e;exact I1.xG (Ao _) (I1.bH.fresh (Ao _))
def aaD (ta:TA):TI:=λσ H R=>ta σ H λvs H1=>∃i j:Int,vs=[.int i,.int j,.int (-1)]/\(-(2 ^ 62)<=i/\i < 2 ^ 62/\-(2 ^ 62)<=j/\j < 2 ^ 62)/\R (Itd i (i-j).toNat) H1
def K4 {c:gt}{ta:TA} (hg:Gl X "range") (hm:X.mg "range"=bm) (ha:PA X [a,b,c] ta) (hs:ga [a,b,c] X.env=[(false,kw a X.env),(false,kw b X.env),(false,kw c X.env)]:=by rfl) (qN:ga [b,c] X.env=[(false,kw b X.env),(false,kw c X.env)]:=by rfl) :
  PI X tg (.Call (.Name "range" p) [a,b,c] [] pos) (aaD ta):=by
 intro Z s σ H R I h;refine Call_ (jY I hg hm boot_range (Bp (bC (ha pos Z s σ H _ I h) λus s1 ⟨vs,H1,I1,r1,q1⟩=>?_) (by show ga _ _=_;rw [hs,qN]) (by rw [qN];rfl)));obtain⟨i,j,e,⟨q1,q2,q3,q4⟩,q⟩:=q1;subst e;cases r1 with
 | cons r rr=>
  cases rr with
  | cons r' rr=>
   cases rr with
   | cons r'' rr=>
    cases rr;obtain⟨t,rfl⟩:=r;obtain⟨t',rfl⟩:=r';obtain⟨t'',rfl⟩:=r'';refine call_range_3 ⋯ (K0 I1 q1 q2 q3 q4 q) (.inl ?_);unfold Builtin.divisionGoesByPylong;have e1:decide ((if ((-1:Int)==0)=true then 0 else (-1:Int).natAbs.log2 / 30+1) > 300)=false:=by decide
    simp only [e1,Ef]
end
def abW (K:Ab) (a:ci):It where
 go:=λi H=>∃xs x,di K H a xs/\xs[i]?=ap x
 Ud:=λi H v H'=>∃p x,v=.ref p/\H p=bm/\H'=upd H p (.tup [.int i,x])/\∀xs,di K H a xs->xs[i]?=ap x
 stop:=λi H=>∃xs,di K H a xs/\xs.length<=i
theorem GW {K:Ab}{t:ci} (MH:e≠it):Turn P w K (.Tuple Ñ kk pos) (abW K t) [e,it] e (λi h=>(∃Î,IsEnum h e it (i:Nat) Î)/\h.IsListIter it t i) where
 mem:=by simp
 obj:=λi h st b hb=>by
  simp only [Ax,A8,or_false] at hb;rcases hb with rfl | rfl
  ·obtain⟨⟨_,e⟩,_⟩:=st;exact⟨_,e,λv z=>by cases z⟩
  ·obtain⟨_,⟨o,e,_,d⟩⟩:=st;exact⟨o,e,λv z=>by rw [d] at z;cases z⟩
 keep:=λi h h' st k=>⟨let ⟨o,e'⟩:=st.1;⟨o,k e (by simp) _ e'⟩,let ⟨o,e',p⟩:=st.2;⟨o,k it (by simp) _ e',p⟩⟩
 item:=by
  intro X hP hw hK hc i Z s σ H E I hf st hg;subst hP hw hK;obtain⟨xs,x,hx,gx⟩:=hg;obtain⟨aw,rx,tx,_⟩:=I.list hx;obtain⟨u,gu,ru⟩:=kH rx gx;obtain⟨⟨Î,hz⟩,hi⟩:=st;refine wpAny_pyNext_enum_item hz hi tx.isList (by simpa using gu) MH λh' zo j np _ k=>?_;refine⟨_,rfl,?_⟩;refine Eb zo λh2 z2 b2=>?_;have le:=Ar hz;have li:=let ⟨_,e',_⟩:=hi;Ar e';have lt:∀b∈[e,it],b < s.heap.objs.size:=λb hb=>by
   simp only [Ax,A8,or_false] at hb;rcases hb with rfl | rfl
   ·exact le
   ·exact li
  have nz:s.heap.objs.size≠e:=λz=>Bd _ (by have:=le;rw [<- z] at this;exact this);have æ:∀b o,b∉[e,it]->s.heap.get? b=ap o->h2.get? b=ap o:=λb o hb e'=>by
   have HH:b≠e:=λq=>hb (by simp [q]);rw [b2.2 b HH];exact k b o HH (λq=>hb (by simp [q])) e'
  have â:h2.get? s.heap.objs.size=ap {cls:=.type "tuple",data:=.seq #[.int i s.toks,u]}:=(b2.2 _ nz).trans np;have î:=I.bH.fresh (Ao s.heap.objs.size);refine⟨.ref s.heap.objs.size,upd H s.heap.objs.size (.tup [.int i,x]),I.rB (t':=s.toks+1) hf æ (Ao _) ⟨by show 2<=sizeLine;decide,[.int i s.toks,u],.cons ⟨_,rfl⟩ (.cons ru .nil),⟨_,â,rfl,_,rfl⟩⟩,rfl,⟨_,x,rfl,î,rfl,λxs' h'=>by rw [I.zI h' hx];exact gx⟩,⟨⟨_,z2⟩,let ⟨o,e',p⟩:=j;⟨o,(b2.2 _ (BG MH)).trans e',p⟩⟩,λb hb=>?_⟩;rw [aA (AI (lt b hb))];exact (hf b hb).1
 done:=by
  intro X hP hw hK hc i Z s σ H E I hf st hg;subst hP hw hK;obtain⟨xs,hx,hl⟩:=hg;obtain⟨aw,rx,tx,_⟩:=I.list hx;have el:=rx.length;obtain⟨⟨Î,hz⟩,hi⟩:=st;refine wpAny_pyNext_enum_end (I.ok.hd hc) hz hi tx.isList (by simp;omega) λh' k=>⟨rfl,I.vY (t':=s.toks) hf λb o hb e'=>k b o (λz=>hb (by simp [z])) e'⟩
 self:=λA i s Q E st h=>let ⟨_,e'⟩:=st.1;Dh e' h
end L2
namespace My
open PySem PySem.Spec PyProof.Rows L2
def en:Tr->Nat->Nat->Ent
 | .leaf x,_,_=>.word x
 | .node l r,o,j=>if j < l.size then en l o j else if j < l.size+r.size then en r (o+l.size) (j-l.size) else .pair (o+l.size-1) (o+l.size+r.size-1)
def up:Tr->Nat->Nat->List Nat->List Nat
 | .leaf _,o,_,ab=>o::ab
 | .node l r,o,j,ab=>if j < l.size then up l o j ((o+l.size+r.size)::ab) else if j < l.size+r.size then up r (o+l.size) (j-l.size) ((o+l.size+r.size)::ab) else (o+l.size+r.size)::ab
def kf:Tr->Nat->Nat->V->V
 | .leaf _,_,_,p=>p
 | .node l r,o,j,p=>if j < l.size then kf l o j (.int (o+l.size+r.size:Nat)) else if j < l.size+r.size then kf r (o+l.size) (j-l.size) (.int (o+l.size+r.size:Nat)) else p
def be:Tr->Nat->Nat->List Nat
 | .leaf _,o,_=>[o]
 | .node l r,o,j=>if j < l.size then be l o j else if j < l.size+r.size then be r (o+l.size) (j-l.size) else be l o (l.size-1)++be r (o+l.size) (r.size-1)
theorem f7:∀(t:Tr) (o j:Nat),j < t.size->(t.nd o)[j]?=ap (en t o j)
 | .leaf x,o,j,h=>by
  have:j=0:=by have:j < 1:=h;omega
  subst this;rfl
 | .node l r,o,j,h=>by
  have es:(Tr.node l r).size=l.size+r.size+1:=rfl;have hn:(Tr.node l r).nd o=l.nd o++r.nd (o+l.size)++[.pair (o+l.size-1) (o+l.size+r.size-1)]:=rfl;have ln:=l.bu o;have rn:=r.bu (o+l.size);unfold en;by_cases c1:j < l.size
  ·rw [if_pos c1,hn,A3,AE ∅];exact f7 l o j c1
  ·rw [if_neg c1];by_cases c2:j < l.size+r.size
   ·rw [if_pos c2,hn,A3,AA ∅,AE ∅,ln];exact f7 r _ _ ∅
   ·rw [if_neg c2,hn,AA (by rw [Ad];omega),Ad,ln,rn];have:j-(l.size+r.size)=0:=by omega
    rw [this];rfl
theorem Qc:∀(t:Tr) (o j:Nat),j < t.size->(∃x,en t o j=.word x/\be t o j=[o+j])\/∃a b,en t o j=.pair (o+a) (o+b)/\a < j/\b < j/\be t o j=be t o a++be t o b
 | .leaf x,o,j,h=>by
  have:j=0:=by have:j < 1:=h;omega
  subst this;exact .inl ⟨x,rfl,rfl⟩
 | .node l r,o,j,h=>by
  have es:(Tr.node l r).size=l.size+r.size+1:=rfl;have lp:=l.size_pos;have rp:=r.size_pos;by_cases c1:j < l.size
  ·have e1:en (.node l r) o j=en l o j:=by rw [en,if_pos c1]
   have e2:∀k,k < l.size->be (.node l r) o k=be l o k:=λk hk=>by rw [be,if_pos hk]
   rw [e1];rcases Qc l o j c1 with⟨x,q1,q2⟩ | ⟨a,b,q1,q2,q3,q4⟩
   ·exact .inl ⟨x,q1,by rw [e2 j c1];exact q2⟩
   ·exact .inr ⟨a,b,q1,q2,q3,by rw [e2 j c1,e2 a ∅,e2 b ∅];exact q4⟩
  ·by_cases c2:j < l.size+r.size
   ·have e1:en (.node l r) o j=en r (o+l.size) (j-l.size):=by rw [en,if_neg c1,if_pos c2]
    have e2:∀k,k < r.size->be (.node l r) o (l.size+k)=be r (o+l.size) k:=λk hk=>by
     rw [be,if_neg ∅,if_pos ∅];congr 1;omega
    have ej:j=l.size+(j-l.size):=by omega
    rw [e1];rcases Qc r (o+l.size) (j-l.size) ∅ with⟨x,q1,q2⟩ | ⟨a,b,q1,q2,q3,q4⟩
    ·refine .inl ⟨x,q1,?_⟩;rw [ej,e2 _ ∅,q2];congr 1;omega
    ·refine .inr ⟨l.size+a,l.size+b,?_,by omega,by omega,?_⟩
     ·rw [q1,Be,Be]
     ·rw [e2 a ∅,e2 b ∅,ej,e2 _ ∅,q4]
   ·have ej:j=l.size+r.size:=by omega
    refine .inr ⟨l.size-1,l.size+r.size-1,?_,by omega,by omega,?_⟩
    ·rw [en,if_neg c1,if_neg c2];congr 1 <;> omega
    ·rw [be,if_neg c1,if_neg c2,be,if_pos ∅,be,if_neg ∅,if_pos ∅];congr 2;omega
theorem rz:∀(t:Tr) (o j:Nat) (p:V) (ab:List Nat),j < t.size->(j=t.size-1/\kf t o j p=p/\up t o j ab=(o+j)::ab)\/∃a,j < a/\a < t.size/\kf t o j p=.int (o+a:Nat)/\up t o j ab=(o+j)::up t o a ab
 | .leaf x,o,j,p,ab,h=>by
  have:j=0:=by have:j < 1:=h;omega
  subst this;exact .inl ⟨rfl,rfl,rfl⟩
 | .node l r,o,j,p,ab,h=>by
  have es:(Tr.node l r).size=l.size+r.size+1:=rfl;have lp:=l.size_pos;have rp:=r.size_pos;have er:up (.node l r) o (l.size+r.size) ab=(o+l.size+r.size)::ab:=by rw [up,if_neg ∅,if_neg ∅]
  by_cases c1:j < l.size
  ·have e1:kf (.node l r) o j p=kf l o j (.int (o+l.size+r.size:Nat)):=by rw [kf,if_pos c1]
   have e2:∀k,k < l.size->up (.node l r) o k ab=up l o k ((o+l.size+r.size)::ab):=λk hk=>by rw [up,if_pos hk]
   rw [e1,e2 j c1];rcases rz l o j (.int (o+l.size+r.size:Nat)) ((o+l.size+r.size)::ab) c1 with⟨q1,q2,q3⟩ | ⟨a,q1,q2,q3,q4⟩
   ·refine .inr ⟨l.size+r.size,by omega,by omega,by rw [q2,Be],by rw [q3,er]⟩
   ·exact .inr ⟨a,q1,by omega,q3,by rw [q4,e2 a q2]⟩
  ·by_cases c2:j < l.size+r.size
   ·have e1:kf (.node l r) o j p=kf r (o+l.size) (j-l.size) (.int (o+l.size+r.size:Nat)):=by rw [kf,if_neg c1,if_pos c2]
    have e2:∀k,k < r.size->up (.node l r) o (l.size+k) ab=up r (o+l.size) k ((o+l.size+r.size)::ab):=λk hk=>by
     rw [up,if_neg ∅,if_pos ∅];congr 1;omega
    obtain⟨i,rfl⟩:∃i,j=l.size+i:=⟨j-l.size,by omega⟩;have ei:l.size+i-l.size=i:=by omega
    rw [e1,e2 i ∅,ei];rcases rz r (o+l.size) i (.int (o+l.size+r.size:Nat)) ((o+l.size+r.size)::ab) ∅ with⟨q1,q2,q3⟩ | ⟨a,q1,q2,q3,q4⟩
    ·refine .inr ⟨l.size+r.size,by omega,by omega,by rw [q2,Be],by rw [q3,er,Be]⟩
    ·exact .inr ⟨l.size+a,by omega,by omega,by rw [q3,Be],by rw [q4,e2 a q2,Be]⟩
   ·have ej:j=l.size+r.size:=by omega
    refine .inl ⟨by omega,by rw [kf,if_neg c1,if_neg c2],?_⟩;rw [ej,er,Be]
def mB:Tr->Nat->V->List V
 | .leaf _,_,p=>[p]
 | .node l r,o,p=>mB l o (.int (o+l.size+r.size:Nat))++mB r (o+l.size) (.int (o+l.size+r.size:Nat))++[p]
theorem ke:∀(t:Tr) (o:Nat) (p:V),(mB t o p).length=t.size
 | .leaf _,_,_=>rfl
 | .node l r,o,p=>by
  unfold mB;rw [Ad,Ad,ke l,ke r];rfl
theorem Kv (t:Tr) (o:Nat) (p q:V) (A B:List V):(A++mB t o p++B).set (A.length+t.size-1) q=A++mB t o q++B:=by
 have key:∃I,mB t o p=I++[p]/\mB t o q=I++[q]:=by
  cases t with
  | leaf _=>exact⟨[],rfl,rfl⟩
  | node l r=>exact⟨_,rfl,rfl⟩
 obtain⟨I,e1,e2⟩:=key;have h1:=ke t o p;rw [e1,Ad] at h1;have iw:I.length+1=t.size:=h1;rw [e1,e2];have ei:A.length+t.size-1=(A++I).length:=by rw [Ad];omega
 rw [ei,show A++(I++[p])++B=(A++I)++p::B by simp,Fe _ _ (Ao _),B1];simp
theorem Qm:∀(es fs:List Ent) (i:Nat) (l:List V),ah (es++fs) i l=ah fs (i+es.length) (ah es i l)
 | [],fs,i,l=>rfl
 | e::es,fs,i,l=>by
  show ah (es++fs) (i+1) (Qn l i e)=ah fs (i+(es.length+1)) (ah es (i+1) (Qn l i e));rw [Qm es fs];congr 1;omega
theorem IL:∀(t:Tr) (A B:List V),ah (t.nd A.length) A.length (A++Al t.size .aO++B)=A++mB t A.length .aO++B
 | .leaf x,A,B=>rfl
 | .node l r,A,B=>by
  have es:(Tr.node l r).size=l.size+r.size+1:=rfl;have hn:(Tr.node l r).nd A.length=l.nd A.length++r.nd (A.length+l.size)++[.pair (A.length+l.size-1) (A.length+l.size+r.size-1)]:=rfl;have ln:=l.bu A.length;have rn:=r.bu (A.length+l.size);have h1:=IL l A (Al r.size .aO++([V.aO]++B));have e0:A++Al (Tr.node l r).size V.aO++B=A++Al l.size .aO++(Al r.size .aO++([V.aO]++B)):=by
   rw [es,<- Dl,<- Dl];simp only [A3];rfl
  rw [hn,yp,Qm,e0,h1,ln];have la:(A++mB l A.length V.aO).length=A.length+l.size:=by rw [Ad,ke]
  have h2:=IL r (A++mB l A.length V.aO) ([V.aO]++B);rw [la] at h2;have e1:A++mB l A.length V.aO++(Al r.size V.aO++([V.aO]++B))=A++mB l A.length V.aO++Al r.size V.aO++([V.aO]++B):=by simp [A3]
  rw [e1,h2,Ad,ln,rn];show ((_:List V).set (A.length+l.size-1) _).set (A.length+l.size+r.size-1) _=_;have s1:=Kv l A.length .aO (.int (A.length+(l.size+r.size):Nat)) A (mB r (A.length+l.size) V.aO++([V.aO]++B));have e2:A++mB l A.length V.aO++mB r (A.length+l.size) V.aO++([V.aO]++B)=A++mB l A.length V.aO++(mB r (A.length+l.size) V.aO++([V.aO]++B)):=by simp [A3]
  rw [e2,s1];have lb:(A++mB l A.length (V.int (A.length+(l.size+r.size):Nat))).length=A.length+l.size:=by rw [Ad,ke]
  have s2:=Kv r (A.length+l.size) .aO (.int (A.length+(l.size+r.size):Nat)) (A++mB l A.length (V.int (A.length+(l.size+r.size):Nat))) ([V.aO]++B);rw [lb] at s2;have e3:A++mB l A.length (V.int (A.length+(l.size+r.size):Nat))++(mB r (A.length+l.size) V.aO++([V.aO]++B))=A++mB l A.length (V.int (A.length+(l.size+r.size):Nat))++mB r (A.length+l.size) V.aO++([V.aO]++B):=by simp [A3]
  rw [e3,s2];have e4:mB (.node l r) A.length .aO=mB l A.length (.int (A.length+l.size+r.size:Nat))++mB r (A.length+l.size) (.int (A.length+l.size+r.size:Nat))++[.aO]:=rfl;rw [e4,Be A.length l.size r.size];simp [A3]
theorem yn:∀(t:Tr) (o j:Nat) (p:V),j < t.size->(mB t o p)[j]?=ap (kf t o j p)
 | .leaf x,o,j,p,h=>by
  have:j=0:=by have:j < 1:=h;omega
  subst this;rfl
 | .node l r,o,j,p,h=>by
  have es:(Tr.node l r).size=l.size+r.size+1:=rfl;have ln:=ke l o (.int (o+l.size+r.size:Nat));have rn:=ke r (o+l.size) (.int (o+l.size+r.size:Nat));unfold mB kf;by_cases c1:j < l.size
  ·rw [if_pos c1,A3,AE ∅];exact yn l _ _ _ c1
  ·rw [if_neg c1];by_cases c2:j < l.size+r.size
   ·rw [if_pos c2,A3,AA ∅,AE ∅,ln];exact yn r _ _ _ ∅
   ·rw [if_neg c2,AA (by rw [Ad];omega),Ad,ln,rn];have:j-(l.size+r.size)=0:=by omega
    rw [this];rfl
def X9 (t:Tr) (h:j < t.size):(ah (t.nd 0) 0 (Al t.size .aO))[j]?=ap (kf t 0 j .aO):=by
 have q:=IL t [] [];have e:([]:List V)++Al t.size .aO++[]=Al t.size .aO:=by simp
 have e2:([]:List V)++mB t ([]:List V).length .aO++[]=mB t 0 .aO:=by simp
 rw [e,e2] at q;have q':ah (t.nd 0) 0 (Al t.size .aO)=mB t 0 .aO:=q;rw [q'];exact yn t 0 j .aO h
end My
variable {H1:L2.Hp}{ι:List BK}
namespace PL
section
open PySem PySem.Spec PyProof.Rows L2
variable {K:Ab}
def Vf (K:Ab) (H:Hp) (a:ci) (xs:List V):Prop:=(∃o,H a=ap (.cM o (.lst xs)))\/
  ∃(o:Obj) (aw:Array ce) (n:Nat),K.lookup a=ap o/\o.cls=.type "list"/\o.dict=bm/\o.data=.seq aw n/\aw.size<=sizeLine/\Vals xs aw.toList
def Vf.sq {a:ci} (h:Vf K H a xs):di K H a xs:=h.elim (λh=>.inl (.inr h)) .inr
structure bB (K:Ab) (H H':Hp):Prop where
 t:∀p vs,H p=ap (.tup vs)->H' p=ap (.tup vs)
 z:∀p o u,H p=ap (.cM o u)->H' p=ap (.cM o u)
def bB.f {H H':Hp} (t:bB K H H') (p:ci) (vs:List V) (h:Vf K H p vs):Vf K H' p vs:=h.elim (λ⟨o,h⟩=>.inl ⟨o,t.z _ _ _ h⟩) .inr
def bB.refl (H:Hp):bB K H H:=⟨λ_ _ h=>h,λ_ _ _ h=>h⟩
def bB.trans (a:bB K H H1) (b:bB K H1 H2):bB K H H2:=⟨λp vs h=>b.t p vs (a.t p vs h),λp o w h=>b.z p o w (a.z p o w h)⟩
def _root_.L2.kF.eO (s:kF H H'):bB K H H':=⟨λp vs h=>s _ _ h,λp o u h=>s _ _ h⟩
inductive PV where
 | aO | bl (b:Bool) | int (i:Int) | str (x:Str) | tup (l:List PV) | ref (n:Nat) | ty (n:String) | cl (l:List PV) | dv (ks vs:List PV)
def kP:Key->PV
 | .inl i=>.int i
 | .inr x=>.str x
inductive PO where
 | lst (xs:List PV) | dk (kvs:List (Key×PV)) | dt (kvs:List (List Key×PV)) | opq (φ:List V->Prop)
abbrev PH:=List PO
abbrev yJ:=List (Option PV)
mutual
inductive VR (K:Ab) (ι:List ci) (H:Hp):V->PV->Prop
 | aO:VR K ι H .aO .aO
 | bl (b:Bool):VR K ι H (.bl b) (.bl b)
 | int (i:Int):VR K ι H (.int i) (.int i)
 | str (x:Str):VR K ι H (.str x) (.str x)
 | ty (n:String):VR K ι H (.ty n) (.ty n)
 | tup {p:ci}{vs:List V}{l:List PV} (h:H p=ap (.tup vs)) (r:aM K ι H vs l):VR K ι H (.ref p) (.tup l)
 | ref {n:Nat}{a:ci} (h:ι[n]?=ap a):VR K ι H (.ref a) (.ref n)
 | cl {a:ci}{vs:List V}{l:List PV} (h:Vf K H a vs) (r:aM K ι H vs l):VR K ι H (.ref a) (.cl l)
 | dk {a:ci}{o:Obj}{kvs:List (Key×V)}{ks l:List PV} (h:H a=ap (.cM o (.dK kvs))) (e:ks=kvs.map λkv=>kP kv.1) (r:aM K ι H (kvs.map (·.2)) l):VR K ι H (.ref a) (.dv ks l)
 | dt {a:ci}{o:Obj}{kvs:List (List Key×V)}{ks l:List PV} (h:H a=ap (.cM o (.dT kvs))) (e:ks=kvs.map λkv=>.tup (kv.1.map kP)) (r:aM K ι H (kvs.map (·.2)) l):VR K ι H (.ref a) (.dv ks l)
inductive aM (K:Ab) (ι:List ci) (H:Hp):List V->List PV->Prop
 | nil:aM K ι H [] []
 | cons {v:V}{p:PV}{vs:List V}{ps:List PV} (r:VR K ι H v p) (t:aM K ι H vs ps):aM K ι H (v::vs) (p::ps)
end
section
variable {ι':List ci}
mutual
theorem VR.mono (ht:bB K H H') (hi:∀(n:Nat) (a:ci),ι[n]?=ap a->ι'[n]?=ap a):∀{v:V}{p:PV},VR K ι H v p->VR K ι' H' v p
 | _,_,.aO=>.aO
 | _,_,.bl b=>.bl b
 | _,_,.int i=>.int i
 | _,_,.str x=>.str x
 | _,_,.ty n=>.ty n
 | _,_,.tup h r=>.tup (ht.t _ _ h) (aM.mono ht hi r)
 | _,_,.cl h r=>.cl (ht.f _ _ h) (aM.mono ht hi r)
 | _,_,.dk h e r=>.dk (ht.z _ _ _ h) e (aM.mono ht hi r)
 | _,_,.dt h e r=>.dt (ht.z _ _ _ h) e (aM.mono ht hi r)
 | _,_,.ref h=>.ref (hi _ _ h)
theorem aM.mono (ht:bB K H H') (hi:∀(n:Nat) (a:ci),ι[n]?=ap a->ι'[n]?=ap a):∀{vs:List V}{ps:List PV},aM K ι H vs ps->aM K ι' H' vs ps
 | _,_,.nil=>.nil
 | _,_,.cons r t=>.cons (VR.mono ht hi r) (aM.mono ht hi t)
end
theorem aM.length:∀{vs:List V}{ps:List PV},aM K ι H vs ps->vs.length=ps.length
 | _,_,.nil=>rfl
 | _,_,.cons _ t=>by rw [An,An,aM.length t]
theorem aM.get:∀{vs:List V}{ps:List PV}{i:Nat}{p:PV},aM K ι H vs ps->ps[i]?=ap p->∃v,vs[i]?=ap v/\VR K ι H v p
 | _,_,_,_,.nil,e=>by simp at e
 | _,_,0,_,.cons r _,e=>by simp at e;subst e;exact⟨_,rfl,r⟩
 | _,_,i+1,p,.cons _ t,e=>by
  obtain⟨v,h1,h2⟩:=aM.get (i:=i) (p:=p) t (by simpa using e);exact⟨v,by simpa using h1,h2⟩
theorem aM.aa8:∀{vs:List V}{ps:List PV}{i:Nat}{v:V},aM K ι H vs ps->vs[i]?=ap v->∃p,ps[i]?=ap p/\VR K ι H v p
 | _,_,_,_,.nil,e=>by simp at e
 | _,_,0,_,.cons r _,e=>by simp at e;subst e;exact⟨_,rfl,r⟩
 | _,_,i+1,p,.cons _ t,e=>by
  obtain⟨v,h1,h2⟩:=aM.aa8 (i:=i) (v:=p) t (by simpa using e);exact⟨v,by simpa using h1,h2⟩
theorem aM.set {p:PV} (r:VR K ι H v p):∀{vs:List V}{ps:List PV} (i:Nat),aM K ι H vs ps->aM K ι H (vs.set i v) (ps.set i p)
 | _,_,_,.nil=>.nil
 | _,_,0,.cons _ t=>.cons r t
 | _,_,i+1,.cons q t=>.cons q (aM.set r i t)
theorem aM.append:∀{xs ys:List V}{us ws:List PV},aM K ι H xs us->aM K ι H ys ws->aM K ι H (xs++ys) (us++ws)
 | _,_,_,_,.nil,s=>s
 | _,_,_,_,.cons r t,s=>.cons r (aM.append t s)
theorem aM.take:∀{xs:List V}{us:List PV} (n:Nat),aM K ι H xs us->aM K ι H (xs.take n) (us.take n)
 | _,_,0,_=>.nil
 | _,_,_+1,.nil=>.nil
 | _,_,n+1,.cons r t=>.cons r (aM.take n t)
theorem aM.drop:∀{xs:List V}{us:List PV} (n:Nat),aM K ι H xs us->aM K ι H (xs.drop n) (us.drop n)
 | _,_,0,r=>r
 | _,_,_+1,.nil=>.nil
 | _,_,n+1,.cons _ t=>aM.drop n t
theorem aM.reverse:∀{xs:List V}{us:List PV},aM K ι H xs us->aM K ι H xs.reverse us.reverse
 | _,_,.nil=>.nil
 | _,_,.cons r t=>by rw [CM,CM];exact (aM.reverse t).append (.cons r .nil)
def aM.one {p:PV} (r:VR K ι H v p):aM K ι H [v] [p]:=.cons r .nil
end
structure Go (ι ι':List ci) (H H':Hp):Prop where
 ext:∃m,ι'=ι++m
 new:∀a,a∈ι'->a∉ι->H a=bm
 keep:∀a o,a∉ι->H a=ap o->H' a=ap o
def Go.refl (ι:List ci) (H:Hp):Go ι ι H H:=⟨⟨[],by simp⟩,λa h n=>absurd h n,λ_ _ _ h=>h⟩
def OR (K:Ab) (ι:List ci) (H:Hp) (a:ci):PO->Prop
 | .lst xs=>∃vs,H a=ap (.lst vs)/\aM K ι H vs xs
 | .dk kvs=>∃vs:List (Key×V),H a=ap (.dK vs)/\vs.map (·.1)=kvs.map (·.1)/\aM K ι H (vs.map (·.2)) (kvs.map (·.2))
 | .dt kvs=>∃vs:List (List Key×V),H a=ap (.dT vs)/\vs.map (·.1)=kvs.map (·.1)/\aM K ι H (vs.map (·.2)) (kvs.map (·.2))
 | .opq φ=>∃vs,H a=ap (.lst vs)/\φ vs
structure HR (K:Ab) (ι:List ci) (H:Hp) (h:PH):Prop where
 nd:ι.Nodup
 len:ι.length=h.length
 obj:∀(n:Nat) (a:ci) (o:PO),ι[n]?=ap a->h[n]?=ap o->OR K ι H a o
theorem iW {l:List α}{x y:α} (h:(l++[x])[n]?=ap y):l[n]?=ap y\/(n=l.length/\y=x):=by
 by_cases hn:n < l.length
 ·rw [AE hn] at h;exact .inl h
 ·rw [AA ∅] at h;obtain⟨k,hk⟩:∃k,k=n-l.length:=⟨_,rfl⟩;rw [<- hk] at h;cases k with
  | zero=>simp at h;exact .inr ⟨by omega,h.symm⟩
  | succ k=>simp at h
end
end PL
variable {e:BJ}
namespace PL
section
open PySem PySem.Spec PyProof.Rows L2
variable {K:Ab}
abbrev QV:=PV->PH->Prop
structure ME where
 run:yJ->PH->QV->Prop
 mono:∀{ps h}{Q Q':QV},(∀v h',Q v h'->Q' v h')->run ps h Q->run ps h Q'
structure MT where
 run:yJ->PH->(Bool->PH->Prop)->Prop
 mono:∀{ps h}{Q Q':Bool->PH->Prop},(∀v h',Q v h'->Q' v h')->run ps h Q->run ps h Q'
structure MA where
 run:yJ->PH->(List PV->PH->Prop)->Prop
 mono:∀{ps h}{Q Q':List PV->PH->Prop},(∀v h',Q v h'->Q' v h')->run ps h Q->run ps h Q'
structure ML where
 run:yJ->PH->(List PV->PH->Prop)->Prop
 mono:∀{ps h}{Q Q':List PV->PH->Prop},(∀v h',Q v h'->Q' v h')->run ps h Q->run ps h Q'
structure Src where
 items:List PV
 ok:PH->Prop
 fz:Bool
structure MI where
 run:yJ->PH->(Src->PH->Prop)->Prop
 mono:∀{ps h}{Q Q':Src->PH->Prop},(∀v h',Q v h'->Q' v h')->run ps h Q->run ps h Q'
structure PD where
 nx:yJ->PH->Prop
 rt:QV
 bk:yJ->PH->Prop
 ct:yJ->PH->Prop
structure PD.Le (D D':PD):Prop where
 nx:∀ps h,D.nx ps h->D'.nx ps h
 rt:∀v h,D.rt v h->D'.rt v h
 bk:∀ps h,D.bk ps h->D'.bk ps h
 ct:∀ps h,D.ct ps h->D'.ct ps h
structure MS where
 run:PD->yJ->PH->Prop
 mono:∀{D D' ps h},PD.Le D D'->run D ps h->run D' ps h
structure MG where
 run:PV->yJ->PH->(yJ->PH->Prop)->Prop
 mono:∀{v ps h}{Q Q':yJ->PH->Prop},(∀ps h,Q ps h->Q' ps h)->run v ps h Q->run v ps h Q'
def pQ (K:Ab) (ι:List ci) (H:Hp) (Q:VK):QV:=λp h'=>∀ι' v H',Go ι ι' H H'->HR K ι' H' h'->VR K ι' H' v p->Q v H'
def PE.imp {t t':TE} (h:PE X e t) (f:∀σ H Q,t' σ H Q->t σ H Q):PE X e t':=λZ s σ H Q I q=>h Z s σ H Q I (f _ _ _ q)
def PT.imp {t t':TT} (h:PT X e t) (f:∀σ H Q,t' σ H Q->t σ H Q):PT X e t':=λZ s σ H Q I q=>h Z s σ H Q I (f _ _ _ q)
def PW.imp {t t':TT} (h:PW X e t) (f:∀σ H Q,t' σ H Q->t σ H Q):PW X e t':=λw Z s σ H Q I q=>h w Z s σ H Q I (f _ _ _ q)
def PA.imp {e:List gt}{t t':TA} (h:PA X e t) (f:∀σ H Q,t' σ H Q->t σ H Q):PA X e t':=λpos Z s σ H Q I q=>h pos Z s σ H Q I (f _ _ _ q)
def PS.imp {e:sK}{t t':TS} (h:PS X e t) (f:∀D σ H,t' D σ H->t D σ H):PS X e t':=λZ s σ H D I q=>h Z s σ H D I (f _ _ _ q)
def qY.imp {e:List sK}{t t':TS} (h:qY X e t) (f:∀D σ H,t' D σ H->t D σ H):qY X e t':=λZ s σ H D I q=>h Z s σ H D I (f _ _ _ q)
def PG.imp {t t':TG} (h:PG X e t) (f:∀v σ H Q,t' v σ H Q->t v σ H Q):PG X e t':=λZ s σ H v u Q I r q=>h Z s σ H v u Q I r (f _ _ _ _ q)
def PI.imp {t t':TI} (h:PI X tg e t) (f:∀σ H Q,t' σ H Q->t σ H Q):PI X tg e t':=λZ s σ H R I q=>h Z s σ H R I (f _ _ _ q)
section
abbrev P2:=PV->PV->PH->QV->Prop
structure M2 where
 f:P2
 mono:∀{x y h}{Q Q':QV},(∀v h',Q v h'->Q' v h')->f x y h Q->f x y h Q'
def M2.Ok (K:Ab) (r:R2) (m:M2):Prop:=∀{ι H h u v x y Q},HR K ι H h->VR K ι H u x->VR K ι H v y->m.f x y h (pQ K ι H Q)->r u v H Q
end
end
section
open PySem PySem.Spec PyProof.Rows L2
variable {K:Ab}
section
def lh:∀{vs:List V}{l:List PV},aM K ι H vs l->(!l.isEmpty)=!vs.isEmpty
 | _,_,.nil=>rfl
 | _,_,.cons _ _=>rfl
structure MQ where
 run:yJ->PH->(Src->PH->Prop)->Prop
 mono:∀{ps h}{Q Q':Src->PH->Prop},(∀v h',Q v h'->Q' v h')->run ps h Q->run ps h Q'
end
end
open PySem PySem.Spec PyProof.Rows L2
section
structure MGs where
 run:List PV->yJ->PH->(yJ->PH->Prop)->Prop
 mono:∀{v ps h}{Q Q':yJ->PH->Prop},(∀ps h,Q ps h->Q' ps h)->run v ps h Q->run v ps h Q'
end
section
variable {K:Ab}
section
structure yL where
 f:List PV->PH->QV->Prop
 mono:∀{l h}{Q Q':QV},(∀v h',Q v h'->Q' v h')->f l h Q->f l h Q'
def yL.Ok (K:Ab) (r:List V->Hp->VK->Prop) (m:yL):Prop:=∀{ι H h vs l Q},HR K ι H h->aM K ι H vs l->m.f l h (pQ K ι H Q)->r vs H Q
end
end
end PL
variable {g':Int->Int->L2.V}{g:Int->Int->PL.PV}
namespace PL
section
open PySem PySem.Spec PyProof.Rows L2
variable {K:Ab}
def aI (g:Int->Int->PV):M2:=⟨λx y h Q=>match x,y with | .int i,.int j=>Q (g i j) h | _,_=>False,λf q=>by
 revert q
 split
 ·exact f _ _
 ·exact λz=>z⟩
def Yb (C:Int->Int->Prop) (g:Int->Int->PV):M2:=⟨λx y h Q=>match x,y with | .int i,.int j=>C i j/\Q (g i j) h | _,_=>False,λf q=>by
 revert q
 split
 ·exact λq=>⟨q.1,f _ _ q.2⟩
 ·exact λz=>z⟩
def Gy (hg:∀ι H i j,VR K ι H (g' i j) (g i j)):M2.Ok K (Rt g') (aI g):=by
 intro ι H h u v x y Q hr hu hv q;unfold aI at q;dsimp only at q;revert q
 split
 ·intro q;cases hu;cases hv;exact⟨_,_,rfl,rfl,q ι _ H (Go.refl _ _) hr (hg _ _ _ _)⟩
 ·exact Bs
def yq {C:Int->Int->Prop} (hg:∀ι H i j,VR K ι H (g' i j) (g i j)):M2.Ok K (rI C g') (Yb C g):=by
 intro ι H h u v x y Q hr hu hv q;unfold Yb at q;dsimp only at q;revert q
 split
 ·intro q;cases hu;cases hv;exact⟨_,_,rfl,rfl,q.1,q.2 ι _ H (Go.refl _ _) hr (hg _ _ _ _)⟩
 ·exact Bs
def nC:=aI λi j=>.int (i-j)
def oT:=Yb wn λi j=>.int (i*j)
def oDiv:=Yb Uc λi j=>.int (i / j)
def oMod:=Yb (λ_ j=>0 < j) λi j=>.int (i % j)
def uv:=Yb yF λi j=>.int (i ^ j.toNat)
def oLt:=aI λi j=>.bl (decide (i < j))
def oLe:=aI λi j=>.bl (decide (i<=j))
def oGt:=aI λi j=>.bl (decide (j < i))
def oGe:=aI λi j=>.bl (decide (j<=i))
section
def aM.jV:∀{vs:List V}{l:List PV},aM K ι H vs l->(vs=[]↔l=[])
 | _,_,.nil=>by simp
 | _,_,.cons _ _=>by simp
end
mutual
def PV.dat:PV->Bool
 | .tup l=>uO l
 | .ref _=>false
 | .ty _=>false
 | .cl _=>false
 | .dv _ _=>false
 | _=>true
def uO:List PV->Bool
 | []=>true
 | x::l=>x.dat&&uO l
end
end
section
open PySem PySem.Spec PyProof.Rows L2
variable {K:Ab}
section
def PV.lg:PV->Bool
 | .aO=>true
 | _=>false
def K9:M2:=⟨λx y h Q=>match y with | .aO=>Q (.bl x.lg) h | _=>False,λf q=>by
 revert q
 split
 ·exact f _ _
 ·exact λz=>z⟩
def Lq {x:PV} (h:VR K ι H v x):decide (v=.aO)=x.lg:=by cases h <;> simp [PV.lg]
def R9:M2.Ok K (λx y H Q=>y=.aO/\Q (.bl (decide (x=.aO))) H) K9:=by
 intro ι H h u v x y Q hr hu hv q;cases hv with
 | aO=>exact⟨rfl,q ι _ H (Go.refl _ _) hr (by rw [Lq hu];exact .bl _)⟩
 | _=>exact q.elim
def adZ:M2:=⟨λx y h Q=>match x,y with | .bl i,.bl j=>Q (.bl (i==j)) h | _,_=>False,λf q=>by
 revert q
 split
 ·exact f _ _
 ·exact λz=>z⟩
def nF:M2:=⟨λx y h Q=>match x,y with | .bl i,.bl j=>Q (.bl (!(i==j))) h | _,_=>False,λf q=>by
 revert q
 split
 ·exact f _ _
 ·exact λz=>z⟩
def Hf:M2.Ok K (λx y H Q=>∃i j,x=.bl i/\y=.bl j/\Q (.bl (!(i==j))) H) nF:=by
 intro ι H h u v x y Q hr hu hv q;cases hu <;> first
  | exact q.elim
  | (cases hv <;> first | exact q.elim | exact⟨_,_,rfl,rfl,q ι _ H (Go.refl _ _) hr (.bl _)⟩)
end
end
end PL
variable {l:List PL.PV}
namespace PL
section
open PySem PySem.Spec PyProof.Rows L2
variable {K:Ab}
section
def Nt {v':V}{w:ce} (h:RelV v w) (h':RelV v' w):v=v':=Option.some.inj (h.abs.symm.trans h'.abs)
end
section
variable {c:gt}
def mIx (a:MQ) (b:ME):ME:=⟨λps h Q=>a.run ps h λS h1=>b.run ps h1 λy h2=>match y with
 | .int k=>S.ok h2/\match bX S.items k with | some v=>Q v h2 | none=>False
 | _=>False,λf q=>a.mono (λ_ _ q=>b.mono (λ_ _ q=>by
  revert q
  split
  ·rintro⟨q0,q⟩;refine⟨q0,?_⟩;revert q
   split
   ·exact f _ _
   ·exact λz=>z
  ·exact λz=>z) q) q⟩
def aM.bX (r:aM K ι H vs l) {k:Int}{p:PV} (e:L2.bX l k=ap p):∃v,L2.bX vs k=ap v/\VR K ι H v p:=by
 unfold L2.bX at e ⊢;rw [r.length];cases z:mn l.length k with
 | none=>rw [z] at e;cases e
 | some j=>
  rw [z] at e;exact r.get e
def N5:M2:=⟨λx y h Q=>match x,y with
 | .str z,.int k=>z.length<=sizeLine/\match L2.bX z.cps.toList k with | some c=>Q (.str ⟨#[c]⟩) h | none=>False
 | _,_=>False,λf q=>by
  revert q
  split
  ·rintro⟨q0,q⟩;refine⟨q0,?_⟩;revert q
   split
   ·exact f _ _
   ·exact λz=>z
  ·exact λz=>z⟩
def R8:M2.Ok K VY N5:=by
 intro ι H h u v x y Q hr hu hv q;unfold N5 at q;dsimp only at q;revert q
 split
 ·rename_i z k;rintro⟨q0,q⟩;cases hu;cases hv;cases e:L2.bX z.cps.toList k with
  | none=>rw [e] at q;exact q.elim
  | some c=>rw [e] at q;exact⟨z,k,c,rfl,rfl,q0,e,q ι _ H (Go.refl _ _) hr (.str _)⟩
 ·exact Bs
def dQ:yL:=⟨λl h Q=>match l with
 | [.str y]=>y.length<=sizeLine/\Q (.int y.length) h
 | [.tup l]=>Q (.int l.length) h
 | [.cl l]=>Q (.int l.length) h
 | [.ref n]=>match h[n]? with
  | some (.lst xs)=>Q (.int xs.length) h
  | _=>False
 | _=>False,λf q=>by
  revert q
  split
  ·exact λq=>⟨q.1,f _ _ q.2⟩
  ·exact f _ _
  ·exact f _ _
  ·split
   ·exact f _ _
   ·exact λz=>z
  ·exact λz=>z⟩
def TQ (K:Ab):yL.Ok K (VX K) dQ:=by
 intro ι H h vs l Q hr hv q;unfold dQ at q;dsimp only at q;revert q
 split
 ·intro q;cases hv with
  | cons x t=>cases t;cases x;exact⟨_,_,rfl,⟨q.1,rfl⟩,q.2 ι _ H (Go.refl _ _) hr (.int _)⟩
 ·intro q;cases hv with
  | cons x t=>
   cases t;cases x with
   | tup e r=>exact⟨_,_,rfl,.inr ⟨_,dU.of e,r.length.symm⟩,q ι _ H (Go.refl _ _) hr (.int _)⟩
 ·intro q;cases hv with
  | cons x t=>
   cases t;cases x with
   | cl e r=>exact⟨_,_,rfl,.inl ⟨_,e.sq,r.length.symm⟩,q ι _ H (Go.refl _ _) hr (.int _)⟩
 ·rename_i n;cases hv with
  | cons x t=>
   cases t;cases x with
   | @ref _ a e=>
   split
   ·rename_i xs hn;intro q;obtain⟨ws,e1,e2⟩:=hr.obj n a _ e hn;exact⟨_,_,rfl,.inl ⟨ws,di.of e1,e2.length.symm⟩,q ι _ H (Go.refl _ _) hr (.int _)⟩
   ·exact Bs
 ·exact Bs
inductive Kd where
 | str | tup | int | bool
def Kd.name:Kd->String
 | .str=>"str" | .tup=>"tuple" | .int=>"int" | .bool=>"bool"
def Kd.is:Kd->PV->Bool
 | .str,.str _=>true
 | .tup,.tup _=>true
 | .int,.int _=>true
 | .int,.bl _=>true
 | .bool,.bl _=>true
 | _,_=>false
def ZM (K:Ab):List V->Hp->VK->Prop:=λxs H Q=>∃x c t b,xs=[x,.ty c]/\(mf K H x t\/(t=.type "tuple"/\∃a vs,x=.ref a/\dU K H a vs))/\BA K t (.type c)=ap b/\Q (.bl b) H
def Mg (K:Ab) (hK:X.K=K):bR X (.builtin "isinstance") (ZM K):=by
 subst hK;intro Z s σ H xs us Q I r h;obtain⟨x,c,t,b,rfl,ty | ⟨rfl,a,vs,rfl,hT⟩,e,q⟩:=h
 ·exact pP Z s σ H _ us Q I r ⟨x,c,t,b,rfl,ty,e,q⟩
 ·obtain⟨u,w,rfl,r1,r2⟩:=vals2 r;cases r1;cases r2;obtain⟨aw,_,⟨o,h1,h2,_⟩,_⟩:=I.tuple hT;exact Bl Fy I.tZ ⟨o,h1,h2⟩ e (λz=>nomatch z) λtk=>⟨.bl b,H,I.tok _,rfl,q⟩
def qM (K:Ab):(∀k:Kd,BA K (.type "NoneType") (.type k.name)=ap false)/\(∀k:Kd,BA K (.type "list") (.type k.name)=ap false)/\(∀k:Kd,BA K (.type "dict") (.type k.name)=ap false):=
 ⟨λk=>by cases k <;> kernel_rfl,λk=>by cases k <;> kernel_rfl,λk=>by cases k <;> kernel_rfl⟩
def W3 (K:Ab) (b:Bool) (k:Kd):BA K (.type "bool") (.type k.name)=ap (k.is (.bl b)):=by cases k <;> kernel_rfl
def Sz (K:Ab) (b:Int) (k:Kd):BA K (.type "int") (.type k.name)=ap (k.is (.int b)):=by cases k <;> kernel_rfl
def Sx (K:Ab) (b:Str) (k:Kd):BA K (.type "str") (.type k.name)=ap (k.is (.str b)):=by cases k <;> kernel_rfl
def Sw (K:Ab) (b:List PV) (k:Kd):BA K (.type "tuple") (.type k.name)=ap (k.is (.tup b)):=by cases k <;> kernel_rfl
def Qf:yL:=⟨λl h Q=>match l with | [.int i]=>Q (.int (if i < 0 then -i else i)) h | _=>False,λf q=>by
 revert q
 split
 ·exact f _ _
 ·exact λz=>z⟩
def TU:yL.Ok K (λxs H Q=>∃i,xs=[.int i]/\Q (.int (if i < 0 then -i else i)) H) Qf:=by
 intro ι H h vs l Q hr hv q;unfold Qf at q;dsimp only at q;revert q
 split
 ·intro q;cases hv with
  | cons x t=>cases t;cases x;exact⟨_,rfl,q ι _ H (Go.refl _ _) hr (.int _)⟩
 ·exact Bs
def tU:yL:=⟨λl h Q=>match l with | [.int i]=>Q (.int i) h | [.bl k]=>Q (.int (if k then 1 else 0)) h | _=>False,λf q=>by
 revert q
 split
 ·exact f _ _
 ·exact f _ _
 ·exact λz=>z⟩
def TR:yL.Ok K (λxs H Q=>(∃i,xs=[.int i]/\Q (.int i) H)\/∃k,xs=[.bl k]/\Q (.int (if k then 1 else 0)) H) tU:=by
 intro ι H h vs l Q hr hv q;unfold tU at q;dsimp only at q;revert q
 split
 ·intro q;cases hv with
  | cons x t=>cases t;cases x;exact .inl ⟨_,rfl,q ι _ H (Go.refl _ _) hr (.int _)⟩
 ·intro q;cases hv with
  | cons x t=>cases t;cases x;exact .inr ⟨_,rfl,q ι _ H (Go.refl _ _) hr (.int _)⟩
 ·exact Bs
def Qe:yL:=⟨λl h Q=>match l with | [.int i,.int j]=>Q (.int (if j > i then j else i)) h | _=>False,λf q=>by
 revert q
 split
 ·exact f _ _
 ·exact λz=>z⟩
def Qd:yL:=⟨λl h Q=>match l with | [.int i,.int j]=>Q (.int (if j < i then j else i)) h | _=>False,λf q=>by
 revert q
 split
 ·exact f _ _
 ·exact λz=>z⟩
def TN:yL.Ok K (λxs H Q=>∃i j,xs=[.int i,.int j]/\Q (.int (if j > i then j else i)) H) Qe:=by
 intro ι H h vs l Q hr hv q;unfold Qe at q;dsimp only at q;revert q
 split
 ·intro q;cases hv with
  | cons x t=>cases t with
   | cons y t=>cases t;cases x;cases y;exact⟨_,_,rfl,q ι _ H (Go.refl _ _) hr (.int _)⟩
 ·exact Bs
def TL:yL.Ok K (λxs H Q=>∃i j,xs=[.int i,.int j]/\Q (.int (if j < i then j else i)) H) Qd:=by
 intro ι H h vs l Q hr hv q;unfold Qd at q;dsimp only at q;revert q
 split
 ·intro q;cases hv with
  | cons x t=>cases t with
   | cons y t=>cases t;cases x;cases y;exact⟨_,_,rfl,q ι _ H (Go.refl _ _) hr (.int _)⟩
 ·exact Bs
end
end
section
open PySem PySem.Spec PyProof.Rows L2
variable {K:Ab}
section
def Nw (K:Ab):List V->Hp->VK->Prop:=λxs H Q=>∃p ys,xs=[.ref p]/\((di K H p ys/\kA H (.tup ys) Q)\/(dU K H p ys/\Q (.ref p) H))
def Mc (K:Ab) (hK:X.K=K):bR X (.type "tuple") (Nw K):=by
 subst hK;exact uP.mono λxs H Q ⟨p,ys,e,h⟩=>⟨p,ys,e,h.imp (λ⟨h1,h2⟩=>⟨h1,λl hl=>h2.at l hl⟩) λz=>z⟩
theorem pC:∀{bs:List Bool}{vs:List V},aM K ι H vs (bs.map PV.bl)->vs=bs.map V.bl
 | [],_,h=>by cases h;rfl
 | b::bs,_,h=>by
  cases h with
  | cons x t=>cases x;rw [pC t];rfl
structure MQL where
 run:yJ->PH->(Src->PH->Prop)->Prop
 mono:∀{ps h}{Q Q':Src->PH->Prop},(∀v h',Q v h'->Q' v h')->run ps h Q->run ps h Q'
structure MO where
 run:yJ->PH->(Option Int->PH->Prop)->Prop
 mono:∀{ps h}{Q Q':Option Int->PH->Prop},(∀v h',Q v h'->Q' v h')->run ps h Q->run ps h Q'
def PO.imp {e:Option gt}{t t':TO} (h:L2.PO X e t) (f:∀σ H Q,t' σ H Q->t σ H Q):L2.PO X e t':=λZ s σ H Q I q=>h Z s σ H Q I (f _ _ _ q)
def fH (xs:List PV) (lo hi:Option Int):List PV:=(xs.drop (HT.dX xs.length 0 lo)).take (HT.dX xs.length xs.length hi-HT.dX xs.length 0 lo)
def aM.cut (r:aM K ι H vs l) (lo hi:Option Int):aM K ι H (yh vs lo hi) (fH l lo hi):=by
 unfold yh fH;rw [r.length];exact (r.drop _).take _
end
end
end PL
variable {e1:BJ}{tp:Cu}
namespace PL
section
open PySem PySem.Spec PyProof.Rows L2
variable {K:Ab}
section
variable {c:gt}
def kn (lo:Int) (n:Nat):List PV:=(Av n).map λ(i:Nat)=>.int (lo+(i:Int))
def jF (lo:Int) (n:Nat):(kn lo n).length=n:=by unfold kn;simp
def o7 {lo:Int}{p:PV} (h:(kn lo n)[i]?=ap p):i < n/\p=.int (lo+i):=by
 unfold kn at h;rw [Aj] at h;cases z:(Av n)[i]? with
 | none=>rw [z] at h;cases h
 | some k=>
  rw [z] at h;obtain⟨h1,h2⟩:=Am.mp z;simp at h1 h2;subst h2;exact⟨h1,(Option.some.inj h).symm⟩
def fq (lo:Int) (n:Nat):List PV:=(Av n).map λ(i:Nat)=>.int (lo-(i:Int))
def vH (lo:Int) (n:Nat):(fq lo n).length=n:=by unfold fq;simp
def pB {lo:Int}{p:PV} (h:(fq lo n)[i]?=ap p):i < n/\p=.int (lo-i):=by
 unfold fq at h;rw [Aj] at h;cases z:(Av n)[i]? with
 | none=>rw [z] at h;cases h
 | some k=>
  rw [z] at h;obtain⟨h1,h2⟩:=Am.mp z;simp at h1 h2;subst h2;exact⟨h1,(Option.some.inj h).symm⟩
def Rf (i:Int):Prop:=-(2 ^ 62)<=i/\i < 2 ^ 62
def acj (m:MA):MI:=⟨λps h Q=>m.run ps h λl h1=>match l with | [.int j]=>Rf j/\Q ⟨kn 0 j.toNat,λ_=>True,false⟩ h1 | _=>False,λf q=>m.mono (λl h1 q=>by
 revert q
 split
 ·exact λq=>⟨q.1,f _ _ q.2⟩
 ·exact λz=>z) q⟩
def dZ (k:Nat):List PV->List PV
 | []=>[]
 | x::l=>.tup [.int (k:Int),x]::dZ (k+1) l
theorem cR:∀(k:Nat) (l:List PV),(dZ k l).length=l.length
 | _,[]=>rfl
 | k,x::l=>by rw [dZ,An,An,cR]
theorem gL:∀{k:Nat}{l:List PV}{i:Nat}{p:PV},(dZ k l)[i]?=ap p->∃x,l[i]?=ap x/\p=.tup [.int ((k+i:Nat):Int),x]
 | _,[],_,_,h=>by simp [dZ] at h
 | k,x::l,0,p,h=>by simp [dZ] at h;subst h;exact⟨x,rfl,by simp⟩
 | k,x::l,i+1,p,h=>by
  obtain⟨y,h1,h2⟩:=gL (k:=k+1) (l:=l) (i:=i) (p:=p) (by simpa [dZ] using h);exact⟨y,by simpa using h1,by rw [h2,show k+1+i=k+(i+1) by omega]⟩
def Xi (K:Ab) (t1:TE):TI:=λσ H R=>t1 σ H λx H1=>∃a,x=.ref a/\(((∃xs,di K H1 a xs)/\R (abW K a) H1)\/((∃xs,dU K H1 a xs)/\R (Ite K a) H1))
def NL {X:Cx} (K:Ab) (hK:X.K=K) {t1:TE} (hg:Gl X "enumerate") (hm:X.mg "enumerate"=bm) (h1:PE X e1 t1)
  (GI:iB X e1 []:=by rfl):PI X (.Tuple Ñ kk tp) (.Call (.Name "enumerate" p1) [e1] [] p2) (Xi K t1):=by
 subst hK;intro Z s σ H R I h;refine BB (jY I hg hm boot_enumerate ?_ ⋯ ⋯);refine Bp ?_ GI rfl;rw [GI];refine Co (bC (h1 Z s σ H _ I h) λu1 s1 ⟨x,H1,I1,r1,a,ex,hh⟩=>CJ ?_);subst ex;cases r1;have d1:s1.heap.objs.size+1≠s1.heap.objs.size:=Nat.succ_ne_self _;rcases hh with⟨⟨xs,hx⟩,q⟩ | ⟨⟨xs,hx⟩,q⟩
 ·obtain⟨aw,rx,tx,_⟩:=I1.list hx;refine call_enumerate_list tx.isList λh' ze hi _ k=>?_;refine Dh ze ?_;refine⟨_,_,_,_,H1,rfl,I1.kept (t':=s1.toks) k,GW d1,⟨⟨_,ze⟩,hi⟩,λc hc=>?_,q⟩;have Ú:s1.heap.objs.size<=c:=by
   simp only [Ax,A8,or_false] at hc;rcases hc with rfl | rfl
   ·exact BD _ _
   ·exact Ao _
  exact I1.xG Ú (I1.bH.fresh Ú)
 ·obtain⟨aw,rx,tx,_⟩:=I1.tuple hx;have l1:=let ⟨_,e,_⟩:=tx;Ar e;refine ID tx λh' ze hi k=>?_;refine Dh ze ?_;refine⟨_,_,_,_,H1,rfl,I1.kept (t':=s1.toks) k,KI d1 (AI (AB l1 (BD _ 1))) (AI l1),⟨⟨_,ze⟩,hi⟩,λc hc=>?_,q⟩;have Ú:s1.heap.objs.size<=c:=by
   simp only [Ax,A8,or_false] at hc;rcases hc with rfl | rfl
   ·exact BD _ _
   ·exact Ao _
  exact I1.xG Ú (I1.bH.fresh Ú)
def dW:List PV->List PV->List PV
 | x::l,y::m=>.tup [x,y]::dW l m
 | _,_=>[]
theorem m8:∀{l m:List PV}{i:Nat}{p:PV},(dW l m)[i]?=ap p->∃x y,l[i]?=ap x/\m[i]?=ap y/\p=.tup [x,y]
 | [],m,i,p,h=>by simp [dW] at h
 | x::l,[],i,p,h=>by simp [dW] at h
 | x::l,y::m,0,p,h=>by simp [dW] at h;subst h;exact⟨x,y,rfl,rfl,rfl⟩
 | x::l,y::m,i+1,p,h=>by
  obtain⟨u,w,h1,h2,h3⟩:=m8 (l:=l) (m:=m) (i:=i) (p:=p) (by simpa [dW] using h);exact⟨u,w,by simpa using h1,by simpa using h2,h3⟩
end
end
section
open PySem PySem.Spec PyProof.Rows L2
variable {K:Ab}
section
def UN:M2:=aI λi j=>.int (i+j)
def aaz {g:Int->Int->Int}:M2.Ok K (ipI g) (aI λi j=>.int (g i j)):=by
 intro ι H h u v x y Q hr hu hv q;unfold aI at q;dsimp only at q;revert q
 split
 ·intro q;cases hu;cases hv;exact⟨_,_,rfl,rfl,q ι _ H (Go.refl _ _) hr (.int _)⟩
 ·exact Bs
end
end
end PL
variable {p3 p4:Cu}
namespace PL
open PySem PySem.Spec PyProof.Rows L2
section
variable {K:Ab}
section
structure JC (X:Cx) (K:Ab) (op:CmpOp) (b:gt) (m:M2):Prop where
 p:∃r,ir X (im op) r/\M2.Ok K r m
 k:lc op b=false
def zO:JC X K .Lt b oLt:=⟨⟨_,Z5,Gy λ_ _ _ _=>.bl _⟩,kS _⟩
def JZ:JC X K .LtE b oLe:=⟨⟨_,Z6,Gy λ_ _ _ _=>.bl _⟩,kS _⟩
def UL:JC X K .Gt b oGt:=⟨⟨_,Z7,Gy λ_ _ _ _=>.bl _⟩,kS _⟩
def aax:JC X K .GtE b oGe:=⟨⟨_,Z8,Gy λ_ _ _ _=>.bl _⟩,kS _⟩
def HC:JC X K .Is b K9:=⟨⟨_,Wu,R9⟩,kS _⟩
def vt:JC X K .IsNot b nF:=⟨⟨_,zA,Hf⟩,kS _⟩
def ah4:M2:=⟨λx y h Q=>match x,y with | .str i,.str j=>Q (.bl (decide (i.cps.toList < j.cps.toList))) h | _,_=>False,λf q=>by
 revert q
 split
 ·exact f _ _
 ·exact λz=>z⟩
def Sa:M2:=⟨λx y h Q=>match x,y with | .str i,.str j=>Q (.bl (!(Builtin.Str.occurrences j i 0 j.length 1).isEmpty)) h | _,_=>False,λf q=>by
 revert q
 split
 ·exact f _ _
 ·exact λz=>z⟩
def Xb (hk:lc .In b=false):JC X K .In b Sa:=⟨⟨_,K7,by
 intro ι H h u v x y Q hr hu hv q;unfold Sa at q;dsimp only at q;revert q
 split
 ·intro q;cases hu;cases hv;exact⟨_,_,rfl,rfl,q ι _ H (Go.refl _ _) hr (.bl _)⟩
 ·exact Bs⟩,hk⟩
end
end
theorem Gj:∀{l:List PV},uO l=true↔∀x∈l,x.dat=true
 | []=>by simp [uO]
 | x::l=>by rw [uO,Az,Gj];simp
section
variable {K:Ab}
section
variable {c:gt}
def Pu (h:aM K ι H vs l):vs.isEmpty=l.isEmpty:=by cases h <;> rfl
def aM.rep (h:aM K ι H vs l):∀k:Nat,aM K ι H (Al k vs).flatten (Al k l).flatten
 | 0=>.nil
 | k+1=>by
  rw [Bv,Bv,B9,B9];exact h.append (h.rep k)
def Nx:V->List V->Hp->VK->Prop:=λx vs H Q=>∃(l:ci) (ns:List Int) (k:Int),x=.ref l/\vs=[.int k]/\H l=ap (.lst (ns.map V.int))/\k∈ns/\yR H l (.lst ((ns.erase k).map V.int)) (Q .aO)
theorem ints_get:∀{us:List ce}{ns:List Int},wS us ns->∀(i:Nat) (hi:i < us.length),∃n t,ns[i]?=ap n/\us[i]=.int n t
 | _,_,.nil,i,hi=>by simp at hi
 | _,_,.cons _ _ r,i,hi=>by
  cases i with
  | zero=>exact⟨_,_,rfl,rfl⟩
  | succ i=>exact ints_get r i (by simpa using hi)
theorem OJ {k:Int}:∀{ns:List Int}{m:Nat},ns[m]?=ap k->ns.idxOf k<=m
 | [],m,h=>by simp at h
 | a::ns,0,h=>by
  have:a=k:=by simpa using h
  subst this;simp
 | a::ns,m+1,h=>by
  have:=OJ (ns:=ns) (m:=m) (by simpa using h);rw [List.idxOf_cons];by_cases c:a=k
  ·have:(a==k)=true:=by simpa using c
   rw [this];exact A6 _
  ·have c2:(a==k)=false:=by simpa using c
   rw [c2];exact Nat.succ_le_succ this
theorem vF (f:α->β):∀(l:List α) (j:Nat),(l.eraseIdx j).map f=(l.map f).eraseIdx j
 | [],_=>rfl
 | a::l,0=>rfl
 | a::l,j+1=>by
  show f a::(l.eraseIdx j).map f=f a::(l.map f).eraseIdx j;rw [vF f l j]
def isK (k:Int):ce->Bool
 | .int a _=>a==k
 | _=>false
def uh (r:Vals vs us):∀j,Vals (vs.eraseIdx j) (us.eraseIdx j):=by
 induction r with
 | nil=>intro j;exact .nil
 | cons h r ih=>
  intro j;cases j with
  | zero=>exact r
  | succ j=>exact .cons h (ih j)
theorem Hj:Mu X "list.remove" Nx:=by
 intro Z s σ H x vs v us Q I rx rv h;obtain⟨l,ns,k,rfl,rfl,hH,hk,q⟩:=h;cases rx;obtain⟨u,rfl,ru⟩:=rv.one;obtain⟨t,rfl⟩:=ru;obtain⟨z,aw,n,r,hl,e⟩:=I.oV hH;have hi:=intsAre_of r;have Á:ns.length=aw.length:=by rw [Ag] at hl;omega
 have hj:=BM hk;have hej:ns.erase k=ns.eraseIdx (ns.idxOf k):=by rw [List.erase_eq_eraseIdx_of_idxOf rfl]
 refine u8 F.slot_list_remove ⟨_,e,rfl⟩ F.entry_list_remove (F.args_list_remove_2 _ _) (MeetsSeq.list_remove l aw.toArray n (.int k t) (isK k) (λy hy=>?_) (ns.idxOf k) (by rw [Ai];omega) ?_ (λm hm lT=>?_) (by rw [Ai];omega)) ⟨e,?_⟩
 ·have SO:y∈aw:=by simpa using hy
  obtain⟨i,ì⟩:=CT SO;obtain⟨h1,h2⟩:=Am.mp ì;obtain⟨n',t',g1,g2⟩:=ints_get hi i h1;rw [<- h2,g2];exact MeetsSeq.EqGives.int _ _ _ _
 ·have h1:ns.idxOf k < aw.length:=by omega
  obtain⟨n',t',g1,g2⟩:=ints_get hi (ns.idxOf k) h1;have g3:ns[ns.idxOf k]?=ap k:=by rw [Ae hj,List.getElem_idxOf hj]
  rw [g3] at g1;cases g1;rw [DE,g2];simp [isK]
 ·have h1:m < aw.length:=by rw [Ai] at hm;exact hm
  obtain⟨n',t',g1,g2⟩:=ints_get hi m h1;rw [DE,g2];have:n'≠k:=λz=>by
   subst z;have:=OJ g1;omega
  simp [isK,this]
 ·refine⟨.aO,_,I.Hr (its':=aw.eraseIdx (ns.idxOf k)) (ys:=(ns.erase k).map V.int) hH e (by simp [Array.toList_eraseIdxIfInBounds,<- EL]) ?_ ?_,rfl,q.at⟩
  ·rw [hej,vF];exact uh r _
  ·rw [hej,Ag,List.length_eraseIdx]
   split <;> omega
theorem nQ:∀{ns:List Int}{vs:List V},aM K ι H vs (ns.map PV.int)->vs=ns.map V.int
 | [],_,h=>by cases h;rfl
 | b::bs,_,h=>by
  cases h with
  | cons x t=>cases x;rw [nQ t];rfl
theorem nR (ι:List ci) (H:Hp):∀ns:List Int,aM K ι H (ns.map V.int) (ns.map PV.int)
 | []=>.nil
 | n::ns=>.cons (.int n) (nR ι H ns)
def VT (K:Ab):List V->Hp->VK->Prop:=λxs H Q=>∃(p:ci) (ns:List Int),xs=[.ref p]/\di K H p (ns.map V.int)/\ns.length < 64/\∀ms:List Int,ms.Perm ns->ms.Pairwise (·<=·)->kA H (.lst (ms.map V.int)) Q
theorem IA (K:Ab) (hK:X.K=K):bR X (.builtin "sorted") (VT K):=by
 subst hK;intro Z s σ H xs us Q I r h;obtain⟨p,ns,rfl,hq,ó,q⟩:=h;obtain⟨u,rfl,rx⟩:=vals1 r;cases rx;obtain⟨aw,r',pl,hz⟩:=I.list hq;have hi:=intsAre_of r';have hl:=r'.length;rw [Ag] at hl hz;refine PyProof.Rows.sorted_ints pl.isList hi ∅ λout ms a1 a2 a3=>?_;obtain⟨e,he⟩:=sortedAll_at s.heap aw out;refine⟨.ref (s.heap.objs.size+1),_,I.laid (t':=s.toks) (λ_ _=>sortedAll_old) (Fo _) (show bx X.prog X.w _ _ _ (.lst (ms.map V.int)) from⟨?_,out.toList,e,oE a1,?_⟩),rfl,(q ms a2 a3).at _ (I.bH.fresh (Fo _))⟩
 ·rw [Ag,a2.length_eq];exact hz
 ·rw [Array.toArray_toList];exact he
end
end
end PL
variable {xs:Array Bb}{a:BK}{o:FQ}
namespace L2
open PySem PySem.Spec PyProof.Rows
def mN {name:Str}{Q:Option ce->cr->Prop}
  (hx:s.heap.get? a=ap o) (hc:o.cls=.type "list") (nU:o.data=.seq xs k) (hd:o.dict=bm) (aaR:Fk (.type "list") name=pure bm) (aaQ:(["__module__","__name__","__qualname__","__doc__","__annotations__"]:List Str).contains name=false) (hA:A.handled=bm)
  (h:∀h' tk e,Heap.NewExcOf s.heap h' e "AttributeError"->Q bm {s with heap:=h',toks:=tk}) (hsz:name.length+100<=sizeLine:=by size_fits) :
  db (dL prog w) A (getAttr? (.ref a) name) Q E s:=by
 obtain⟨c,dct,dat,sl⟩:=o;simp only at hc nU hd;subst hc nU hd;obtain⟨hp,g,d,tk,os⟩:=s;have hT:∀ù,(⟨hp,g,d,ù,os⟩:cr).TypeIs (.ref a) "list":=λ_=>⟨_,hx,rfl⟩;have f1:=sub_AttributeError;have f3:=C1.lookup;have f4:=C1.bind (.ref a);have f5:=am_list_getattr_none
 repeat (any_goals (first | assumption | exact hT _ | ((with_reducible show db _ _ (call (Value.builtin "list.__getattribute__") _ _) _ _ _);refine u8 C1 (hT _) am_entry_list_getattribute (F.args_list_getattribute_2 _ _) (meets_getattribute_miss_list a xs k sl name _ aaR aaQ hsz) ⟨hx,hA,λh' ù e vz=>?_⟩) | wp_step))
 obtain⟨t',u',he⟩:=vz.there;unfold getattributeRaised
 repeat (any_goals (first | assumption | wp_step))
 exact h _ _ _ vz.of
end L2
variable {b d:BK}{v:Bb}
namespace L2
open PySem PySem.Spec PyProof.Rows
def iL:entryFor table "dict.update.loop"=ap wT.«dict.update.loop»:=entryFor_of_fast (by kernel_rfl)
def iE:plainId "dict.update.loop"=true:=by decide +kernel
section
variable {K:Type} [DecidableEq K] {knd:KeyKind prog w K}
def yD (knd:KeyKind prog w K) (h:mo) (it d:ci) (v:ce) (x:List K×ci×ce):Prop:=
 ∃pa o n,v=.ref pa/\pa≠it/\pa≠d/\x.2.1≠it/\x.2.1≠d/\h.get? pa=ap o/\o.cls=.type "tuple"/\o.data=.seq #[.ref x.2.1,x.2.2] n/\(lw knd).is h x.1 x.2.1
def vZ {k:List K} (x:(lw knd).is h k b) (kp:∀o,h.get? b=ap o->h'.get? b=ap o):(lw knd).is h' k b:=by
 obtain⟨o,aw,n,h1,h2⟩:=x;exact⟨o,aw,n,kp _ h1,h2⟩
def yD.keep {x:List K×ci×ce} (p:yD knd h it d v x) (kp:∀b o,b≠it->b≠d->h.get? b=ap o->h'.get? b=ap o):yD knd h' it d v x:=by
 obtain⟨pa,o,n,e,n1,n2,n3,n4,h1,h2,h3,h4⟩:=p;exact⟨pa,o,n,e,n1,n2,n3,n4,kp _ _ n1 n2 h1,h2,h3,vZ h4 λo q=>kp _ _ n3 n4 q⟩
def yc {xs:List (List K×ci×ce)} (m:h.DictOfH (lw knd) d xs) (hd:d≠it) (hx:∀x∈xs,x.2.1≠it) (kp:∀b o,b≠it->h.get? b=ap o->h'.get? b=ap o):h'.DictOfH (lw knd) d xs:=by
 obtain⟨o,es,ep,ho,hc,ĳ,he,his,hn⟩:=m;exact⟨o,es,ep,kp _ _ hd ho,hc,ĳ,he,λx q=>vZ (his x q) λo z=>kp _ _ (hx x q) z,hn⟩
def yX {xs:List (List K×ci×ce)}{k:List K} (hx:∀x∈xs,x.2.1≠it) (hb:b≠it):∀x∈Db xs k b v,x.2.1≠it:=by
 intro x q;unfold Db at q
 split at q
 ·obtain⟨y,hy,rfl⟩:=Au.mp q;have e:(putAt k v y).2.1=y.2.1:=by unfold putAt;split <;> rfl
  rw [e];exact hx y hy
 ·rcases AG.mp q with q | q
  ·exact hx x q
  ·rw [Bh.mp q];exact hb
def yY {xs:List (List K×ci×ce)}{k:List K}:(Db xs k b v).length<=xs.length+1:=by
 unfold Db
 split <;> simp
theorem yQ (hA:A.handled=bm) (hu:A.units+1 < o0) {l:ci} (hz:items.size+items.size<=sizeLine) (Ĳ:d≠it) (hli:l≠it) (hld:l≠d) :
  ∀(k i:Nat) (ys xs:List (List K×ci×ce)) (s:cr),items.size-i=k->i<=items.size->ys.length=items.size-i->xs.length<=i->s.heap.IsListIter it l i->s.heap.IsList l items->s.heap.DictOfH (lw knd) d xs->(∀x∈xs,x.2.1≠it)->
   (∀j x,ys[j]?=ap x->∃v,items[i+j]?=ap v/\yD knd s.heap it d v x)->
   (∀h' tk,h'.DictOfH (lw knd) d (ys.foldl (λa y=>Db a y.1 y.2.1 y.2.2) xs)->(∀b o,b≠it->b≠d->s.heap.get? b=ap o->h'.get? b=ap o)->R (.ok (.ret .none)) {s with heap:=h',toks:=tk})->
   FM (dL prog w) A (.builtin "dict.update.loop" ⟨[.ref d,.ref it,ut i,.none],[]⟩) R s:=by
 intro k
 induction k with
 | zero=>
  intro i ys xs s hk hi hy hxl Ø hl hd hx hp q;have e0:ys=[]:=CA ∅;subst e0;refine codeAny_builtin iL ?_;refine Aa (wpAny_pyNext_list_end (A:=A.in1) hA Ø hl (by rw [E2];omega) λh' ex=>?_);have kp:=ex;exact Aa (Af (Af (q h' s.toks (yc hd Ĳ hx kp) λb o n1 _ e=>kp b o n1 e)))
 | succ k ih=>
  intro i ys xs s hk hi hy hxl Ø hl hd hx hp q
  match ys,hy,hp,q with
  | [],hy,_,_=>exact absurd hy (by simp only [AN];omega)
  | y::ys,hy,hp,q=>
  obtain⟨v,hv,pa⟩:=hp 0 y rfl;refine codeAny_builtin iL ?_;refine Aa (wpAny_pyNext_list_item Ø hl (by simpa using hv) λh1 aeY sb=>?_);have Sv:∀b o,b≠it->s.heap.get? b=ap o->h1.get? b=ap o:=λb o hb e=>(sb.2 b hb).trans e;have pa1:=pa.keep λb o n1 _ e=>Sv b o n1 e;have ò:=yc hd Ĳ hx Sv;have ĭ:h1.IsList l items:=let ⟨o,e,p⟩:=hl;⟨o,Sv _ _ hli e,p⟩;obtain⟨p,o,n,rfl,n1,n2,n3,n4,g1,g2,g3,g4⟩:=pa1;refine Aa (Bc (Aa (wpAny_tryCatch ?_)));refine Aa (Cj (T:="tuple") ⟨_,g1,g2⟩ ?_);refine Aa (BE g1 g3 (Af ?_));refine Bc (wpAny_dictSet_heap (knd:=lw knd) (BT hu) g4 ò (λh2 Ç sb2=>?_) ∅);have ę:∀b o,b≠d->h1.get? b=ap o->h2.get? b=ap o:=λb o hb e=>(sb2.2 b hb).trans e;refine Af ⟨plainId_quiet iE _,?_⟩;have kp:∀b o,b≠it->b≠d->s.heap.get? b=ap o->h2.get? b=ap o:=λb o a1 a2 e=>ę _ _ a2 (Sv _ _ a1 e);refine ih (i+1) ys (Db xs y.1 y.2.1 y.2.2) _ ∅ ∅ (by rw [An] at hy;omega) (A7 yY ∅) ?_ ?_ Ç (yX hx n3) (λj x hj=>?_) (λh' tk dd k3=>?_)
  ·obtain⟨o',e1,e2⟩:=aeY;exact⟨o',ę _ _ (BG Ĳ) e1,e2⟩
  ·obtain⟨o',e1,e2⟩:=ĭ;exact⟨o',ę _ _ hld e1,e2⟩
  ·obtain⟨v',h3,h4⟩:=hp (j+1) x hj;exact⟨v',by rw [show i+1+j=i+(j+1) by omega];exact h3,h4.keep kp⟩
  ·exact q h' tk dd λb o a1 a2 e=>k3 b o a1 a2 (kp b o a1 a2 e)
end
def w9:Fk (.type "list") (Cg "keys")=pure bm:=am_miss_of_fast (by decide +kernel)
section
variable {K:Type} [DecidableEq K] {knd:KeyKind prog w K}
theorem qq {l:ci}{ys:List (List K×ci×ce)} (hA:A.handled=bm) (hu:A.units+2 < o0) (ho:s.heap.get? l=ap o) (hc:o.cls=.type "list") (nU:o.data=.seq items n) (hd:o.dict=bm)
  (hz:items.size+items.size<=sizeLine) (hy:ys.length=items.size)
  (hp:∀(j:Nat) (x:List K×ci×ce),ys[j]?=ap x->∃(pa:ci) (op:Obj) (m:Nat),items[j]?=ap (AD pa)/\s.heap.get? pa=ap op/\op.cls=.type "tuple"/\op.data=.seq #[AD x.2.1,x.2.2] m/\(lw knd).is s.heap x.1 x.2.1)
  (q:∀h' tk,(∀b o,s.heap.get? b=ap o->h'.get? b=ap o)->h'.DictOfH (lw knd) s.heap.objs.size (ys.foldl (λa y=>Db a y.1 y.2.1 y.2.2) [])->Q (.ref s.heap.objs.size) {s with heap:=h',toks:=tk}) :
  db (dL prog w) A (call (.type "dict") [.ref l]) Q E s:=by
 refine callType_codes (Q₁:=λobj s₁=>obj=.ref s.heap.objs.size/\s₁={s with heap:=s.heap.push {cls:=.type "dict",data:=.dict #[]}}) F.kt_called_dict (F.kt_typeCall_dict_1 _) F.entry_dict_init (kt_code_dict_new _ ⟨rfl,rfl⟩) ?_;rintro obj s₁ ⟨rfl,rfl⟩;have ā:∀b o,s.heap.get? b=ap o->(s.heap.push {cls:=.type "dict",data:=.dict #[]}).get? b=ap o:=λb o e=>Ah _ e;have SV:(s.heap.push {cls:=.type "dict",data:=.dict #[]}).DictOf knd s.heap.objs.size []:=Heap.DictOf.new s.heap;have aaP:(s.heap.push {cls:=.type "dict",data:=.dict #[]}).DictOfH (lw knd) s.heap.objs.size []:=⟨_,#[],0,Aq _ rfl,⟨rfl,rfl,rfl⟩,rfl,rfl,λx hx=>absurd hx (A8),Fq⟩;have ls:∀b o,s.heap.get? b=ap o->b≠s.heap.objs.size:=λb o e z=>by subst z;exact Bd _ (Ar e)
 refine⟨SV.typeIs,F.args_dict_init_2 _ _,?_⟩;refine Aa ?_;refine Aa (wpAny_notOrdered_dict SV.typeIs ?_);refine Af ?_;refine Aa (Cj (T:="list") ⟨_,ā _ _ ho,hc⟩ ?_);refine Aa (mN (ā _ _ ho) hc nU hd w9 (by decide +kernel) hA (λh1 tk e nx=>?_) ⋯);refine Aa (C6 (Aa ?_));refine CK (items:=items) ⟨_,nx.keeps _ _ (ā _ _ ho),hc,n,nU⟩ ?_;have hsz:=Ar (nx.keeps _ _ (Aq s.heap rfl));have Sv:∀b o,s.heap.get? b=ap o->(h1.push {cls:=.type "list_iterator",data:=.fields #[.ref l,.int 0 0]}).get? b=ap o:=λb o e=>Ah _ (nx.keeps _ _ (ā _ _ e));have ni:∀b o,s.heap.get? b=ap o->b≠h1.objs.size:=λb o e z=>by
  have h3:=Ar e;subst z;exact Bd _ (Nat.lt_trans h3 hsz)
 refine Af ⟨plainId_quiet iE _,?_⟩;refine yQ (A:=A.in1) (knd:=knd) hA (by show A.units+1+1 < _;omega) (items:=items) (d:=s.heap.objs.size) (it:=h1.objs.size) (l:=l) hz (AI hsz) (ni _ _ ho) (ls _ _ ho) items.size 0 ys [] _ (D1 _) (A6 _) (by rw [hy];rfl) (Ao _)
  ⟨_,Aq _ rfl,rfl,rfl⟩ ⟨_,Sv _ _ ho,hc,n,nU⟩ ?_ (λx hx=>nomatch hx) (λj x hj=>?_) (λh' ù dd kp=>?_)
 ·refine yc (it:=h1.objs.size) aaP (AI hsz) (λx hx=>nomatch hx) λb o _ e=>Ah _ (nx.keeps _ _ e)
 ·obtain⟨pa,op,m,e1,e2,e3,e4,e5⟩:=hp j x hj;have kb:∃ob,s.heap.get? x.2.1=ap ob:=let ⟨ob,_,_,z,_⟩:=e5;⟨ob,z⟩;obtain⟨ob,eb⟩:=kb;exact⟨.ref pa,by rw [AO];exact e1,pa,op,m,rfl,ni _ _ e2,ls _ _ e2,ni _ _ eb,ls _ _ eb,Sv _ _ e2,e3,e4,vZ e5 λo z=>Sv _ _ z⟩
 ·exact⟨rfl,q h' ù (λb o e=>kp b o (ni _ _ e) (ls _ _ e) (Sv _ _ e)) dd⟩
end
structure Pz where
 pa:ci
 k:List Key
 b:ci
 v:V
def Pz.At (H:Hp) (z:Pz):Prop:=H z.pa=ap (.tup [.ref z.b,z.v])/\H z.b=ap (.tup (z.k.map kV))
def V0 (K:Ab):List V->Hp->VK->Prop:=λxs H Q=>∃(p:ci) (zs:List Pz),xs=[.ref p]/\di K H p (zs.map λz=>.ref z.pa)/\(∀z∈zs,z.At H)/\(zs.map (·.k)).Nodup/\zs.length<=1000/\kA H (.dT (zs.map λz=>(z.k,z.v))) Q
theorem pL {K:Type} [DecidableEq K]:∀(ys xs:List (K×ci×ce)),((xs++ys).map (·.1)).Nodup->ys.foldl (λa y=>Db a y.1 y.2.1 y.2.2) xs=xs++ys
 | [],xs,_=>by simp
 | y::ys,xs,h=>by
  have hn:atKey xs y.1=bm:=by
   cases e:atKey xs y.1 with
   | none=>rfl
   | some p=>
    exfalso;rw [A5,Aw] at h;have h2:=(CN.mp h).2.2;have hm:y.1∈xs.map (·.1):=by
     by_cases hc:y.1∈xs.map (·.1)
     ·exact hc
     ·rw [atKey_none_of_get (λj q hj=>?_)] at e
      ·cases e
      ·exact hc (Au.mpr ⟨_,Bm hj,rfl⟩)
    exact h2 _ hm _ BC rfl
  rw [List.foldl_cons,storedH_new hn,pL ys (xs++[(y.1,y.2.1,y.2.2)]) (by simpa using h)];simp
section
theorem IE (K:Ab) (hK:X.K=K) (hc:X.calm=true) (hu:X.A.units+2 < o0):bR X (.type "dict") (V0 K):=by
 subst hK;intro Z s σ H xs us Q I r h;obtain⟨p,zs,rfl,hq,hz,hn,hl,q⟩:=h;obtain⟨u,rfl,rx⟩:=vals1 r;cases rx;obtain⟨aw,rv,pl,hsz⟩:=I.list hq;obtain⟨o,n,ho,QB,hd,nU⟩:=pl;have ø:∀(zs:List Pz) (aw:List ce),(∀z∈zs,z.At H)->Vals (zs.map λz=>V.ref z.pa) aw->∃ys:List (List Key×ci×ce),ys.map (·.1)=zs.map (·.k)/\KT H (zs.map λz=>(z.k,z.v)) ys/\
   ∀(j:Nat) (x:List Key×ci×ce),ys[j]?=ap x->∃(pa:ci) (op:Obj) (m:Nat),aw[j]?=ap (AD pa)/\s.heap.get? pa=ap op/\op.cls=.type "tuple"/\op.data=.seq #[AD x.2.1,x.2.2] m/\(lw (bM X.prog X.w)).is s.heap x.1 x.2.1:=by
  intro zs
  induction zs with
  | nil=>intro aw _ _;exact⟨[],rfl,.nil,λj x h=>by simp at h⟩
  | cons z zs ih=>
   intro aw ha hv;cases hv with
   | @cons _ u _ us ru rus=>
   cases ru;obtain⟨ys,e1,e2,e3⟩:=ih us (λy hy=>ha y (AY _ hy)) rus;obtain⟨a1,a2⟩:=ha z BC;obtain⟨_,its',r',op,h1,h2,m,h3⟩:=(show bx X.prog X.w H s.heap z.pa (.tup [.ref z.b,z.v]) from I.bH _ _ a1);obtain⟨w,rfl,iT⟩:∃w,its'=[AD z.b,w]/\RelV z.v w:=by
    cases r' with
    | cons q1 q2=>cases q1;cases q2 with
     | cons q3 q4=>cases q4;exact⟨_,rfl,q3⟩
   refine⟨(z.k,z.b,w)::ys,by rw [Aw,Aw,e1],.cons ⟨rfl,a2,iT⟩ e2,λj x hj=>?_⟩;cases j with
   | zero=>
    cases hj;exact⟨z.pa,op,m,rfl,h1,h2,h3,sF I.bH a2⟩
   | succ j=>exact e3 j x hj
 obtain⟨ys,e1,e2,e3⟩:=ø zs aw hz rv;have Á:=rv.length;rw [Ag] at Á;have ă:ys.length=zs.length:=by have:=congrArg B5 e1;simpa using this
 have hs:(1000:Nat)+1000<=sizeLine:=by decide
 refine qq (knd:=bM X.prog X.w) (items:=aw.toArray) (ys:=ys) (I.ok.hd hc) hu ho QB nU hd (by rw [Ai];omega) (by rw [Ai];omega) (λj x hj=>?_) (λh' tk kp dd=>?_)
 ·obtain⟨pa,op,m,g1,g2⟩:=e3 j x hj;exact⟨pa,op,m,by rw [Ff];exact g1,g2⟩
 ·rw [pL ys [] (by rw [Fb,e1];exact hn),Fb] at dd;obtain⟨od,es,ep,Ć,h2,h3,h4,_,h5⟩:=dd;have ae9:=beq_eq_false_iff_ne.mpr (BG (AI I.big));have fr:=I.bH.fresh (Ao s.heap.objs.size);refine⟨.ref s.heap.objs.size,_,I.laid (t':=tk) kp (Ao _) (show bx X.prog X.w (upd H s.heap.objs.size (.dT (zs.map λz=>(z.k,z.v)))) h' _ (.dT _) from⟨?_,ae9,ys,?_,od,es,ep,Ć,h2,h3,h4,h5⟩),rfl,q.at _ fr⟩
  ·rw [Ag];exact A7 hl ⋯
  ·refine e2.keeps λc xs ec=>?_;rw [aA (λz=>by subst z;rw [fr] at ec;cases ec)];exact ec
end
end L2
variable {es:Array PySem.DictEntry}{ep:Nat}
namespace L2
open PySem PySem.Spec PyProof.Rows
section
def T5 (h:mo) (d:ci) (es:Array DictEntry) (ep:Nat):Prop:=∃o,h.get? d=ap o/\o.ExactDict/\o.data=.dict es ep
theorem N8 {Q:Option ce->cr->Prop} (Ø:s.heap.IsKeyIter it d i es.size ep) (hm:T5 s.heap d es ep) (hi:i < es.size)
  (q:∀h',h'.IsKeyIter it d (i+1) es.size ep->Ci it s.heap h'->Q (ap es[i].key) {s with heap:=h'}):db (dL prog w) A (pyNext (.ref it)) Q E s:=by
 have ty:=Ø.typeIs;obtain⟨o,ho,hc,hd⟩:=id Ø;obtain⟨od,SU,-,SX⟩:=hm;have aaW:(s.heap.update it (Obj.mapFields (·.setIfInBounds 1 (ut ((i:Int)+1))))).IsKeyIter it d (i+1) es.size ep:=⟨_,CF _ ho (Fd (C5 hd _)),(Obj.cls_mapFields ..).trans hc,by rw [C5 hd];simp [ut]⟩;refine Aa (C2 (AX (name:=Cg "__next__") ty BF (Bg BF ty Dx ?_ (Dq _))));refine Aa (Af (Aa (Aa ?_)))
 first | refine Aa (B3 ty (Af ?_)) | refine Aa (Cs ty (Af ?_))
 refine Aa (wpAny_fieldsOf ho hd ?_);show db _ _ (if (AD d==AZ)=true then _ else _) _ _ s;rw [if_neg (λz:(AD d==AZ)=true=>AW z)];refine Aa (Af (Aa (Em SU SX ?_)));rw [if_neg (by simp)];refine Aa (Af (Aa (E7 SU SX ?_)));rw [if_neg (by simp)];refine Af ?_;have i0:¬((i:Int) < 0):=by omega
 simp only [i0,if_false,A4,CW hi];refine Aa ?_
 first | refine Aa (B3 ty (Af ?_)) | refine Aa (Cs ty (Af ?_))
 refine Aa (wpAny_isOneOf_keyiter ty ?_);show db _ _ (wE (.ref it) 1 (ut ((i:Int)+1)) >>= _) _ _ s;refine Aa (D9 ho hd (by simp) (Aa (Bc (Aa (wpAny_isOneOf_keyiter (s:={s with heap:=s.heap.update it (Obj.mapFields (·.setIfInBounds 1 (ut ((i:Int)+1))))}) aaW.typeIs ?_)))));exact Af (Af ⟨_,rfl,Af (q _ aaW (Ci.update ..))⟩)
theorem Td {Q:Option ce->cr->Prop} (hh:A.handled=bm) (Ø:s.heap.IsKeyIter it d i es.size ep) (hm:T5 s.heap d es ep) (hi:es.size<=i)
  (q:∀h',FT it s.heap h'->Q bm {s with heap:=h'}):db (dL prog w) A (pyNext (.ref it)) Q E s:=by
 have ty:=Ø.typeIs;obtain⟨o,ho,hc,hd⟩:=id Ø;obtain⟨od,SU,-,SX⟩:=hm;refine Aa (C2 (AX (name:=Cg "__next__") ty BF (Bg BF ty Dx ?_ (Dq _))));refine Aa (Af (Aa (Aa ?_)))
 first | refine Aa (B3 ty (Af ?_)) | refine Aa (Cs ty (Af ?_))
 refine Aa (wpAny_fieldsOf ho hd ?_);show db _ _ (if (AD d==AZ)=true then _ else _) _ _ s;rw [if_neg (λz:(AD d==AZ)=true=>AW z)];refine Aa (Af (Aa (Em SU SX ?_)));rw [if_neg (by simp)];refine Aa (Af (Aa (E7 SU SX ?_)));rw [if_neg (by simp)];refine Af ?_;have i0:¬((i:Int) < 0):=by omega
 simp only [i0,if_false,A4,E2 hi];refine Aa ?_
 first | refine Aa (B3 ty (Af ?_)) | refine Aa (Cs ty (Af ?_))
 show db _ _ (wE (.ref it) 0 .none >>= _) _ _ s;refine Aa (D9 ho hd (by simp) ?_);refine Aa ?_;refine Aa (A2 (Aa (m:=firstArgMember _ _) (Cz (a:=AZ) (by first | rfl | (simp only [firstArgMember];rfl)) (A2 ?_ (by size_fits)))) (by size_fits));unfold raiseNew;refine Aa (wpAny_handled ?_);rw [show A.in1.handled=bm from hh];refine Aa (Af (wpAny_throw ?_));refine Aa (Ds (T:="StopIteration") (b:=true) ⟨_,Aq _ rfl,rfl⟩ isSubtype_stop ?_);exact Af (q _ (((Ci.update ..).extBut.push _).push _))
def OC (hs:(d==tt)=false) (hm:T5 s.heap d es ep)
  (q:Q (.ref s.heap.objs.size) {s with heap:=s.heap.push {cls:=.type "dict_keyiterator",data:=.fields #[.ref d,.int 0 0,.int es.size 0,.int ep 0]}}):db (dL prog w) A (pyIter (.ref d)) Q E s:=by
 obtain⟨od,SU,hx,SX⟩:=hm;have ty:s.TypeIs (.ref d) "dict":=⟨_,SU,hx.1⟩;refine wpAny_pyIter_slot ty F.slot_dict_iter (Bg F.slot_dict_iter ty F.entry_dict_iter ?_ (F.args_dict_iter_1 _));refine Aa ?_;refine Aa (wpAny_notOrdered_dict ty ?_);refine Af ?_;show db _ _ (Builtin.Dict.showsAll d >>= _) _ _ s;unfold Builtin.Dict.showsAll;rw [if_neg (by rw [hs];exact AW)];refine Aa (Af (Aa (Em SU SX (Aa (E7 SU SX ?_)))));exact Aa (A2 (Af ⟨_,rfl,"dict_keyiterator",_,⟨_,Aq _ rfl,rfl⟩,BF.lookup,q⟩))
end
end L2
variable {u:L2.HO}
namespace L2
open PySem PySem.Spec PyProof.Rows
section
variable {σ:St}
def Inv.freeze (I:Inv X Z σ H s) (e:H a=ap (.dT kvs)):∃o,Inv X Z σ (upd H a (.cM o (.dT kvs))) s:=by
 obtain⟨z,hs,xs,r,o,es,ep,h1,h2,h3,h4,h5⟩:=(show bx X.prog X.w H s.heap a (.dT kvs) from I.bH a _ e);refine⟨o,?_⟩;have q:=I.write (x:=a) (e:=a) (o:=.cM o (.dT kvs)) (h':=s.heap) (t':=s.toks) (by rw [e];exact BU) (.inl rfl) (λb u _ z=>z) ⟨o,h1⟩
  ⟨h1,z,hs,xs,KT.keeps r λb ys eb=>by rw [aA (JS eb e (λz=>nomatch z))];exact eb,o,es,ep,h1,h2,h3,h4,h5⟩
 exact q
def Inv.Y9 (I:Inv X Z σ H s) (e:H a=ap (.cM o u)) (h0:∀o u,X.H₀ a≠ap (.cM o u)) (hu:bx X.prog X.w (upd H a u) s.heap a u) (bH:lX X.prog X.w (upd H a u) s.heap):Inv X Z σ (upd H a u) s:=by
 have ne:∀b v,H b=v->v≠ap (.cM o u)->b≠a:=λb v q n z=>by subst z;exact n (q.symm.trans e)
 refine⟨I.ok,I.os,I.bare,⟨I.base.keep,I.base.slot,λb ob q n hx=>?_,I.base.there,λb xs q=>?_,λb ob xs q=>?_,λb ps q=>?_⟩,I.loc,I.cell,?_,λx c q=>?_,λp hp=>?_,bH,I.len⟩
 ·have:=I.base.free b ob q n hx;rw [aA (ne b _ this (by simp))];exact this
 ·have:=I.base.eJ b xs q;rw [aA (ne b _ this (by simp))];exact this
 ·have:=I.base.qk b ob xs q;have hb:b≠a:=λz=>by subst z;exact h0 _ _ q
  rw [aA hb];exact this
 ·obtain⟨m,this⟩:=I.base.v9 b ps q;exact⟨m,by rw [aA (ne b _ this (by simp))];exact this⟩
 ·rw [aA (ne _ _ I.free (by simp))];exact I.free
 ·rw [aA (ne _ _ (I.ko x c q) (by simp))];exact I.ko x c q
 ·obtain⟨p1,p2,p3⟩:=I.pin p hp;exact⟨p1,by rw [aA (ne _ _ p2 (by simp))];exact p2,p3⟩
end
def abX (a:ci) (o:Obj):It:=
 ⟨λi H=>∃kvs,H a=ap (.cM o (.dT kvs))/\i < kvs.length,λi H x H'=>H'=H/\∀kvs,H a=ap (.cM o (.dT kvs))->∃b k v,x=.ref b/\kvs[i]?=ap (k,v)/\H b=ap (.tup (k.map kV)),λi H=>∃kvs,H a=ap (.cM o (.dT kvs))/\kvs.length<=i⟩
theorem O3 (x:bx P w H h a (.cM o (.dT kvs))) (hd:o.data=.dict es ep) :
  T5 h a es ep/\es.size=kvs.length/\∀(i:Nat) (hi:i < es.size),∃b k v,es[i].key=.ref b/\kvs[i]?=ap (k,v)/\H b=ap (.tup (k.map kV)):=by
 obtain⟨e,z,hs,xs,r,o',č,Ď,h1,h2,h3,h4,h5⟩:=x;rw [e] at h1;cases h1;rw [hd] at h3;cases h3;have hl:es.size=xs.length:=by have:=congrArg B5 h4;simpa using this
 refine⟨⟨o,e,h2,hd⟩,hl.trans (Paired.length r).symm,λi hi=>?_⟩;have hx:xs[i]?=ap (xs[i]'∅):=Ae _;have pg:∀{l:List (List Key×V)}{m:List (List Key×ci×ce)}{i:Nat}{q:List Key×ci×ce},KT H l m->m[i]?=ap q->∃v,l[i]?=ap (q.1,v)/\H q.2.1=ap (.tup (q.1.map kV)):=by
  intro l m i q t
  induction t generalizing i with
  | nil=>intro h;simp at h
  | @cons p q' ps qs hq t ih=>
   intro h;cases i with
   | zero=>
    cases h;obtain⟨p1,p2⟩:=p;have e1:=hq.1;subst e1;exact⟨p2,rfl,hq.2.1⟩
   | succ i=>exact ih (by simpa using h)
 obtain⟨v,g1,g2⟩:=pg r hx;refine⟨_,_,v,?_,g1,g2⟩;have:es[i]=entryOfKey (lw (bM P w)) (xs[i]'∅):=by
  have h6:es.toList[i]?=ap (entryOfKey (lw (bM P w)) (xs[i]'∅)):=by rw [h4,Aj,hx];rfl
  rw [Fg,CW hi] at h6;exact Option.some.inj h6
 rw [this];rfl
theorem KJ {K:Ab} (a it:ci) (o:Obj) (hd:o.data=.dict es ep):Turn P w K tg (abX a o) [it] it (λi h=>h.IsKeyIter it a i es.size ep) where
 mem:=by simp
 obj:=λi h st b hb=>by
  have e:b=it:=by simpa using hb
  subst e;obtain⟨o,e,c,d⟩:=st;exact⟨o,e,λv z=>by rw [d] at z;cases z⟩
 keep:=λi h h' st k=>st.at λo e=>k it (by simp) o e
 item:=by
  intro X hP hw hK hc i Z s σ H E I hf st hg;subst hP hw hK;obtain⟨kvs,hq,hx⟩:=hg;obtain⟨ė,hl,ky⟩:=O3 (I.bH a _ hq) hd;obtain⟨b,k,v,k1,k2,k3⟩:=ky i ∅;obtain⟨f0,f1,f2,f3,f4,f5⟩:=hf it (by simp);refine N8 st ė ∅ λh' mZ sb=>?_;have I1:Inv X Z σ H {s with heap:=h'}:=I.turned (t':=s.toks) (λb o hb e=>(sb.2 b hb).trans e) f0 f1 f3 f4 f5;obtain⟨oi,e,c,d⟩:=id mZ;refine⟨_,rfl,sR (s:={s with heap:=h'}) e c d ⋯ ⟨.ref b,H,I1,k1,⟨rfl,λain Ć=>?_⟩,mZ,λb hb=>(hf b hb).1⟩⟩;rw [hq] at Ć;cases Ć;exact⟨b,k,v,rfl,k2,k3⟩
 done:=by
  intro X hP hw hK hc i Z s σ H E I hf st hg;obtain⟨kvs,hq,hx⟩:=hg;obtain⟨ė,hl,ky⟩:=O3 (I.bH a _ hq) hd;obtain⟨f0,f1,f2,f3,f4,f5⟩:=hf it (by simp);exact Td (I.ok.hd hc) st ė ∅ λh' eb=>⟨rfl,I.turned (t':=s.toks) (λb o hb e=>eb b o hb e) f0 f1 f3 f4 f5⟩
 self:=λ_ _ _ _ _ st h=>wpAny_pyIter_keyiter st h
def Xj (tl:TE):TI:=λσ H R=>tl σ H λx H1=>∃a o kvs,x=.ref a/\H1 a=ap (.cM o (.dT kvs))/\R (abX a o) H1
def NM {l:gt} (hl:PE X l tl):PI X tg l (Xj tl):=by
 intro Z s σ H R I h;refine bC (hl Z s σ H _ I h) λv s1 ⟨x,H1,I1,r1,q1⟩=>?_;obtain⟨a,o,kvs,e,hq,q⟩:=q1;subst e;cases r1;obtain⟨eo,z,hs,xs,r,o',es,ep,h1,h2,h3,h4,h5⟩:=(show bx X.prog X.w H1 s1.heap a (.cM o (.dT kvs)) from I1.bH a _ hq);rw [eo] at h1;cases h1;refine OC hs ⟨o,eo,h2,h3⟩ ?_;refine⟨s1.heap.objs.size,[s1.heap.objs.size],_,_,H1,rfl,I1.kept (t':=s1.toks) λb o e=>Ah _ e,KJ a _ o h3,⟨_,Aq _ rfl,rfl,rfl⟩,λb hb=>?_,q⟩;have e:b=s1.heap.objs.size:=by simpa using hb
 subst e;exact I1.xG (Ao _) (I1.bH.fresh (Ao _))
end L2
variable {v:PL.PV}{φ:List L2.V->Prop}
noncomputable section
namespace FL
section
open PySem PySem.Spec PyProof.Rows L2 PL
variable {K:Ab}
structure W (α:Type) where
 run:(α->Prop)->Prop
 mono:∀{Q Q':α->Prop},(∀a,Q a->Q' a)->run Q->run Q'
namespace W
variable {α β γ:Type}
def ext' {a b:W α} (h:∀Q,a.run Q↔b.run Q):a=b:=by
 cases a;cases b;congr;funext Q;exact propext (h Q)
noncomputable def ret (a:α):W α:=⟨λQ=>Q a,λh q=>h _ q⟩
noncomputable def bind (w:W α) (k:α->W β):W β:=⟨λQ=>w.run λa=>(k a).run Q,λh q=>w.mono (λa q=>(k a).mono h q) q⟩
def fail:W α:=⟨λ_=>False,λ_ q=>q⟩
def fg (p:Prop) (w:W α):W α:=⟨λQ=>p/\w.run Q,λh q=>⟨q.1,w.mono h q.2⟩⟩
def any (p:α->Prop):W α:=⟨λQ=>∀a,p a->Q a,λh q a pa=>h a (q a pa)⟩
def N3:Option α->W α
 | some a=>ret a
 | none=>fail
@[simp] theorem ag (a:α) (k:α->W β):bind (ret a) k=k a:=(rfl)
@[simp] theorem bind_assoc (w:W α) (f:α->W β) (g:β->W γ):bind (bind w f) g=bind w λa=>bind (f a) g:=(rfl)
@[simp] theorem abN (w:W α):bind w ret=w:=(rfl)
@[simp] theorem YF (k:α->W β):bind fail k=fail:=(rfl)
@[simp] theorem aj (a:α) (Q:α->Prop):(ret a).run Q=Q a:=(rfl)
@[simp] theorem run_bind (w:W α) (k:α->W β) (Q:β->Prop):(bind w k).run Q=w.run λa=>(k a).run Q:=(rfl)
@[simp] theorem ZE (Q:α->Prop):(fail:W α).run Q=False:=(rfl)
@[simp] theorem ab9 (p Q:α->Prop):(any p).run Q=∀a,p a->Q a:=(rfl)
@[simp] theorem Ro (p:Prop) (w:W α) (Q:α->Prop):(fg p w).run Q=(p/\w.run Q):=(rfl)
@[simp] theorem P6 (p:Prop) (w:W α) (k:α->W β):bind (fg p w) k=fg p (bind w k):=(rfl)
def au {p:Prop}{w:W α} (h:p):fg p w=w:=ext' λQ=>⟨λq=>q.2,λq=>⟨h,q⟩⟩
@[simp] theorem abI {w:W α}:fg True w=w:=au trivial
@[simp] theorem ay (a:α):N3 (ap a)=ret a:=(rfl)
@[simp] theorem aac:N3 (bm:Option α)=fail:=(rfl)
end W
inductive SL where
 | val (v:PV) | adr (b:ci) | ol (q:Option ci) (l:List PV) | qF (bs:List ci) (ls:List (List PV)) | od (kvs:List (Key×PV)) | ot (kvs:List (List Key×PV)) | kj (φ:List V->Prop)
abbrev bF:=List (Option SL)
def SL.own:SL->Bool
 | .val _=>false
 | .adr _=>false
 | _=>true
def SL.inn:SL->List ci
 | .qF bs _=>bs
 | _=>[]
def SL.has (s:SL) (x a:ci):Prop:=a=x\/a∈s.inn
def iP (K:Ab) (H:Hp) (a:ci):SL->Prop
 | .val _=>False
 | .adr b=>a=b
 | .qF bs ls=>H a=ap (.lst (bs.map V.ref))/\a∉bs/\bs.Nodup/\bs.length=ls.length/\∀(j:Nat) (b:ci) (l:List PV),bs[j]?=ap b->ls[j]?=ap l->∃ws,H b=ap (.lst ws)/\aM K [] H ws l
 | .ol q l=>(∀b,q=ap b->a=b)/\∃vs,H a=ap (.lst vs)/\aM K [] H vs l
 | .od kvs=>∃vs:List (Key×V),H a=ap (.dK vs)/\vs.map (·.1)=kvs.map (·.1)/\aM K [] H (vs.map (·.2)) (kvs.map (·.2))
 | .ot kvs=>∃vs:List (List Key×V),H a=ap (.dT vs)/\vs.map (·.1)=kvs.map (·.1)/\aM K [] H (vs.map (·.2)) (kvs.map (·.2))
 | .kj φ=>∃vs,H a=ap (.lst vs)/\φ vs
def vR (K:Ab) (H:Hp) (u:V) (s:SL):Prop:=(∃v,s=.val v/\VR K [] H u v)\/∃a,u=.ref a/\iP K H a s
def dI (σ:L2.St) (fs:bF) (a:ci):Prop:=∃(i:Nat) (s:SL) (x:ci),fs[i]?=ap (ap s)/\s.own=true/\σ[i]?=ap (ap (.ref x))/\s.has x a
def eI (σ:L2.St) (fs:bF) (φ:List V->Prop) (a:ci):Prop:=∃i:Nat,fs[i]?=ap (ap (.kj φ))/\σ[i]?=ap (ap (.ref a))
structure aZ (K:Ab) (H:Hp) (σ:L2.St) (fs:bF):Prop where
 len:σ.length=fs.length
 at':∀(i:Nat) (s:SL),fs[i]?=ap (ap s)->∃u,σ[i]?=ap (ap u)/\vR K H u s
 nd:∀(i j:Nat) (s t:SL) (x y a:ci),fs[i]?=ap (ap s)->fs[j]?=ap (ap t)->s.own=true->t.own=true->σ[i]?=ap (ap (.ref x))->σ[j]?=ap (ap (.ref y))->s.has x a->t.has y a->i=j
structure cT (σ:L2.St) (fs:bF) (H:Hp) (σ':L2.St) (bP:bF) (H':Hp):Prop where
 keep:∀a o,H a=ap o->¬dI σ fs a->H' a=ap o/\¬dI σ' bP a
 there:∀a,H' a=bm->H a=bm
 pk:∀a φ,eI σ fs φ a->eI σ' bP φ a\/(¬dI σ' bP a/\∃vs,H' a=ap (.lst vs)/\φ vs)
structure cU (σ:L2.St) (fs:bF) (H H':Hp):Prop where
 keep:∀a o,H a=ap o->(∀φ,¬eI σ fs φ a)->H' a=ap o
 there:∀a,H' a=bm->H a=bm
section
variable {σ σ' σ1 σ2:L2.St}{fs bP S4 dR:bF}{H H' H1 H2:Hp}
def eI.uu (p:eI σ fs φ a):dI σ fs a:=let ⟨i,e1,e2⟩:=p;⟨i,_,_,e1,rfl,e2,.inl rfl⟩
def cU.refl:cU σ fs H H:=⟨λ_ _ h _=>h,λ_ h=>h⟩
def cU.trans (a:cU σ fs H H1) (b:cU σ fs H1 H2):cU σ fs H H2:=⟨λx o h n=>b.keep x o (a.keep x o h n) n,λx h=>a.there x (b.there x h)⟩
def cU.f (g:cU σ fs H H'):cT σ fs H σ fs H':=⟨λa o h n=>⟨g.keep a o h λφ p=>n p.uu,n⟩,g.there,λa φ p=>.inl p⟩
def cU.pK (g:cU σ fs H H') {o:HO} (h:H a=ap o) (n:¬dI σ fs a):H' a=ap o:=g.keep a o h λφ p=>n p.uu
def cU.same (h:kF H H'):cU σ fs H H':=⟨λa o e _=>h a o e,λa e=>(by
 cases z:H a with
 | none=>rfl
 | some o=>rw [h a o z] at e;cases e)⟩
def iP.ex {c:ci}{s:SL} (h:iP K H a s) (ho:s.own=true) (hc:s.has a c):∃o,H c=ap o/\(∀vs,o≠.tup vs)/\∀ob u,o≠.cM ob u:=by
 cases s with
 | val _=>exact h.elim
 | adr _=>cases ho
 | ol q l=>obtain⟨_,vs,e,_⟩:=h;rcases hc with rfl | hc;exact⟨_,e,by simp,by simp⟩;cases hc
 | qF bs ls=>
  obtain⟨e,_,_,hl,hb⟩:=h;rcases hc with rfl | hc
  ·exact⟨_,e,by simp,by simp⟩
  ·obtain⟨j,hj⟩:=CT (show c∈bs from hc);have h1:=(Am.mp hj).1;obtain⟨ws,e,_⟩:=hb j c _ hj (Ae (by rw [<- hl];exact h1));exact⟨_,e,by simp,by simp⟩
 | od l=>obtain⟨vs,e,_⟩:=h;rcases hc with rfl | hc;exact⟨_,e,by simp,by simp⟩;cases hc
 | ot l=>obtain⟨vs,e,_⟩:=h;rcases hc with rfl | hc;exact⟨_,e,by simp,by simp⟩;cases hc
 | kj l=>obtain⟨vs,e,_⟩:=h;rcases hc with rfl | hc;exact⟨_,e,by simp,by simp⟩;cases hc
def aZ.ownAt (s:aZ K H σ fs) {t:SL} (h1:fs[i]?=ap (ap t)) (h2:t.own=true) (h3:σ[i]?=ap (ap (.ref a))):iP K H a t:=by
 obtain⟨u,e,r⟩:=s.at' i t h1;rw [h3] at e;cases e;rcases r with⟨v,rfl,_⟩ | ⟨b,e,r⟩
 ·cases h2
 ·cases e;exact r
def aZ.uu (s:aZ K H σ fs) (h:dI σ fs a):∃o,H a=ap o/\(∀vs,o≠.tup vs)/\∀ob u,o≠.cM ob u:=by
 obtain⟨i,t,x,h1,h2,h3,h4⟩:=h;exact (s.ownAt h1 h2 h3).ex h2 h4
def aZ.noOwn (s:aZ K H σ fs) (h:H a=bm):¬dI σ fs a:=λz=>by
 obtain⟨o,e,_⟩:=s.uu z;rw [h] at e;cases e
def aZ.WD (s:aZ K H σ fs) (h:H a=ap (.tup vs)):¬dI σ fs a:=λz=>by
 obtain⟨o,e,n,_⟩:=s.uu z;rw [h] at e;cases e;exact n vs rfl
def aZ.WE (s:aZ K H σ fs) (h:H a=ap (.cM ob u)):¬dI σ fs a:=λz=>by
 obtain⟨o,e,_,n⟩:=s.uu z;rw [h] at e;cases e;exact n ob u rfl
def cT.refl:cT σ fs H σ fs H:=⟨λ_ _ h n=>⟨h,n⟩,λ_ h=>h,λ_ _ h=>.inl h⟩
def cT.trans (a:cT σ fs H σ1 S4 H1) (b:cT σ1 S4 H1 σ2 dR H2):cT σ fs H σ2 dR H2:=
 ⟨λx o h n=>let ⟨h1,n1⟩:=a.keep x o h n;b.keep x o h1 n1,λx h=>a.there x (b.there x h),λx φ h=>(a.pk x φ h).elim (b.pk x φ) λ⟨n,vs,e,p⟩=>.inr (let ⟨h1,n1⟩:=b.keep x _ e n;⟨n1,vs,h1,p⟩)⟩
def cT.eJ (g:cT σ fs H σ' bP H') (s:aZ K H σ fs):bB K H H':=
 ⟨λa vs h=>(g.keep a _ h (s.WD h)).1,λa o u h=>(g.keep a _ h (s.WE h)).1⟩
def VR.tk {u:V} (t:bB K H H') (r:VR K [] H u v):VR K [] H' u v:=r.mono t λ_ _ e=>e
def aM.tk {u:List V}{v:List PV} (t:bB K H H') (r:aM K [] H u v):aM K [] H' u v:=r.mono t λ_ _ e=>e
def cT.vr (g:cT σ fs H σ' bP H') (s:aZ K H σ fs) {u:V} (r:VR K [] H u v):VR K [] H' u v:=VR.tk (g.eJ s) r
def cU.eJ (g:cU σ fs H H') (s:aZ K H σ fs):bB K H H':=g.f.eJ s
def cU.vr (g:cU σ fs H H') (s:aZ K H σ fs) {u:V} (r:VR K [] H u v):VR K [] H' u v:=VR.tk (g.eJ s) r
def cU.Mw (g:cU σ fs H H') (s:aZ K H σ fs) {u:List V}{v:List PV} (r:aM K [] H u v):aM K [] H' u v:=aM.tk (g.eJ s) r
def iP.mono {s:SL} (t:bB K H H') (e:∀c o,s.own=true->s.has a c->H c=ap o->H' c=ap o) (h:iP K H a s):iP K H' a s:=by
 cases s with
 | val _=>exact h
 | adr _=>exact h
 | ol _ l=>obtain⟨z,vs,q,r⟩:=h;exact⟨z,vs,e _ _ rfl (.inl rfl) q,aM.tk t r⟩
 | qF bs ls=>
  obtain⟨z,h1,h2,h3,h4⟩:=h;refine⟨e _ _ rfl (.inl rfl) z,h1,h2,h3,λj b l hb hl=>?_⟩;obtain⟨ws,q,r⟩:=h4 j b l hb hl;exact⟨ws,e _ _ rfl (.inr (Bm hb)) q,aM.tk t r⟩
 | od l=>obtain⟨vs,q,k,r⟩:=h;exact⟨vs,e _ _ rfl (.inl rfl) q,k,aM.tk t r⟩
 | ot l=>obtain⟨vs,q,k,r⟩:=h;exact⟨vs,e _ _ rfl (.inl rfl) q,k,aM.tk t r⟩
 | kj φ=>obtain⟨vs,q,k⟩:=h;exact⟨vs,e _ _ rfl (.inl rfl) q,k⟩
def vR.mono {u:V}{s:SL} (t:bB K H H') (e:∀x a o,u=.ref x->s.own=true->s.has x a->H a=ap o->H' a=ap o) (h:vR K H u s):vR K H' u s:=by
 rcases h with⟨v,q,r⟩ | ⟨a,q,r⟩
 ·exact .inl ⟨v,q,VR.tk t r⟩
 ·exact .inr ⟨a,q,r.mono t (λc o z y w=>e a c o q z y w)⟩
def aZ.same (s:aZ K H σ fs) (h:kF H H'):aZ K H' σ fs:=⟨s.len,λi t e=>let ⟨u,h1,h2⟩:=s.at' i t e;⟨u,h1,h2.mono h.eO (λ_ a o _ _ _ z=>h a o z)⟩,s.nd⟩
def cT.same (h:kF H H') (s:aZ K H σ fs):cT σ fs H σ fs H':=⟨λa o e n=>⟨h a o e,n⟩,λa e=>(by
 cases z:H a with
 | none=>rfl
 | some o=>rw [h a o z] at e;cases e),λa φ p=>.inl p⟩
inductive jL:bF->bF->Prop
 | nil:jL [] []
 | drop {s:Option SL}{a b:bF} (h:jL a b):jL (s::a) (bm::b)
 | keep {s:Option SL}{a b:bF} (h:jL a b):jL (s::a) (s::b)
theorem jL.at {a b:bF} (h:jL a b):∀(i:Nat) (s:SL),b[i]?=ap (ap s)->a[i]?=ap (ap s):=by
 induction h with
 | nil=>intro i s e;simp at e
 | drop h ih=>intro i s e;cases i with | zero=>simp at e | succ i=>simp at e ⊢;exact ih i s e
 | keep h ih=>intro i s e;cases i with | zero=>simpa using e | succ i=>simp at e ⊢;exact ih i s e
theorem jL.length {a b:bF} (h:jL a b):a.length=b.length:=by induction h <;> simp_all
theorem jL.refl:∀a:bF,jL a a
 | []=>.nil
 | _::a=>.keep (jL.refl a)
def aZ.le (s:aZ K H σ fs) (h:jL fs bP):aZ K H σ bP:=⟨s.len.trans h.length,λi t e=>s.at' i t (h.at i t e),λi j t u x y a e1 e2=>s.nd i j t u x y a (h.at i t e1) (h.at j u e2)⟩
def dI.le (h:jL fs bP) (o:dI σ bP a):dI σ fs a:=let ⟨i,t,x,e1,e2,e3⟩:=o;⟨i,t,x,h.at i t e1,e2,e3⟩
def cT.le (s:aZ K H σ fs) (h:jL fs bP):cT σ fs H σ bP H:=⟨λa o e n=>⟨e,λz=>n (z.le h)⟩,λ_ e=>e,λa φ p=>by
 obtain⟨i,e1,e2⟩:=p;by_cases c:dI σ bP a
 ·obtain⟨j,t,x,c1,c2,c3,c4⟩:=c;have ij:=s.nd i j _ t a x a e1 (h.at j t c1) rfl c2 e2 c3 (.inl rfl) c4;subst ij;have:=h.at i t c1;rw [e1] at this;cases this;exact .inl ⟨i,c1,e2⟩
 ·obtain⟨vs,q,r⟩:=s.ownAt e1 rfl e2;exact .inr ⟨c,vs,q,r⟩⟩
def bf {l:List (Option α)}{x y:α} (h:(l.set i (ap x))[j]?=ap (ap y)):(j=i/\y=x)\/(j≠i/\l[j]?=ap (ap y)):=by
 by_cases c:j=i
 ·subst c;rw [List.getElem?_set] at h;simp at h;exact .inl ⟨rfl,h.2.symm⟩
 ·rw [Bf (λz=>c z.symm)] at h;exact .inr ⟨c,h⟩
def cE {l:List α}{x:α} (h:i < l.length):(l.set i x)[i]?=ap x:=by rw [List.getElem?_set];simp [h]
def aL {l:List α}{x:α} (h:j≠i):(l.set i x)[j]?=l[j]?:=Bf (λz=>h z.symm)
def aZ.put (s:aZ K H σ fs) {u:V}{t:SL} (hr:vR K H u t) (hf:∀x a,u=.ref x->t.own=true->t.has x a->∀(j:Nat) (w:SL) (y:ci),j≠i->fs[j]?=ap (ap w)->w.own=true->σ[j]?=ap (ap (.ref y))->¬w.has y a):aZ K H (σ.set i (ap u)) (fs.set i (ap t)):=by
 refine⟨by simp [s.len],λj w e=>?_,λj k w x b1 b2 a e1 e2 o1 o2 q1 q2 z1 z2=>?_⟩
 ·rcases bf e with⟨rfl,rfl⟩ | ⟨n,e⟩
  ·have hl:j < σ.length:=by
    have:=(Am.mp e).1;rw [BH] at this;rw [s.len];exact this
   exact⟨u,cE hl,hr⟩
  ·obtain⟨v,h1,h2⟩:=s.at' j w e;exact⟨v,by rw [aL n];exact h1,h2⟩
 ·rcases bf e1 with⟨y1,y2⟩ | ⟨n1,f1⟩ <;> rcases bf e2 with⟨y3,y4⟩ | ⟨n2,f2⟩
  ·exact y1.trans y3.symm
  ·subst y1;subst y2;rw [aL n2] at q2;have hl:j < σ.length:=by have:=(Am.mp q1).1;simpa using this
   rw [cE hl] at q1;cases q1;exact absurd z2 (hf _ a rfl o1 z1 k x b2 n2 f2 o2 q2)
  ·subst y3;subst y4;rw [aL n1] at q1;have hl:k < σ.length:=by have:=(Am.mp q2).1;simpa using this
   rw [cE hl] at q2;cases q2;exact absurd z1 (hf _ a rfl o2 z2 j w b1 n1 f1 o1 q1)
  ·rw [aL n1] at q1;rw [aL n2] at q2;exact s.nd j k w x b1 b2 a f1 f2 o1 o2 q1 q2 z1 z2
def aZ.fY (s:aZ K H σ fs) {u:V} (hr:VR K [] H u v) (i:Nat):aZ K H (σ.set i (ap u)) (fs.set i (ap (.val v))):=s.put (.inl ⟨v,rfl,hr⟩) λ_ _ _ z=>by cases z
def zy {u:V}{t:SL} (o:dI (σ.set i (ap u)) (fs.set i (ap t)) a) (hl:σ.length=fs.length):dI σ fs a\/∃x,u=.ref x/\t.own=true/\t.has x a:=by
 obtain⟨j,w,x,e1,e2,e3,e4⟩:=o;rcases bf e1 with⟨rfl,rfl⟩ | ⟨n,e1⟩
 ·have h2:j < σ.length:=by have:=(Am.mp e3).1;simpa using this
  rw [cE h2] at e3;cases e3;exact .inr ⟨x,rfl,e2,e4⟩
 ·rw [aL n] at e3;exact .inl ⟨j,w,x,e1,e2,e3,e4⟩
def JG (s:aZ K H σ fs) {u:V}{t:SL} (p:eI σ fs φ a) (hu:∀x,u=.ref x->t.own=true->t.has x a->t=.kj φ):eI (σ.set i (ap u)) (fs.set i (ap t)) φ a\/¬dI (σ.set i (ap u)) (fs.set i (ap t)) a:=by
 obtain⟨j,e1,e2⟩:=p;by_cases c:j=i
 ·subst c;by_cases c2:∃x,u=.ref x/\t.own=true/\t.has x a
  ·obtain⟨x,c3,c4,c5⟩:=c2;have hl:=(Am.mp e2).1;have MF:=(Am.mp e1).1;have et:=hu x c3 c4 c5;subst et;rcases c5 with rfl | c5
   ·exact .inl ⟨j,by rw [cE MF],by rw [cE hl,c3]⟩
   ·cases c5
  ·refine .inr λo=>?_;obtain⟨k,w,y,q1,q2,q3,q4⟩:=o;rcases bf q1 with⟨rfl,rfl⟩ | ⟨n,q1⟩
   ·have hl:=(Am.mp e2).1;rw [cE hl] at q3;cases q3;exact c2 ⟨y,rfl,q2,q4⟩
   ·rw [aL n] at q3;exact n (s.nd k j w _ y a a q1 e1 q2 rfl q3 e2 q4 (.inl rfl))
 ·exact .inl ⟨j,by rw [aL c];exact e1,by rw [aL c];exact e2⟩
def cT.fY (s:aZ K H σ fs) (u:V) (v:PV) (i:Nat):cT σ fs H (σ.set i (ap u)) (fs.set i (ap (.val v))) H:=
 ⟨λa o e n=>⟨e,λz=>(zy z s.len).elim n λ⟨_,_,z,_⟩=>by cases z⟩,λ_ e=>e,λa φ p=>(JG s p (λ_ _ z=>by cases z)).imp id λn=>⟨n,by
  obtain⟨j,e1,e2⟩:=p;obtain⟨vs,q,r⟩:=s.ownAt e1 rfl e2;exact⟨vs,q,r⟩⟩⟩
def aZ.NC (s:aZ K H σ fs) {t:SL} (hr:iP K H a t) (hn:∀c,t.has a c->¬dI σ fs c) (i:Nat):aZ K H (σ.set i (ap (.ref a))) (fs.set i (ap t)):=s.put (.inr ⟨a,rfl,hr⟩) λx c e _ hc j w y n e1 e2 e3 z=>by
 cases e;exact hn c hc ⟨j,w,y,e1,e2,e3,z⟩
def xx {t:SL} (hi:t.inn=[]) {c:ci} (h:t.has a c):c=a:=by
 rcases h with h | h
 ·exact h
 ·rw [hi] at h;cases h
def aZ.rQ (s:aZ K H σ fs) {t:SL} (hr:iP K H a t) (hn:¬dI σ fs a) (i:Nat) (hi:t.inn=[]:=by rfl):aZ K H (σ.set i (ap (.ref a))) (fs.set i (ap t)):=s.NC hr (λc hc=>by rw [xx hi hc];exact hn) i
def cT.NC (s:aZ K H1 σ fs) (g:cT σ fs H σ fs H1) {t:SL} (hn:∀c,t.has a c->¬dI σ fs c) (h0:∀c,t.has a c->H c=bm) (i:Nat):cT σ fs H (σ.set i (ap (.ref a))) (fs.set i (ap t)) H1:=by
 refine⟨λb o e n=>⟨(g.keep b o e n).1,λz=>(zy z s.len).elim n λ⟨x,z,_,y⟩=>?_⟩,g.there,λb φ p=>?_⟩
 ·cases z;rw [h0 b y] at e;cases e
 ·obtain⟨j,e1,e2⟩:=p;obtain⟨vs,q,r⟩:=s.ownAt e1 rfl e2;refine (JG (t:=t) s ⟨j,e1,e2⟩ (λx z o y=>?_)).imp id λn=>⟨n,vs,q,r⟩;cases z;exact absurd ⟨j,_,_,e1,rfl,e2,.inl rfl⟩ (hn b y)
def cT.rQ (s:aZ K H1 σ fs) (g:cT σ fs H σ fs H1) {t:SL} (hn:¬dI σ fs a) (h0:H a=bm) (i:Nat) (hi:t.inn=[]:=by rfl):cT σ fs H (σ.set i (ap (.ref a))) (fs.set i (ap t)) H1:=cT.NC s g (λc hc=>by rw [xx hi hc];exact hn) (λc hc=>by rw [xx hi hc];exact h0) i
def pH (s:aZ K H σ fs) {t t':SL}{c:ci} (e1:fs[i]?=ap (ap t)) (o:t.own=true) (np:∀φ,t≠.kj φ) (e2:σ[i]?=ap (ap (.ref a))) (hc:t.has a c) (QB:t'.has a c) (uH:∀b,t'.has a b->t.has a b) (o':t'.own=true) (sx:oB c H H') (ht:bB K H H'->iP K H' a t'):aZ K H' σ (fs.set i (ap t'))/\cT σ fs H σ (fs.set i (ap t')) H':=by
 have oa:=s.ownAt e1 o e2;obtain⟨ob,q,n1,n2⟩:=oa.ex o hc;have tk:bB K H H':=⟨λb vs z=>sx b _ (λy=>by subst y;rw [q] at z;cases z;exact n1 _ rfl) z,λb o u z=>sx b _ (λy=>by subst y;rw [q] at z;cases z;exact n2 _ _ rfl) z⟩;have Yq:=ht tk;have hi:i < fs.length:=(Am.mp e1).1;have RS:∀b,dI σ (fs.set i (ap t')) b->dI σ fs b:=λb z=>by
  obtain⟨j,w,x,z1,z2,z3,z4⟩:=z;rcases bf z1 with⟨rfl,rfl⟩ | ⟨n,z1⟩
  ·rw [e2] at z3;cases z3;exact⟨j,t,a,e1,o,e2,uH b z4⟩
  ·exact⟨j,w,x,z1,z2,z3,z4⟩
 refine⟨⟨by simp [s.len],λj w e=>?_,λj k w x b1 b2 b z1 z2 o1 o2 q1 q2 y1 y2=>?_⟩,⟨λb ob e n=>⟨sx b ob (λz=>by subst z;exact n ⟨i,t,a,e1,o,e2,hc⟩) e,λz=>n (RS b z)⟩,λb e=>?_,λb φ p=>?_⟩⟩
 ·rcases bf e with⟨rfl,rfl⟩ | ⟨n,e⟩
  ·exact⟨_,e2,.inr ⟨a,rfl,Yq⟩⟩
  ·obtain⟨u,h1,h2⟩:=s.at' j w e;refine⟨u,h1,h2.mono tk (λx b ob eb ow hb z=>sx b ob (λy=>?_) z)⟩;subst y;subst eb;exact n (s.nd j i w t x a b e e1 ow o h1 e2 hb hc)
 ·have f:∀{j:Nat}{w:SL}{y:ci},(fs.set i (ap t'))[j]?=ap (ap w)->w.own=true->σ[j]?=ap (ap (.ref y))->w.has y b->∃w',fs[j]?=ap (ap w')/\w'.own=true/\w'.has y b:=λ{j w y} z ow qy hy=>by
   rcases bf z with⟨rfl,rfl⟩ | ⟨n,z⟩
   ·rw [e2] at qy;cases qy;exact⟨t,e1,o,uH b hy⟩
   ·exact⟨w,z,ow,hy⟩
  obtain⟨w',a1,a2,a3⟩:=f z1 o1 q1 y1;obtain⟨x',c1,c2,c3⟩:=f z2 o2 q2 y2;exact s.nd j k w' x' b1 b2 b a1 c1 a2 c2 q1 q2 a3 c3
 ·cases z:H b with
  | none=>rfl
  | some ob=>
   by_cases cc:b=c
   ·subst cc;obtain⟨o2,y,_⟩:=Yq.ex o' QB;rw [e] at y;cases y
   ·rw [sx b ob cc z] at e;cases e
 ·obtain⟨j,p1,p2⟩:=p;have ji:j≠i:=λz=>by subst z;rw [e1] at p1;cases p1;exact np φ rfl
  exact .inl ⟨j,by rw [aL ji];exact p1,p2⟩
def mJ (s:aZ K H σ fs) {t t':SL} (e1:fs[i]?=ap (ap t)) (o:t.own=true) (np:∀φ,t≠.kj φ) (e2:σ[i]?=ap (ap (.ref a))) (sx:oB a H H') (ht:bB K H H'->iP K H' a t') (hi:t'.inn=t.inn:=by rfl) (o':t'.own=true:=by rfl):aZ K H' σ (fs.set i (ap t'))/\cT σ fs H σ (fs.set i (ap t')) H':=
 pH s e1 o np e2 (.inl rfl) (.inl rfl) (λb h=>by unfold SL.has at h ⊢;rw [hi] at h;exact h) o' sx ht
end
end
end FL
open FL.W renaming bind→am,ret→bd,run_bind→bv,aj→ev,ag→f8,au→lm,ay→py,ext'→wv
local macro_rules | `($a\$b)=>`(am (bd $a) $b)
variable {u:L2.V}{b:BJ}{fs bP:FL.bF}{es:List BJ}{σ':L2.St}{wa wb wc:FL.W PL.PV}{wl:FL.W (List PL.PV)}
namespace FL
section
open PySem PySem.Spec PyProof.Rows L2 PL
variable {K:Ab}
def fE (K:Ab) (fs:bF) (w:W PV):TE:=λσ H Q=>aZ K H σ fs/\w.run λv=>∀u H',cU σ fs H H'->aZ K H' σ fs->VR K [] H' u v->Q u H'
def fT (K:Ab) (fs:bF) (w:W Bool):TT:=λσ H Q=>aZ K H σ fs/\w.run λb=>∀H',cU σ fs H H'->aZ K H' σ fs->Q b H'
def fO (K:Ab) (fs:bF) (w:W (Option Int)):TO:=λσ H Q=>aZ K H σ fs/\w.run λb=>∀H',cU σ fs H H'->aZ K H' σ fs->Q b H'
def fL (K:Ab) (fs:bF) (w:W (List PV)):TE:=λσ H Q=>aZ K H σ fs/\w.run λl=>∀a vs H',cU σ fs H H'->aZ K H' σ fs->H a=bm->H' a=ap (.lst vs)->aM K [] H' vs l->Q (.ref a) H'
def Ye (K:Ab) (H:Hp) (u:V) (l:List PV):Prop:=∃a vs,u=.ref a/\(Vf K H a vs\/H a=ap (.tup vs))/\aM K [] H vs l
def T4 (K:Ab) (σ:L2.St) (fs:bF) (H:Hp) (u:V) (l:List PV):Prop:=Ye K H u l\/∃a,u=.ref a/\((¬dI σ fs a/\∃vs,H a=ap (.lst vs)/\aM K [] H vs l)\/∃(i:Nat) (q:Option ci),fs[i]?=ap (ap (.ol q l))/\σ[i]?=ap (ap (.ref a)))
def fQ (K:Ab) (fs:bF) (w:W (List PV)):TE:=λσ H Q=>aZ K H σ fs/\w.run λl=>∀u H',cU σ fs H H'->aZ K H' σ fs->T4 K σ fs H' u l->Q u H'
def fI (K:Ab) (fs:bF) (w:W (List PV)):TE:=λσ H Q=>aZ K H σ fs/\w.run λl=>∀u H',cU σ fs H H'->aZ K H' σ fs->Ye K H' u l->Q u H'
inductive AK where
 | v | p (φ:List V->Prop) | f (a:ci)
inductive gn (K:Ab) (σ:L2.St) (fs:bF) (H:Hp):List V->List AK->List PV->Prop
 | nil:gn K σ fs H [] [] []
 | v {u:V}{x:PV}{vs:List V}{ks:List AK}{l:List PV} (r:VR K [] H u x) (t:gn K σ fs H vs ks l):gn K σ fs H (u::vs) (.v::ks) (x::l)
 | p {a:ci}{φ:List V->Prop}{vs:List V}{ks:List AK}{l:List PV} (r:eI σ fs φ a) (t:gn K σ fs H vs ks l):gn K σ fs H (.ref a::vs) (.p φ::ks) l
 | f {a:ci}{vs:List V}{ks:List AK}{l:List PV} (t:gn K σ fs H vs ks l):gn K σ fs H (.ref a::vs) (.f a::ks) l
def fA (K:Ab) (fs:bF) (ks:List AK) (w:W (List PV)):TA:=λσ H Q=>aZ K H σ fs/\w.run λl=>∀vs H',cU σ fs H H'->aZ K H' σ fs->gn K σ fs H' vs ks l->Q vs H'
structure EF (X:Cx) (K:Ab) (fs:bF) (e:gt) (w:W PV):Prop where p:PE X e (fE K fs w)
structure LF (X:Cx) (K:Ab) (fs:bF) (e:gt) (w:W (List PV)):Prop where p:PE X e (fL K fs w)
structure QF (X:Cx) (K:Ab) (fs:bF) (e:gt) (w:W (List PV)):Prop where p:PE X e (fQ K fs w)
structure IF (X:Cx) (K:Ab) (fs:bF) (e:gt) (w:W (List PV)):Prop where p:PE X e (fI K fs w)
structure TF (X:Cx) (K:Ab) (fs:bF) (e:gt) (w:W Bool):Prop where p:PT X e (fT K fs w)
structure uc (X:Cx) (K:Ab) (fs:bF) (e:gt) (w:W Bool):Prop where p:PW X e (fT K fs w)
structure OF (X:Cx) (K:Ab) (fs:bF) (e:Option gt) (w:W (Option Int)):Prop where p:L2.PO X e (fO K fs w)
structure AF (X:Cx) (K:Ab) (fs:bF) (es:List gt) (ks:List AK) {R:Type} (B:(List PV->W R)->W R):Prop where
 p:∃w:W (List PV),PA X es (fA K fs ks w)/\∀k,B k=am w k
section
def Ye.tk (t:bB K H H') (h:Ye K H u l):Ye K H' u l:=by
 obtain⟨a,vs,e,q,r⟩:=h;exact⟨a,vs,e,q.imp (t.f _ _) (t.t _ _),aM.tk t r⟩
def T4.go (h:T4 K σ fs H u l) (s:aZ K H σ fs) (g:cU σ fs H H'):T4 K σ fs H' u l:=by
 rcases h with h | ⟨a,e,⟨n,vs,q,r⟩ | q⟩
 ·exact .inl (h.tk (g.eJ s))
 ·exact .inr ⟨a,e,.inl ⟨n,vs,(g.pK q n),g.Mw s r⟩⟩
 ·exact .inr ⟨a,e,.inr q⟩
def T4.sq (h:T4 K σ fs H u l) (s:aZ K H σ fs):∃a vs,u=.ref a/\(di K H a vs\/dU K H a vs)/\aM K [] H vs l:=by
 rcases h with⟨a,vs,e,q,r⟩ | ⟨a,e,⟨n,vs,q,r⟩ | ⟨i,_,q1,q2⟩⟩
 ·exact⟨a,vs,e,q.elim (λq=>.inl q.sq) λq=>.inr (dU.of q),r⟩
 ·exact⟨a,vs,e,.inl (di.of q),r⟩
 ·obtain⟨_,vs,q,r⟩:=s.ownAt q1 rfl q2;exact⟨a,vs,e,.inl (di.of q),r⟩
end
section
variable {a c o:gt}{rest:List gt}{w:W PV}
def af (i:Nat) (hs:fs[i]?=ap (ap (.val v)):=by rfl) (hN:X.N[i]?=ap x:=by rfl) (hv:yr X.env.scope x:=by first | exact CH rfl | exact Ct (CH rfl) | exact Ct (Ct rfl)) (hd:jg x:=by decide) (iV:yK x:=by decide):EF X K fs (.Name x pos) (.ret v):=
 ⟨PE.imp (dr hN hv hd iV) λσ H Q ⟨sr,q⟩=>by
  obtain⟨u,e1,r⟩:=sr.at' i _ hs;rcases r with⟨w,e,r⟩ | ⟨a,_,r⟩
  ·cases e;exact⟨u,e1,q u H .refl sr r⟩
  ·exact r.elim⟩
def YG {v:V}{p:PV} (hv:∀H,VR K [] H v p) (h:PE X e (tC v)):EF X K fs e (.ret p):=⟨PE.imp h λσ H Q ⟨sr,q⟩=>q v H .refl sr (hv _)⟩
def ao {i j}:EF X K fs (.Constant (.int i) j pos) (.ret (.int i)):=YG (λ_=>.int i) Wj
def kD {b j}:EF X K fs (.Constant (.bool b) j pos) (.ret (.bl b)):=YG (λ_=>.bl b) Z0
def lE {j}:EF X K fs (.Constant .none j pos) (.ret .aO):=YG (λ_=>.aO) Wi
def c8 {x j}:EF X K fs (.Constant (.str x) j pos) (.ret (.str x)):=YG (λ_=>.str x) Wf
def xT {i:Int}{t:Tok} (hm:X.mg x=ap (.int i t)) (hg:Gl X x) (hd:jg x:=by decide):EF X K fs (.Name x pos) (.ret (.int i)):=YG (λ_=>.int i) (wM hg hm ⟨_,rfl⟩ hd)
def tI {i:Str}{t:Tok} (hm:X.mg x=ap (.str i t)) (hg:Gl X x) (hd:jg x:=by decide):EF X K fs (.Name x pos) (.ret (.str i)):=YG (λ_=>.str i) (wM hg hm ⟨_,rfl⟩ hd)
def of2 (m:M2) (x y:PV):W PV:=⟨λQ=>m.f x y [] λz h=>h=[]/\Q z,λf q=>m.mono (λ_ _ q=>⟨q.1,f _ q.2⟩) q⟩
def hr0 (H:Hp):HR K [] H []:=⟨Fq,rfl,λn a o e _=>by simp at e⟩
def pq0 {Q:VK}{z:PV}{h:PH} (sr:aZ K H σ fs) (q:h=[]/\∀u H',cU σ fs H H'->aZ K H' σ fs->VR K [] H' u z->Q u H'):pQ K [] H Q z h:=λι' v H' g r x=>by
 obtain⟨e,q⟩:=q;subst e;have:ι'=[]:=CA r.len;subst this;have sm:kF H H':=λa o z=>g.keep a o (by simp) z;exact q v H' (cU.same sm) (sr.same sm) x
def wV {r:R2}{m:M2} (hm:M2.Ok K r m) {Q:VK}{v:V}{x y:PV} (sr:aZ K H σ fs) (hu:VR K [] H u x) (hv:VR K [] H v y) (q:(of2 m x y).run λz=>∀u H',cU σ fs H H'->aZ K H' σ fs->VR K [] H' u z->Q u H'):r u v H Q:=
 hm (hr0 H) hu hv (m.mono (λz h q=>pq0 sr q) q)
def Ki {r:R2}{m:M2} (hm:M2.Ok K r m):∀σ H Q,fE K fs (.bind wa λx=>.bind wb λy=>of2 m x y) σ H Q->Uk r (fE K fs wa) (fE K fs wb) σ H Q:=λσ H Q ⟨sr,q⟩=>
 ⟨sr,wa.mono (λx q1 u1 H1 g1 s1 v1=>⟨s1,wb.mono (λy q2 u2 H2 g2 s2 v2=>wV hm s2 (g2.vr s1 v1) v2 ((of2 m x y).mono (λz q u3 H3 g3 s3 v3=>q u3 H3 ((g1.trans g2).trans g3) s3 v3) q2)) q1⟩) q⟩
def Pw {op:Operator}{r:R2}{m:M2} (ho:ir X (r9 op) r) (hm:M2.Ok K r m) (ha:EF X K fs a wa) (hb:EF X K fs b wb):EF X K fs (.BinOp a op b pos) (.bind wa λx=>.bind wb λy=>of2 m x y):=⟨PE.imp (JI ho ha.p hb.p) (Ki hm)⟩
def mw (ha:EF X K fs a wa) (hb:EF X K fs b wb):EF X K fs (.BinOp a .Sub b pos) (.bind wa λx=>.bind wb λy=>of2 nC x y):=Pw Wn (Gy λ_ _ _ _=>.int _) ha hb
def pN (ha:EF X K fs a wa) (hb:EF X K fs b wb):EF X K fs (.BinOp a .Mult b pos) (.bind wa λx=>.bind wb λy=>of2 oT x y):=Pw RX (yq λ_ _ _ _=>.int _) ha hb
def U6 (ha:EF X K fs a wa) (hb:EF X K fs b wb):EF X K fs (.BinOp a .FloorDiv b pos) (.bind wa λx=>.bind wb λy=>of2 oDiv x y):=Pw RY (yq λ_ _ _ _=>.int _) ha hb
def n9 (ha:EF X K fs a wa) (hb:EF X K fs b wb):EF X K fs (.BinOp a .Mod b pos) (.bind wa λx=>.bind wb λy=>of2 oMod x y):=Pw Wt (yq λ_ _ _ _=>.int _) ha hb
def F6 (ha:EF X K fs a wa) (hb:EF X K fs b wb):EF X K fs (.BinOp a .Pow b pos) (.bind wa λx=>.bind wb λy=>of2 uv x y):=Pw Wq (yq λ_ _ _ _=>.int _) ha hb
def kB:PV->W PV
 | .int i=>.ret (.int (-i))
 | _=>.fail
def gz (ha:EF X K fs a wa):EF X K fs (.UnaryOp .USub a pos) (.bind wa kB):=⟨PE.imp (ZW Vq ha.p) λσ H Q ⟨sr,q⟩=>⟨sr,wa.mono (λx q1 u1 H1 g1 s1 v1=>by
 cases v1 with
 | int i=>exact⟨_,rfl,q1 _ H1 g1 s1 (.int _)⟩
 | _=>exact q1.elim) q⟩⟩
def YK:PV->W Bool
 | .bl b=>.ret b
 | _=>.fail
def kq {m:M2} (hc:JC X K op b m) (ha:EF X K fs a wa) (hb:EF X K fs b wb):EF X K fs (.Compare a [op] [b] pos) (.bind wa λx=>.bind wb λy=>of2 m x y):=let ⟨_,h1,h2⟩:=hc.p;⟨PE.imp (qC h1 ha.p hb.p hc.k) (Ki h2)⟩
def S8 {w:W PV}:∀σ H Q,fT K fs (.bind w YK) σ H Q->(fE K fs w) σ H λx H'=>∃k,x=.bl k/\Q k H':=λσ H Q ⟨sr,q⟩=>⟨sr,w.mono (λx q1 u1 H1 g1 s1 v1=>by
 cases v1 with
 | bl b=>exact⟨b,rfl,q1 H1 g1 s1⟩
 | _=>exact q1.elim) q⟩
def dg {m:M2} (hc:JC X K op b m) (ha:EF X K fs a wa) (hb:EF X K fs b wb):TF X K fs (.Compare a [op] [b] pos) (.bind wa λx=>.bind wb λy=>.bind (of2 m x y) YK):=let ⟨_,h1,h2⟩:=hc.p
 ⟨PT.imp (qB h1 ha.p hb.p hc.k) λσ H Q q=>Ki h2 σ H _ (S8 (w:=.bind wa λx=>.bind wb λy=>of2 m x y) σ H Q q)⟩
def lF (z:PV) (w:W PV):W PV:=match z with
 | .bl true=>w
 | .bl false=>.ret (.bl false)
 | _=>.fail
def F2 {r:R2}{m m':M2} (hm:M2.Ok K r m) (hm':M2.Ok K r' m'):∀σ H Q,fE K fs (.bind wa λx=>.bind wb λy=>.bind (of2 m x y) λz=>lF z (.bind wc λw=>of2 m' y w)) σ H Q->G0 r r' (fE K fs wa) (fE K fs wb) (fE K fs wc) σ H Q:=λσ H Q ⟨sr,q⟩=>
 ⟨sr,wa.mono (λx q1 u1 H1 g1 s1 v1=>⟨s1,wb.mono (λy q2 u2 H2 g2 s2 v2=>wV hm s2 (g2.vr s1 v1) v2 ((of2 m x y).mono (λz q3 u3 H3 g3 s3 v3=>by
  have gg:=(g1.trans g2).trans g3;cases v3 with
  | bl k=>
   cases k with
   | true=>exact⟨true,rfl,by rw [if_pos rfl];exact⟨s3,wc.mono (λw q4 u4 H4 g4 s4 v4=>wV hm' s4 ((g3.trans g4).vr s2 v2) v4 ((of2 m' y w).mono (λz q u5 H5 g5 s5 v5=>q u5 H5 ((gg.trans g4).trans g5) s5 v5) q4)) q3⟩⟩
   | false=>exact⟨false,rfl,by rw [if_neg AW];exact q3 _ H3 gg s3 (.bl _)⟩
  | _=>exact q3.elim) q2)) q1⟩) q⟩
def Ti {m m':M2} (hc:JC X K op b m) (QB:JC X K MB c m') (ha:EF X K fs a wa) (hb:EF X K fs b wb) (hd:EF X K fs c wc) (hk:lastMarks [op,MB] [b,c]=false:=by with_unfolding_all rfl):EF X K fs (.Compare a [op,MB] [b,c] pos) (.bind wa λx=>.bind wb λy=>.bind (of2 m x y) λz=>lF z (.bind wc λw=>of2 m' y w)):=
 let ⟨_,h1,h2⟩:=hc.p;let ⟨_,h3,h4⟩:=QB.p;⟨PE.imp (NT h1 h3 ha.p hb.p hd.p hk) (F2 h2 h4)⟩
def Q3 {m m':M2} (hc:JC X K op b m) (QB:JC X K MB c m') (ha:EF X K fs a wa) (hb:EF X K fs b wb) (hd:EF X K fs c wc) (hk:lastMarks [op,MB] [b,c]=false:=by with_unfolding_all rfl):TF X K fs (.Compare a [op,MB] [b,c] pos) (.bind wa λx=>.bind wb λy=>.bind (of2 m x y) λz=>.bind (lF z (.bind wc λw=>of2 m' y w)) YK):=
 let ⟨_,h1,h2⟩:=hc.p;let ⟨_,h3,h4⟩:=QB.p;⟨PT.imp (NF h1 h3 ha.p hb.p hd.p hk) λσ H Q q=>F2 h2 h4 σ H _ (S8 (w:=.bind wa λx=>.bind wb λy=>.bind (of2 m x y) λz=>lF z (.bind wc λw=>of2 m' y w)) σ H Q q)⟩
def Gr (x:PV) (w:W PV):W PV:=match x with
 | .bl true=>w
 | .bl false=>.ret (.bl false)
 | _=>.fail
def orW (x:PV) (w:W PV):W PV:=match x with
 | .bl true=>.ret (.bl true)
 | .bl false=>w
 | _=>.fail
def WB:PV->W PV
 | .bl b=>.ret (.bl (!b))
 | _=>.fail
def tJ (ha:EF X K fs a wa) (hb:EF X K fs (.BoolOp .And (b::rest) pos) wb):EF X K fs (.BoolOp .And (a::b::rest) pos) (.bind wa λx=>Gr x wb):=⟨PE.imp (Wl ha.p hb.p) λσ H Q ⟨sr,q⟩=>⟨sr,wa.mono (λx q1 u1 H1 g1 s1 v1=>by
 cases v1 with
 | bl k=>
  cases k with
  | true=>exact⟨true,rfl,by rw [if_pos rfl];exact⟨s1,wb.mono (λ_ q u H' g s v=>q u H' (g1.trans g) s v) q1⟩⟩
  | false=>exact⟨false,rfl,by rw [if_neg AW];exact q1 _ H1 g1 s1 (.bl _)⟩
 | _=>exact q1.elim) q⟩⟩
def abt (ha:EF X K fs a wa) (hb:EF X K fs (.BoolOp .Or (b::rest) pos) wb):EF X K fs (.BoolOp .Or (a::b::rest) pos) (.bind wa λx=>orW x wb):=⟨PE.imp (ZX ha.p hb.p) λσ H Q ⟨sr,q⟩=>⟨sr,wa.mono (λx q1 u1 H1 g1 s1 v1=>by
 cases v1 with
 | bl k=>
  cases k with
  | true=>exact⟨true,rfl,by rw [if_pos rfl];exact q1 _ H1 g1 s1 (.bl _)⟩
  | false=>exact⟨false,rfl,by rw [if_neg AW];exact⟨s1,wb.mono (λ_ q u H' g s v=>q u H' (g1.trans g) s v) q1⟩⟩
 | _=>exact q1.elim) q⟩⟩
def pM {op} (h:EF X K fs a wa):EF X K fs (.BoolOp op [a] pos) wa:=⟨Wg h.p⟩
def abu (ha:EF X K fs a wa):EF X K fs (.UnaryOp .Not a pos) (.bind wa WB):=⟨PE.imp (Wh ha.p) λσ H Q ⟨sr,q⟩=>⟨sr,wa.mono (λx q1 u1 H1 g1 s1 v1=>by
 cases v1 with
 | bl k=>exact⟨_,rfl,q1 _ H1 g1 s1 (.bl _)⟩
 | _=>exact q1.elim) q⟩⟩
variable {ta tb tc:W Bool}
def iC (h:TF X K fs a ta):uc X K fs (.BoolOp .And [a] pos) ta:=⟨Ry h.p⟩
def oG (h:TF X K fs a ta):uc X K fs (.BoolOp .Or [a] pos) ta:=⟨V4 h.p⟩
def kM (ha:TF X K fs a ta) (hb:uc X K fs (.BoolOp .And (b::rest) pos) tb):uc X K fs (.BoolOp .And (a::b::rest) pos) (.bind ta λk=>if k=true then tb else .ret false):=⟨PW.imp (V5 ha.p hb.p) λσ H Q ⟨sr,q⟩=>⟨sr,ta.mono (λk q1 H1 g1 s1=>by
 cases k with
 | true=>exact uD ⟨s1,tb.mono (λ_ q H' g s=>q H' (g1.trans g) s) q1⟩
 | false=>exact uE (q1 H1 g1 s1)) q⟩⟩
def uZ (ha:TF X K fs a ta) (hb:uc X K fs (.BoolOp .Or (b::rest) pos) tb):uc X K fs (.BoolOp .Or (a::b::rest) pos) (.bind ta λk=>if k=true then .ret true else tb):=⟨PW.imp (ZT ha.p hb.p) λσ H Q ⟨sr,q⟩=>⟨sr,ta.mono (λk q1 H1 g1 s1=>by
 cases k with
 | true=>exact uD (q1 H1 g1 s1)
 | false=>exact uE ⟨s1,tb.mono (λ_ q H' g s=>q H' (g1.trans g) s) q1⟩) q⟩⟩
def uc.t (h:uc X K fs a ta):TF X K fs a ta:=⟨PW.pt h.p⟩
def kN (ha:TF X K fs a ta):TF X K fs (.UnaryOp .Not a pos) (.bind ta λk=>.ret (!k)):=⟨PT.imp (V7 ha.p) λσ H Q ⟨sr,q⟩=>⟨sr,q⟩⟩
def L1 (hc:TF X K fs c tc) (ha:EF X K fs a wa) (hb:EF X K fs b wb):EF X K fs (.IfExp c a b pos) (.bind tc λk=>if k=true then wa else wb):=⟨PE.imp (zp hc.p ha.p hb.p) λσ H Q ⟨sr,q⟩=>⟨sr,tc.mono (λk q1 H1 g1 s1=>by
 cases k with
 | true=>exact uD ⟨s1,wa.mono (λ_ q u H' g s v=>q u H' (g1.trans g) s v) q1⟩
 | false=>exact uE ⟨s1,wb.mono (λ_ q u H' g s v=>q u H' (g1.trans g) s v) q1⟩) q⟩⟩
def aaq {la lb:W (List PV)} (hc:TF X K fs c tc) (ha:LF X K fs a la) (hb:LF X K fs b lb):LF X K fs (.IfExp c a b pos) (.bind tc λk=>if k=true then la else lb):=⟨PE.imp (zp hc.p ha.p hb.p) λσ H Q ⟨sr,q⟩=>⟨sr,tc.mono (λk q1 H1 g1 s1=>by
 cases k with
 | true=>exact uD ⟨s1,la.mono (λ_ q a vs H' g s n e v=>q a vs H' (g1.trans g) s (g1.there a n) e v) q1⟩
 | false=>exact uE ⟨s1,lb.mono (λ_ q a vs H' g s n e v=>q a vs H' (g1.trans g) s (g1.there a n) e v) q1⟩) q⟩⟩
def dj:PV->W Bool
 | .aO=>.ret false
 | .bl b=>.ret b
 | .int i=>.ret (i != 0)
 | .str y=>.fg (y.length<=sizeLine) (.ret ((y.length:Int) != 0))
 | .tup l=>.ret (!l.isEmpty)
 | .cl l=>.ret (!l.isEmpty)
 | _=>.fail
def cP (hK:X.K=K) (ha:EF X K fs a wa) (he:∀Æ,isTrue a X.env Æ=(do let v <- Æ;FB a.pos;re [v] (truthy v))):TF X K fs a (.bind wa dj):=⟨PT.imp (vg K hK ha.p he) λσ H Q ⟨sr,q⟩=>⟨sr,wa.mono (λx q1 u1 H1 g1 s1 v1=>by
 cases v1 with
 | aO=>exact⟨false,rfl,q1 H1 g1 s1⟩
 | bl b=>exact⟨b,rfl,q1 H1 g1 s1⟩
 | int i=>exact⟨_,rfl,q1 H1 g1 s1⟩
 | str y=>exact⟨_,⟨q1.1,rfl⟩,q1.2 H1 g1 s1⟩
 | ty _=>exact q1.elim
 | dk _ _ _=>exact q1.elim
 | dt _ _ _=>exact q1.elim
 | ref _=>exact q1.elim
 | @tup p vs l e rs=>
  refine⟨!vs.isEmpty,.inr (.inl ⟨_,dU.of e,rfl⟩),?_⟩;rw [<- lh rs];exact q1 H1 g1 s1
 | @cl p vs l e rs=>
  refine⟨!vs.isEmpty,.inl ⟨_,e.sq,rfl⟩,?_⟩;rw [<- lh rs];exact q1 H1 g1 s1) q⟩⟩
def Ui (hK:X.K=K) (ha:QF X K fs a wl) (he:∀Æ,isTrue a X.env Æ=(do let v <- Æ;FB a.pos;re [v] (truthy v))):TF X K fs a (.bind wl λl=>.ret (!l.isEmpty)):=⟨PT.imp (vg K hK ha.p he) λσ H Q ⟨sr,q⟩=>⟨sr,wl.mono (λl q1 u1 H1 g1 s1 v1=>by
 obtain⟨b,vs,rfl,h,rs⟩:=v1.sq s1;refine⟨!vs.isEmpty,?_,?_⟩
 ·exact h.elim (λh=>.inl ⟨_,h,rfl⟩) λh=>.inr (.inl ⟨_,h,rfl⟩)
 ·rw [<- lh rs];exact q1 H1 g1 s1) q⟩⟩
variable {R:Type}{ks:List AK}{B:(List PV->W R)->W R}
def ak:AF X K fs [] [] (R:=R) (λk=>k []):=⟨.ret [],PA.imp cX λσ H Q ⟨sr,q⟩=>q [] H .refl sr .nil,λk=>rfl⟩
def ae (ha:EF X K fs e w) (hr:AF X K fs es ks B) (hs:iB X e es:=by rfl):AF X K fs (e::es) (.v::ks) (λk=>.bind w λx=>B λl=>k (x::l)):=by
 obtain⟨wr,hp,hB⟩:=hr.p;refine⟨.bind w λx=>.bind wr λl=>.ret (x::l),PA.imp (bz ha.p hp hs) λσ H Q ⟨sr,q⟩=>?_,λk=>?_⟩
 ·exact⟨sr,w.mono (λx q1 u1 H1 g1 s1 v1=>⟨s1,wr.mono (λl q2 vs H2 g2 s2 v2=>q2 _ H2 (g1.trans g2) s2 (.v (g2.vr s1 v1) v2)) q1⟩) q⟩
 ·have:(λx=>B λl=>k (x::l))=λx=>am wr λl=>k (x::l):=funext λx=>hB _;rw [this];rfl
def bt (i:Nat) (hr:AF X K fs es ks B) (hs:fs[i]?=ap (ap (.kj φ)):=by rfl) (hN:X.N[i]?=ap x:=by rfl) (hv:yr X.env.scope x:=by first | exact CH rfl | exact Ct (CH rfl) | exact Ct (Ct rfl)) (hd:jg x:=by decide) (iV:yK x:=by decide)
  (xr:ga (.Name x pos::es) X.env=(false,kw (.Name x pos) X.env)::ga es X.env:=by rfl):AF X K fs (.Name x pos::es) (.p φ::ks) B:=by
 obtain⟨wr,hp,hB⟩:=hr.p;refine⟨wr,PA.imp (bz (dr hN hv hd iV) hp xr) λσ H Q ⟨sr,q⟩=>?_,hB⟩;obtain⟨u,e1,r⟩:=sr.at' i _ hs;rcases r with⟨v,e,_⟩ | ⟨a,e,r⟩
 ·cases e
 ·subst e;exact⟨_,e1,sr,wr.mono (λl q2 vs H2 g2 s2 v2=>q2 _ H2 g2 s2 (.p ⟨i,hs,e1⟩ v2)) q⟩
theorem gn.Mw:∀{vs:List V}{n:Nat}{l:List PV},gn K σ fs H vs (Al n .v) l->aM K [] H vs l/\l.length=n
 | _,0,_,.nil=>⟨.nil,rfl⟩
 | _,n+1,_,.v r t=>⟨.cons r (gn.Mw t).1,by rw [An,(gn.Mw t).2]⟩
def abq {x1}{B:(List PV->W PV)->W PV} (h:AF X K fs es (Al n .v) B) (hn:n<=1000:=by decide):EF X K fs (.Tuple es x1 pos) (B λl=>.ret (.tup l)):=by
 obtain⟨w,hp,hB⟩:=h.p;rw [hB];refine⟨PE.imp (RK hp) λσ H Q ⟨sr,q⟩=>⟨sr,w.mono (λl q1 vs H1 g1 s1 v1=>?_) q⟩⟩;obtain⟨v2,hl⟩:=v1.Mw;refine⟨by rw [v2.length,hl];exact aY hn,λp H2 s2 e2 n2=>?_⟩;exact q1 _ H2 (g1.trans (cU.same s2)) (s1.same s2) (.tup e2 (aM.tk s2.eO v2))
def UG {B:(List PV->W (List PV))->W (List PV)} (h:AF X K fs es (Al n .v) B) (hn:n<=1000:=by decide):LF X K fs (.List es pos) (B λl=>.ret l):=by
 obtain⟨w,hp,hB⟩:=h.p;rw [hB];refine⟨PE.imp (JJ hp) λσ H Q ⟨sr,q⟩=>⟨sr,w.mono (λl q1 vs H1 g1 s1 v1=>?_) q⟩⟩;obtain⟨v2,hl⟩:=v1.Mw;refine⟨by rw [v2.length,hl];exact aY hn,λp H2 s2 e2 n2=>?_⟩;exact q1 _ _ H2 (g1.trans (cU.same s2)) (s1.same s2) (g1.there p n2) e2 (aM.tk s2.eO v2)
end
end
end FL
namespace L2
open PySem PySem.Spec PyProof.Rows
def Inv.qO {σ:St} (I:Inv X Z σ H s) (e:H a=ap (.lst vs)):∃o,Inv X Z σ (upd H a (.cM o (.lst vs))) s:=by
 obtain⟨z,aw,n,r,h1⟩:=(show bx X.prog X.w H s.heap a (.lst vs) from I.bH a _ e);exact⟨_,I.write (x:=a) (e:=a) (o:=.cM _ (.lst vs)) (h':=s.heap) (t':=s.toks) (by rw [e];exact BU) (.inl rfl) (λb u _ z=>z) ⟨_,h1⟩ ⟨h1,z,aw,n,r,h1⟩⟩
def vA (ok:lX P w H h) (e:H a=ap (.cM o (.lst vs))):lX P w (upd H a (.lst vs)) h:=λb u q=>by
 have ne:∀c v,H c=ap v->v≠.cM o (.lst vs)->upd H a (.lst vs) c=ap v:=λc v z n=>by
  rw [aA (λy=>by subst y;rw [e] at z;cases z;exact n rfl)];exact z
 by_cases hb:b=a
 ·subst hb;rw [aP] at q;cases q;exact bx.wu (ok b _ e).2 (λ_ _ _ z=>z) (λc z=>ne c _ z (by simp)) λc xs z=>ne c _ z (by simp)
 ·rw [aA hb] at q;exact bx.wu (ok b _ q) (λ_ _ _ z=>z) (λc z=>ne c _ z (by simp)) λc xs z=>ne c _ z (by simp)
end L2
variable {o:BJ}{m:PL.yL}{ks:List FL.AK}{B:(List PL.PV->FL.W PL.PV)->FL.W PL.PV}{wm:FL.W (List PL.PV)}{q0:Option BK}
namespace FL
section
open PySem PySem.Spec PyProof.Rows L2 PL
variable {K:Ab}
section
def lK (o':HO) (e:H a=ap (.lst vs)):bB K H (upd H a o'):=⟨λb ws q=>by rw [aA (JS q e (by intro z;cases z))];exact q,λb o u q=>by rw [aA (JS q e (by intro z;cases z))];exact q⟩
def aZ.side (s:aZ K H σ fs) (n:¬dI σ fs a) (e:H a=ap (.lst vs)) (o':HO):aZ K (upd H a o') σ fs:=⟨s.len,λi t q=>by
 obtain⟨u,h1,h2⟩:=s.at' i t q;exact⟨u,h1,h2.mono (lK o' e) (λx b o eb ow hb z=>by subst eb;rw [aA (λy:b=a=>n ⟨i,t,x,q,ow,h1,y▸hb⟩)];exact z)⟩,s.nd⟩
def cU.side (g:cU σ fs H H1) (h0:H a=bm) (o':HO):cU σ fs H (upd H1 a o'):=⟨λb o e n=>by rw [aA (bN e h0)];exact g.keep b o e n,λb e=>by
 by_cases c:b=a
 ·subst c;exact h0
 ·rw [aA c] at e;exact g.there b e⟩
end
section
variable {a:gt}{w:W PV}
def jJ (h:LF X K fs e wl):EF X K fs e (.bind wl λl=>.ret (.cl l)):=⟨λZ s σ H Q I ⟨sr,q⟩=>by
 refine bC (h.p Z s σ H (λu H1=>∃a vs l,u=.ref a/\cU σ fs H H1/\aZ K H1 σ fs/\H a=bm/\H1 a=ap (.lst vs)/\aM K [] H1 vs l/\∀u H',cU σ fs H H'->aZ K H' σ fs->VR K [] H' u (.cl l)->Q u H') I ⟨sr,wl.mono (λl q1 a vs H1 g1 s1 n e v=>⟨a,vs,l,rfl,g1,s1,n,e,v,q1⟩) q⟩) λu s1 ⟨v,H1,I1,r1,a,vs,l,e,g1,Rn,n,ea,vr,q1⟩=>?_;subst e;obtain⟨ob,I2⟩:=I1.qO ea;exact⟨.ref a,_,I2,r1,q1 _ _ (g1.side n _) (Rn.side (λz=>sr.noOwn n z) ea _) (.cl (.inl ⟨ob,aP⟩) (aM.tk (lK _ ea) vr))⟩⟩
def az:PV->W (List PV)
 | .tup l=>.ret l
 | .cl l=>.ret l
 | _=>.fail
def bV (h:EF X K fs e w):IF X K fs e (.bind w az):=⟨PE.imp h.p λσ H Q ⟨sr,q⟩=>⟨sr,w.mono (λx q1 u1 H1 g1 s1 v1=>by
 cases v1 with
 | tup e r=>exact q1 _ H1 g1 s1 ⟨_,_,rfl,.inr e,r⟩
 | cl e r=>exact q1 _ H1 g1 s1 ⟨_,_,rfl,.inl e,r⟩
 | _=>exact q1.elim) q⟩⟩
def nT (h:LF X K fs e wl):IF X K fs e wl:=bV (jJ h)
theorem IF.q (h:IF X K fs e wl):QF X K fs e wl:=⟨PE.imp h.p λσ H Q ⟨sr,q⟩=>⟨sr,wl.mono (λl q1 u1 H1 g1 s1 v1=>q1 u1 H1 g1 s1 (.inl v1)) q⟩⟩
def ax (h:EF X K fs e w):QF X K fs e (.bind w az):=(bV h).q
def gW (h:LF X K fs e wl):QF X K fs e wl:=⟨PE.imp h.p λσ H Q ⟨sr,q⟩=>⟨sr,wl.mono (λl q1 a vs H1 g1 s1 n e v=>q1 _ H1 g1 s1 (.inr ⟨a,rfl,.inl ⟨sr.noOwn n,vs,e,v⟩⟩)) q⟩⟩
def cn (i:Nat) (hs:fs[i]?=ap (ap (.ol q0 l)):=by rfl) (hN:X.N[i]?=ap x:=by rfl) (hv:yr X.env.scope x:=by first | exact CH rfl | exact Ct (CH rfl) | exact Ct (Ct rfl)) (hd:jg x:=by decide) (iV:yK x:=by decide):QF X K fs (.Name x pos) (.ret l):=
 ⟨PE.imp (dr hN hv hd iV) λσ H Q ⟨sr,q⟩=>by
  obtain⟨u,e1,r⟩:=sr.at' i _ hs;rcases r with⟨w,e,r⟩ | ⟨a,e,r⟩
  ·cases e
  ·subst e;exact⟨_,e1,q _ H .refl sr (.inr ⟨a,rfl,.inr ⟨i,q0,hs,e1⟩⟩)⟩⟩
def MD (l:List PV):PV->W PV
 | .int i=>.N3 (bX l i)
 | _=>.fail
def aH (hK:X.K=K) (ha:QF X K fs a wl) (hb:EF X K fs b wb) (hs:qX b:=by exact λ_ _=>rfl):EF X K fs (.Subscript a b pos) (.bind wl λl=>.bind wb λy=>MD l y):=⟨PE.imp (NR (J0 K hK) ha.p hb.p hs) λσ H Q ⟨sr,q⟩=>⟨sr,wl.mono (λl q1 u1 H1 g1 s1 v1=>⟨s1,wb.mono (λy q2 u2 H2 g2 s2 v2=>by
 cases v2 with
 | int i=>
  have q2:(W.N3 (bX l i)).run _:=q2;cases z:bX l i with
  | none=>rw [z] at q2;exact q2.elim
  | some x=>
   rw [z] at q2;obtain⟨ad,vs,rfl,h,rs⟩:=(v1.go s1 g2).sq s2;obtain⟨v,e1,e2⟩:=aM.bX rs z;have q3:=q2 v H2 (g1.trans g2) s2 e2;exact h.elim (λh=>.inl ⟨ad,vs,i,v,rfl,rfl,h,e1,q3⟩) λh=>.inr (.inl ⟨ad,vs,i,v,rfl,rfl,h,e1,q3⟩)
 | _=>exact q2.elim) q1⟩) q⟩⟩
def abz (ha:EF X K fs a wa) (hb:EF X K fs b wb) (hs:qX b):EF X K fs (.Subscript a b pos) (.bind wa λx=>.bind wb λy=>of2 N5 x y):=⟨PE.imp (NR OB ha.p hb.p hs) (Ki R8)⟩
def qa (m:yL) (l:List PV):W PV:=⟨λQ=>m.f l [] λz h=>h=[]/\Q z,λf q=>m.mono (λ_ _ q=>⟨q.1,f _ q.2⟩) q⟩
section
variable {id:String}{r:List V->Hp->VK->Prop}
def N4 (hm:yL.Ok K r m) {Q:VK}{us:List V} (sr:aZ K H σ fs) (hu:aM K [] H us l) (q:(qa m l).run λz=>∀u H',cU σ fs H H'->aZ K H' σ fs->VR K [] H' u z->Q u H'):r us H Q:=hm (hr0 H) hu (m.mono (λz h q=>pq0 sr q) q)
def qV (hc:bR X (.builtin id) r) (hB:yL.Ok K r m) (hg:Gl X x) (hm:X.mg x=bm) (hv:nn x=ap (.builtin id)) (ha:AF X K fs (e::es) (Al n .v) B) (hn:x≠"__name__":=by decide) (ma:jg x:=by decide)
  (he:iB X e es:=by rfl) (dJ:lH X pos es:=by rfl):EF X K fs (.Call (.Name x p) (e::es) [] pos) (B (qa m)):=by
 obtain⟨w,hp,ĸ⟩:=ha.p;rw [ĸ];exact⟨PE.imp (fZ hc hg hm hv hp hn ma he dJ) λσ H Q ⟨sr,q⟩=>⟨sr,w.mono (λl q1 vs H1 g1 s1 v1=>N4 hB s1 v1.Mw.1 ((qa m l).mono (λz q u H' g s v=>q u H' (g1.trans g) s v) q1)) q⟩⟩
def PM (hc:bR X (.type id) r) (hB:yL.Ok K r m) (hg:Gl X x) (hm:X.mg x=bm) (hv:nn x=ap (.type id)) (ha:AF X K fs (e::es) (Al n .v) B) (hn:x≠"__name__":=by decide) (ma:jg x:=by decide)
  (he:iB X e es:=by rfl) (dJ:lH X pos es:=by rfl):EF X K fs (.Call (.Name x p) (e::es) [] pos) (B (qa m)):=by
 obtain⟨w,hp,ĸ⟩:=ha.p;rw [ĸ];exact⟨PE.imp (jq hc hg hm hv hp hn ma he dJ) λσ H Q ⟨sr,q⟩=>⟨sr,w.mono (λl q1 vs H1 g1 s1 v1=>N4 hB s1 v1.Mw.1 ((qa m l).mono (λz q u H' g s v=>q u H' (g1.trans g) s v) q1)) q⟩⟩
def CQ (K:Ab) (r:List V->Hp->VK->Prop) (m:List PV->W PV):Prop:=∀{fs:bF}{σ:L2.St}{H:Hp}{Q:VK}{u:V}{l:List PV},aZ K H σ fs->T4 K σ fs H u l->((m l).run λz=>∀u H',cU σ fs H H'->aZ K H' σ fs->VR K [] H' u z->Q u H')->r [u] H Q
def CL (K:Ab) (r:List V->Hp->VK->Prop) (m:List PV->W (List PV)):Prop:=∀{fs:bF}{σ:L2.St}{H:Hp}{Q:VK}{u:V}{l:List PV},aZ K H σ fs->T4 K σ fs H u l->((m l).run λz=>∀a vs H',cU σ fs H H'->aZ K H' σ fs->H a=bm->H' a=ap (.lst vs)->aM K [] H' vs z->Q (.ref a) H')->r [u] H Q
def PN {m:List PV->W PV} (hc:bR X (.builtin id) r) (hB:CQ K r m) (hg:Gl X x) (hm:X.mg x=bm) (hv:nn x=ap (.builtin id)) (ha:QF X K fs e wl) (hn:x≠"__name__":=by decide) (ma:jg x:=by decide)
  (he:iB X e []:=by rfl) (dJ:lH X pos []:=by rfl):EF X K fs (.Call (.Name x p) [e] [] pos) (.bind wl m):=⟨PE.imp (fZ hc hg hm hv (bz ha.p cX he) hn ma he dJ) λσ H Q ⟨sr,q⟩=>⟨sr,wl.mono (λl q1 u H1 g1 s1 v1=>hB s1 v1 ((m l).mono (λz q u H' g s v=>q u H' (g1.trans g) s v) q1)) q⟩⟩
def L4 {m:List PV->W PV} (hc:bR X (.type id) r) (hB:CQ K r m) (hg:Gl X x) (hm:X.mg x=bm) (hv:nn x=ap (.type id)) (ha:QF X K fs e wl) (hn:x≠"__name__":=by decide) (ma:jg x:=by decide)
  (he:iB X e []:=by rfl) (dJ:lH X pos []:=by rfl):EF X K fs (.Call (.Name x p) [e] [] pos) (.bind wl m):=⟨PE.imp (jq hc hg hm hv (bz ha.p cX he) hn ma he dJ) λσ H Q ⟨sr,q⟩=>⟨sr,wl.mono (λl q1 u H1 g1 s1 v1=>hB s1 v1 ((m l).mono (λz q u H' g s v=>q u H' (g1.trans g) s v) q1)) q⟩⟩
def acm {m:List PV->W (List PV)} (hc:bR X (.builtin id) r) (hB:CL K r m) (hg:Gl X x) (hm:X.mg x=bm) (hv:nn x=ap (.builtin id)) (ha:QF X K fs e wl) (hn:x≠"__name__":=by decide) (ma:jg x:=by decide)
  (he:iB X e []:=by rfl) (dJ:lH X pos []:=by rfl):LF X K fs (.Call (.Name x p) [e] [] pos) (.bind wl m):=⟨PE.imp (fZ hc hg hm hv (bz ha.p cX he) hn ma he dJ) λσ H Q ⟨sr,q⟩=>⟨sr,wl.mono (λl q1 u H1 g1 s1 v1=>hB s1 v1 ((m l).mono (λz q a vs H' g s n e v=>q a vs H' (g1.trans g) s (g1.there a n) e v) q1)) q⟩⟩
def Ot {m:List PV->W (List PV)} (hc:bR X (.type id) r) (hB:CL K r m) (hg:Gl X x) (hm:X.mg x=bm) (hv:nn x=ap (.type id)) (ha:QF X K fs e wl) (hn:x≠"__name__":=by decide) (ma:jg x:=by decide)
  (he:iB X e []:=by rfl) (dJ:lH X pos []:=by rfl):LF X K fs (.Call (.Name x p) [e] [] pos) (.bind wl m):=⟨PE.imp (jq hc hg hm hv (bz ha.p cX he) hn ma he dJ) λσ H Q ⟨sr,q⟩=>⟨sr,wl.mono (λl q1 u H1 g1 s1 v1=>hB s1 v1 ((m l).mono (λz q a vs H' g s n e v=>q a vs H' (g1.trans g) s (g1.there a n) e v) q1)) q⟩⟩
end
def qe (l:List PV):W PV:=.ret (.int l.length)
def Sn (K:Ab):CQ K (VX K) qe:=λ{fs σ H Q u l} s v q=>by
 obtain⟨a,vs,rfl,h,rs⟩:=v.sq s;refine⟨_,vs.length,rfl,?_,?_⟩
 ·exact h.elim (λh=>.inl ⟨_,h,rfl⟩) λh=>.inr ⟨_,h,rfl⟩
 ·rw [rs.length];exact q _ H .refl s (.int _)
def oH (l:List PV):W PV:=.ret (.tup l)
def QY (K:Ab):CQ K (Nw K) oH:=λ{fs σ H Q u l} s v q=>by
 have fresh:∀{a:ci}{vs:List V},di K H a vs->aM K [] H vs l->Nw K [.ref a] H Q:=λ{a vs} h rs=>⟨a,vs,rfl,.inl ⟨h,λp H2 s2 e2 n2=>q _ H2 (cU.same s2) (s.same s2) (.tup e2 (aM.tk s2.eO rs))⟩⟩;rcases v with⟨a,vs,rfl,h | h,rs⟩ | ⟨a,rfl,⟨n,vs,h,rs⟩ | ⟨i,_,q1,q2⟩⟩
 ·exact fresh h.sq rs
 ·exact⟨a,vs,rfl,.inr ⟨dU.of h,q _ H .refl s (.tup h rs)⟩⟩
 ·exact fresh (di.of h) rs
 ·obtain⟨_,vs,h,rs⟩:=s.ownAt q1 rfl q2;exact fresh (di.of h) rs
end
end
end FL
variable {R:Type}{m:List PL.PV->FL.W PL.PV}
namespace FL
section
open PySem PySem.Spec PyProof.Rows L2 PL
variable {K:Ab}
def yC (vs:List V) (ks:List AK) (φ:List V->Prop) (a:ci):Prop:=∃i:Nat,ks[i]?=ap (.p φ)/\vs[i]?=ap (.ref a)
structure GoC (vs:List V) (ks:List AK) (H H':Hp):Prop where
 keep:∀a o,H a=ap o->(∀φ,¬yC vs ks φ a)->H' a=ap o
 there:∀a,H' a=bm->H a=bm
 V9:∀a φ,yC vs ks φ a->∃ws,H' a=ap (.lst ws)/\φ ws
inductive jh (K:Ab) (H:Hp):List V->List AK->List PV->Prop
 | nil:jh K H [] [] []
 | v {u:V}{x:PV}{vs:List V}{ks:List AK}{l:List PV} (r:VR K [] H u x) (t:jh K H vs ks l):jh K H (u::vs) (.v::ks) (x::l)
 | p {a:ci}{φ:List V->Prop}{ws vs:List V}{ks:List AK}{l:List PV} (e:H a=ap (.lst ws)) (r:φ ws) (t:jh K H vs ks l):jh K H (.ref a::vs) (.p φ::ks) l
 | f {a:ci}{vs:List V}{ks:List AK}{l:List PV} (t:jh K H vs ks l):jh K H (.ref a::vs) (.f a::ks) l
def fJ (K:Ab) (ks:List AK) (m:List PV->W PV):Sp:=λvs H Q _=>∃l,jh K H vs ks l/\(m l).run λv=>∀u H',GoC vs ks H H'->VR K [] H' u v->Q u H'
def eK (K:Ab) (ks:List AK) (m:List PV->W (List PV)):Sp:=λvs H Q _=>∃l,jh K H vs ks l/\(m l).run λz=>∀a ws H',GoC vs ks H H'->H a=bm->H' a=ap (.lst ws)->aM K [] H' ws z->Q (.ref a) H'
def QI (R:Type):Nat->Type
 | 0=>W R
 | n+1=>PV->QI R n
def cy:(n:Nat)->QI R n->List PV->W R
 | 0,m,[]=>m
 | n+1,m,x::l=>cy n (m x) l
 | 0,_,_::_=>.fail
 | _+1,_,[]=>.fail
section
def gn.kj (h:gn K σ fs H vs ks l) (p:yC vs ks φ a):eI σ fs φ a:=by
 obtain⟨i,e1,e2⟩:=p
 induction h generalizing i with
 | nil=>simp at e1
 | v r t ih=>cases i with | zero=>simp at e1 | succ i=>exact ih i (by simpa using e1) (by simpa using e2)
 | p r t ih=>
  cases i with
  | zero=>simp at e1 e2;subst e1;subst e2;exact r
  | succ i=>exact ih i (by simpa using e1) (by simpa using e2)
 | f t ih=>cases i with | zero=>simp at e1 | succ i=>exact ih i (by simpa using e1) (by simpa using e2)
def gn.c (h:gn K σ fs H vs ks l) (s:aZ K H σ fs):jh K H vs ks l:=by
 induction h with
 | nil=>exact .nil
 | v r t ih=>exact .v r ih
 | p r t ih=>
  obtain⟨i,e1,e2⟩:=r;obtain⟨ws,q,x⟩:=s.ownAt e1 rfl e2;exact .p q x ih
 | f t ih=>exact .f ih
def GoC.caller (g:GoC vs ks H H') (h:gn K σ fs H vs ks l) (s:aZ K H σ fs):aZ K H' σ fs/\cU σ fs H H':=by
 have gf:cU σ fs H H':=⟨λa o e n=>g.keep a o e λφ p=>n φ (h.kj p),g.there⟩;have tk:=gf.eJ s;refine⟨⟨s.len,λi t e=>?_,s.nd⟩,gf⟩;obtain⟨u,h1,h2⟩:=s.at' i t e;refine⟨u,h1,?_⟩;rcases h2 with⟨v,q,r⟩ | ⟨a,q,r⟩
 ·exact .inl ⟨v,q,VR.tk tk r⟩
 ·subst q;refine .inr ⟨a,rfl,?_⟩;by_cases c:(∃φ,yC vs ks φ a)/\t.own=true
  ·obtain⟨⟨φ,p⟩,ow⟩:=c;obtain⟨j,e1,e2⟩:=h.kj p;have ij:=s.nd i j t _ a a a e e1 ow rfl h1 e2 (.inl rfl) (.inl rfl);subst ij;rw [e] at e1;cases e1;exact g.V9 a φ p
  ·refine r.mono tk (λb o ow hb z=>g.keep b o z λφ p=>?_);obtain⟨j,e1,e2⟩:=h.kj p;have ij:=s.nd i j t _ a b b e e1 ow rfl h1 e2 hb (.inl rfl);subst ij;rw [h1] at e2;cases e2;exact c ⟨⟨φ,p⟩,ow⟩
end
section
def XO (G:Qu X.prog X.w X.K X.mg X.base x k ps (fJ K ks m)) (hr:cL k' X.A) (hk:k<=k') (hg:Gl X x) (ha:AF X K fs (e::es) ks B) (ma:jg x:=by decide)
  (he:iB X e es:=by rfl) (dJ:lH X pos es:=by rfl):EF X K fs (.Call (.Name x p) (e::es) [] pos) (B m):=by
 obtain⟨w,hp,hB⟩:=ha.p;rw [hB];exact⟨PE.imp (NV G hr hk hg hp ma he dJ) λσ H Q ⟨sr,q⟩=>⟨sr,w.mono (λl q1 vs H1 g1 s1 v1=>⟨l,v1.c s1,(m l).mono (λz q2 u H2 g2 r2=>let ⟨s2,g3⟩:=g2.caller v1 s1;q2 u H2 (g1.trans g3) s2 r2) q1⟩) q⟩⟩
def WV {m:List PV->W (List PV)}{B:(List PV->W (List PV))->W (List PV)} (G:Qu X.prog X.w X.K X.mg X.base x k ps (eK K ks m)) (hr:cL k' X.A) (hk:k<=k') (hg:Gl X x) (ha:AF X K fs (e::es) ks B) (ma:jg x:=by decide)
  (he:iB X e es:=by rfl) (dJ:lH X pos es:=by rfl):LF X K fs (.Call (.Name x p) (e::es) [] pos) (B m):=by
 obtain⟨w,hp,hB⟩:=ha.p;rw [hB];exact⟨PE.imp (NV G hr hk hg hp ma he dJ) λσ H Q ⟨sr,q⟩=>⟨sr,w.mono (λl q1 vs H1 g1 s1 v1=>⟨l,v1.c s1,(m l).mono (λz q2 a ws H2 g2 n2 e2 r2=>let ⟨s2,g3⟩:=g2.caller v1 s1;q2 a ws H2 (g1.trans g3) s2 (g1.there a n2) e2 r2) q1⟩) q⟩⟩
end
end
end FL
variable {x:Bool}{T:Type}{p':Cu}
namespace FL
section
open PySem PySem.Spec PyProof.Rows L2 PL
variable {K:Ab}
inductive End where
 | nx (fs:bF) | nc (fs:bF) | ct (fs:bF) | rt (v:PV) | rl (l:List PV) | bk (fs:bF) | ro (v:PV) (a:ci) (l:List PV)
def yE (σ:L2.St) (fs:bF) (H:Hp) (a:ci):Prop:=H a=bm\/∃(i:Nat) (s:SL) (x:ci),fs[i]?=ap (ap s)/\s.own=true/\(∀φ,s≠.kj φ)/\σ[i]?=ap (ap (.ref x))/\s.has x a
def bQ (K:Ab) (x:Bool) (σ:L2.St) (fs:bF) (H:Hp) (D:Ends):End->Prop
 | .nx bP=>x=false->∀σ' H',cT σ fs H σ' bP H'->aZ K H' σ' bP->D.nx σ' H'
 | .nc bP=>∀σ' H',cT σ fs H σ' bP H'->aZ K H' σ' bP->(x=false->D.nx σ' H')/\D.ct σ' H'
 | .ct bP=>∀σ' H',cT σ fs H σ' bP H'->aZ K H' σ' bP->D.ct σ' H'
 | .bk bP=>∀σ' H',cT σ fs H σ' bP H'->aZ K H' σ' bP->D.bk σ' H'
 | .rt v=>∀u σ' bP H',cT σ fs H σ' bP H'->aZ K H' σ' bP->VR K [] H' u v->D.rt u H'
 | .ro v a l=>∀u σ' bP H',cT σ fs H σ' bP H'->aZ K H' σ' bP->(∃i:Nat,bP[i]?=ap (ap (.ol (ap a) l)))->VR K [] H' u v->D.rt u H'
 | .rl l=>∀a ws σ' bP H',cT σ fs H σ' bP H'->aZ K H' σ' bP->yE σ fs H a->H' a=ap (.lst ws)->aM K [] H' ws l->D.rt (.ref a) H'
def fS (K:Ab) (x:Bool) (fs:bF) (w:W T) (out:T->End):TS:=λD σ H=>aZ K H σ fs/\w.run λt=>bQ K x σ fs H D (out t)
structure SF (X:Cx) (K:Ab) (x:Bool) (fs:bF) (Qw:List sK) {T:Type} (w:W T) (out:T->End):Prop where p:qY X Qw (fS K x fs w out)
section
variable {σ1:L2.St}{S4:bF}
def yE.go (g:cT σ fs H σ1 S4 H1) (s:aZ K H σ fs) (s1:aZ K H1 σ1 S4) (h:yE σ1 S4 H1 a):yE σ fs H a:=by
 rcases h with h | ⟨i,t,x,e1,e2,np,e3,e4⟩
 ·exact .inl (g.there a h)
 ·cases z:H a with
  | none=>exact .inl z
  | some o=>
   by_cases c:dI σ fs a
   ·obtain⟨j,t',y,c1,c2,c3,c4⟩:=c;by_cases d:∃φ,t'=.kj φ
    ·obtain⟨φ,rfl⟩:=d;rcases c4 with rfl | c4
     ·rcases g.pk a φ ⟨j,c1,c3⟩ with⟨k,k1,k2⟩ | ⟨n,_⟩
      ·have:=s1.nd i k t _ x a a e1 k1 e2 rfl e3 k2 e4 (.inl rfl);subst this;rw [e1] at k1;cases k1;exact absurd rfl (np φ)
      ·exact absurd ⟨i,t,x,e1,e2,e3,e4⟩ n
     ·cases c4
    ·exact .inr ⟨j,t',y,c1,c2,λφ e=>d ⟨φ,e⟩,c3,c4⟩
   ·exact absurd ⟨i,t,x,e1,e2,e3,e4⟩ (g.keep a o z c).2
def bQ.go (g:cT σ fs H σ1 S4 H1) (s:aZ K H σ fs) (s1:aZ K H1 σ1 S4) {E:End} (h:bQ K x σ fs H D E):bQ K x σ1 S4 H1 D E:=by
 cases E with
 | nx bP=>exact λhx σ' H' g' s'=>h hx σ' H' (g.trans g') s'
 | nc bP=>exact λσ' H' g' s'=>h σ' H' (g.trans g') s'
 | bk bP=>exact λσ' H' g' s'=>h σ' H' (g.trans g') s'
 | ct bP=>exact λσ' H' g' s'=>h σ' H' (g.trans g') s'
 | rt v=>exact λu σ' bP H' g' s' r=>h u σ' bP H' (g.trans g') s' r
 | ro v a l=>exact λu σ' bP H' g' s' o r=>h u σ' bP H' (g.trans g') s' o r
 | rl l=>exact λa ws σ' bP H' g' s' f e r=>h a ws σ' bP H' (g.trans g') s' (f.go g s s1) e r
def bQ.exit {D':Ends} (h1:D'.rt=D.rt) (h2:D'.ct=D.ct) (h3:D'.bk=D.bk) {E:End} (h:bQ K x σ fs H D E):bQ K true σ fs H D' E:=by
 cases E with
 | nx bP=>exact λhx=>nomatch hx
 | nc bP=>exact λσ' H' g' s'=>⟨λhx=>(nomatch hx),h2▸(h σ' H' g' s').2⟩
 | bk bP=>exact λσ' H' g' s'=>h3▸h σ' H' g' s'
 | ct bP=>exact λσ' H' g' s'=>h2▸h σ' H' g' s'
 | rt v=>exact λu σ' bP H' g' s' r=>h1▸h u σ' bP H' g' s' r
 | ro v a l=>exact λu σ' bP H' g' s' o r=>h1▸h u σ' bP H' g' s' o r
 | rl l=>exact λa ws σ' bP H' g' s' f e r=>h1▸h a ws σ' bP H' g' s' f e r
end
section
variable {X:Cx}{a b c e o:gt}{pos p:Pos}{fs bP:bF}{st:sK}{Qw rest sa sb:List sK}{T T1:Type}{w wk:W T}{out:T->End}{we:W PV}{wl:W (List PV)}{x:Bool}
def End.J5:End->Prop
 | .rt _=>True
 | .rl _=>True
 | .ro _ _ _=>True
 | _=>False
def bQ.Z4 {D':Ends}{y:Bool}{E:End} (ho:E.J5) (e:D'.rt=D.rt) (h:bQ K x σ fs H D E):bQ K y σ fs H D' E:=by
 cases E with
 | rt v=>exact λu σ' bP H' g s r=>e▸h u σ' bP H' g s r
 | rl v=>exact λa ws σ' bP H' g s f ea r=>e▸h a ws σ' bP H' g s f ea r
 | ro v a l=>exact λu σ' bP H' g s o r=>e▸h u σ' bP H' g s o r
 | _=>exact ho.elim
def yS (X:Cx) (K:Ab) (x:Bool) (rest:List sK) {T:Type} (out:T->End):TS:=λD σ H=>∃bP w',SF X K x bP rest w' out/\fS K x bP w' out D σ H
def Rp:qY X rest (yS X K x rest out):=λZ s σ H D I ⟨bP,w',h,q⟩=>h.p Z s σ H D I q
def N9:qY X rest Vw:=λ_ _ _ _ _ _ h=>h.elim
def SF.step {t:TS} (h:PS X st t) (hq:∀D σ H,fS K x fs w out D σ H->t {D with nx:=yS X K x rest out D} σ H):SF X K x fs (st::rest) w out:=⟨qY.imp (zg h Rp) λD σ H q=>hq D σ H q⟩
def SF.last {t:TS} (h:PS X st t) (hq:∀D σ H,fS K x fs w out D σ H->t {D with nx:=λ_ _=>False} σ H):SF X K x fs (st::rest) w out:=⟨qY.imp (zg h N9) λD σ H q=>hq D σ H q⟩
def SF.nil {t:T} (h:out t=.nx bP) (hl:jL fs bP):SF X K false fs [] (.ret t) out:=⟨qY.imp wH λD σ H ⟨sr,q⟩=>by
 have q:bQ K false σ fs H D (out t):=q;rw [h] at q;exact q rfl σ H (cT.le sr hl) (sr.le hl)⟩
def SF.f6 {t:T} (h:out t=.nc bP) (hl:jL fs bP):SF X K false fs [] (.ret t) out:=⟨qY.imp wH λD σ H ⟨sr,q⟩=>by
 have q:bQ K false σ fs H D (out t):=q;rw [h] at q;exact (q σ H (cT.le sr hl) (sr.le hl)).1 rfl⟩
def SF.cont {t:T} (h:out t=.nc bP\/out t=.ct bP) (hl:jL fs bP):SF X K x fs (.Continue pos::rest) (.ret t) out:=SF.last zj λD σ H ⟨sr,q⟩=>by
 have q:bQ K x σ fs H D (out t):=q;rcases h with h | h
 ·rw [h] at q;exact (q σ H (cT.le sr hl) (sr.le hl)).2
 ·rw [h] at q;exact q σ H (cT.le sr hl) (sr.le hl)
def SF.ret {k:PV->T} (he:EF X K fs e we) (h:∀v,out (k v)=.rt v):SF X K x fs (.Return (ap e) pos::rest) (.bind we λv=>.ret (k v)) out:=SF.last (wI he.p) λD σ H ⟨sr,q⟩=>⟨sr,we.mono (λv q1 u H1 g1 s1 v1=>by
 have q1:bQ K x σ fs H D (out (k v)):=q1;rw [h] at q1;exact q1 u σ fs H1 g1.f s1 v1) q⟩
def SF.cI {out:PV->End} (he:EF X K fs e we) (h:∀v,out v=.rt v):SF X K x fs (.Return (ap e) pos::rest) we out:=SF.ret (k:=λv=>v) he h
def SF.adP {k:List PV->T} (he:LF X K fs e wl) (h:∀l,out (k l)=.rl l):SF X K x fs (.Return (ap e) pos::rest) (.bind wl λl=>.ret (k l)) out:=SF.last (wI he.p) λD σ H ⟨sr,q⟩=>⟨sr,wl.mono (λl q1 a ws H1 g1 s1 n e v1=>by
 have q1:bQ K x σ fs H D (out (k l)):=q1;rw [h] at q1;exact q1 a ws σ fs H1 g1.f s1 (.inl n) e v1) q⟩
def SF.gs {out:List PV->End} (he:LF X K fs e wl) (h:∀v,out v=.rl v):SF X K x fs (.Return (ap e) pos::rest) wl out:=SF.adP (k:=λv=>v) he h
def SF.Nr (i:Nat) {t:T} (hs:fs[i]?=ap (ap (.ol q0 l))) (h:out t=.rl l) (hN:X.N[i]?=ap y:=by rfl) (hv:yr X.env.scope y:=by first | exact CH rfl | exact Ct (CH rfl) | exact Ct (Ct rfl)) (hd:jg y:=by decide) (iV:yK y:=by decide):SF X K x fs (.Return (ap (.Name y p)) pos::rest) (.ret t) out:=SF.last (wI (dr hN hv hd iV)) λD σ H ⟨sr,q⟩=>by
 have q:bQ K x σ fs H D (out t):=q;rw [h] at q;obtain⟨u,e1,r⟩:=sr.at' i _ hs;rcases r with⟨v,e,_⟩ | ⟨a,e,r⟩
 ·cases e
 ·subst e;obtain⟨_,ws,q1,q2⟩:=r;exact⟨_,e1,q a ws σ fs H .refl sr (.inr ⟨i,_,_,hs,rfl,by simp,e1,.inl rfl⟩) q1 q2⟩
def SF.ZF (i:Nat) {ad:ci}{k:PV->T} (hs:fs[i]?=ap (ap (.ol (ap ad) l))) (he:EF X K fs e we) (h:∀v,out (k v)=.ro v ad l):SF X K x fs (.Return (ap e) pos::rest) (.bind we λv=>.ret (k v)) out:=SF.last (wI he.p) λD σ H ⟨sr,q⟩=>⟨sr,we.mono (λv q1 u H1 g1 s1 v1=>by
 have q1:bQ K x σ fs H D (out (k v)):=q1;rw [h] at q1;exact q1 u σ fs H1 g1.f s1 ⟨i,hs⟩ v1) q⟩
def SF.expr {k:PV->W T} (he:EF X K fs e we) (hr:∀v,SF X K x fs rest (k v) out) (hs:kt e bm pos.line X.env=pure false:=by rfl):SF X K x fs (.Expr e pos::rest) (.bind we k) out:=SF.step (nv he.p hs) λD σ H ⟨sr,q⟩=>
 ⟨sr,we.mono (λv q1 u H1 g1 s1 v1=>⟨fs,k v,hr v,s1,(k v).mono (λt q2=>q2.go g1.f sr s1) q1⟩) q⟩
def SF.set {k:PV->W T} (hN:X.N.Nodup) (hi:X.N[i]?=ap y) (hx:Loc X.env.scope y) (he:EF X K fs e we) (hr:∀v,SF X K x (fs.set i (ap (.val v))) rest (k v) out) (hs:kt e (ap (.Name y p')) pos.line X.env=pure false:=by rfl)
  (hf:MM X y:=by first | exact .inl rfl | exact .inr rfl | assumption):SF X K x fs (.Assign [.Name y p'] e pos::rest) (.bind we k) out:=SF.step (rR hN hi hx he.p hs hf) λD σ H ⟨sr,q⟩=>
 ⟨sr,we.mono (λv q1 u H1 g1 s1 v1=>⟨_,k v,hr v,s1.fY v1 i,(k v).mono (λt q2=>q2.go (g1.f.trans (cT.fY s1 u v i)) sr (s1.fY v1 i)) q1⟩) q⟩
def SF.adM {k:List PV->W T} (hN:X.N.Nodup) (hi:X.N[i]?=ap y) (hx:Loc X.env.scope y) (he:LF X K fs e wl) (hr:∀l,SF X K x (fs.set i (ap (.ol bm l))) rest (k l) out) (hs:kt e (ap (.Name y p')) pos.line X.env=pure false:=by rfl)
  (hf:MM X y:=by first | exact .inl rfl | exact .inr rfl | assumption):SF X K x fs (.Assign [.Name y p'] e pos::rest) (.bind wl k) out:=SF.step (rR hN hi hx he.p hs hf) λD σ H ⟨sr,q⟩=>by
 refine⟨sr,wl.mono (λl q1 a ws H1 g1 s1 n e v1=>?_) q⟩;have no:=sr.noOwn n;have s2:=s1.rQ (t:=.ol bm l) ⟨by simp,ws,e,v1⟩ no i;exact⟨_,k l,hr l,s2,(k l).mono (λt q2=>q2.go (cT.rQ s1 g1.f no n i) sr s2) q1⟩
def SF.cM (i:Nat) {q0:Option ci}{l:List PV} (hs:fs[i]?=ap (ap (.ol q0 l))) (hr:SF X K x (fs.set i (ap (.val (.cl l)))) Qw w out):SF X K x fs Qw w out:=⟨λZ s σ H D I ⟨sr,q⟩=>by
 obtain⟨u,e1,r⟩:=sr.at' i _ hs;rcases r with⟨v,e,_⟩ | ⟨a,e,_,ws,q1,q2⟩
 ·cases e
 ·subst e;obtain⟨ob,I2⟩:=I.qO q1;have tk:=lK (K:=K) (.cM ob (.lst ws)) q1;have sS:σ.set i (ap (.ref a))=σ:=Bn λj=>by
   by_cases c:j=i
   ·subst c;rw [cE ((Am.mp e1).1),e1]
   ·rw [aL c]
  have ow:∀b,dI σ (fs.set i (ap (.val (.cl l)))) b->dI σ fs b:=λb z=>by
   obtain⟨j,t,x,z1,z2,z3,z4⟩:=z;rcases bf z1 with⟨rfl,rfl⟩ | ⟨n,z1⟩
   ·cases z2
   ·exact⟨j,t,x,z1,z2,z3,z4⟩
  have na:¬dI σ (fs.set i (ap (.val (.cl l)))) a:=λz=>by
   obtain⟨j,t,x,z1,z2,z3,z4⟩:=z;rcases bf z1 with⟨rfl,rfl⟩ | ⟨n,z1⟩
   ·cases z2
   ·exact n (sr.nd j i t _ x a a z1 hs z2 rfl z3 e1 z4 (.inl rfl))
  have s2:aZ K (upd H a (.cM ob (.lst ws))) σ (fs.set i (ap (.val (.cl l)))):=by
   refine⟨by simp [sr.len],λj t z=>?_,λj k t u b1 b2 b z1 z2 o1 o2=>?_⟩
   ·rcases bf z with⟨rfl,rfl⟩ | ⟨n,z⟩
    ·exact⟨_,e1,.inl ⟨_,rfl,.cl (.inl ⟨ob,aP⟩) (aM.tk tk q2)⟩⟩
    ·obtain⟨u,h1,h2⟩:=sr.at' j t z;exact⟨u,h1,h2.mono tk (λx b o eb ow hb zz=>by
      subst eb;rw [aA (λy=>by subst y;exact n (sr.nd j i t _ x b b z hs ow rfl h1 e1 hb (.inl rfl)))];exact zz)⟩
   ·rcases bf z1 with⟨rfl,rfl⟩ | ⟨n1,z1⟩
    ·cases o1
    ·rcases bf z2 with⟨rfl,rfl⟩ | ⟨n2,z2⟩
     ·cases o2
     ·exact sr.nd j k t u b1 b2 b z1 z2 o1 o2
  have g2:cT σ fs H σ (fs.set i (ap (.val (.cl l)))) (upd H a (.cM ob (.lst ws))):=by
   refine⟨λb o z n=>⟨?_,λy=>n (ow b y)⟩,λb z=>?_,λb φ z=>?_⟩
   ·rw [aA (λy=>by subst y;exact n ⟨i,_,_,hs,rfl,e1,.inl rfl⟩)];exact z
   ·by_cases c:b=a
    ·subst c;rw [aP] at z;cases z
    ·rw [aA c] at z;exact z
   ·obtain⟨j,z1,z2⟩:=z;have:j≠i:=λy=>by subst y;rw [hs] at z1;cases z1
    exact .inl ⟨j,by rw [aL this];exact z1,z2⟩
  exact hr.p Z s σ _ D I2 ⟨s2,w.mono (λt q3=>q3.go g2 sr s2) q⟩⟩
variable {tc:W Bool}
def SF.Xh (hc:TF X K fs c tc) (ha:SF X K x fs sa w out) (hb:SF X K x fs sb wk out):SF X K x fs [.If c sa sb pos] (.bind tc λb=>if b=true then w else wk) out:=⟨qY.imp (Rz (NG hc.p ha.p hb.p)) λD σ H ⟨sr,q⟩=>⟨sr,tc.mono (λk q1 H1 g1 s1=>by
 cases k with
 | true=>exact uD ⟨s1,w.mono (λt q2=>q2.go g1.f sr s1) q1⟩
 | false=>exact uE ⟨s1,wk.mono (λt q2=>q2.go g1.f sr s1) q1⟩) q⟩⟩
def SF.J6 (hc:TF X K fs c tc) (ha:SF X K true fs sa w out) (hb:SF X K x fs rest wk out):SF X K x fs (.If c sa [] pos::rest) (.bind tc λb=>if b=true then w else wk) out:=SF.step (NG hc.p ha.p wH) λD σ H ⟨sr,q⟩=>⟨sr,tc.mono (λk q1 H1 g1 s1=>by
 cases k with
 | true=>exact uD ⟨s1,w.mono (λt q2=>bQ.exit (D:=D) (D':={D with nx:=yS X K x rest out D}) rfl rfl rfl (q2.go g1.f sr s1)) q1⟩
 | false=>exact uE ⟨fs,wk,hb,s1,wk.mono (λt q2=>q2.go g1.f sr s1) q1⟩) q⟩
def Yj (X:Cx) (K:Ab) (x:Bool) (rest:List sK) {T:Type} (w:W T) (out:T->End):End->Prop
 | .nx bP=>SF X K x bP rest w out
 | .nc bP=>False
 | .bk bP=>∃t,w=.ret t/\out t=.bk bP
 | .ct bP=>∃t,w=.ret t/\(out t=.ct bP\/out t=.nc bP)
 | .rt v=>∃t,w=.ret t/\out t=.rt v
 | .rl l=>∃t,w=.ret t/\out t=.rl l
 | .ro v a l=>∃t,w=.ret t/\out t=.ro v a l
def Yj.r {E:End} (sr:aZ K H σ fs) (h:Yj X K x rest w out E) (q:w.run λt=>bQ K x σ fs H D (out t)):bQ K false σ fs H {D with nx:=yS X K x rest out D} E:=by
 cases E with
 | nx bP=>exact λ_ σ' H' g' s'=>⟨bP,w,h,s',w.mono (λt q2=>q2.go g' sr s') q⟩
 | nc bP=>exact h.elim
 | bk bP=>
  obtain⟨t,rfl,h⟩:=h;have q:bQ K x σ fs H D (out t):=q;rw [h] at q;exact q
 | ct bP=>
  obtain⟨t,rfl,h⟩:=h;have q:bQ K x σ fs H D (out t):=q;rcases h with h | h
  ·rw [h] at q;exact q
  ·rw [h] at q;exact λσ' H' g s=>(q σ' H' g s).2
 | rt v=>
  obtain⟨t,rfl,h⟩:=h;have q:bQ K x σ fs H D (out t):=q;rw [h] at q;exact q
 | rl v=>
  obtain⟨t,rfl,h⟩:=h;have q:bQ K x σ fs H D (out t):=q;rw [h] at q;exact q
 | ro v a l=>
  obtain⟨t,rfl,h⟩:=h;have q:bQ K x σ fs H D (out t):=q;rw [h] at q;exact q
variable {w1 w2:W T1}{out1:T1->End}{k:T1->W T}
def SF.ifS (hc:TF X K fs c tc) (ha:SF X K false fs sa w1 out1) (hb:SF X K false fs sb w2 out1) (hr:∀t,Yj X K x rest (k t) out (out1 t)):SF X K x fs (.If c sa sb pos::rest) (.bind tc λb=>.bind (if b=true then w1 else w2) k) out:=SF.step (NG hc.p ha.p hb.p) λD σ H ⟨sr,q⟩=>⟨sr,tc.mono (λb q1 H1 g1 s1=>by
 have fin:∀t,(k t).run (λt=>bQ K x σ fs H D (out t))->bQ K false σ fs H {D with nx:=yS X K x rest out D} (out1 t):=λt q=>(hr t).r sr q;cases b with
 | true=>exact uD ⟨s1,w1.mono (λt q2=>(fin t q2).go g1.f sr s1) q1⟩
 | false=>exact uE ⟨s1,w2.mono (λt q2=>(fin t q2).go g1.f sr s1) q1⟩) q⟩
end
end
end FL
variable {is:List Nat}
namespace FL
section
open PySem PySem.Spec PyProof.Rows L2 PL
variable {K:Ab}
def JF (K:Ab) (H:Hp) (J:It) (l:List PV):Prop:=l.length<=sizeLine/\∀H',bB K H H'->(∀(i:Nat) (p:PV),l[i]?=ap p->J.go i H'/\∀x H2,J.Ud i H' x H2->kF H' H2/\VR K [] H2 x p)/\J.stop l.length H'
def JF.tk {J:It} (t:bB K H H') (h:JF K H J l):JF K H' J l:=⟨h.1,λH2 t2=>h.2 H2 (bB.trans t t2)⟩
def fIt (K:Ab) (fs:bF) (w:W (List PV)):TI:=λσ H R=>aZ K H σ fs/\w.run λl=>∀J H',cU σ fs H H'->aZ K H' σ fs->JF K H' J l->R J H'
structure qZ (X:Cx) (K:Ab) (fs:bF) (tg e:gt) (w:W (List PV)):Prop where p:PI X tg e (fIt K fs w)
section
variable {a c:gt}{w:W PV}
def T7 {ad:ci} (h:Vf K H ad vs) (r:aM K [] H vs l) (hz:l.length<=sizeLine):JF K H (Itl K ad) l:=⟨hz,λH' t=>by
 have e1:=(t.f _ _ h).sq;have e2:=aM.tk t r;refine⟨λi p hp=>?_,vs,e1,by rw [e2.length];exact Ao _⟩;obtain⟨v,h3,h4⟩:=e2.get hp;refine⟨⟨vs,v,e1,h3⟩,λx H3 y=>?_⟩;obtain⟨rfl,y⟩:=y;have:=y vs e1;rw [h3] at this;cases this;exact⟨kF.refl _,h4⟩⟩
def Yh {ad:ci} (h:H ad=ap (.tup vs)) (r:aM K [] H vs l) (hz:l.length<=sizeLine):JF K H (Itt K ad) l:=⟨hz,λH' t=>by
 have e1:=dU.of (K:=K) (t.t _ _ h);have e2:=aM.tk t r;refine⟨λi p hp=>?_,vs,e1,by rw [e2.length];exact Ao _⟩;obtain⟨v,h3,h4⟩:=e2.get hp;refine⟨⟨vs,v,e1,h3⟩,λx H3 y=>?_⟩;obtain⟨rfl,y⟩:=y;have:=y vs e1;rw [h3] at this;cases this;exact⟨kF.refl _,h4⟩⟩
def bK (hK:X.K=K) (h:IF X K fs e wl):qZ X K fs tg e wl:=⟨by
 subst hK;intro Z s σ H R I ⟨sr,q⟩;refine bC (h.p Z s σ H (λu H1=>∃l,Ye X.K H1 u l/\∀J,JF X.K H1 J l->R J H1) I ⟨sr,wl.mono (λl q1 u H1 g1 s1 v1=>⟨l,v1,λJ j=>q1 J H1 g1 s1 j⟩) q⟩) λv s1 ⟨x,H1,I1,r1,l,⟨ad,vs,e,hh,rs⟩,q1⟩=>?_;subst e;cases r1;rcases hh with hh | hh
 ·obtain⟨aw,rv,pl,hz⟩:=I1.list hh.sq;refine CK pl.isList ?_;refine⟨s1.heap.objs.size,[s1.heap.objs.size],_,_,H1,rfl,I1.kept (t':=s1.toks) λb o e=>Ah _ e,KH ad _,⟨_,Aq _ rfl,rfl,rfl⟩,λb hb=>?_,q1 _ (T7 hh rs (by rw [<- rs.length];exact hz))⟩;have e:b=s1.heap.objs.size:=by simpa using hb
  subst e;exact I1.xG (Ao _) (I1.bH.fresh (Ao _))
 ·obtain⟨aw,rv,pl,hz⟩:=I1.tuple (dU.of hh);refine Ea (show s1.heap.IsTuple ad aw.toArray from pl) ?_;refine⟨s1.heap.objs.size,[s1.heap.objs.size],_,_,H1,rfl,I1.kept (t':=s1.toks) λb o e=>Ah _ e,GS ad _,⟨_,Aq _ rfl,rfl,rfl⟩,λb hb=>?_,q1 _ (Yh hh rs (by rw [<- rs.length];exact hz))⟩;have e:b=s1.heap.objs.size:=by simpa using hb
  subst e;exact I1.xG (Ao _) (I1.bH.fresh (Ao _))⟩
def okN (i j:Int):Prop:=-(2 ^ 62)<=i/\i < 2 ^ 62/\-(2 ^ 62)<=j/\j < 2 ^ 62/\(j-i).toNat<=sizeLine
def ki:PV->W (List PV)
 | .int j=>.fg (okN 0 j) (.ret (kn 0 j.toNat))
 | _=>.fail
def JD:PV->PV->PV->W (List PV)
 | .int i,.int j,.int k=>.fg (k = -1/\okN j i) (.ret (fq i (i-j).toNat))
 | _,_,_=>.fail
def Yi (lo:Int) (n:Nat) (hz:n<=sizeLine):JF K H (Itr lo n) (kn lo n):=⟨by rw [jF];exact hz,λH' t=>⟨λi p hp=>by
  obtain⟨h1,rfl⟩:=o7 hp;refine⟨h1,λx H2 y=>?_⟩;obtain⟨rfl,rfl⟩:=y;exact⟨kF.refl _,.int _⟩,by show n<=(kn lo n).length;rw [jF];exact Ao _⟩⟩
theorem fN (hg:Gl X "range") (hm:X.mg "range"=bm) (ha:EF X K fs a wa) (hs:ga [a] X.env=[(false,kw a X.env)]:=by rfl):qZ X K fs tg (.Call (.Name "range" p) [a] [] pos) (.bind wa ki):=
 ⟨PI.imp (K5 hg hm (bz ha.p cX hs) hs) λσ H R ⟨sr,q⟩=>⟨sr,wa.mono (λx q1 u1 H1 g1 s1 v1=>by
  cases v1 with
  | int j=>exact⟨_,rfl,q1.1.2.2.1,q1.1.2.2.2.1,q1.2 _ H1 g1 s1 (Yi _ _ (by have:=q1.1.2.2.2.2;omega))⟩
  | _=>exact q1.elim) q⟩⟩
def J4 (hg:Gl X "range") (hm:X.mg "range"=bm) (ha:EF X K fs a wa) (hb:EF X K fs b wb) (hc:EF X K fs c wc) (hs:ga [a,b,c] X.env=[(false,kw a X.env),(false,kw b X.env),(false,kw c X.env)]:=by rfl) (qN:ga [b,c] X.env=[(false,kw b X.env),(false,kw c X.env)]:=by rfl) (hs3:ga [c] X.env=[(false,kw c X.env)]:=by rfl):qZ X K fs tg (.Call (.Name "range" p) [a,b,c] [] pos) (.bind wa λx=>.bind wb λy=>.bind wc λz=>JD x y z):=
 ⟨PI.imp (K4 hg hm (bz ha.p (bz hb.p (bz hc.p cX hs3) (by show ga _ _=_;rw [qN,hs3])) (by show ga _ _=_;rw [hs,qN])) hs qN) λσ H R ⟨sr,q⟩=>⟨sr,wa.mono (λx q1 u1 H1 g1 s1 v1=>⟨s1,wb.mono (λy q2 u2 H2 g2 s2 v2=>⟨s2,wc.mono (λz q3 u3 H3 g3 s3 v3=>by
  cases v1 with
  | int i=>
   cases v2 with
   | int j=>
    cases v3 with
    | int k=>
     obtain⟨⟨rfl,k1,k2,k3,k4,k5⟩,q3⟩:=q3;refine⟨_,_,rfl,⟨k3,k4,k1,k2⟩,q3 _ H3 ((g1.trans g2).trans g3) s3 ⟨by rw [vH];exact k5,λH' t=>⟨λi p hp=>?_,?_⟩⟩⟩
     ·obtain⟨h1,rfl⟩:=pB hp;refine⟨h1,λx H2 y=>?_⟩;obtain⟨rfl,rfl⟩:=y;exact⟨kF.refl _,.int _⟩
     ·exact Nat.le_of_eq (vH _ _).symm
    | _=>exact q3.elim
   | _=>exact q3.elim
  | _=>exact q3.elim) q2⟩) q1⟩) q⟩⟩
def G5:PV->W (List PV)
 | .str z=>.fg (z.cps.size<=sizeLine) (.ret (z.cps.toList.map λc=>.str ⟨#[c]⟩))
 | _=>.fail
def Xf (h:EF X K fs e w):qZ X K fs tg e (.bind w G5):=⟨PI.imp (We h.p) λσ H R ⟨sr,q⟩=>⟨sr,w.mono (λx q1 u1 H1 g1 s1 v1=>by
 cases v1 with
 | str z=>
  refine⟨z,rfl,q1.2 _ H1 g1 s1 ⟨by simpa using q1.1,λH' t=>⟨λi p hp=>?_,?_⟩⟩⟩
  ·rw [Aj] at hp;cases e:z.cps.toList[i]? with
   | none=>rw [e] at hp;cases hp
   | some c=>
    rw [e] at hp;have ep:=(Option.some.inj hp).symm;subst ep;have hi:=(Am.mp e).1;have zQ:i < z.cps.size:=by simpa using hi
    refine⟨zQ,λx H2 y=>?_⟩;obtain⟨rfl,d,hd,rfl⟩:=y;have:z.cps[i]?=ap c:=by simpa using e
    rw [this] at hd;cases hd;exact⟨kF.refl _,.str _⟩
  ·show z.cps.size<=_;simp
 | _=>exact q1.elim) q⟩⟩
def nP (hK:X.K=K) (hg:Gl X "enumerate") (hm:X.mg "enumerate"=bm) (h:IF X K fs e wl) (GI:iB X e []:=by rfl):qZ X K fs (.Tuple Ñ kk tp) (.Call (.Name "enumerate" p1) [e] [] p2) (.bind wl λl=>.fg (l.length<=sizeLine) (.ret (dZ 0 l))):=
 ⟨PI.imp (NL K hK hg hm h.p GI) λσ H R ⟨sr,q⟩=>⟨sr,wl.mono (λl q1 u1 H1 g1 s1 v1=>by
  obtain⟨ad,vs,rfl,hh,rs⟩:=v1;have yl:∀{H':Hp}{i:Nat}{x v:V}{y:PV}{pp:ci},H' pp=bm->VR K [] H' v y->kF H' (upd H' pp (.tup [.int (i:Int),v]))/\VR K [] (upd H' pp (.tup [.int (i:Int),v])) (.ref pp) (.tup [.int ((0+i:Nat):Int),y]):=λ{H' i x v y pp} hn h4=>
   have sm:=gV hn (.tup [.int (i:Int),v])
   ⟨sm,.tup aP (.cons (by rw [AO];exact .int _) (.cons (VR.tk sm.eO h4) .nil))⟩
  refine⟨ad,rfl,?_⟩;rcases hh with hh | hh
  ·refine .inl ⟨⟨vs,hh.sq⟩,q1.2 _ H1 g1 s1 ⟨by rw [cR];exact q1.1,λH' t=>⟨λi p hp=>?_,vs,(t.f _ _ hh).sq,by rw [rs.length,cR];exact Ao _⟩⟩⟩;obtain⟨y,hy,rfl⟩:=gL hp;obtain⟨v,h3,h4⟩:=(aM.tk t rs).get hy;refine⟨⟨vs,v,(t.f _ _ hh).sq,h3⟩,λx H3 z=>?_⟩;obtain⟨pp,x0,rfl,hn,rfl,hz⟩:=z;have:=hz vs (t.f _ _ hh).sq;rw [h3] at this;cases this;exact yl (x:=.aO) hn h4
  ·refine .inr ⟨⟨vs,dU.of hh⟩,q1.2 _ H1 g1 s1 ⟨by rw [cR];exact q1.1,λH' t=>⟨λi p hp=>?_,vs,dU.of (t.t _ _ hh),by rw [rs.length,cR];exact Ao _⟩⟩⟩;obtain⟨y,hy,rfl⟩:=gL hp;obtain⟨v,h3,h4⟩:=(aM.tk t rs).get hy;refine⟨⟨vs,v,dU.of (t.t _ _ hh),h3⟩,λx H3 z=>?_⟩;obtain⟨pp,x0,rfl,hn,rfl,hz⟩:=z;have:=hz vs (dU.of (t.t _ _ hh));rw [h3] at this;cases this;exact yl (x:=.aO) hn h4) q⟩⟩
end
def rK:List Nat->List V->L2.St->L2.St
 | i::is,u::us,σ=>rK is us (σ.set i (ap u))
 | _,_,σ=>σ
def fG (K:Ab) (fs:bF) (is:List Nat) (wt:PV->W T) (dR:T->bF):TG:=λv σ H Q=>∃p,aZ K H σ fs/\VR K [] H v p/\(wt p).run λt=>∀us,cT σ fs H (rK is us σ) (dR t) H->aZ K H (rK is us σ) (dR t)->Q (rK is us σ) H
structure GF (X:Cx) (K:Ab) (fs:bF) (tg:gt) (is:List Nat) {T:Type} (wt:PV->W T) (dR:T->bF):Prop where p:PG X tg (fG K fs is wt dR)
def pE:PV->W (PV×PV)
 | .tup [a,b]=>.ret (a,b)
 | _=>.fail
def un3:PV->W (PV×PV×PV)
 | .tup [a,b,c]=>.ret (a,b,c)
 | _=>.fail
def Y8:PV->W (PV×PV×PV×PV)
 | .tup [a,b,c,d]=>.ret (a,b,c,d)
 | _=>.fail
section
def Xw (h:PG X tg (dM i)):GF X K fs tg [i] .ret (λp=>fs.set i (ap (.val p))):=⟨PG.imp h λv σ H Q ⟨p,sr,r,q⟩=>q [v] (cT.fY sr v p i) (sr.fY r i)⟩
def QC (hK:X.K=K) (h:PG X tg (S2 X.K 2 (mr (dM i) (mr (dM j) S3)))):GF X K fs tg [i,j] pE (λt=>(fs.set i (ap (.val t.1))).set j (ap (.val t.2))):=⟨PG.imp h λv σ H Q ⟨p,sr,r,q⟩=>by
 unfold pE at q
 split at q
 ·cases r with
  | tup e rs=>
   cases rs with
   | cons ra t=>
   cases t with
   | cons rb t=>
   cases t;have s1:=sr.fY ra i;exact⟨_,_,rfl,dU.of e,rfl,_,_,rfl,_,_,rfl,rfl,q [_,_] ((cT.fY sr _ _ i).trans (cT.fY s1 _ _ j)) (s1.fY rb j)⟩
 ·exact q.elim⟩
def g_3 (hK:X.K=K) (h:PG X tg (S2 X.K 3 (mr (dM i) (mr (dM j) (mr (dM k) S3))))):GF X K fs tg [i,j,k] un3 (λt=>((fs.set i (ap (.val t.1))).set j (ap (.val t.2.1))).set k (ap (.val t.2.2))):=⟨PG.imp h λv σ H Q ⟨p,sr,r,q⟩=>by
 unfold un3 at q
 split at q
 ·cases r with
  | tup e rs=>
   cases rs with
   | cons ra t=>
   cases t with
   | cons rb t=>
   cases t with
   | cons rc t=>
   cases t;have s1:=sr.fY ra i;have s2:=s1.fY rb j;exact⟨_,_,rfl,dU.of e,rfl,_,_,rfl,_,_,rfl,_,_,rfl,rfl,q [_,_,_] (((cT.fY sr _ _ i).trans (cT.fY s1 _ _ j)).trans (cT.fY s2 _ _ k)) (s2.fY rc k)⟩
 ·exact q.elim⟩
def g_4 {l:Nat} (hK:X.K=K) (h:PG X tg (S2 X.K 4 (mr (dM i) (mr (dM j) (mr (dM k) (mr (dM l) S3)))))):GF X K fs tg [i,j,k,l] Y8 (λt=>(((fs.set i (ap (.val t.1))).set j (ap (.val t.2.1))).set k (ap (.val t.2.2.1))).set l (ap (.val t.2.2.2))):=⟨PG.imp h λv σ H Q ⟨p,sr,r,q⟩=>by
 unfold Y8 at q
 split at q
 ·cases r with
  | tup e rs=>
   cases rs with
   | cons ra t=>
   cases t with
   | cons rb t=>
   cases t with
   | cons rc t=>
   cases t with
   | cons rd t=>
   cases t;have s1:=sr.fY ra i;have s2:=s1.fY rb j;have s3:=s2.fY rc k;exact⟨_,_,rfl,dU.of e,rfl,_,_,rfl,_,_,rfl,_,_,rfl,_,_,rfl,rfl,q [_,_,_,_] ((((cT.fY sr _ _ i).trans (cT.fY s1 _ _ j)).trans (cT.fY s2 _ _ k)).trans (cT.fY s3 _ _ l)) (s3.fY rd l)⟩
 ·exact q.elim⟩
end
section
variable {S T:Type}
def dG:List PV->S->(PV->S->W S)->W S
 | [],s,_=>.ret s
 | x::r,s,f=>.bind (f x s) λs'=>dG r s' f
inductive Lp (S T:Type) where
 | go (s:S) | out (t:T)
def iy:List PV->S->(PV->S->W (Lp S T))->W (Lp S T)
 | [],s,_=>.ret (.go s)
 | x::r,s,f=>.bind (f x s) λo=>match o with
  | .go s'=>iy r s' f
  | .out t=>.ret (.out t)
def GJ (k:S->W T) (inj:R->T):Lp S R->W T
 | .go s=>k s
 | .out r=>.ret (inj r)
@[simp] theorem Xu (k:S->W T) (inj:R->T) (s:S):GJ k inj (.go s)=k s:=(rfl)
@[simp] theorem acF (k:S->W T) (inj:R->T) (r:R):GJ k inj (.out r)=.ret (inj r):=(rfl)
def lpE (hd:S->bF) (out:R->End):Lp S R->End
 | .go s=>.nc (hd s)
 | .out r=>out r
def mE (c:S->W Bool) (b:S->W S):Nat->S->W S
 | 0,_=>.fail
 | n+1,s=>.bind (c s) λk=>if k=true then .bind (b s) (mE c b n) else .ret s
def mD (c:S->W Bool) (b:S->W S) (s:S):W S:=⟨λQ=>∃n,(mE c b n s).run Q,λh ⟨n,q⟩=>⟨n,(mE c b n s).mono h q⟩⟩
def jN (c:S->W Bool) (b:S->W (Lp S T)):Nat->S->W (Lp S T)
 | 0,_=>.fail
 | n+1,s=>.bind (c s) λk=>if k=true then .bind (b s) (λo=>match o with
  | .go s'=>jN c b n s'
  | .out t=>.ret (.out t)) else .ret (.go s)
def rq (c:S->W Bool) (b:S->W (Lp S T)) (s:S):W (Lp S T):=⟨λQ=>∃n,(jN c b n s).run Q,λh ⟨n,q⟩=>⟨n,(jN c b n s).mono h q⟩⟩
end
section
variable {c:gt}{rest:List sK}{S T T2:Type}{hd:S->bF}{s0:S}{wt:PV->W T2}{dR:S->T2->bF}{k:S->W T}{out:T->End}{R:Type}{inj:R->T}
theorem SF.for {f:PV->S->W S}{wb:T2->S->W S} (hp:xz (dL X.prog X.w) X.A X.env X.xe) (hc:X.calm=true) (hi:qZ X K fs tg iter wl) (hl:jL fs (hd s0)) (hg:∀s,GF X K (hd s) tg is wt (dR s)) (hf:∀p s,f p s=.bind (wt p) λt=>wb t s)
  (hb:∀s t,SF X K false (dR s t) body (wb t s) λs'=>.nc (hd s')) (hr:∀s,SF X K x (hd s) rest (k s) out) (hs:vS X iter:=by intro _;rfl) :
  SF X K x fs (.For tg iter body [] pos::rest) (.bind wl λl=>.bind (dG l s0 f) k) out:=by
 refine SF.step (NH (g:=λv σ H Q=>∃s,fG K (hd s) is wt (dR s) v σ H Q) (tb:=λD σ H=>∃s t,fS K false (dR s t) (wb t s) (λs'=>.nc (hd s')) D σ H) hp hc hi.p (λZ s σ H v u Q I r ⟨s1,q⟩=>(hg s1).p Z s σ H v u Q I r q) (λZ s σ H D I ⟨s1,t1,q⟩=>(hb s1 t1).p Z s σ H D I q) hs) λD σ H ⟨sr,q⟩=>?_;refine⟨sr,wl.mono (λl q1 J H1 g1 s1 jf=>?_) q⟩;refine⟨λi m σ' H'=>∃s,aZ K H' σ' (hd s)/\cT σ fs H σ' (hd s) H'/\JF K H' J l/\m=l.length-i/\i<=l.length/\(dG (l.drop i) s f).run λs'=>(k s').run λt=>bQ K x σ fs H D (out t),⟨l.length,s0,s1.le hl,g1.f.trans (cT.le s1 hl),jf,by simp,A6 _,by simpa using q1⟩,?_⟩;rintro i m σ2 H2 ⟨s,s2,g2,SD,rfl,hi,q2⟩;obtain⟨j1,j2⟩:=SD.2 H2 (bB.refl H2);by_cases lT:i < l.length
 ·obtain⟨go,yl⟩:=j1 i _ (Ae lT);have ed:=Bk lT;rw [ed] at q2;refine .inr ⟨go,λσ3 H3=>∃s',aZ K H3 σ3 (hd s')/\cT σ fs H σ3 (hd s') H3/\JF K H3 J l/\(dG (l.drop (i+1)) s' f).run λs'=>(k s').run λt=>bQ K x σ fs H D (out t),λσ3 H3 ⟨s',a1,a2,a3,a4⟩=>⟨l.length-(i+1),by omega,s',a1,a2,a3,rfl,lT,a4⟩,λv H3 y=>?_⟩;obtain⟨sm,vx⟩:=yl v H3 y;have q2:(f l[i] s).run λs'=>(dG (l.drop (i+1)) s' f).run λs'=>(k s').run λt=>bQ K x σ fs H D (out t):=q2;rw [hf] at q2;have s3:=s2.same sm;have g3:=g2.trans (cT.same sm s2);refine⟨s,_,s3,vx,(wt l[i]).mono (λt q4 us g4 s4=>?_) q2⟩;refine⟨s,t,s4,(wb t s).mono (λs' q5 σ5 H5 g5 s5=>?_) q4⟩;have fin:∃s',aZ K H5 σ5 (hd s')/\cT σ fs H σ5 (hd s') H5/\JF K H5 J l/\(dG (l.drop (i+1)) s' f).run λs'=>(k s').run λt=>bQ K x σ fs H D (out t):=⟨s',s5,(g3.trans g4).trans g5,SD.tk (bB.trans sm.eO (bB.trans (g4.eJ s3) (g5.eJ s4))),q5⟩;exact⟨λ_=>fin,fin⟩
 ·have e:i=l.length:=by omega
  subst e;rw [EJ] at q2;exact .inl ⟨j2,hd s,k s,hr s,s2,(k s).mono (λt q3=>q3.go g2 sr s2) q2⟩
theorem SF.iy {f:PV->S->W (Lp S R)}{wb:T2->S->W (Lp S R)} (hp:xz (dL X.prog X.w) X.A X.env X.xe) (hc:X.calm=true) (hi:qZ X K fs tg iter wl) (hl:jL fs (hd s0)) (hg:∀s,GF X K (hd s) tg is wt (dR s)) (hf:∀p s,f p s=.bind (wt p) λt=>wb t s)
  (ho:∀t,(out (inj t)).J5)
  (hb:∀s t,SF X K false (dR s t) body (wb t s) (lpE hd λr=>out (inj r))) (hr:∀s,SF X K x (hd s) rest (k s) out) (hs:vS X iter:=by intro _;rfl) :
  SF X K x fs (.For tg iter body [] pos::rest) (.bind wl λl=>.bind (FL.iy l s0 f) (GJ k inj)) out:=by
 refine SF.step (NH (g:=λv σ H Q=>∃s,fG K (hd s) is wt (dR s) v σ H Q) (tb:=λD σ H=>∃s t,fS K false (dR s t) (wb t s) (lpE hd λr=>out (inj r)) D σ H) hp hc hi.p (λZ s σ H v u Q I r ⟨s1,q⟩=>(hg s1).p Z s σ H v u Q I r q) (λZ s σ H D I ⟨s1,t1,q⟩=>(hb s1 t1).p Z s σ H D I q) hs) λD σ H ⟨sr,q⟩=>?_;refine⟨sr,wl.mono (λl q1 J H1 g1 s1 jf=>?_) q⟩;have lo:∀(D':Ends) (y:Bool) (t:R),D'.rt=D.rt->bQ K x σ fs H D (out (inj t))->bQ K y σ fs H D' (out (inj t)):=λD' y t e h=>bQ.Z4 (ho t) e h;refine⟨λi m σ' H'=>∃s,aZ K H' σ' (hd s)/\cT σ fs H σ' (hd s) H'/\JF K H' J l/\m=l.length-i/\i<=l.length/\(FL.iy (l.drop i) s f).run λo=>(GJ k inj o).run λt=>bQ K x σ fs H D (out t),⟨l.length,s0,s1.le hl,g1.f.trans (cT.le s1 hl),jf,by simp,A6 _,by simpa using q1⟩,?_⟩;rintro i m σ2 H2 ⟨s,s2,g2,SD,rfl,hi,q2⟩;obtain⟨j1,j2⟩:=SD.2 H2 (bB.refl H2);by_cases lT:i < l.length
 ·obtain⟨go,yl⟩:=j1 i _ (Ae lT);have ed:=Bk lT;rw [ed] at q2;refine .inr ⟨go,λσ3 H3=>∃s',aZ K H3 σ3 (hd s')/\cT σ fs H σ3 (hd s') H3/\JF K H3 J l/\(FL.iy (l.drop (i+1)) s' f).run λo=>(GJ k inj o).run λt=>bQ K x σ fs H D (out t),λσ3 H3 ⟨s',a1,a2,a3,a4⟩=>⟨l.length-(i+1),by omega,s',a1,a2,a3,rfl,lT,a4⟩,λv H3 y=>?_⟩;obtain⟨sm,vx⟩:=yl v H3 y;have q2:(f l[i] s).run λo=>(match o with | .go s'=>FL.iy (l.drop (i+1)) s' f | .out t=>bd (.out t)).run λo=>(GJ k inj o).run λt=>bQ K x σ fs H D (out t):=q2;rw [hf] at q2;have s3:=s2.same sm;have g3:=g2.trans (cT.same sm s2);refine⟨s,_,s3,vx,(wt l[i]).mono (λt q4 us g4 s4=>?_) q2⟩;refine⟨s,t,s4,(wb t s).mono (λo q5=>?_) q4⟩;cases o with
  | out t5=>
   refine bQ.go (g3.trans g4) sr s4 (lo _ false t5 ?_ q5);rfl
  | go s'=>
   intro σ5 H5 g5 s5;have fin:∃s',aZ K H5 σ5 (hd s')/\cT σ fs H σ5 (hd s') H5/\JF K H5 J l/\(FL.iy (l.drop (i+1)) s' f).run λo=>(GJ k inj o).run λt=>bQ K x σ fs H D (out t):=⟨s',s5,(g3.trans g4).trans g5,SD.tk (bB.trans sm.eO (bB.trans (g4.eJ s3) (g5.eJ s4))),q5⟩;exact⟨λ_=>fin,fin⟩
 ·have e:i=l.length:=by omega
  subst e;rw [EJ] at q2;exact .inl ⟨j2,hd s,k s,hr s,s2,(k s).mono (λt q3=>q3.go g2 sr s2) q2⟩
def SF.Jg {cw:S->W Bool}{b:S->W S} (hp:xz (dL X.prog X.w) X.A X.env X.xe) (hl:jL fs (hd s0)) (hc:∀s,TF X K (hd s) c (cw s)) (hb:∀s,SF X K false (hd s) body (b s) λs'=>.nc (hd s')) (hr:∀s,SF X K x (hd s) rest (k s) out) :
  SF X K x fs (.While c body [] pos::rest) (.bind (mD cw b s0) k) out:=by
 refine SF.step (zh (tc:=λσ H Q=>∃s,fT K (hd s) (cw s) σ H Q) (tb:=λD σ H=>∃s,fS K false (hd s) (b s) (λs'=>.nc (hd s')) D σ H) hp (λZ s σ H Q I ⟨s1,q⟩=>(hc s1).p Z s σ H Q I q) (λZ s σ H D I ⟨s1,q⟩=>(hb s1).p Z s σ H D I q)) λD σ H ⟨sr,n,q⟩=>?_;refine⟨λm σ' H'=>∃s,aZ K H' σ' (hd s)/\cT σ fs H σ' (hd s) H'/\(mE cw b m s).run λs'=>(k s').run λt=>bQ K x σ fs H D (out t),⟨n,s0,sr.le hl,cT.le sr hl,q⟩,?_⟩;rintro m σ1 H1 ⟨s,s1,g1,q1⟩;cases m with
 | zero=>exact q1.elim
 | succ m=>
  refine⟨s,s1,(cw s).mono (λkk q2 H2 g2 s2=>?_) q1⟩;cases kk with
  | false=>
   refine uE ?_;exact⟨hd s,k s,hr s,s2,(k s).mono (λt q3=>q3.go (g1.trans g2.f) sr s2) q2⟩
  | true=>
   refine uD ?_;refine⟨λσ3 H3=>∃s,aZ K H3 σ3 (hd s)/\cT σ fs H σ3 (hd s) H3/\(mE cw b m s).run λs'=>(k s').run λt=>bQ K x σ fs H D (out t),λσ3 H3 a=>⟨m,Du m,a⟩,s,s2,(b s).mono (λs' q5 σ5 H5 g5 s5=>?_) q2⟩;have fin:∃s,aZ K H5 σ5 (hd s)/\cT σ fs H σ5 (hd s) H5/\(mE cw b m s).run λs'=>(k s').run λt=>bQ K x σ fs H D (out t):=⟨s',s5,(g1.trans g2.f).trans g5,q5⟩;exact⟨λ_=>fin,fin⟩
def SF.rq {cw:S->W Bool}{b:S->W (Lp S R)} (hp:xz (dL X.prog X.w) X.A X.env X.xe) (hl:jL fs (hd s0)) (hc:∀s,TF X K (hd s) c (cw s)) (ho:∀t,(out (inj t)).J5)
  (hb:∀s,SF X K false (hd s) body (b s) (lpE hd λr=>out (inj r))) (hr:∀s,SF X K x (hd s) rest (k s) out) :
  SF X K x fs (.While c body [] pos::rest) (.bind (FL.rq cw b s0) (GJ k inj)) out:=by
 refine SF.step (zh (tc:=λσ H Q=>∃s,fT K (hd s) (cw s) σ H Q) (tb:=λD σ H=>∃s,fS K false (hd s) (b s) (lpE hd λr=>out (inj r)) D σ H) hp (λZ s σ H Q I ⟨s1,q⟩=>(hc s1).p Z s σ H Q I q) (λZ s σ H D I ⟨s1,q⟩=>(hb s1).p Z s σ H D I q)) λD σ H ⟨sr,n,q⟩=>?_;have lo:∀(D':Ends) (y:Bool) (t:R),D'.rt=D.rt->bQ K x σ fs H D (out (inj t))->bQ K y σ fs H D' (out (inj t)):=λD' y t e h=>bQ.Z4 (ho t) e h;refine⟨λm σ' H'=>∃s,aZ K H' σ' (hd s)/\cT σ fs H σ' (hd s) H'/\(jN cw b m s).run λo=>(GJ k inj o).run λt=>bQ K x σ fs H D (out t),⟨n,s0,sr.le hl,cT.le sr hl,q⟩,?_⟩;rintro m σ1 H1 ⟨s,s1,g1,q1⟩;cases m with
 | zero=>exact q1.elim
 | succ m=>
  refine⟨s,s1,(cw s).mono (λkk q2 H2 g2 s2=>?_) q1⟩;cases kk with
  | false=>
   refine uE ?_;exact⟨hd s,k s,hr s,s2,(k s).mono (λt q3=>q3.go (g1.trans g2.f) sr s2) q2⟩
  | true=>
   refine uD ?_;refine⟨λσ3 H3=>∃s,aZ K H3 σ3 (hd s)/\cT σ fs H σ3 (hd s) H3/\(jN cw b m s).run λo=>(GJ k inj o).run λt=>bQ K x σ fs H D (out t),λσ3 H3 a=>⟨m,Du m,a⟩,s,s2,(b s).mono (λo q5=>?_) q2⟩;cases o with
   | out t5=>
    refine bQ.go (g1.trans g2.f) sr s2 (lo _ false t5 ?_ q5);rfl
   | go s'=>
    intro σ5 H5 g5 s5;have fin:∃s,aZ K H5 σ5 (hd s)/\cT σ fs H σ5 (hd s) H5/\(jN cw b m s).run λo=>(GJ k inj o).run λt=>bQ K x σ fs H D (out t):=⟨s',s5,(g1.trans g2.f).trans g5,q5⟩;exact⟨λ_=>fin,fin⟩
end
end
end FL
variable {f:PL.PV->FL.W (Option PL.PV)}{m5:FL.bF}
namespace FL
section
open PySem PySem.Spec PyProof.Rows L2 PL
variable {K:Ab}
def kG:List PV->(PV->W (Option PV))->W (List PV)
 | [],_=>.ret []
 | x::r,f=>.bind (f x) λo=>.bind (kG r f) λl=>.ret (o.toList++l)
def mapW:List PV->(PV->W PV)->W (List PV)
 | [],_=>.ret []
 | x::r,f=>.bind (f x) λy=>.bind (mapW r f) λl=>.ret (y::l)
theorem w4 (f:PV->W PV):∀l,mapW l f=kG l λp=>.bind (f p) λv=>.ret (ap v)
 | []=>rfl
 | x::r=>by
  show am (f x) (λy=>am (mapW r f) λl=>bd (y::l))=am (f x) λy=>am (kG r _) λl=>bd (y::l);rw [w4 f r]
def cg (ix:List (Option Nat)) (fs:bF):bF:=ix.map λo=>match o with | some j=>(fs[j]?).getD bm | none=>bm
section
def ou {s:SL} (h:(cg ix fs)[i]?=ap (ap s)):∃j,ix[i]?=ap (ap j)/\fs[j]?=ap (ap s):=by
 unfold cg at h;rw [Aj] at h;cases q:ix[i]? with
 | none=>rw [q] at h;cases h
 | some o=>
  rw [q] at h;cases o with
  | none=>cases h
  | some j=>
   refine⟨j,rfl,?_⟩;have h:(fs[j]?).getD bm=ap s:=Option.some.inj h;cases z:fs[j]? with
   | none=>rw [z] at h;cases h
   | some y=>rw [z] at h;exact congrArg ap h
def lW (h:ix[i]?=ap (ap j)) (e:σ[j]?=ap (ap u)):(oq ix σ)[i]?=ap (ap u):=by
 unfold oq;rw [Aj,h];show ap ((σ[j]?).getD bm)=_;rw [e];rfl
def aZ.gA (s:aZ K H σ fs) (inj:∀i i' j:Nat,ix[i]?=ap (ap j)->ix[i']?=ap (ap j)->i=i'):aZ K H (oq ix σ) (cg ix fs):=by
 refine⟨by unfold oq cg;simp,λi t e=>?_,λi i' t u x y a e1 e2 o1 o2 q1 q2 z1 z2=>?_⟩
 ·obtain⟨j,h1,h2⟩:=ou e;obtain⟨u,h3,h4⟩:=s.at' j t h2;exact⟨u,lW h1 h3,h4⟩
 ·obtain⟨j,h1,h2⟩:=ou e1;obtain⟨j',iw,ub⟩:=ou e2;obtain⟨u1,h3,_⟩:=s.at' j t h2;obtain⟨u2,HL,_⟩:=s.at' j' u ub;rw [lW h1 h3] at q1;rw [lW iw HL] at q2;cases q1;cases q2;have:=s.nd j j' t u x y a h2 ub o1 o2 h3 HL z1 z2;subst this;exact inj i i' j h1 iw
structure T8 (ix:List (Option Nat)) (σ:L2.St) (fs:bF) (σ':L2.St) (bP:bF):Prop where
 own:∀(i:Nat) (t:SL),bP[i]?=ap (ap t)->t.own=true->∃j,ix[i]?=ap (ap j)/\fs[j]?=ap (ap t)/\σ'[i]?=σ[j]?
def T8.uu (h:T8 ix σ fs σ' bP) (o:dI σ' bP a):dI σ fs a:=by
 obtain⟨i,t,x,e1,e2,e3,e4⟩:=o;obtain⟨j,h1,h2,h3⟩:=h.own i t e1 e2;exact⟨j,t,x,h2,e2,h3▸e3,e4⟩
def T8.kj (h:T8 ix σ fs σ' bP) (o:eI σ' bP φ a):eI σ fs φ a:=by
 obtain⟨i,e1,e3⟩:=o;obtain⟨j,h1,h2,h3⟩:=h.own i _ e1 rfl;exact⟨j,h2,h3▸e3⟩
def T8.out (h:T8 ix σ fs σ' bP) (s:aZ K H1 σ fs) (g:cU σ' bP H1 H2) (s2:aZ K H2 σ' bP):aZ K H2 σ fs/\cU σ fs H1 H2:=by
 have gf:cU σ fs H1 H2:=⟨λa o e n=>g.keep a o e λφ z=>n φ (h.kj z),g.there⟩;refine⟨⟨s.len,λj t e=>?_,s.nd⟩,gf⟩;obtain⟨u,h1,h2⟩:=s.at' j t e;refine⟨u,h1,?_⟩;have tk:=gf.eJ s;rcases h2 with⟨v,q,r⟩ | ⟨a,q,r⟩
 ·exact .inl ⟨v,q,VR.tk tk r⟩
 ·subst q;refine .inr ⟨a,rfl,?_⟩;by_cases c:∃b,t.own=true/\t.has a b/\dI σ' bP b
  ·obtain⟨b,ow,hb,i,t',x,c1,c2,c3,c4⟩:=c;obtain⟨j',k1,k2,k3⟩:=h.own i t' c1 c2;have jj:=s.nd j j' t t' a x b e k2 ow c2 h1 (k3▸c3) hb c4;subst jj;rw [e] at k2;cases k2;exact s2.ownAt c1 c2 (k3.trans h1)
  ·exact r.mono tk (λb o ow hb z=>g.pK z λy=>c ⟨b,ow,hb,y⟩)
theorem rJ:∀{is:List Nat}{us:List V}{σ:L2.St}{i:Nat},i∉is->(rK is us σ)[i]?=σ[i]?
 | [],us,σ,i,_=>by cases us <;> rfl
 | j::is,[],σ,i,_=>rfl
 | j::is,u::us,σ,i,h=>by
  rw [rK,rJ (λz=>h (AY _ z))];exact aL (λz=>h (by rw [z];exact BC))
end
section
variable {T2:Type}{wt:PV->W T2}{dR:T2->bF}{tf:T2->W Bool}{te:T2->W PV}
structure FF (X:Cx) (K:Ab) (fs:bF) (Ì:List gt) (w:W Bool):Prop where p:YO X Ì (fT K fs w)
def O9:FF X K fs [] (.ret true):=⟨λZ s σ H Q I ⟨sr,q⟩=>RJ Z s σ H Q I (q H .refl sr)⟩
def xM {c:gt}{w:W Bool} (h:TF X K fs c w):FF X K fs [c] w:=⟨RI h.p⟩
def uU (is:List Nat) (m5:bF) (dR:T2->bF):Prop:=∀t,(dR t).length=m5.length/\∀(i:Nat) (s:SL),(dR t)[i]?=ap (ap s)->(i∈is/\s.own=false)\/(i∉is/\m5[i]?=ap (ap s))
theorem Pd (S:aG X.env.scope X.N sc N' ix) (hb:m5=cg ix fs) (hf:∀p,f p=.bind (wt p) λt=>.bind (tf t) λk=>if k=true then .bind (te t) λv=>.ret (ap v) else .ret bm) (hl:uU is m5 dR) (hr:∀t,jL (dR t) m5) (uH:∀j∈is,ix[j]?=ap bm) :
  ∀σ H Q,fL K fs (.bind wl λl=>kG l f) σ H Q->tLc ix (fIt K fs wl) (λv σ H Q=>fG K m5 is wt dR v σ H Q) (λσ H Q=>∃t,fT K (dR t) (tf t) σ H Q) (λσ H Q=>∃t,fE K (dR t) (te t) σ H Q) σ H Q:=by
 subst hb;rintro σ H Q ⟨sr,q⟩;refine⟨sr,wl.mono (λl q1 J H1 g1 s1 jf D hD=>?_) q⟩;have inj:∀i i' j:Nat,ix[i]?=ap (ap j)->ix[i']?=ap (ap j)->i=i':=λi i' j h1 h2=>by
  have hi:i < N'.length:=by rw [<- S.len];exact (Am.mp h1).1
  have zQ:i' < N'.length:=by rw [<- S.len];exact (Am.mp h2).1
  have e1:=(S.at h1 (Ae hi)).1;have e2:=(S.at h2 (Ae zQ)).1;rw [e1] at e2;exact (EI S.nd).mp (Option.some.inj e2)
 have nD:=s1.noOwn hD;refine⟨λi m σ' ys H'=>∃Ä,aZ K H' σ fs/\cU σ fs H H'/\aZ K H' σ' (cg ix fs)/\T8 ix σ fs σ' (cg ix fs)/\JF K H' J l/\H' D=ap (.lst ys)/\aM K [] H' ys Ä/\Ä.length<=i/\m=l.length-i/\i<=l.length/\
  (kG (l.drop i) f).run λr=>∀a vs H',cU σ fs H H'->aZ K H' σ fs->H a=bm->H' a=ap (.lst vs)->aM K [] H' vs (Ä++r)->Q (.ref a) H',⟨l.length,[],?_⟩,?_⟩
 ·have sm:=gV hD (.lst []);refine⟨s1.same sm,g1.trans (cU.same sm),(s1.same sm).gA inj,⟨λi t e o=>?_⟩,jf.tk sm.eO,aP,.nil,A6 _,by simp,A6 _,by simpa using q1⟩;obtain⟨j,h1,h2⟩:=ou e;obtain⟨u,h3,_⟩:=s1.at' j t h2;exact⟨j,h1,h2,by rw [lW h1 h3,h3]⟩
 rintro i m σ2 ys H2 ⟨Ä,sO,gO,s2,inn,SD,hy,vy,aa6,rfl,hi,q2⟩;refine⟨hy,?_⟩;obtain⟨j1,j2⟩:=SD.2 H2 (bB.refl H2);by_cases lT:i < l.length
 ·obtain⟨go,yl⟩:=j1 i _ (Ae lT);have ed:=Bk lT;rw [ed] at q2;refine .inr ⟨go,λv H3 y=>?_⟩;obtain⟨sm,vx⟩:=yl v H3 y;have q2:(f l[i]).run λo=>(kG (l.drop (i+1)) f).run λr=>∀a vs H',cU σ fs H H'->aZ K H' σ fs->H a=bm->H' a=ap (.lst vs)->aM K [] H' vs (Ä++(o.toList++r))->Q (.ref a) H':=q2;rw [hf] at q2;have s3:=s2.same sm;have sO3:=sO.same sm;have gO3:=gO.trans (cU.same sm);have hy3:=sm _ _ hy;have vy3:=aM.tk sm.eO vy;have jf3:=SD.tk sm.eO;refine⟨_,s3,vx,(wt l[i]).mono (λt q4 us g4 s4=>?_) q2⟩;have SK:T8 ix σ fs (rK is us σ2) (dR t):=⟨λj u e o=>by
   rcases (hl t).2 j u e with⟨_,z⟩ | ⟨n,z⟩
   ·rw [z] at o;cases o
   ·obtain⟨j',k1,k2,k3⟩:=inn.own j u z o;exact⟨j',k1,k2,by rw [rJ n];exact k3⟩⟩
  refine⟨t,s4,(tf t).mono (λkk q5 H5 g5 s5=>?_) q4⟩;obtain⟨sO5,afh⟩:=SK.out sO3 g5 s5;have gO5:=gO3.trans afh;have tk5:=g5.eJ s4;have nD4:¬dI (rK is us σ2) (dR t) D:=λz=>nD (SK.uu z);have hy5:=g5.pK hy3 nD4;have vy5:=aM.tk tk5 vy3;have jf5:=jf3.tk (g5.eJ s4);have Í:∀{H6:Hp},aZ K H6 (rK is us σ2) (dR t)->aZ K H6 (rK is us σ2) (cg ix fs)/\T8 ix σ fs (rK is us σ2) (cg ix fs):=λ{H6} z=>⟨z.le (hr t),⟨λj u e o=>SK.own j u ((hr t).at j u e) o⟩⟩;cases kk with
  | false=>
   refine uE ⟨l.length-(i+1),by omega,Ä,sO5,gO5,(Í s5).1,(Í s5).2,jf5,hy5,vy5,by omega,rfl,lT,?_⟩;exact q5
  | true=>
   refine uD ⟨t,s5,(te t).mono (λv6 q6 u6 H6 g6 s6 v6'=>?_) q5⟩;obtain⟨sO6,afg⟩:=SK.out sO5 g6 s6;have gO6:=gO5.trans afg;have tk6:=g6.eJ s5;have è:=g6.pK hy5 nD4;have vy6:=aM.tk tk6 vy5;have tkD:=lK (K:=K) (.lst (ys++[u6])) è;have hD0:=g1.there D hD;refine⟨è,by rw [vy6.length];have:=SD.1;omega,l.length-(i+1),by omega,Ä++[v6],sO6.side nD è _,gO6.side hD0 _,((Í s6).1).side (λz=>nD ((Í s6).2.uu z)) è _,(Í s6).2,(jf5.tk (g6.eJ s5)).tk (lK _ è),aP,aM.tk tkD (vy6.append (.cons v6' .nil)),by rw [Ad];simp;omega,rfl,lT,?_⟩;refine (kG (l.drop (i+1)) f).mono (λr q7 a vs H7 g7 s7 n e v7=>q7 a vs H7 g7 s7 n e ?_) q6;simpa using v7
 ·have e:i=l.length:=by omega
  subst e;rw [EJ] at q2;exact .inl ⟨j2,q2 D ys H2 gO sO (g1.there D hD) hy (by simpa using vy)⟩
end
end
end FL
namespace L2
open PySem PySem.Spec PyProof.Rows
def qd (l:ci) (items:Array ce) (n:Nat) (b:ci) (cp:Array ce) (n2:Nat) (sl:Array (Option ce)) (hc0:¬(!items.isEmpty&&Builtin.List.listTooLong (items.size+cp.size))=true) (hc1:items.size<=sizeLine) (qN:items.size+cp.size<=sizeLine+1) :
  Meets (wT.«list.extend» ⟨[.ref l,.ref b],[]⟩) (λ_ R s=>s.heap.get? l=ap {cls:=.type "list",dict:=bm,data:=.seq items n,slots:=#[]}/\s.heap.get? b=ap {cls:=.type "list",dict:=bm,data:=.seq cp n2,slots:=sl}/\R (.ok (.ret AZ)) {s with heap:=s.heap.update l (Bq λx=>x++cp),toks:=s.toks}):=
 .of_wp λprog w A R s h=>by
  obtain⟨hp,g,d,tk,os⟩:=s;obtain⟨hl,hb,h⟩:=h;have f1:=ES;have f2:=Dr;have f3:=DK;have f4:=Dz;have f5:=DA;have HH:(items++cp).size<=sizeLine+1:=by rw [Eo];exact qN
  wp_walk using (DL hl rfl (hz:=hc1) (_hz':=HH)),BW hl,BW hb;exact⟨_,rfl,h⟩
def ZO (K:Ab):V->List V->Hp->VK->Prop:=λx vs H Q=>∃l b xs zs,x=.ref l/\vs=[.ref b]/\H l=ap (.lst xs)/\(di K H b zs\/dU K H b zs)/\xs.length+zs.length<=sizeLine/\yR H l (.lst (xs++zs)) (Q .aO)
theorem Sg (K:Ab) (hK:X.K=K):Mu X "list.extend" (ZO K):=by
 subst hK;intro Z s σ H x vs v us Q I rx rv h;obtain⟨l,b,xs,zs,rfl,rfl,hH,hB | hB,hz,q⟩:=h
 ·cases rx;obtain⟨u,rfl,ru⟩:=rv.one;cases ru;obtain⟨z,aw,n,r,hl,e⟩:=I.oV hH;obtain⟨cJ,r2,⟨⟨cls,dd,data,sl⟩,n2,e2,hc,hd,nU⟩,z2⟩:=I.list hB;simp only at hc hd nU;subst hc hd nU;have MF:=r2.length;have hsz:aw.toArray.size+cJ.toArray.size<=sizeLine:=by rw [Ai,Ai];omega
  have sN:¬(!aw.toArray.isEmpty&&Builtin.List.listTooLong (aw.toArray.size+cJ.toArray.size))=true:=by
   rw [jv hsz,B6];exact AW
  refine u8 D7 ⟨_,e,rfl⟩ DS (Dy _ _)
   (qd l aw.toArray n b cJ.toArray n2 sl sN (by rw [Ai];omega) ∅) ⟨e,e2,?_⟩
  refine⟨.aO,_,I.Hr (its':=aw++cJ) hH e (by simp) (r.append r2) ?_,rfl,q.at⟩;rw [Ad];omega
 ·exact zD Z s σ H _ _ v us Q I rx rv ⟨l,b,xs,zs,rfl,rfl,hH,hB,hz,q⟩
end L2
variable {wi we:FL.W PL.PV}{ei:BJ}
namespace FL
section
open PySem PySem.Spec PyProof.Rows L2 PL
variable {K:Ab}
section
variable {T2:Type}{wt:PV->W T2}{dR:T2->bF}{tf:T2->W Bool}{te:T2->W PV}
def WU (hc:X.calm=true) (S:aG X.env.scope X.N sc N' ix) (hi:qZ X K fs tg iter wl) (hg:∀cl C s2 H2 fp,GF (gA X sc N' cl C s2 H2 fp) K (cg ix fs) tg is wt dR) (í:∀cl C s2 H2 fp t,FF (gA X sc N' cl C s2 H2 fp) K (dR t) Ì (tf t)) (he:∀cl C s2 H2 fp t,EF (gA X sc N' cl C s2 H2 fp) K (dR t) Å (te t))
  (hf:∀p,f p=.bind (wt p) λt=>.bind (tf t) λk=>if k=true then .bind (te t) λv=>.ret (ap v) else .ret bm) (hl:uU is (cg ix fs) dR/\∀t,jL (dR t) (cg ix fs)) (uH:∀j∈is,ix[j]?=ap bm) (hs:vS X iter:=by intro _;rfl) :
  LF X K fs (.ListComp Å [⟨tg,iter,Ì,0⟩] sc pos) (.bind wl λl=>kG l f):=
 ⟨PE.imp (ZY hc S hi.p (λcl C s2 H2 fp=>(hg cl C s2 H2 fp).p) (λcl C s2 H2 fp Z s σ H Q I ⟨t,q⟩=>(í cl C s2 H2 fp t).p Z s σ H Q I q) (λcl C s2 H2 fp Z s σ H Q I ⟨t,q⟩=>(he cl C s2 H2 fp t).p Z s σ H Q I q) hs) (Pd S rfl hf hl.1 hl.2 uH)⟩
def UE {f:PV->W PV} (hc:X.calm=true) (S:aG X.env.scope X.N sc N' ix) (hi:qZ X K fs tg iter wl) (hg:∀cl C s2 H2 fp,GF (gA X sc N' cl C s2 H2 fp) K (cg ix fs) tg is wt dR) (he:∀cl C s2 H2 fp t,EF (gA X sc N' cl C s2 H2 fp) K (dR t) Å (te t))
  (hf:∀p,f p=.bind (wt p) te) (hl:uU is (cg ix fs) dR/\∀t,jL (dR t) (cg ix fs)) (uH:∀j∈is,ix[j]?=ap bm) (hs:vS X iter:=by intro _;rfl) :
  LF X K fs (.ListComp Å [⟨tg,iter,[],0⟩] sc pos) (.bind wl λl=>mapW l f):=by
 have:(λl=>mapW l f)=λl=>kG l λp=>.bind (wt p) λt=>.bind (.ret true) λk=>if k=true then .bind (te t) λv=>.ret (ap v) else .ret bm:=funext λl=>by
  rw [w4];congr 1;funext p;rw [hf];rfl
 rw [this];exact WU (tf:=λ_=>.ret true) hc S hi hg (λ_ _ _ _ _ _=>O9) he (λp=>rfl) hl uH hs
def SF.Us {rest:List sK}{out:T->End}{k:List PV->W T} (hc:X.calm=true) (hN:X.N.Nodup) (zQ:X.N[i]?=ap y) (hx:X.env.scope.names.lookup y=ap .local) (S:aG X.env.scope X.N sc N' ix) (hi:qZ X K fs tg iter wl) (hg:∀cl C s2 H2 fp,GF (gA X sc N' cl C s2 H2 fp) K (cg ix fs) tg is wt dR) (í:∀cl C s2 H2 fp t,FF (gA X sc N' cl C s2 H2 fp) K (dR t) Ì (tf t)) (he:∀cl C s2 H2 fp t,EF (gA X sc N' cl C s2 H2 fp) K (dR t) Å (te t))
  (hf:∀p,f p=.bind (wt p) λt=>.bind (tf t) λk=>if k=true then .bind (te t) λv=>.ret (ap v) else .ret bm) (hl:uU is (cg ix fs) dR/\∀t,jL (dR t) (cg ix fs)) (uH:∀j∈is,ix[j]?=ap bm) (hr:∀l,SF X K x (fs.set i (ap (.ol bm l))) rest (k l) out)
  (qg:kt (.ListComp Å [⟨tg,iter,Ì,0⟩] sc pos) (ap (.Name y px)) nt.line X.env=pure true:=by rfl) (hs:vS X iter:=by intro _;rfl) :
  SF X K x fs (.Assign [.Name y px] (.ListComp Å [⟨tg,iter,Ì,0⟩] sc pos) nt::rest) (.bind (.bind wl λl=>kG l f) k) out:=
 SF.step (zi hc hN zQ hx S hi.p (λcl C s2 H2 fp=>(hg cl C s2 H2 fp).p) (λcl C s2 H2 fp Z s σ H Q I ⟨t,q⟩=>(í cl C s2 H2 fp t).p Z s σ H Q I q) (λcl C s2 H2 fp Z s σ H Q I ⟨t,q⟩=>(he cl C s2 H2 fp t).p Z s σ H Q I q) qg hs) λD σ H ⟨sr,q⟩=>
  Pd (K:=K) S rfl hf hl.1 hl.2 uH σ H _ ⟨sr,(am wl λl=>kG l f).mono (λl q1 a ws H1 g1 s1 n e v1=>by
   have no:=sr.noOwn n;have s2:=s1.rQ (t:=.ol bm l) ⟨by simp,ws,e,v1⟩ no i;exact⟨_,k l,hr l,s2,(k l).mono (λt q2=>q2.go (cT.rQ s1 g1.f no n i) sr s2) q1⟩) q⟩
theorem xc:∀{l:bF}{i:Nat} (s:Option SL),l[i]?=ap bm->jL (l.set i s) l
 | [],_,_,h=>by simp at h
 | x::l,0,s,h=>by
  simp at h;subst h;exact .drop (jL.refl l)
 | x::l,i+1,s,h=>by
  rw [List.set_cons_succ];exact .keep (xc s (by simpa using h))
def jL.trans {a b c:bF} (h1:jL a b) (h2:jL b c):jL a c:=by
 induction h1 generalizing c with
 | nil=>exact h2
 | drop h ih=>cases h2 with | drop h2=>exact .drop (ih h2) | keep h2=>exact .drop (ih h2)
 | keep h ih=>cases h2 with | drop h2=>exact .drop (ih h2) | keep h2=>exact .keep (ih h2)
def sE {l:bF}{is:List Nat} (hl:l.length=m5.length/\∀(j:Nat) (s:SL),l[j]?=ap (ap s)->(j∈is/\s.own=false)\/(j∉is/\m5[j]?=ap (ap s))) (hi:m5[i]?=ap bm) :
  (l.set i (ap (.val v))).length=m5.length/\∀(j:Nat) (s:SL),(l.set i (ap (.val v)))[j]?=ap (ap s)->(j∈is++[i]/\s.own=false)\/(j∉is++[i]/\m5[j]?=ap (ap s)):=by
 refine⟨by rw [BH];exact hl.1,λj s e=>?_⟩;rcases bf e with⟨rfl,rfl⟩ | ⟨n,e⟩
 ·exact .inl ⟨by simp,rfl⟩
 ·rcases hl.2 j s e with⟨h1,h2⟩ | ⟨h1,h2⟩
  ·exact .inl ⟨by simp [h1],h2⟩
  ·exact .inr ⟨by simp [h1,n],h2⟩
def UD (m5:bF):m5.length=m5.length/\∀(j:Nat) (s:SL),m5[j]?=ap (ap s)->(j∈([]:List Nat)/\s.own=false)\/(j∉([]:List Nat)/\m5[j]?=ap (ap s)):=⟨rfl,λj s e=>.inr ⟨by simp,e⟩⟩
def Om (hi:m5[i]?=ap bm):uU [i] m5 (λp=>m5.set i (ap (.val p)))/\∀t,jL (m5.set i (ap (.val t))) m5:=⟨λt=>sE (is:=[]) (UD m5) hi,λt=>xc _ hi⟩
def Nn {l:bF}{s:Option SL} (h:l[j]?=ap bm) (n:j≠i):(l.set i s)[j]?=ap bm:=by rw [aL n];exact h
def Ol (hi:m5[i]?=ap bm) (hj:m5[j]?=ap bm) (n:j≠i):uU [i,j] m5 (λt:PV×PV=>(m5.set i (ap (.val t.1))).set j (ap (.val t.2)))/\∀t:PV×PV,jL ((m5.set i (ap (.val t.1))).set j (ap (.val t.2))) m5:=
 ⟨λt=>sE (is:=[i]) (sE (is:=[]) (UD m5) hi) hj,λt=>(xc _ (Nn hj n)).trans (xc _ hi)⟩
end
section
variable {rest:List sK}{T:Type}{out:T->End}
def dc (sr:aZ K H σ fs) (hs:fs[i]?=ap (ap (.ol q0 l))):∃a ws,σ[i]?=ap (ap (.ref a))/\H a=ap (.lst ws)/\aM K [] H ws l:=by
 obtain⟨u,e1,r⟩:=sr.at' i _ hs;rcases r with⟨v,e,_⟩ | ⟨a,e,z,ws,q1,q2⟩
 ·cases e
 ·subst e;exact⟨a,ws,e1,q1,q2⟩
def jU {pW:List V}{l':List PV} (sr:aZ K H σ fs) (hs:fs[i]?=ap (ap (.ol q0 l))) (e1:σ[i]?=ap (ap (.ref a))) (sx:oB a H H') (h':H' a=ap (.lst pW)) (r:aM K [] H pW l'):aZ K H' σ (fs.set i (ap (.ol q0 l')))/\cT σ fs H σ (fs.set i (ap (.ol q0 l'))) H':=
 mJ (t':=.ol q0 l') sr hs rfl (by simp) e1 sx λtk=>⟨(sr.ownAt hs rfl e1).1,pW,h',aM.tk tk r⟩
def kE (l:List PV) (v:PV):W (List PV):=.fg (l.length < sizeLine) (.ret (l++[v]))
theorem SF.append (i:Nat) {k:List PV->W T} (hs:fs[i]?=ap (ap (.ol q0 l))) (hK:X.K=K) (hN:X.N[i]?=ap y) (hv:yr X.env.scope y) (he:EF X K fs e we) (hr:∀l',SF X K x (fs.set i (ap (.ol q0 l'))) rest (k l') out)
  (hd:jg y:=by decide) (iV:yK y:=by decide) (eY:pc (.Name y p) "append" X.env (kw (.Name y p) X.env)=kw (.Name y p) X.env:=by rfl)
  (sP:YQ X cu [e]:=by rfl)
  (eX:QJ Ã cu:=by rfl) (xr:iB X e []:=by rfl) (hZ:lH X cu []:=by rfl)
  (qg:kt (.Call (.Attribute (.Name y p) "append" Ã) [e] [] cu) bm pos.line X.env=pure false:=by rfl) :
  SF X K x fs (.Expr (.Call (.Attribute (.Name y p) "append" Ã) [e] [] cu) pos::rest) (.bind we λv=>.bind (kE l v) k) out:=
 SF.step (nv (wN K hK B7 Es Er sf (dr hN hv hd iV) (bz he.p cX xr) eY sP eX xr hZ) qg) λD σ H ⟨sr,q⟩=>by
  obtain⟨a,ws,e1,h1,r1⟩:=dc sr hs;refine⟨_,e1,.inl ⟨rfl,_,di.of h1⟩,sr,we.mono (λv q1 u H1 g1 s1 v1=>?_) q⟩;obtain⟨a',pW,m6,iw,yG⟩:=dc s1 hs;rw [e1] at m6;cases m6;refine⟨a,pW,u,rfl,rfl,iw,by rw [yG.length];exact q1.1,λH2 sx h2=>?_⟩;obtain⟨s2,g2⟩:=jU s1 hs e1 sx h2 (yG.append (.one v1));exact⟨_,k _,hr _,s2,(k _).mono (λt q2=>q2.go (g1.f.trans g2) sr s2) q1.2⟩
def xN (l m:List PV):W (List PV):=.fg (l.length+m.length<=sizeLine) (.ret (l++m))
theorem SF.extend (i:Nat) {k:List PV->W T} (hs:fs[i]?=ap (ap (.ol q0 l))) (hK:X.K=K) (hN:X.N[i]?=ap y) (hv:yr X.env.scope y) (he:QF X K fs e wl) (hr:∀l',SF X K x (fs.set i (ap (.ol q0 l'))) rest (k l') out)
  (hd:jg y:=by decide) (iV:yK y:=by decide) (eY:pc (.Name y p) "extend" X.env (kw (.Name y p) X.env)=kw (.Name y p) X.env:=by rfl)
  (sP:YQ X cu [e]:=by rfl)
  (eX:QJ Ã cu:=by rfl) (xr:iB X e []:=by rfl) (hZ:lH X cu []:=by rfl)
  (qg:kt (.Call (.Attribute (.Name y p) "extend" Ã) [e] [] cu) bm pos.line X.env=pure false:=by rfl) :
  SF X K x fs (.Expr (.Call (.Attribute (.Name y p) "extend" Ã) [e] [] cu) pos::rest) (.bind wl λm=>.bind (xN l m) k) out:=
 SF.step (nv (wN K hK B7 PySem.F.slot_list_extend PySem.F.type_list_extend (Sg K hK) (dr hN hv hd iV) (bz he.p cX xr) eY sP eX xr hZ) qg) λD σ H ⟨sr,q⟩=>by
  obtain⟨a,ws,e1,h1,r1⟩:=dc sr hs;refine⟨_,e1,.inl ⟨rfl,_,di.of h1⟩,sr,wl.mono (λm q1 u H1 g1 s1 v1=>?_) q⟩;obtain⟨a',pW,m6,iw,yG⟩:=dc s1 hs;rw [e1] at m6;cases m6;obtain⟨b,zs,rfl,hb,rb⟩:=v1.sq s1;refine⟨a,b,pW,zs,rfl,rfl,iw,hb,by rw [yG.length,rb.length];exact q1.1,λH2 sx h2=>?_⟩;obtain⟨s2,g2⟩:=jU s1 hs e1 sx h2 (yG.append rb);exact⟨_,k _,hr _,s2,(k _).mono (λt q2=>q2.go (g1.f.trans g2) sr s2) q1.2⟩
def wK (l:List PV):W (List PV×PV):=match l.getLast? with
 | some v=>.ret (l.dropLast,v)
 | none=>.fail
def Nj {l:List PV} (h:l.getLast?=ap v):l=l.dropLast++[v]:=by
 rw [List.getLast?_eq_some_iff] at h;obtain⟨ys,rfl⟩:=h;simp
theorem aM.snoc:∀{ws:List V}{l:List PV}{v:PV},aM K [] H ws (l++[v])->∃Yl u,ws=Yl++[u]/\aM K [] H Yl l/\VR K [] H u v
 | _,[],_,.cons r .nil=>⟨[],_,rfl,.nil,r⟩
 | _,x::l,v,.cons r t=>by
  obtain⟨Yl,u,rfl,h1,h2⟩:=aM.snoc t;exact⟨_::Yl,u,rfl,.cons r h1,h2⟩
def SF.wL (i j:Nat) {z:Str}{k:List PV×PV->W T} (hs:fs[i]?=ap (ap (.ol q0 l))) (hij:j≠i) (hK:X.K=K) (hN:X.N[i]?=ap y) (hv:yr X.env.scope y) (hNd:X.N.Nodup) (hj:X.N[j]?=ap z) (hx:Loc X.env.scope z) (hr:∀t:List PV×PV,SF X K x ((fs.set i (ap (.ol q0 t.1))).set j (ap (.val t.2))) rest (k t) out)
  (hd:jg y:=by decide) (iV:yK y:=by decide) (eY:pc (.Name y p) "pop" X.env (kw (.Name y p) X.env)=kw (.Name y p) X.env:=by rfl) (eX:QJ Ã cu:=by rfl)
  (qg:kt (.Call (.Attribute (.Name y p) "pop" Ã) [] [] cu) (ap (.Name z p')) pos.line X.env=pure false:=by rfl) (hf:MM X z:=by first | exact .inl rfl | exact .inr rfl | assumption) :
  SF X K x fs (.Assign [.Name z p'] (.Call (.Attribute (.Name y p) "pop" Ã) [] [] cu) pos::rest) (.bind (wK l) k) out:=
 SF.step (rR hNd hj hx (JK K hK B7 PySem.F.slot_list_pop PySem.F.type_list_pop Sf (dr hN hv hd iV) eY eX) qg hf) λD σ H ⟨sr,q⟩=>by
  obtain⟨a,ws,e1,h1,r1⟩:=dc sr hs;have q:(wK l).run λt=>(k t).run λt=>bQ K x σ fs H D (out t):=q;unfold wK at q;cases hl:l.getLast? with
  | none=>rw [hl] at q;exact q.elim
  | some v=>
   rw [hl] at q;have el:=Nj hl;rw [el] at r1;obtain⟨Yl,u,rfl,r0,ru⟩:=aM.snoc r1;refine⟨_,e1,.inl ⟨rfl,_,di.of h1⟩,a,Yl,u,rfl,rfl,h1,λH2 sx h2=>?_⟩;obtain⟨s2,g2⟩:=jU sr hs e1 sx h2 r0;have ru2:VR K [] H2 u v:=g2.vr sr ru;have s3:=s2.fY ru2 j;exact⟨_,k _,hr (l.dropLast,v),s3,(k _).mono (λt q2=>q2.go (g2.trans (cT.fY s2 _ _ j)) sr s3) q⟩
def fX (l:List PV) (i v:PV):W (List PV):=match i with
 | .int k=>match mn l.length k with
  | some j=>.ret (l.set j v)
  | none=>.fail
 | _=>.fail
def SF.G6 (i:Nat) {k:List PV->W T} (hs:fs[i]?=ap (ap (.ol q0 l))) (hN:X.N[i]?=ap y) (hv:yr X.env.scope y) (he:EF X K fs e we) (hi:EF X K fs ei wi) (hr:∀l',SF X K x (fs.set i (ap (.ol q0 l'))) rest (k l') out)
  (ha:∀v,ww (.Subscript (.Name y p) ei gq) X.env v=(do
   let ov <- re [v] (kw (.Name y p) X.env)
   let iv <- re [v,ov] (kw ei X.env)
   FB gq
   re [v,ov,iv] (xL ov iv v)
   release [v,ov,iv] []):=by intro _;rfl)
  (hd:jg y:=by decide) (iV:yK y:=by decide) (ê:EQ [.Subscript (.Name y p) ei gq] e pos.line X.env=pure false:=by rfl) (hw:Fa [.Subscript (.Name y p) ei gq] e X.env=pure bm:=by rfl)
  (h1:(wf [.Subscript (.Name y p) ei gq] X.env).map (·.2)=[ww (.Subscript (.Name y p) ei gq) X.env]:=by rfl) :
  SF X K x fs (.Assign [.Subscript (.Name y p) ei gq] e pos::rest) (.bind we λv=>.bind wi λn=>.bind (fX l n v) k) out:=
 SF.step (wJ he.p (NN (dr hN hv hd iV) hi.p oJ ha) ê hw h1) λD σ H ⟨sr,q⟩=>by
  refine⟨sr,we.mono (λv q1 u H1 g1 s1 v1=>?_) q⟩;obtain⟨a,ws,e1,h1,r1⟩:=dc s1 hs;refine⟨_,e1,s1,wi.mono (λn q2 u2 H2 g2 s2 v2=>?_) q1⟩;obtain⟨a',pW,m6,iw,yG⟩:=dc s2 hs;rw [e1] at m6;cases m6;cases v2 with
  | int kk=>
   have q2:(match mn l.length kk with | some j=>bd (l.set j v) | none=>W.fail).run _:=q2;cases hj:mn l.length kk with
   | none=>rw [hj] at q2;exact q2.elim
   | some j=>
    rw [hj] at q2;refine⟨a,pW,kk,j,rfl,rfl,iw,by rw [yG.length];exact hj,λH3 sx h3=>?_⟩;obtain⟨s3,g3⟩:=jU s2 hs e1 sx h3 (yG.set (g2.vr s1 v1) j);exact⟨_,k _,hr _,s3,(k _).mono (λt q3=>q3.go ((g1.trans g2).f.trans g3) sr s3) q2⟩
  | _=>exact q2.elim
end
end
end FL
variable {x:Cp}
namespace FL
section
open PySem PySem.Spec PyProof.Rows L2 PL
variable {K:Ab}
def iA:List AK->List PV->bF
 | [],_=>[]
 | .v::ks,x::l=>ap (.val x)::iA ks l
 | .v::_,[]=>[]
 | .p φ::ks,l=>ap (.kj φ)::iA ks l
 | .f a::ks,l=>ap (.adr a)::iA ks l
def i8 (ks:List AK) (l:List PV) (n:Nat):bF:=iA ks l++Al (n-ks.length) bm
def jd (ks:List AK):Prop:=∀i j:Nat,(∃φ,ks[i]?=ap (.p φ))->(∃φ,ks[j]?=ap (.p φ))->i=j
theorem jO:∀{n:Nat}{m:QI R n}{l:List PV}{Q:R->Prop},(cy n m l).run Q->l.length=n
 | 0,_,[],_,_=>rfl
 | 0,_,_::_,_,h=>h.elim
 | n+1,_,[],_,h=>h.elim
 | n+1,m,x::l,Q,h=>by rw [An,jO (n:=n) (m:=m x) h]
section
theorem jh.len (h:jh K H vs ks l):vs.length=ks.length:=by induction h <;> simp_all
def jh.slot (h:jh K H vs ks l):(iA ks l).length=vs.length/\∀(i:Nat) (s:SL),(iA ks l)[i]?=ap (ap s)->∃u,vs[i]?=ap u/\vR K H u s/\(s.own=true->∃φ,s=.kj φ/\ks[i]?=ap (.p φ)):=by
 induction h with
 | nil=>exact⟨rfl,λi s e=>by simp [iA] at e⟩
 | @v u x vs ks l r t ih=>
  refine⟨by simp [iA,ih.1],λi s e=>?_⟩;cases i with
  | zero=>simp [iA] at e;subst e;exact⟨u,rfl,.inl ⟨x,rfl,r⟩,λz=>by cases z⟩
  | succ i=>simp [iA] at e;obtain⟨w,h1,h2,h3⟩:=ih.2 i s e;exact⟨w,by simpa using h1,h2,by simpa using h3⟩
 | @p a φ ws vs ks l e0 r t ih=>
  refine⟨by simp [iA,ih.1],λi s e=>?_⟩;cases i with
  | zero=>simp [iA] at e;subst e;exact⟨_,rfl,.inr ⟨a,rfl,ws,e0,r⟩,λ_=>⟨φ,rfl,rfl⟩⟩
  | succ i=>simp [iA] at e;obtain⟨w,h1,h2,h3⟩:=ih.2 i s e;exact⟨w,by simpa using h1,h2,by simpa using h3⟩
 | @f a vs ks l t ih=>
  refine⟨by simp [iA,ih.1],λi s e=>?_⟩;cases i with
  | zero=>simp [iA] at e;subst e;exact⟨_,rfl,.inr ⟨a,rfl,rfl⟩,λz=>by cases z⟩
  | succ i=>simp [iA] at e;obtain⟨w,h1,h2,h3⟩:=ih.2 i s e;exact⟨w,by simpa using h1,h2,by simpa using h3⟩
def jh.V9 (h:jh K H vs ks l) (e:ks[i]?=ap (.p φ)):(iA ks l)[i]?=ap (ap (.kj φ)):=by
 induction h generalizing i with
 | nil=>simp at e
 | v r t ih=>cases i with | zero=>simp at e | succ i=>simp [iA];exact ih (by simpa using e)
 | p e0 r t ih=>cases i with | zero=>simp at e;subst e;rfl | succ i=>simp [iA];exact ih (by simpa using e)
 | f t ih=>cases i with | zero=>simp at e | succ i=>simp [iA];exact ih (by simpa using e)
theorem ox {s:SL} (h:(i8 ks l n)[i]?=ap (ap s)):(iA ks l)[i]?=ap (ap s):=by
 unfold i8 at h;by_cases c:i < (iA ks l).length
 ·rw [AE c] at h;exact h
 ·rw [AA ∅,Bz] at h
  split at h <;> cases h
def lL {N:List Str} (h:vs[i]?=ap u):(L2.start N vs)[i]?=ap (ap u):=by
 unfold L2.start;rw [AE (by rw [Ag];exact (Am.mp h).1),Aj,h];rfl
def vc {N:List Str} (h:(L2.start N vs)[i]?=ap (ap u)):vs[i]?=ap u:=by
 unfold L2.start at h;by_cases c:i < vs.length
 ·rw [AE (by simpa using c),Aj] at h;cases z:vs[i]? with
  | none=>rw [z] at h;cases h
  | some q=>rw [z] at h;cases h;rfl
 ·rw [AA (by simpa using c),Bz] at h
  split at h <;> cases h
def jh.beg (h:jh K H vs ks l) (one:jd ks) (N:List Str):aZ K H (L2.start N vs) (i8 ks l N.length):=by
 obtain⟨hl,hs⟩:=h.slot;refine⟨?_,λi s e=>?_,λi j s t x y a e1 e2 o1 o2 q1 q2 z1 z2=>?_⟩
 ·unfold L2.start i8;rw [Ad,Ad,Ag,hl,A9,A9,h.len]
 ·obtain⟨u,h1,h2,_⟩:=hs i s (ox e);exact⟨u,lL h1,h2⟩
 ·obtain⟨_,_,_,h3⟩:=hs i s (ox e1);obtain⟨_,_,_,h4⟩:=hs j t (ox e2);obtain⟨φ,_,k1⟩:=h3 o1;obtain⟨ψ,_,k2⟩:=h4 o2;exact one i j ⟨φ,k1⟩ ⟨ψ,k2⟩
def jh.go (h:jh K H vs ks l) {N:List Str} (g:cT (L2.start N vs) (i8 ks l N.length) H σ' bP H') (s':aZ K H' σ' bP):GoC vs ks H H':=by
 obtain⟨hl,hs⟩:=h.slot;refine⟨λa o e n=>(g.keep a o e λz=>?_).1,g.there,λa φ p=>?_⟩
 ·obtain⟨i,s,x,e1,e2,e3,e4⟩:=z;obtain⟨u,h1,h2,h3⟩:=hs i s (ox e1);obtain⟨φ,rfl,k⟩:=h3 e2;rcases e4 with rfl | e4
  ·exact n φ ⟨i,k,vc e3⟩
  ·cases e4
 ·obtain⟨i,e1,e2⟩:=p;have e3:=h.V9 e1;have hi:=(Am.mp e3).1;have e4:(i8 ks l N.length)[i]?=ap (ap (.kj φ)):=by unfold i8;rw [AE hi];exact e3
  rcases g.pk a φ ⟨i,e4,lL e2⟩ with⟨j,k1,k2⟩ | ⟨_,k⟩
  ·exact s'.ownAt k1 rfl k2
  ·exact k
end
section
variable {st:sK}{f:ci}{N:List Str}
def fnV {m:QI PV n} (Fn:QH K x qual st f fd) (S:ar N ps (ai st)) (o8:ks.length=ps.length) (one:jd ks)
  (Â:∀l:List PV,l.length=n->∀(cK:ce) (A:pr) (outer:List Env) (s:cr) (H:Hp) (E:XK),cL k (A.deeper (sn qual (ai st) s.heap.objs.size f cK))->SF (i7 lY P w K mg base N qual (ai st) f cK A outer s H E).wW K false (i8 ks l N.length) (br st) (cy n m l) .rt) :
  gJ P w K mg base lY (k+1) f fd ps (fJ K ks (cy n m)):=by
 refine Fn.ok S (λvs H Q E h=>?_) (λcK A outer s H vs Q E hr h=>?_)
 ·obtain⟨l,h,_⟩:=h;rw [h.len];exact o8
 obtain⟨l,h,q⟩:=h;refine⟨_,(Â l (jO q) cK A outer s H E hr).p,h.beg one N,(cy n m l).mono (λv q1 u σ' bP H' g s' r=>q1 u H' (h.go g s') r) q⟩
def fnL {m:QI (List PV) n} (Fn:QH K x qual st f fd) (S:ar N ps (ai st)) (o8:ks.length=ps.length) (one:jd ks)
  (Â:∀l:List PV,l.length=n->∀(cK:ce) (A:pr) (outer:List Env) (s:cr) (H:Hp) (E:XK),cL k (A.deeper (sn qual (ai st) s.heap.objs.size f cK))->SF (i7 lY P w K mg base N qual (ai st) f cK A outer s H E).wW K false (i8 ks l N.length) (br st) (cy n m l) .rl) :
  gJ P w K mg base lY (k+1) f fd ps (eK K ks (cy n m)):=by
 refine Fn.ok S (λvs H Q E h=>?_) (λcK A outer s H vs Q E hr h=>?_)
 ·obtain⟨l,h,_⟩:=h;rw [h.len];exact o8
 obtain⟨l,h,q⟩:=h;have sr:=h.beg one N;refine⟨_,(Â l (jO q) cK A outer s H E hr).p,sr,(cy n m l).mono (λz q1 a ws σ' bP H' g s' fr e r=>q1 a ws H' (h.go g s') ?_ e r) q⟩;rcases fr with fr | ⟨i,t,x,e1,e2,np,e3,e4⟩
 ·exact fr
 ·obtain⟨_,_,_,h3⟩:=h.slot.2 i t (ox e1);obtain⟨φ,e,_⟩:=h3 e2;exact absurd e (np φ)
end
def dC:jd []:=λi j ⟨_,h⟩=>by simp at h
def ju (h:jd ks):jd (.v::ks):=λi j ⟨φ,a⟩ ⟨ψ,b⟩=>by
 cases i with
 | zero=>simp at a
 | succ i=>
  cases j with
  | zero=>simp at b
  | succ j=>rw [h i j ⟨φ,by simpa using a⟩ ⟨ψ,by simpa using b⟩]
def km {fa:ci} (h:jd ks):jd (.f fa::ks):=λi j ⟨φ,a⟩ ⟨ψ,b⟩=>by
 cases i with
 | zero=>simp at a
 | succ i=>
  cases j with
  | zero=>simp at b
  | succ j=>rw [h i j ⟨φ,by simpa using a⟩ ⟨ψ,by simpa using b⟩]
def aD:jd (.p φ::Al n .v):=λi j ⟨χ,a⟩ ⟨ψ,b⟩=>by
 have z:∀{i:Nat}{χ:List V->Prop},(AK.p φ::Al n .v)[i]?=ap (.p χ)->i=0:=λ{i χ} a=>by
  cases i with
  | zero=>rfl
  | succ i=>
   have a:(Al n AK.v)[i]?=ap (.p χ):=by simpa using a
   rw [Bz] at a
   split at a <;> simp at a
 rw [z a,z b]
end
end FL
namespace L2
open PySem PySem.Spec PyProof.Rows
def ZQ (K:Ab):R2:=λx y H Q=>∃a b xs zs,x=.ref a/\y=.ref b/\di K H a xs/\di K H b zs/\xs.length+zs.length<=sizeLine/\kA H (.lst (xs++zs)) Q
theorem R0 (K:Ab) (hK:X.K=K):ir X (r9 .Add) (ZQ K):=by
 subst hK;intro Z s σ H x y v u Q I rx ry h;obtain⟨l,b,xs,zs,rfl,rfl,hH,hB,hz,q⟩:=h;cases rx;cases ry;obtain⟨aw,r,⟨⟨cls,dd,data,sl⟩,n,ho,hc,hd,nU⟩,_⟩:=I.list hH;obtain⟨cJ,r2,⟨⟨X1,Tx,data2,Qx⟩,n2,Lw,OV,Ç,UT⟩,_⟩:=I.list hB;simp only at hc hd nU OV Ç UT;subst hc hd nU OV Ç UT;have e:aw.toArray++cJ.toArray=(aw++cJ).toArray:=by simp
 have hl:=r.length;have MF:=r2.length;refine concat_meets ⟨_,ho,rfl⟩ ⟨_,Lw,rfl⟩ noFill_list_add seq_list_add PySem.F.slot_list_add PySem.F.entry_list_add (PySem.F.args_list_add_2 _ _) (list_addW l b aw.toArray cJ.toArray n n2 bm bm sl Qx (by simp;omega)) ⟨ho,Lw,?_⟩;rw [e];exact⟨.ref _,_,I.WQ (t':=s.toks) (r.append r2) (by rw [Ad];omega),rfl,q.at _ I.fresh⟩
end L2
variable {hi:FL.W (Option Int)}{neg:Bool}
namespace FL
section
open PySem PySem.Spec PyProof.Rows L2 PL
variable {K:Ab}
section
variable {a c:gt}{w:W PV}
def mS (l m:List PV):W (List PV):=.fg (l.length+m.length<=sizeLine) (.ret (l++m))
def fQL (K:Ab) (fs:bF) (w:W (List PV)):TE:=λσ H Q=>aZ K H σ fs/\w.run λl=>∀u H',cU σ fs H H'->aZ K H' σ fs->T4 K σ fs H' u l->(∀Đ,cU σ fs H' Đ->aZ K Đ σ fs->∃a vs,u=.ref a/\di K Đ a vs/\aM K [] Đ vs l)->Q u H'
structure GN (X:Cx) (K:Ab) (fs:bF) (e:gt) (w:W (List PV)):Prop where p:PE X e (fQL K fs w)
def bI (h:LF X K fs e wl):GN X K fs e wl:=⟨PE.imp h.p λσ H Q ⟨sr,q⟩=>⟨sr,wl.mono (λl q1 a vs H1 g1 s1 n e v=>q1 _ H1 g1 s1 (.inr ⟨a,rfl,.inl ⟨sr.noOwn n,vs,e,v⟩⟩) λH2 g2 s2=>⟨a,vs,rfl,di.of (g2.pK e (sr.noOwn n)),g2.Mw s1 v⟩) q⟩⟩
def G8 (i:Nat) (hs:fs[i]?=ap (ap (.ol q0 l)):=by rfl) (hN:X.N[i]?=ap x:=by rfl) (hv:yr X.env.scope x:=by first | exact CH rfl | exact Ct (CH rfl) | exact Ct (Ct rfl)) (hd:jg x:=by decide) (iV:yK x:=by decide):GN X K fs (.Name x pos) (.ret l):=
 ⟨PE.imp (dr hN hv hd iV) λσ H Q ⟨sr,q⟩=>by
  obtain⟨a,ws,e1,h1,r1⟩:=dc sr hs;refine⟨_,e1,q _ H .refl sr (.inr ⟨a,rfl,.inr ⟨i,q0,hs,e1⟩⟩) λH2 g2 s2=>?_⟩;obtain⟨a',pW,m6,iw,yG⟩:=dc s2 hs;rw [e1] at m6;cases m6;exact⟨a,pW,rfl,di.of iw,yG⟩⟩
def su:PV->W (List PV)
 | .cl l=>.ret l
 | _=>.fail
def kQ (h:EF X K fs e w):GN X K fs e (.bind w su):=⟨PE.imp h.p λσ H Q ⟨sr,q⟩=>⟨sr,w.mono (λx q1 u1 H1 g1 s1 v1=>by
 cases v1 with
 | cl e r=>exact q1 _ H1 g1 s1 (.inl ⟨_,_,rfl,.inl e,r⟩) λH2 g2 s2=>⟨_,_,rfl,((g2.eJ s1).f _ _ e).sq,g2.Mw s1 r⟩
 | _=>exact q1.elim) q⟩⟩
def k8 (hK:X.K=K) (ha:GN X K fs a wl) (hb:GN X K fs b wm):LF X K fs (.BinOp a .Add b pos) (.bind wl λl=>.bind wm λm=>mS l m):=⟨PE.imp (JI (R0 K hK) ha.p hb.p) λσ H Q ⟨sr,q⟩=>⟨sr,wl.mono (λl q1 u1 H1 g1 s1 _ v1=>⟨s1,wm.mono (λm q2 u2 H2 g2 s2 _ v2=>by
 obtain⟨a,vs,rfl,h1,r1⟩:=v1 H2 g2 s2;obtain⟨b,ws,rfl,h2,r2⟩:=v2 H2 .refl s2;refine⟨a,b,vs,ws,rfl,rfl,h1,h2,by rw [r1.length,r2.length];exact q2.1,λp H3 s3 h3 n3=>?_⟩;have gg:=g1.trans g2;exact q2.2 p _ H3 (gg.trans (cU.same s3)) (s2.same s3) (gg.there p n3) h3 (aM.tk s3.eO (r1.append r2))) q1⟩) q⟩⟩
def JR {Q:VK} (g1:cU σ fs H H1) (s1:aZ K H1 σ fs) (r:aM K [] H1 vs l) (q:∀a vs H',cU σ fs H H'->aZ K H' σ fs->H a=bm->H' a=ap (.lst vs)->aM K [] H' vs l->Q (.ref a) H'):kA H1 (.lst vs) Q:=λp H2 s2 h2 n2=>q p vs H2 (g1.trans (cU.same s2)) (s1.same s2) (g1.there p n2) h2 (aM.tk s2.eO r)
def Oh (K:Ab):CL K (Ny K) .ret:=λ{fs σ H Q u l} s v q=>by
 obtain⟨a,vs,rfl,h,rs⟩:=v.sq s;exact⟨a,vs,rfl,h,JR .refl s rs q⟩
def HA (hK:X.K=K) (hg:Gl X "list") (hm:X.mg "list"=bm) (ha:QF X K fs e wl) (he:iB X e []:=by rfl) (dJ:lH X pos []:=by rfl):LF X K fs (.Call (.Name "list" p) [e] [] pos) wl:=Ot (m:=.ret) (IB K hK) (Oh K) hg hm boot_list ha ⋯ ⋯ he dJ
def fW (hK:X.K=K) (hg:Gl X "tuple") (hm:X.mg "tuple"=bm) (ha:QF X K fs e wl) (he:iB X e []:=by rfl) (dJ:lH X pos []:=by rfl):EF X K fs (.Call (.Name "tuple" p) [e] [] pos) (.bind wl oH):=L4 (Mc K hK) (QY K) hg hm boot_tuple ha ⋯ ⋯ he dJ
def pz (hK:X.K=K) (hg:Gl X "len") (hm:X.mg "len"=bm) (ha:QF X K fs e wl) (he:iB X e []:=by rfl) (dJ:lH X pos []:=by rfl):EF X K fs (.Call (.Name "len" p) [e] [] pos) (.bind wl qe):=PN (vK K hK) (Sn K) hg hm boot_len ha ⋯ ⋯ he dJ
def Qo (ha:EF X K fs e w) (he:ga [e] X.env=(false,kw e X.env)::ga [] X.env):AF X K fs [e] (Al 1 .v) (R:=R) (λk=>.bind w λx=>k [x]):=ae ha ak he
def dz (hK:X.K=K) (hg:Gl X "len") (hm:X.mg "len"=bm) (ha:EF X K fs e w) (he:iB X e []:=by rfl) (dJ:lH X pos []:=by rfl):EF X K fs (.Call (.Name "len" p) [e] [] pos) (.bind w λx=>qa dQ [x]):=qV (n:=1) (vK K hK) (TQ K) hg hm boot_len (Qo ha he) ⋯ ⋯ he dJ
def abC (hg:Gl X "abs") (hm:X.mg "abs"=bm) (ha:EF X K fs e w) (he:iB X e []:=by rfl) (dJ:lH X pos []:=by rfl):EF X K fs (.Call (.Name "abs" p) [e] [] pos) (.bind w λx=>qa Qf [x]):=qV (n:=1) Qa TU hg hm boot_abs (Qo ha he) ⋯ ⋯ he dJ
def qU (hg:Gl X "int") (hm:X.mg "int"=bm) (ha:EF X K fs e w) (he:iB X e []:=by rfl) (dJ:lH X pos []:=by rfl):EF X K fs (.Call (.Name "int" p) [e] [] pos) (.bind w λx=>qa tU [x]):=PM (n:=1) Mi TR hg hm boot_int (Qo ha he) ⋯ ⋯ he dJ
def abx (hc:X.calm=true) (hg:Gl X "max") (hm:X.mg "max"=bm) (ha:EF X K fs a wa) (hb:EF X K fs b wb) (he:ga [a,b] X.env=(false,kw a X.env)::ga [b] X.env:=by rfl) (ð:iB X b []:=by rfl) (dJ:(FS pos (ga [b] X.env)).any (·.1)=false:=by rfl):EF X K fs (.Call (.Name "max" p) [a,b] [] pos) (.bind wa λx=>.bind wb λy=>qa Qe [x,y]):=qV (n:=2) (Mf hc) TN hg hm boot_max (ae ha (ae hb ak ð) he) ⋯ ⋯ he dJ
def abw (hc:X.calm=true) (hg:Gl X "min") (hm:X.mg "min"=bm) (ha:EF X K fs a wa) (hb:EF X K fs b wb) (he:ga [a,b] X.env=(false,kw a X.env)::ga [b] X.env:=by rfl) (ð:iB X b []:=by rfl) (dJ:(FS pos (ga [b] X.env)).any (·.1)=false:=by rfl):EF X K fs (.Call (.Name "min" p) [a,b] [] pos) (.bind wa λx=>.bind wb λy=>qa Qd [x,y]):=qV (n:=2) (Me hc) TL hg hm boot_min (ae ha (ae hb ak ð) he) ⋯ ⋯ he dJ
def aap (hK:X.K=K) (hc:X.calm=true) (ı:Gl X "list") (Ĭ:X.mg "list"=bm) (İ:Gl X "reversed") (Yx:X.mg "reversed"=bm) (he:GN X K fs e wl)
  (GI:ga [.Call (.Name "reversed" p3) [e] [] p4] X.env=(false,kw (.Call (.Name "reversed" p3) [e] [] p4) X.env)::ga [] X.env:=by rfl) (qN:iB X e []:=by rfl) :
  LF X K fs (.Call (.Name "list" p1) [.Call (.Name "reversed" p3) [e] [] p4] [] p2) (.bind wl λl=>.ret l.reverse):=⟨PE.imp (Hb K hK hc ı Ĭ İ Yx he.p GI qN) λσ H Q ⟨sr,q⟩=>⟨sr,wl.mono (λl q1 u1 H1 g1 s1 _ v1=>by
 obtain⟨a,vs,rfl,h1,r1⟩:=v1 H1 .refl s1;exact⟨a,vs,rfl,h1,JR g1 s1 r1.reverse q1⟩) q⟩⟩
def YJ:List PV->W (List Bool)
 | []=>.ret []
 | .bl b::r=>.bind (YJ r) λl=>.ret (b::l)
 | _=>.fail
theorem yj:∀{l:List PV}{Q:List Bool->Prop},(YJ l).run Q->∃bs:List Bool,l=bs.map PV.bl/\Q bs
 | [],Q,h=>⟨[],rfl,h⟩
 | .bl b::r,Q,h=>by
  obtain⟨bs,e,q⟩:=yj (l:=r) h;exact⟨b::bs,by rw [e];rfl,q⟩
 | .aO::r,Q,h=>h.elim
 | .int _::r,Q,h=>h.elim
 | .str _::r,Q,h=>h.elim
 | .tup _::r,Q,h=>h.elim
 | .ref _::r,Q,h=>h.elim
 | .ty _::r,Q,h=>h.elim
 | .cl _::r,Q,h=>h.elim
@[simp] theorem yk:∀bs:List Bool,YJ (bs.map PV.bl)=.ret bs
 | []=>rfl
 | b::bs=>by
  show am (YJ (bs.map PV.bl)) _=_;rw [yk bs];rfl
def Gu (l:List PV):W PV:=.bind (YJ l) λbs=>.ret (.bl (bs.all id))
def Ql (l:List PV):W PV:=.bind (YJ l) λbs=>.ret (.bl (bs.any id))
def Ko (hK:X.K=K) (hc:X.calm=true) (hg:Gl X "all") (hm:X.mg "all"=bm) (ha:GN X K fs e wl) (he:iB X e []:=by rfl) (dJ:lH X pos []:=by rfl):EF X K fs (.Call (.Name "all" p) [e] [] pos) (.bind wl Gu):=⟨PE.imp (fZ (Mk K hK hc) hg hm boot_all (bz ha.p cX he) ⋯ ⋯ he dJ) λσ H Q ⟨sr,q⟩=>⟨sr,wl.mono (λl q1 u1 H1 g1 s1 _ v1=>by
 obtain⟨bs,e,q2⟩:=yj (l:=l) q1;obtain⟨a,vs,rfl,h1,r1⟩:=v1 H1 .refl s1;rw [e] at r1;have:=pC r1;subst this;exact⟨a,bs,rfl,h1,q2 _ H1 g1 s1 (.bl _)⟩) q⟩⟩
def abB (hK:X.K=K) (hc:X.calm=true) (hg:Gl X "any") (hm:X.mg "any"=bm) (ha:GN X K fs e wl) (he:iB X e []:=by rfl) (dJ:lH X pos []:=by rfl):EF X K fs (.Call (.Name "any" p) [e] [] pos) (.bind wl Ql):=⟨PE.imp (fZ (Mj K hK hc) hg hm boot_any (bz ha.p cX he) ⋯ ⋯ he dJ) λσ H Q ⟨sr,q⟩=>⟨sr,wl.mono (λl q1 u1 H1 g1 s1 _ v1=>by
 obtain⟨bs,e,q2⟩:=yj (l:=l) q1;obtain⟨a,vs,rfl,h1,r1⟩:=v1 H1 .refl s1;rw [e] at r1;have:=pC r1;subst this;exact⟨a,bs,rfl,h1,q2 _ H1 g1 s1 (.bl _)⟩) q⟩⟩
def fF (k:Kd) (x:PV):W PV:=match x with
 | .ref _=>.fail
 | .ty _=>.fail
 | x=>.ret (.bl (k.is x))
def Uv (K:Ab):List V->Hp->VK->Prop:=λxs H Q=>∃x c t b,xs=[x,.ty c]/\(mf K H x t\/(t=.type "tuple"/\∃a vs,x=.ref a/\dU K H a vs)\/(t=.type "list"/\∃a vs,x=.ref a/\di K H a vs)\/(t=.type "dict"/\∃a,x=.ref a/\IsD H a))/\BA K t (.type c)=ap b/\Q (.bl b) H
def Mh (hK:X.K=K):bR X (.builtin "isinstance") (Uv K):=by
 subst hK;intro Z s σ H xs us Q I r h;obtain⟨x,c,t,b,rfl,ty | ty | ⟨rfl,a,vs,rfl,hL⟩ | ⟨rfl,a,rfl,hD⟩,e,q⟩:=h
 ·exact pP Z s σ H _ us Q I r ⟨x,c,t,b,rfl,ty,e,q⟩
 ·exact Mg X.K rfl Z s σ H _ us Q I r ⟨x,c,t,b,rfl,.inr ty,e,q⟩
 ·obtain⟨u,w,rfl,r1,r2⟩:=vals2 r;cases r1;cases r2;obtain⟨aw,_,⟨o,n,h1,h2,_⟩,_⟩:=I.list hL;exact Bl Ei I.tZ ⟨o,h1,h2⟩ e (λz=>nomatch z) λtk=>⟨.bl b,H,I.tok _,rfl,q⟩
 ·obtain⟨u,w,rfl,r1,r2⟩:=vals2 r;cases r1;cases r2;have:∃o,s.heap.get? a=ap o/\o.cls=.type "dict":=by
   rcases hD with⟨kvs,e⟩ | ⟨kvs,e⟩
   ·obtain⟨_,_,vs,_,o,_,_,h1,h2,_⟩:=tL I.bH e;exact⟨o,h1,h2.1⟩
   ·obtain⟨_,_,xs,_,o,_,_,h1,h2,_⟩:=tK I.bH e;exact⟨o,h1,h2.1⟩
  obtain⟨o,h1,h2⟩:=this;exact Bl Ej I.tZ ⟨o,h1,h2⟩ e (λz=>nomatch z) λtk=>⟨.bl b,H,I.tok _,rfl,q⟩
def fo (hK:X.K=K) (k:Kd) (hg:Gl X "isinstance") (hm:X.mg "isinstance"=bm) (ha:EF X K fs a wa) (hgx:Gl X x) (hmx:X.mg x=bm) (hv:nn x=ap (.type k.name)) (hn:x≠"__name__":=by decide) (hd:jg x:=by decide)
  (he:ga [a,.Name x p2] X.env=(false,kw a X.env)::ga [.Name x p2] X.env:=by rfl) (ð:ga [Expr.Name x p2] X.env=(false,kw (.Name x p2) X.env)::ga [] X.env:=by rfl)
  (dJ:(FS pos (ga [Expr.Name x p2] X.env)).any (·.1)=false:=by rfl):EF X K fs (.Call (.Name "isinstance" p) [a,.Name x p2] [] pos) (.bind wa (fF k)):=
 ⟨PE.imp (fZ (Mh hK) hg hm boot_isinstance (bz ha.p (bz (RP (v:=.ty k.name) hgx hmx hv rfl hn hd) cX ð) he) ⋯ ⋯ he dJ) λσ H Q ⟨sr,q⟩=>⟨sr,wa.mono (λx q1 u1 H1 g1 s1 v1=>by
  have fin:∀{t:ce}{y:PV},mf K H1 u1 t->BA K t (.type k.name)=ap (k.is y)->Q (.bl (k.is y)) H1->Uv K [u1,.ty k.name] H1 Q:=λty e q=>⟨_,_,_,_,rfl,.inl ty,e,q⟩;cases v1 with
  | aO=>exact fin (y:=.aO) .aO (by rw [(qM K).1 k];cases k <;> rfl) (q1 _ H1 g1 s1 (.bl _))
  | bl b=>exact fin (.bl b) (W3 K b k) (q1 _ H1 g1 s1 (.bl _))
  | int b=>exact fin (.int b) (Sz K b k) (q1 _ H1 g1 s1 (.bl _))
  | str b=>exact fin (.str b) (Sx K b k) (q1 _ H1 g1 s1 (.bl _))
  | ty n=>exact q1.elim
  | ref n=>exact q1.elim
  | @dk a o kvs ks l e k1 r=>exact⟨_,_,_,_,rfl,.inr (.inr (.inr ⟨rfl,_,rfl,.inl ⟨_,.inr ⟨_,e⟩⟩⟩)),(show _=ap (k.is (.dv ks l)) by rw [(qM K).2.2 k];cases k <;> rfl),q1 _ H1 g1 s1 (.bl _)⟩
  | @dt a o kvs ks l e k1 r=>exact⟨_,_,_,_,rfl,.inr (.inr (.inr ⟨rfl,_,rfl,.inr ⟨_,.inr ⟨_,e⟩⟩⟩)),(show _=ap (k.is (.dv ks l)) by rw [(qM K).2.2 k];cases k <;> rfl),q1 _ H1 g1 s1 (.bl _)⟩
  | @cl p vs l e r=>exact⟨_,_,_,_,rfl,.inr (.inr (.inl ⟨rfl,_,_,rfl,e.sq⟩)),(show _=ap (k.is (.cl l)) by rw [(qM K).2.1 k];cases k <;> rfl),q1 _ H1 g1 s1 (.bl _)⟩
  | @tup p vs l e r=>exact⟨_,_,_,_,rfl,.inr (.inl ⟨rfl,_,_,rfl,dU.of e⟩),Sw K _ k,q1 _ H1 g1 s1 (.bl _)⟩) q⟩⟩
def zd (l:List PV):PV->W (List PV)
 | .int k=>.fg (-(2 ^ 63)<=k/\k < 2 ^ 63/\l.length*k.toNat<=sizeLine) (.ret (Al k.toNat l).flatten)
 | _=>.fail
def Oq (ha:LF X K fs a wl) (hb:EF X K fs b wb):LF X K fs (.BinOp a .Mult b pos) (.bind wl λl=>.bind wb λy=>zd l y):=⟨PE.imp (JI Wo ha.p hb.p) λσ H Q ⟨sr,q⟩=>⟨sr,wl.mono (λl q1 a vs H1 g1 s1 n e v=>⟨s1,wb.mono (λy q2 u2 H2 g2 s2 v2=>by
 cases v2 with
 | int k=>
  have no:=sr.noOwn n;have e2:=(g2.pK e no);have r2:=g2.Mw s1 v;refine⟨a,k,vs,rfl,rfl,e2,q2.1.1,q2.1.2.1,by rw [r2.length];exact q2.1.2.2,λp hp=>?_⟩;have sm:=gV hp (.lst (Al k.toNat vs).flatten);have gg:=g1.trans g2;exact q2.2 p _ _ (gg.trans (cU.same sm)) (s2.same sm) (gg.there p hp) aP (aM.tk sm.eO (r2.rep k.toNat))
 | _=>exact q2.elim) q1⟩) q⟩⟩
def part:PV->W (Option Int)
 | .int i=>.ret (ap i)
 | _=>.fail
def cY:OF X K fs bm (.ret bm):=⟨PO.imp RF λσ H Q ⟨sr,q⟩=>q H .refl sr⟩
def de (h:EF X K fs e w):OF X K fs (ap e) (.bind w part):=⟨PO.imp (RE h.p) λσ H Q ⟨sr,q⟩=>⟨sr,w.mono (λx q1 u1 H1 g1 s1 v1=>by
 cases v1 with
 | int i=>exact⟨_,rfl,q1 H1 g1 s1⟩
 | _=>exact q1.elim) q⟩⟩
variable {el eh:Option gt}{lo:W (Option Int)}
def VH (x:PV) (i j:Option Int):W PV:=match x with
 | .str z=>.fg (z.length<=sizeLine) (.ret (.str (EA z i j)))
 | _=>.fail
def abr (he:EF X K fs e w) (hl:OF X K fs el lo) (hh:OF X K fs eh hi):EF X K fs (.Subscript e (.Slice el eh bm p2) pos) (.bind w λx=>.bind lo λi=>.bind hi λj=>VH x i j):=⟨PE.imp (zm VG he.p hl.p hh.p) λσ H Q ⟨sr,q⟩=>⟨sr,w.mono (λx q1 u1 H1 g1 s1 v1=>⟨s1,lo.mono (λi q2 H2 g2 s2=>⟨s2,hi.mono (λj q3 H3 g3 s3=>by
 cases v1 with
 | str z=>exact⟨_,rfl,q3.1,q3.2 _ H3 ((g1.trans g2).trans g3) s3 (.str _)⟩
 | _=>exact q3.elim) q2⟩) q1⟩) q⟩⟩
def iK (h:GN X K fs e wl):∀σ H Q,fE K fs (.bind wl λl=>.ret (.bl (if neg then !l.isEmpty else l.isEmpty))) σ H Q->Uk (λx y H Q=>∃p q xs,x=.ref p/\y=.ref q/\di K H p xs/\di K H q []/\Q (.bl (if neg then !xs.isEmpty else xs.isEmpty)) H) (fQL K fs wl) (fL K fs (.ret [])) σ H Q:=λσ H Q ⟨sr,q⟩=>
 ⟨sr,wl.mono (λl q1 u1 H1 g1 s1 _ v1=>⟨s1,λa2 vs2 H2 g2 s2 n2 e2 r2=>by
  cases r2;obtain⟨a,vs,rfl,h1,r1⟩:=v1 H2 g2 s2;refine⟨a,a2,vs,rfl,rfl,h1,di.of e2,?_⟩;rw [Pu r1];exact q1 _ H2 (g1.trans g2) s2 (.bl _)⟩) q⟩
def JX:LF X K fs (.List [] pos) (.ret []):=UG (n:=0) ak
theorem abA (hK:X.K=K) (hu:X.A.units+200 < o0) (h:GN X K fs e wl) (hk:lc .Eq (.List [] p2)=false:=by rfl):EF X K fs (.Compare e [.Eq] [.List [] p2] pos) (.bind wl λl=>.ret (.bl l.isEmpty)):=⟨PE.imp (qC (rV K hK ∅) h.p JX.p hk) (iK (neg:=false) h)⟩
theorem abv (hK:X.K=K) (hu:X.A.units+200 < o0) (h:GN X K fs e wl) (hk:lc .NotEq (.List [] p2)=false:=by rfl):EF X K fs (.Compare e [.NotEq] [.List [] p2] pos) (.bind wl λl=>.ret (.bl (!l.isEmpty))):=⟨PE.imp (qC (rT K hK ∅) h.p JX.p hk) (iK (neg:=true) h)⟩
theorem Zb (hK:X.K=K) (hu:X.A.units+200 < o0) (h:GN X K fs e wl) (hk:lc .Eq (.List [] p2)=false:=by rfl):TF X K fs (.Compare e [.Eq] [.List [] p2] pos) (.bind wl λl=>.ret l.isEmpty):=⟨PT.imp (qB (rV K hK ∅) h.p JX.p hk) λσ H Q q=>iK (neg:=false) h σ H _ (S8 (w:=.bind wl λl=>.ret (.bl l.isEmpty)) σ H Q q)⟩
theorem M5 (hK:X.K=K) (hu:X.A.units+200 < o0) (h:GN X K fs e wl) (hk:lc .NotEq (.List [] p2)=false:=by rfl):TF X K fs (.Compare e [.NotEq] [.List [] p2] pos) (.bind wl λl=>.ret (!l.isEmpty)):=⟨PT.imp (qB (rT K hK ∅) h.p JX.p hk) λσ H Q q=>iK (neg:=true) h σ H _ (S8 (w:=.bind wl λl=>.ret (.bl (!l.isEmpty))) σ H Q q)⟩
def sI:List PV->W (List Int)
 | []=>.ret []
 | .int i::r=>.bind (sI r) λl=>.ret (i::l)
 | _=>.fail
theorem oZ:∀{l:List PV}{Q:List Int->Prop},(sI l).run Q->∃ns:List Int,l=ns.map PV.int/\Q ns
 | [],Q,h=>⟨[],rfl,h⟩
 | .int b::r,Q,h=>by
  obtain⟨bs,e,q⟩:=oZ (l:=r) h;exact⟨b::bs,by rw [e];rfl,q⟩
 | .aO::r,Q,h=>h.elim
 | .bl _::r,Q,h=>h.elim
 | .str _::r,Q,h=>h.elim
 | .tup _::r,Q,h=>h.elim
 | .ref _::r,Q,h=>h.elim
 | .ty _::r,Q,h=>h.elim
 | .cl _::r,Q,h=>h.elim
@[simp] theorem o5:∀bs:List Int,sI (bs.map PV.int)=.ret bs
 | []=>rfl
 | b::bs=>by
  show am (sI (bs.map PV.int)) _=_;rw [o5 bs];rfl
end
end
section
open PySem PySem.Spec PyProof.Rows L2 PL
variable {K:Ab}
abbrev b2 (m:M2) (wa wb:W PV):W PV:=.bind wa λx=>.bind wb λy=>of2 m x y
abbrev t2 (m:M2) (wa wb:W PV):W Bool:=.bind wa λx=>.bind wb λy=>.bind (of2 m x y) YK
abbrev c1 (m:yL) (w:W PV):W PV:=.bind w λx=>qa m [x]
abbrev bq (wl:W (List PV)) (wb:W PV):W PV:=.bind wl λl=>.bind wb λy=>MD l y
abbrev um (a b:W Bool):W Bool:=.bind a λk=>if k=true then b else .ret false
abbrev Ym (a b:W Bool):W Bool:=.bind a λk=>if k=true then .ret true else b
abbrev rC (a:W Bool):W Bool:=.bind a λk=>.ret (!k)
abbrev eM {α:Type} (t:W Bool) (a b:W α):W α:=.bind t λk=>if k=true then a else b
section
variable {a c:gt}{rest:List sK}{S T T2:Type}{hd:S->bF}{s0:S}{w:W PV}{wt:PV->W T2}{dR:S->T2->bF}{k:S->W T}{out:T->End}{x:Bool}
def SF.uK {f:PV->S->W S} (hp:xz (dL X.prog X.w) X.A X.env X.xe) (hc:X.calm=true) (hi:qZ X K fs tg iter wl) (hl:jL fs (hd s0)) (hg:PG X tg (dM i)) (hb:∀s p,SF X K false ((hd s).set i (ap (.val p))) body (f p s) λs'=>.nc (hd s')) (hr:∀s,SF X K x (hd s) rest (k s) out) (hs:vS X iter:=by intro _;rfl) :
  SF X K x fs (.For tg iter body [] pos::rest) (.bind wl λl=>.bind (dG l s0 f) k) out:=SF.for (wt:=.ret) (wb:=λp s=>f p s) hp hc hi hl (λs=>Xw hg) (λ_ _=>rfl) hb hr hs
def SF.S6 {wb:T2->S->W S} (hp:xz (dL X.prog X.w) X.A X.env X.xe) (hc:X.calm=true) (hi:qZ X K fs tg iter wl) (hl:jL fs (hd s0)) (hg:∀s,GF X K (hd s) tg is wt (dR s)) (hb:∀s t,SF X K false (dR s t) body (wb t s) λs'=>.nc (hd s')) (hr:∀s,SF X K x (hd s) rest (k s) out) (hs:vS X iter:=by intro _;rfl) :
  SF X K x fs (.For tg iter body [] pos::rest) (.bind wl λl=>.bind (dG l s0 λp s=>.bind (wt p) λt=>wb t s) k) out:=SF.for hp hc hi hl hg (λ_ _=>rfl) hb hr hs
def SF.O5 {inj:R->T}{f:PV->S->W (Lp S R)} (hp:xz (dL X.prog X.w) X.A X.env X.xe) (hc:X.calm=true) (hi:qZ X K fs tg iter wl) (hl:jL fs (hd s0)) (hg:PG X tg (dM i)) (ho:∀t,(out (inj t)).J5) (hb:∀s p,SF X K false ((hd s).set i (ap (.val p))) body (f p s) (lpE hd λr=>out (inj r))) (hr:∀s,SF X K x (hd s) rest (k s) out) (hs:vS X iter:=by intro _;rfl) :
  SF X K x fs (.For tg iter body [] pos::rest) (.bind wl λl=>.bind (FL.iy l s0 f) (GJ k inj)) out:=SF.iy (wt:=.ret) (wb:=λp s=>f p s) hp hc hi hl (λs=>Xw hg) (λ_ _=>rfl) ho hb hr hs
def SF.Rk {fs3:T2->bF}{k:T2->W T} (he:EF X K fs e we) (hg:GF X K fs tg is wt fs3) (hr:∀t,SF X K x (fs3 t) rest (k t) out) (hs:EQ [tg] e pos.line X.env=pure false:=by rfl) (hw:Fa [tg] e X.env=pure bm:=by rfl)
  (h1:(wf [tg] X.env).map (·.2)=[ww tg X.env]:=by rfl):SF X K x fs (.Assign [tg] e pos::rest) (.bind we λv=>.bind (wt v) k) out:=SF.step (wJ he.p hg.p hs hw h1) λD σ H ⟨sr,q⟩=>
 ⟨sr,we.mono (λv q1 u H1 g1 s1 v1=>⟨v,s1,v1,(wt v).mono (λt q2 us g2 s2=>⟨_,k t,hr t,s2,(k t).mono (λt' q3=>q3.go (g1.f.trans g2) sr s2) q2⟩) q1⟩) q⟩
def rE (v:PV):W PV:=.fg (v.dat=true) (.ret v)
def MZ (l:List PV):W (List PV):=.fg (uO l=true) (.ret l)
mutual
theorem VR.kc {ι:List ci}{H H':Hp} (t:∀p vs,H p=ap (.tup vs)->H' p=ap (.tup vs)):∀{v:V}{q:PV},VR K ι H v q->q.dat=true->VR K [] H' v q
 | _,_,.aO,_=>.aO
 | _,_,.bl b,_=>.bl b
 | _,_,.int i,_=>.int i
 | _,_,.str x,_=>.str x
 | _,_,.ty n,h=>by rw [PV.dat] at h;cases h
 | _,_,.tup e r,h=>.tup (t _ _ e) (aM.kc t r (by rw [PV.dat] at h;exact h))
 | _,_,.cl e r,h=>by rw [PV.dat] at h;cases h
 | _,_,.dk _ _ _,h=>by rw [PV.dat] at h;cases h
 | _,_,.dt _ _ _,h=>by rw [PV.dat] at h;cases h
 | _,_,.ref e,h=>by rw [PV.dat] at h;cases h
theorem aM.kc {ι:List ci}{H H':Hp} (t:∀p vs,H p=ap (.tup vs)->H' p=ap (.tup vs)):∀{v:List V}{q:List PV},aM K ι H v q->uO q=true->aM K [] H' v q
 | _,_,.nil,_=>.nil
 | _,_,.cons r s,h=>by
  rw [uO,Az] at h;exact .cons (VR.kc t r h.1) (aM.kc t s h.2)
end
def bor (I:Inv X Z σ H s) (sr:aZ K H σ fs) (hs:fs[i]?=ap (ap (.ol q0 l))):∃a ws ob,Inv X Z σ (upd H a (.cM ob (.lst ws))) s/\aZ K (upd H a (.cM ob (.lst ws))) σ (fs.set i (ap (.val (.cl l))))/\
  ∀σ' s' H1,Inv X Z σ' H1 s'->cU σ (fs.set i (ap (.val (.cl l)))) (upd H a (.cM ob (.lst ws))) H1->aZ K H1 σ (fs.set i (ap (.val (.cl l))))->Inv X Z σ' (upd H1 a (.lst ws)) s'/\cU σ fs H (upd H1 a (.lst ws))/\aZ K (upd H1 a (.lst ws)) σ fs/\(∀p vs,H1 p=ap (.tup vs)->upd H1 a (.lst ws) p=ap (.tup vs))/\∀p vs,p≠a->H1 p=ap (.lst vs)->upd H1 a (.lst ws) p=ap (.lst vs):=by
 obtain⟨a,ws,e1,h1,r1⟩:=dc sr hs;obtain⟨ob,I2⟩:=I.qO h1;have tk:=lK (K:=K) (.cM ob (.lst ws)) h1;have h0:∀o u,X.H₀ a≠ap (.cM o u):=λo u z=>by
  have:=I.base.qk a o u z;rw [h1] at this;cases this
 refine⟨a,ws,ob,I2,⟨by simp [sr.len],λj t z=>?_,λj k t u b1 b2 b z1 z2 o1 o2=>?_⟩,λσ' s' H1 J g s1=>?_⟩
 ·rcases bf z with⟨rfl,rfl⟩ | ⟨n,z⟩
  ·exact⟨_,e1,.inl ⟨_,rfl,.cl (.inl ⟨ob,aP⟩) (aM.tk tk r1)⟩⟩
  ·obtain⟨u,k1,k2⟩:=sr.at' j t z;exact⟨u,k1,k2.mono tk (λx b o eb ow hb zz=>by
    subst eb;rw [aA (λy=>by subst y;exact n (sr.nd j i t _ x b b z hs ow rfl k1 e1 hb (.inl rfl)))];exact zz)⟩
 ·rcases bf z1 with⟨rfl,rfl⟩ | ⟨n1,z1⟩
  ·cases o1
  ·rcases bf z2 with⟨rfl,rfl⟩ | ⟨n2,z2⟩
   ·cases o2
   ·exact sr.nd j k t u b1 b2 b z1 z2 o1 o2
 ·have pf:∀φ b,eI σ (fs.set i (ap (.val (.cl l)))) φ b->eI σ fs φ b:=λφ b ⟨j,z1,z3⟩=>by
   rcases bf z1 with⟨_,z⟩ | ⟨n,z1⟩
   ·cases z
   ·exact⟨j,z1,z3⟩
  have npa:∀φ,¬eI σ fs φ a:=λφ ⟨j,z1,z3⟩=>by
   have:=sr.nd j i _ _ a a a z1 hs rfl rfl z3 e1 (.inl rfl) (.inl rfl);subst this;rw [hs] at z1;cases z1
  have e2:=g.keep a _ aP λφ p=>npa φ (pf φ a p);have hk:=vA J.bH e2;have ge:cU σ fs H (upd H1 a (.lst ws)):=by
   refine⟨λb o z n=>?_,λb z=>?_⟩
   ·by_cases c:b=a
    ·subst c;rw [h1] at z;cases z;exact aP
    ·rw [aA c];exact g.keep b o (by rw [aA c];exact z) λφ p=>n φ (pf φ b p)
   ·by_cases c:b=a
    ·subst c;rw [aP] at z;cases z
    ·rw [aA c] at z;have:=g.there b z;rw [aA c] at this;exact this
  refine⟨J.Y9 e2 h0 (hk a _ aP) hk,ge,⟨sr.len,λj t z=>?_,sr.nd⟩,λp vs z=>?_,λp vs n z=>by rw [aA n];exact z⟩
  ·obtain⟨u,k1,k2⟩:=sr.at' j t z;refine⟨u,k1,?_⟩;by_cases c:∃φ,t=.kj φ
   ·obtain⟨φ,rfl⟩:=c;have ji:j≠i:=λy=>by subst y;rw [hs] at z;cases z
    rcases k2 with⟨v,y,_⟩ | ⟨b,rfl,_⟩
    ·cases y
    ·obtain⟨vs,y1,y2⟩:=s1.ownAt (t:=.kj φ) (i:=j) (by rw [aL ji];exact z) rfl k1;refine .inr ⟨b,rfl,vs,?_,y2⟩;rw [aA (λy=>by subst y;exact npa φ ⟨j,z,k1⟩)];exact y1
   ·refine k2.mono (ge.eJ sr) (λx b o eb ow hb zz=>ge.keep b o zz λφ ⟨j',p1,p3⟩=>?_);subst eb;have:=sr.nd j j' t _ x b b z p1 ow rfl k1 p3 hb (.inl rfl);subst this;rw [z] at p1;cases p1;exact c ⟨φ,rfl⟩
  ·rw [aA (λy=>by subst y;rw [e2] at z;cases z)];exact z
def U7 (i:Nat) (hs:fs[i]?=ap (ap (.ol q0 l))) (h:EF X K (fs.set i (ap (.val (.cl l)))) e w):EF X K fs e (.bind w rE):=⟨λZ s σ H Q I ⟨sr,q⟩=>by
 obtain⟨a,ws,ob,I2,s2,Í⟩:=bor I sr hs;refine bC (h.p Z s σ _ (λu H1=>∃v,cU σ (fs.set i (ap (.val (.cl l)))) (upd H a (.cM ob (.lst ws))) H1/\aZ K H1 σ (fs.set i (ap (.val (.cl l))))/\VR K [] H1 u v/\v.dat=true/\∀u H',cU σ fs H H'->aZ K H' σ fs->VR K [] H' u v->Q u H') I2 ⟨s2,w.mono (λv q1 u H1 g1 s1 v1=>⟨v,g1,s1,v1,q1.1,q1.2⟩) q⟩) λu s1 ⟨x,H1,I1,r1,v,g1,Rn,v1,d,q1⟩=>?_;obtain⟨I3,g3,s3,t3,_⟩:=Í σ s1 H1 I1 g1 Rn;exact⟨x,_,I3,r1,q1 x _ g3 s3 (VR.kc t3 v1 d)⟩⟩
end
end
end FL
variable {G:List Int->Prop}
namespace FL
section
open PySem PySem.Spec PyProof.Rows L2 PL
variable {K:Ab}
def Zw (K:Ab) (m:List PV->List PV->W (PV×List PV)):Sp:=λvs H Q _=>∃a Qv ws lo l,vs=.ref a::Qv/\H a=ap (.lst ws)/\aM K [] H ws lo/\aM K [] H Qv l/\(m lo l).run λt=>∀u pW H',oB a H H'->(∀b,H' b=bm->H b=bm)->H' a=ap (.lst pW)->aM K [] H' pW t.2->VR K [] H' u t.1->Q u H'
section
variable {st:sK}{f:ci}{N:List Str}
def Qb (a:ci) (lo l:List PV) (n:Nat):bF:=ap (.ol (ap a) lo)::(l.map λv=>ap (SL.val v))++Al (n-1-l.length) bm
def aM.slot (r:aM K [] H vs l) {s:SL} (h:(l.map λv=>ap (SL.val v))[i]?=ap (ap s)):∃u v,vs[i]?=ap u/\s=.val v/\VR K [] H u v:=by
 rw [Aj] at h;cases e:l[i]? with
 | none=>rw [e] at h;cases h
 | some v=>
  rw [e] at h;obtain⟨u,h1,h2⟩:=r.get e;cases h;exact⟨u,v,h1,rfl,h2⟩
theorem fnO {m:List PV->QI (PV×List PV) n} (Fn:QH K x qual st f fd) (S:ar N ps (ai st)) (hn:n+1=ps.length)
  (Â:∀(a:ci) (lo l:List PV),l.length=n->∀(cK:ce) (A:pr) (outer:List Env) (s:cr) (H:Hp) (E:XK),cL k (A.deeper (sn qual (ai st) s.heap.objs.size f cK))->SF (i7 lY P w K mg base N qual (ai st) f cK A outer s H E).wW K false (Qb a lo l N.length) (br st) (cy n (m lo) l) λt=>.ro t.1 a t.2) :
  gJ P w K mg base lY (k+1) f fd ps (Zw K λlo l=>cy n (m lo) l):=by
 refine Fn.ok S (λvs H Q E h=>?_) (λcK A outer s H vs Q E hr h=>?_)
 ·obtain⟨a,Qv,ws,lo,l,rfl,_,_,r,q⟩:=h;rw [An,r.length,jO q];exact hn
 obtain⟨a,Qv,ws,lo,l,rfl,ha,iT,r,q⟩:=h;have hl:=jO q;have hr2:=r.length;have S0:∀{i:Nat}{s:SL},(Qb a lo l N.length)[i]?=ap (ap s)->(i=0/\s=.ol (ap a) lo)\/∃j u v,i=j+1/\Qv[j]?=ap u/\s=.val v/\VR K [] H u v:=λ{i s} e=>by
  unfold Qb at e;cases i with
  | zero=>simp at e;exact .inl ⟨rfl,e.symm⟩
  | succ j=>
   rw [List.cons_append,List.getElem?_cons_succ] at e;by_cases c:j < l.length
   ·rw [AE (by simpa using c)] at e;obtain⟨u,v,h1,h2,h3⟩:=aM.slot r e;exact .inr ⟨j,u,v,rfl,h1,h2,h3⟩
   ·rw [AA (by simpa using c),Bz] at e
    split at e <;> cases e
 have sr:aZ K H (L2.start N (.ref a::Qv)) (Qb a lo l N.length):=by
  refine⟨?_,λi s e=>?_,λi j s t x y b e1 e2 o1 o2 q1 q2 _ _=>?_⟩
  ·unfold L2.start Qb;rw [Ad,Ag,A9,Ad,An,An,Ag,A9];omega
  ·rcases S0 e with⟨rfl,rfl⟩ | ⟨j,u,v,rfl,h1,rfl,h3⟩
   ·exact⟨.ref a,lL rfl,.inr ⟨a,rfl,λb z=>Option.some.inj z,ws,ha,iT⟩⟩
   ·exact⟨u,lL (by simpa using h1),.inl ⟨v,rfl,h3⟩⟩
  ·rcases S0 e1 with⟨rfl,rfl⟩ | ⟨j1,u,v,rfl,h1,rfl,h3⟩
   ·rcases S0 e2 with⟨rfl,rfl⟩ | ⟨j1,u,v,rfl,h1,rfl,h3⟩
    ·rfl
    ·cases o2
   ·cases o1
 refine⟨_,(Â a lo l hl cK A outer s H E hr).p,sr,(cy n (m lo) l).mono (λt q1 u σ' bP H' g s' ho rv=>?_) q⟩;obtain⟨i,e⟩:=ho;obtain⟨u',e',r'⟩:=s'.at' i _ e;rcases r' with⟨v,z,_⟩ | ⟨b,rfl,hb,pW,h1,h2⟩
 ·cases z
 have hba:=hb a rfl;subst hba;refine q1 u pW H' (λc o nc e=>(g.keep c o e λz=>?_).1) g.there h1 h2 rv;obtain⟨j,t',x,z1,z2,z3,z4⟩:=z;rcases S0 z1 with⟨rfl,rfl⟩ | ⟨j1,u,v,rfl,_,rfl,_⟩
 ·have:=vc z3;simp at this;rcases z4 with rfl | z4
  ·exact nc this.symm
  ·cases z4
 ·cases z2
def fh (G:List Int->Prop):List V->Prop:=λws=>∃ns:List Int,ws=ns.map V.int/\G ns
def Wc {m:List PV->List PV->W (PV×List PV)}{mp:List PV->W PV} (F:gJ P w K mg base lY k f fd ps (Zw K m)) (hm:∀ns l Q,G ns->(mp l).run Q->(m (ns.map PV.int) l).run λt=>Q t.1/\∃JP:List Int,t.2=JP.map PV.int/\G JP) :
  gJ P w K mg base lY k f fd ps (fJ K (.p (fh G)::Al n .v) mp):=F.imp λvs H Q E h=>by
 obtain⟨l,ha,q⟩:=h;cases ha with
 | @p a φ ws vs ks l e r t=>
  obtain⟨ns,rfl,hG⟩:=r;have tv:∀{n:Nat}{vs:List V}{l:List PV},jh K H vs (Al n .v) l->aM K [] H vs l:=by
   intro n
   induction n with
   | zero=>intro vs l h;cases h;exact .nil
   | succ n ih=>intro vs l h;cases h with | v r t=>exact .cons r (ih t)
  refine⟨a,vs,ns.map V.int,ns.map PV.int,l,rfl,e,nR _ _ ns,tv t,(m _ _).mono (λt q1 u pW H' sx hth e' r' rv=>?_) (hm ns l _ hG q)⟩;obtain⟨q1,JP,et,hG'⟩:=q1;rw [et] at r';have:=nQ r';subst this;refine q1 u H' ⟨λb o eb nb=>sx b o (λz=>?_) eb,hth,λb φ p=>?_⟩ rv
  ·subst z;exact nb _ ⟨0,rfl,rfl⟩
  ·obtain⟨i,e1,e2⟩:=p;cases i with
   | zero=>simp at e1 e2;subst e1;subst e2;exact⟨_,e',JP,rfl,hG'⟩
   | succ i=>
    simp at e1;rw [Bz] at e1
    split at e1 <;> simp at e1
end
section
variable {Qw:List sK}{T:Type}{w:W T}{out:T->End}{x:Bool}
def ZU (G:List Int->Prop) (l:List PV) (w:W T):W T:=.fg (∃ns:List Int,l=ns.map PV.int/\G ns) w
def SF.kj (i:Nat) (hs:fs[i]?=ap (ap (.ol bm l))) (hr:SF X K x (fs.set i (ap (.kj (fh G)))) Qw w out):SF X K x fs Qw (ZU G l w) out:=⟨λZ s σ H D I ⟨sr,q⟩=>by
 obtain⟨⟨ns,el,hG⟩,q⟩:=q;obtain⟨a,ws,e1,h1,r1⟩:=dc sr hs;subst el;have:=nQ r1;subst this;obtain⟨s2,g2⟩:=mJ (t':=.kj (fh G)) sr hs rfl (by simp) e1 (λ_ _ _ z=>z:oB a H H) λtk=>⟨_,h1,ns,rfl,hG⟩;exact hr.p Z s σ H D I ⟨s2,w.mono (λt q2=>q2.go g2 sr s2) q⟩⟩
end
end
end FL
variable {W':FL.W PL.PV}{WL:FL.W (List PL.PV)}
namespace FL
section
open PySem PySem.Spec PyProof.Rows L2 PL
variable {K:Ab}
abbrev chB (m m':M2) (wa wb wc:W PV):W PV:=.bind wa λx=>.bind wb λy=>.bind (of2 m x y) λz=>lF z (.bind wc λw=>of2 m' y w)
abbrev chT (m m':M2) (wa wb wc:W PV):W Bool:=.bind wa λx=>.bind wb λy=>.bind (of2 m x y) λz=>.bind (lF z (.bind wc λw=>of2 m' y w)) YK
abbrev Gs (wa wb:W PV):W PV:=.bind wa λx=>Gr x wb
abbrev orB (wa wb:W PV):W PV:=.bind wa λx=>orW x wb
abbrev pq (wl:W (List PV)):W PV:=.bind wl λl=>.ret (.cl l)
abbrev Hx (t:W Bool) (w:W PV):W (Option PV):=.bind t λk=>if k=true then .bind w λv=>.ret (ap v) else .ret bm
section
variable {c:gt}
def Tj (G:Qu X.prog X.w X.K X.mg X.base x k ps (fJ K ks m)) (hr:cL k' X.A) (hk:k<=k') (hg:Gl X x) (ha:AF X K fs (e::es) ks B) (hW:W'=B m) (ma:jg x:=by decide)
  (he:iB X e es:=by rfl) (dJ:lH X pos es:=by rfl):EF X K fs (.Call (.Name x p) (e::es) [] pos) W':=hW▸XO G hr hk hg ha ma he dJ
def Su {m:List PV->W (List PV)}{B:(List PV->W (List PV))->W (List PV)} (G:Qu X.prog X.w X.K X.mg X.base x k ps (eK K ks m)) (hr:cL k' X.A) (hk:k<=k') (hg:Gl X x) (ha:AF X K fs (e::es) ks B) (hW:WL=B m) (ma:jg x:=by decide)
  (he:iB X e es:=by rfl) (dJ:lH X pos es:=by rfl):LF X K fs (.Call (.Name x p) (e::es) [] pos) WL:=hW▸WV G hr hk hg ha ma he dJ
def aF {x1} (h:AF X K fs es (Al n .v) B) (hW:W'=B λl=>.ret (.tup l)) (hn:n<=1000:=by decide):EF X K fs (.Tuple es x1 pos) W':=hW▸abq h hn
def aV {B:(List PV->W (List PV))->W (List PV)} (h:AF X K fs es (Al n .v) B) (hW:WL=B λl=>.ret l) (hn:n<=1000:=by decide):LF X K fs (.List es pos) WL:=hW▸UG h hn
variable {T2:Type}{wt:PV->W T2}{dR:T2->bF}{tf:T2->W Bool}{te:T2->W PV}
def fD {f:PV->W PV} (hc:X.calm=true) (S:aG X.env.scope X.N sc N' ix) (hi:qZ X K fs tg iter wl) (hg:∀cl C s2 H2 fp,PG (gA X sc N' cl C s2 H2 fp) tg (dM i)) (he:∀cl C s2 H2 fp t,EF (gA X sc N' cl C s2 H2 fp) K ((cg ix fs).set i (ap (.val t))) Å (f t)) (h0:ix[i]?=ap bm) (hs:vS X iter:=by intro _;rfl) :
  LF X K fs (.ListComp Å [⟨tg,iter,[],0⟩] sc pos) (.bind wl λl=>mapW l f):=
 have h1:(cg ix fs)[i]?=ap bm:=by unfold cg;rw [Aj,h0];rfl
 UE hc S hi (λcl C s2 H2 fp=>Xw (hg cl C s2 H2 fp)) he (λ_=>rfl) (Om h1) (λj hj=>by rw [Bh] at hj;subst hj;exact h0) hs
def zK {tf:PV->W Bool}{te:PV->W PV} (hc:X.calm=true) (S:aG X.env.scope X.N sc N' ix) (hi:qZ X K fs tg iter wl) (hg:∀cl C s2 H2 fp,PG (gA X sc N' cl C s2 H2 fp) tg (dM i)) (hf:∀cl C s2 H2 fp t,TF (gA X sc N' cl C s2 H2 fp) K ((cg ix fs).set i (ap (.val t))) c (tf t)) (he:∀cl C s2 H2 fp t,EF (gA X sc N' cl C s2 H2 fp) K ((cg ix fs).set i (ap (.val t))) Å (te t)) (h0:ix[i]?=ap bm) (hs:vS X iter:=by intro _;rfl) :
  LF X K fs (.ListComp Å [⟨tg,iter,[c],0⟩] sc pos) (.bind wl λl=>kG l λp=>Hx (tf p) (te p)):=
 have h1:(cg ix fs)[i]?=ap bm:=by unfold cg;rw [Aj,h0];rfl
 WU (wt:=.ret) (tf:=tf) (te:=te) hc S hi (λcl C s2 H2 fp=>Xw (hg cl C s2 H2 fp)) (λcl C s2 H2 fp t=>xM (hf cl C s2 H2 fp t)) he (λ_=>rfl) (Om h1) (λj hj=>by rw [Bh] at hj;subst hj;exact h0) hs
def Hz (hc:X.calm=true) (S:aG X.env.scope X.N sc N' ix) (hi:qZ X K fs tg iter wl) (hg:∀cl C s2 H2 fp,GF (gA X sc N' cl C s2 H2 fp) K (cg ix fs) tg is wt dR) (he:∀cl C s2 H2 fp t,EF (gA X sc N' cl C s2 H2 fp) K (dR t) Å (te t))
  (hl:uU is (cg ix fs) dR/\∀t,jL (dR t) (cg ix fs)) (uH:∀j∈is,ix[j]?=ap bm) (hs:vS X iter:=by intro _;rfl) :
  LF X K fs (.ListComp Å [⟨tg,iter,[],0⟩] sc pos) (.bind wl λl=>mapW l λp=>.bind (wt p) te):=UE hc S hi hg he (λ_=>rfl) hl uH hs
def UH (hc:X.calm=true) (S:aG X.env.scope X.N sc N' ix) (hi:qZ X K fs tg iter wl) (hg:∀cl C s2 H2 fp,GF (gA X sc N' cl C s2 H2 fp) K (cg ix fs) tg is wt dR) (hf:∀cl C s2 H2 fp t,TF (gA X sc N' cl C s2 H2 fp) K (dR t) c (tf t)) (he:∀cl C s2 H2 fp t,EF (gA X sc N' cl C s2 H2 fp) K (dR t) Å (te t))
  (hl:uU is (cg ix fs) dR/\∀t,jL (dR t) (cg ix fs)) (uH:∀j∈is,ix[j]?=ap bm) (hs:vS X iter:=by intro _;rfl) :
  LF X K fs (.ListComp Å [⟨tg,iter,[c],0⟩] sc pos) (.bind wl λl=>kG l λp=>.bind (wt p) λt=>Hx (tf t) (te t)):=WU hc S hi hg (λcl C s2 H2 fp t=>xM (hf cl C s2 H2 fp t)) he (λ_=>rfl) hl uH hs
variable {rest:List sK}{T:Type}{out:T->End}{x0:Bool}{kk:List PV->W T}
def SF.Nm {tf:PV->W Bool}{te:PV->W PV} (hc:X.calm=true) (hN:X.N.Nodup) (zQ:X.N[i]?=ap y) (hx:X.env.scope.names.lookup y=ap .local) (S:aG X.env.scope X.N sc N' ix) (hi:qZ X K fs tg iter wl) (hg:∀cl C s2 H2 fp,PG (gA X sc N' cl C s2 H2 fp) tg (dM j)) (hf:∀cl C s2 H2 fp t,TF (gA X sc N' cl C s2 H2 fp) K ((cg ix fs).set j (ap (.val t))) c (tf t)) (he:∀cl C s2 H2 fp t,EF (gA X sc N' cl C s2 H2 fp) K ((cg ix fs).set j (ap (.val t))) Å (te t)) (h0:ix[j]?=ap bm) (hr:∀l,SF X K x0 (fs.set i (ap (.ol bm l))) rest (kk l) out)
  (qg:kt (.ListComp Å [⟨tg,iter,[c],0⟩] sc pos) (ap (.Name y px)) nt.line X.env=pure true:=by rfl) (hs:vS X iter:=by intro _;rfl) :
  SF X K x0 fs (.Assign [.Name y px] (.ListComp Å [⟨tg,iter,[c],0⟩] sc pos) nt::rest) (.bind (.bind wl λl=>kG l λp=>Hx (tf p) (te p)) kk) out:=
 have h1:(cg ix fs)[j]?=ap bm:=by unfold cg;rw [Aj,h0];rfl
 SF.Us (wt:=.ret) (tf:=tf) (te:=te) hc hN zQ hx S hi (λcl C s2 H2 fp=>Xw (hg cl C s2 H2 fp)) (λcl C s2 H2 fp t=>xM (hf cl C s2 H2 fp t)) he (λ_=>rfl) (Om h1) (λm hj=>by rw [Bh] at hj;subst hj;exact h0) hr qg hs
def Sj {wt:PV->W T2}{te:T2->W PV}:(λl=>mapW l λp=>.bind (wt p) te)=λl=>kG l λp=>.bind (wt p) λt=>.bind (.ret true) λk=>if k=true then .bind (te t) λv=>.ret (ap v) else .ret bm:=funext λl=>by
 rw [w4];rfl
def SF.Rj (hc:X.calm=true) (hN:X.N.Nodup) (zQ:X.N[i]?=ap y) (hx:X.env.scope.names.lookup y=ap .local) (S:aG X.env.scope X.N sc N' ix) (hi:qZ X K fs tg iter wl) (hg:∀cl C s2 H2 fp,GF (gA X sc N' cl C s2 H2 fp) K (cg ix fs) tg is wt dR) (he:∀cl C s2 H2 fp t,EF (gA X sc N' cl C s2 H2 fp) K (dR t) Å (te t))
  (hl:uU is (cg ix fs) dR/\∀t,jL (dR t) (cg ix fs)) (uH:∀j∈is,ix[j]?=ap bm) (hr:∀l,SF X K x0 (fs.set i (ap (.ol bm l))) rest (kk l) out)
  (qg:kt (.ListComp Å [⟨tg,iter,[],0⟩] sc pos) (ap (.Name y px)) nt.line X.env=pure true:=by rfl) (hs:vS X iter:=by intro _;rfl) :
  SF X K x0 fs (.Assign [.Name y px] (.ListComp Å [⟨tg,iter,[],0⟩] sc pos) nt::rest) (.bind (.bind wl λl=>mapW l λp=>.bind (wt p) te) kk) out:=by
 rw [Sj];exact SF.Us (tf:=λ_=>.ret true) hc hN zQ hx S hi hg (λ_ _ _ _ _ _=>O9) he (λp=>rfl) hl uH hr qg hs
def SF.lM {f:PV->W PV} (hc:X.calm=true) (hN:X.N.Nodup) (zQ:X.N[i]?=ap y) (hx:X.env.scope.names.lookup y=ap .local) (S:aG X.env.scope X.N sc N' ix) (hi:qZ X K fs tg iter wl) (hg:∀cl C s2 H2 fp,PG (gA X sc N' cl C s2 H2 fp) tg (dM j)) (he:∀cl C s2 H2 fp t,EF (gA X sc N' cl C s2 H2 fp) K ((cg ix fs).set j (ap (.val t))) Å (f t)) (h0:ix[j]?=ap bm) (hr:∀l,SF X K x0 (fs.set i (ap (.ol bm l))) rest (kk l) out)
  (qg:kt (.ListComp Å [⟨tg,iter,[],0⟩] sc pos) (ap (.Name y px)) nt.line X.env=pure true:=by rfl) (hs:vS X iter:=by intro _;rfl) :
  SF X K x0 fs (.Assign [.Name y px] (.ListComp Å [⟨tg,iter,[],0⟩] sc pos) nt::rest) (.bind (.bind wl λl=>mapW l f) kk) out:=
 have h1:(cg ix fs)[j]?=ap bm:=by unfold cg;rw [Aj,h0];rfl
 SF.Rj (wt:=.ret) hc hN zQ hx S hi (λcl C s2 H2 fp=>Xw (hg cl C s2 H2 fp)) he (Om h1) (λm hj=>by rw [Bh] at hj;subst hj;exact h0) hr qg hs
end
def O6 {f:ci} (h:∀vs H Q E,¬sp vs H Q E):gJ P w K mg base lY k f fd ps sp:=⟨λvs H Q E q=>(h _ _ _ _ q).elim,λA outer s H args us vs Q E _ _ _ _ q=>(h _ _ _ _ q).elim⟩
def VE {m:QI PV n} (h:∀l Q,l.length=n->¬(cy n m l).run Q):∀vs H Q E,¬fJ K ks (cy n m) vs H Q E:=λvs H Q E ⟨l,_,q⟩=>h l _ (jO q) q
def Jy {m:QI (List PV) n} (h:∀l Q,l.length=n->¬(cy n m l).run Q):∀vs H Q E,¬eK K ks (cy n m) vs H Q E:=λvs H Q E ⟨l,_,q⟩=>h l _ (jO q) q
theorem aU (hr:cL k A):A.units+200 < o0:=by have:=hr.un;omega
end
section
open PySem PySem.Spec PyProof.Rows L2 PL
variable {K:Ab}
mutual
def PV.iu:PV->Bool
 | .tup l=>fj l
 | .cl l=>fj l
 | .ref _=>false
 | .ty _=>false
 | .dv _ _=>false
 | _=>true
def fj:List PV->Bool
 | []=>true
 | x::l=>PV.iu x&&fj l
end
mutual
def PV.iz:PV->Nat
 | .tup l=>eG l+1
 | .cl l=>eG l+1
 | _=>0
def eG:List PV->Nat
 | []=>0
 | x::l=>max (PV.iz x) (eG l)
end
mutual
def kC:PV->PV->Bool
 | .aO,.aO=>true
 | .bl a,.bl b=>a==b
 | .bl a,.int b=>(if a then 1 else 0)==b
 | .int a,.bl b=>a==(if b then 1 else 0)
 | .int a,.int b=>a==b
 | .str a,.str b=>a==b
 | .tup l,.tup m=>gG l m
 | .cl l,.cl m=>gG l m
 | _,_=>false
def gG:List PV->List PV->Bool
 | [],[]=>true
 | x::l,y::m=>kC x y&&gG l m
 | _,_=>false
end
theorem tj:∀{l:List PV}{j:Nat}{x:PV},fj l=true->l[j]?=ap x->PV.iu x=true
 | [],_,_,_,e=>by simp at e
 | y::l,0,x,h,e=>by
  simp at e;subst e;rw [fj,Az] at h;exact h.1
 | y::l,j+1,x,h,e=>by
  rw [fj,Az] at h;exact tj h.2 (by simpa using e)
theorem vC:∀{l:List PV}{j:Nat}{x:PV},l[j]?=ap x->PV.iz x<=eG l
 | [],_,_,e=>by simp at e
 | y::l,0,x,e=>by
  simp at e;subst e;rw [eG];omega
 | y::l,j+1,x,e=>by
  have:=vC (l:=l) (j:=j) (x:=x) (by simpa using e);rw [eG];omega
mutual
theorem tu:∀(x:PV),PV.iu x=true->kC x x=true
 | .aO,_=>by rw [kC]
 | .bl b,_=>by rw [kC];simp
 | .int i,_=>by rw [kC];simp
 | .str i,_=>by rw [kC];simp
 | .tup l,h=>by rw [kC];exact lV l (by rw [PV.iu] at h;exact h)
 | .cl l,h=>by rw [kC];exact lV l (by rw [PV.iu] at h;exact h)
 | .ref _,h=>by rw [PV.iu] at h;cases h
 | .ty _,h=>by rw [PV.iu] at h;cases h
 | .dv _ _,h=>by rw [PV.iu] at h;cases h
theorem lV:∀(l:List PV),fj l=true->gG l l=true
 | [],_=>by rw [gG]
 | x::l,h=>by
  rw [fj,Az] at h;rw [gG,tu x h.1,lV l h.2];rfl
end
def Po (l m:List PV) (j:Nat):Bool:=match l[j]?,m[j]? with | some x,ap y=>kC x y | _,_=>true
theorem nZ:∀(l m:List PV),((Av (min l.length m.length)).all (Po l m)&&l.length==m.length)=gG l m
 | [],[]=>by rw [gG];rfl
 | [],_::_=>by
  rw [gG]
  ·simp
  ·intros;simp_all
  ·intros;simp_all
 | _::_,[]=>by
  rw [gG]
  ·simp
  ·intros;simp_all
  ·intros;simp_all
 | x::l,y::m=>by
  rw [gG,<- nZ l m];have e:min (x::l).length (y::m).length=min l.length m.length+1:=by simp only [An];omega
  rw [e,ET,List.all_cons,List.all_map];have e2:((x::l).length==(y::m).length)=(l.length==m.length):=by simp
  rw [e2,Bool.and_assoc];rfl
def Pa {m:List PV} (h:l.length≠m.length):gG l m=false:=by
 rw [<- nZ];have:(l.length==m.length)=false:=by simpa using h
 rw [this,B6]
section
mutual
theorem VR.O7 (I:Inv X Z σ H s):∀{v:V}{x y:PV},VR X.K [] H v x->VR X.K [] H v y->x=y
 | _,_,_,.aO,h=>by cases h;rfl
 | _,_,_,.bl b,h=>by cases h;rfl
 | _,_,_,.int b,h=>by cases h;rfl
 | _,_,_,.str b,h=>by cases h;rfl
 | _,_,_,.ty b,h=>by cases h;rfl
 | _,_,_,.ref e,h=>by simp at e
 | _,_,_,.tup e r,h=>by
  cases h with
  | tup e' r'=>
   have ee:=I.lJ (dU.of e) (dU.of e');subst ee;rw [aM.O7 I r r']
  | ref e=>simp at e
  | cl e' r'=>
   obtain⟨aw,_,⟨o,n,h1,h2,_⟩,_⟩:=I.list e'.sq;obtain⟨its',_,⟨o',iw,ub,_⟩,_⟩:=I.tuple (dU.of e);rw [h1] at iw;cases iw;rw [h2] at ub;simp at ub
  | dk e' _ _=>rw [e] at e';cases e'
  | dt e' _ _=>rw [e] at e';cases e'
 | _,_,_,.dk e k r,h=>by
  cases h with
  | dk e' k' r'=>rw [e] at e';cases e';rw [k,k',aM.O7 I r r']
  | dt e' _ _=>rw [e] at e';cases e'
  | ref e=>simp at e
  | tup e' _=>rw [e] at e';cases e'
  | cl e' r'=>
   obtain⟨aw,_,⟨o,n,h1,h2,_⟩,_⟩:=I.list e'.sq;obtain⟨_,_,vs,_,o',_,_,iw,ub,_⟩:=tL I.bH (.inr ⟨_,e⟩);rw [h1] at iw;cases iw;have h3:=ub.1;rw [h2] at h3;simp at h3
 | _,_,_,.dt e k r,h=>by
  cases h with
  | dt e' k' r'=>rw [e] at e';cases e';rw [k,k',aM.O7 I r r']
  | dk e' _ _=>rw [e] at e';cases e'
  | ref e=>simp at e
  | tup e' _=>rw [e] at e';cases e'
  | cl e' r'=>
   obtain⟨aw,_,⟨o,n,h1,h2,_⟩,_⟩:=I.list e'.sq;obtain⟨_,_,vs,_,o',_,_,iw,ub,_⟩:=tK I.bH (.inr ⟨_,e⟩);rw [h1] at iw;cases iw;have h3:=ub.1;rw [h2] at h3;simp at h3
 | _,_,_,.cl e r,h=>by
  cases h with
  | dk e' _ _=>
   obtain⟨aw,_,⟨o,n,h1,h2,_⟩,_⟩:=I.list e.sq;obtain⟨_,_,vs,_,o',_,_,iw,ub,_⟩:=tL I.bH (.inr ⟨_,e'⟩);rw [h1] at iw;cases iw;have h3:=ub.1;rw [h2] at h3;simp at h3
  | dt e' _ _=>
   obtain⟨aw,_,⟨o,n,h1,h2,_⟩,_⟩:=I.list e.sq;obtain⟨_,_,vs,_,o',_,_,iw,ub,_⟩:=tK I.bH (.inr ⟨_,e'⟩);rw [h1] at iw;cases iw;have h3:=ub.1;rw [h2] at h3;simp at h3
  | cl e' r'=>
   obtain⟨aw,k,⟨o,n,h1,h2,h3,h4⟩,_⟩:=I.list e.sq;obtain⟨its',k',⟨o',n',iw,ub,HL,Xt⟩,_⟩:=I.list e'.sq;rw [h1] at iw;cases iw;rw [h4] at Xt;have:aw=its':=by injection Xt with a b;simpa using a
   subst this;have ee:=Vals.inj k k';subst ee;rw [aM.O7 I r r']
  | ref e=>simp at e
  | tup e' r'=>
   obtain⟨aw,_,⟨o,n,h1,h2,_⟩,_⟩:=I.list e.sq;obtain⟨its',_,⟨o',iw,ub,_⟩,_⟩:=I.tuple (dU.of e');rw [h1] at iw;cases iw;rw [h2] at ub;simp at ub
theorem aM.O7 (I:Inv X Z σ H s):∀{v:List V}{x y:List PV},aM X.K [] H v x->aM X.K [] H v y->x=y
 | _,_,_,.nil,h=>by cases h;rfl
 | _,_,_,.cons r t,h=>by
  cases h with
  | cons r' t'=>rw [VR.O7 I r r',aM.O7 I t t']
end
structure Cmp (A:pr) (s:cr) (w w':ce) (b:Bool):Prop where
 rc:SeqAt.RcAt A s w w' b
 ne:SeqAt.RcNeAt A s w w' (!b)
 eq:Dp A s w w' b
def abp (I:Inv X Z σ H s) {ws:List V}{m:List PV} (r:Vals vs aw) (r':Vals ws its') (r1:aM X.K [] H vs l) (r2:aM X.K [] H ws m)
  (ih:∀(j:Nat) (x y:PV) (v v':V) (w w':ce),l[j]?=ap x->m[j]?=ap y->VR X.K [] H v x->VR X.K [] H v' y->RelV v w->RelV v' w'->Dp A s w w' (kC x y)) :
  ∀j (g1:j < aw.toArray.size) (g2:j < its'.toArray.size),Dp A s aw.toArray[j] its'.toArray[j] (Po l m j):=λj g1 g2=>by
 have h1:j < aw.length:=by simpa using g1
 have h2:j < its'.length:=by simpa using g2
 have hl:j < l.length:=by rw [<- r1.length,r.length];exact h1
 have hm:j < m.length:=by rw [<- r2.length,r'.length];exact h2
 obtain⟨v,v1,v2⟩:=r1.get (Ae hl);obtain⟨v',QS,Ē⟩:=r2.get (Ae hm);obtain⟨u,u1,u2⟩:=r.get v1;obtain⟨u',u1',u2'⟩:=r'.get QS;rw [Ae h1] at u1;rw [Ae h2] at u1';cases u1;cases u1';unfold Po;rw [Ae hl,Ae hm];have:=ih j _ _ v v' _ _ (Ae hl) (Ae hm) v2 Ē u2 u2';simpa using this
inductive Sh (X:Cx) (H:Hp) (s:cr):PV->ce->Prop
 | aO:Sh X H s .aO .none
 | bl (b:Bool):Sh X H s (.bl b) (.bool b)
 | int (i:Int) (t:Tok):Sh X H s (.int i) (.int i t)
 | str (x:Str) (t:Tok):Sh X H s (.str x) (.str x t)
 | tup {p:ci}{vs:List V}{aw:List ce}{l:List PV} (e:VR X.K [] H (.ref p) (.tup l)) (k:Vals vs aw) (r:aM X.K [] H vs l) (h:s.heap.IsTuple p aw.toArray):Sh X H s (.tup l) (.ref p)
 | cl {p:ci}{vs:List V}{aw:List ce}{l:List PV} (e:VR X.K [] H (.ref p) (.cl l)) (k:Vals vs aw) (r:aM X.K [] H vs l) (h:s.heap.IsList p aw.toArray):Sh X H s (.cl l) (.ref p)
def Sh.of (I:Inv X Z σ H s) {v:V}{x:PV}{w:ce} (h:VR X.K [] H v x) (r:RelV v w) (d:PV.iu x=true):Sh X H s x w:=by
 cases h with
 | ref e=>simp at e
 | aO=>cases r;exact .aO
 | bl a=>cases r;exact .bl a
 | int a=>obtain⟨t,rfl⟩:=r;exact .int a t
 | str a=>obtain⟨t,rfl⟩:=r;exact .str a t
 | tup e q=>
  cases r;obtain⟨aw,k,ht,_⟩:=I.tuple (dU.of e);exact .tup (.tup e q) k q ht
 | cl e q=>
  cases r;obtain⟨aw,k,pl,_⟩:=I.list e.sq;exact .cl (.cl e q) k q pl.isList
 | _=>rw [PV.iu] at d;cases d
set_option maxHeartbeats 8000000 in
theorem X0 (hK:X.K=K) (I:Inv X Z σ H s):∀(n:Nat) (x y:PV) (A:pr) (v v':V) (w w':ce),PV.iz x<=n->PV.iu x=true->PV.iu y=true->VR K [] H v x->VR K [] H v' y->RelV v w->RelV v' w'->A.units+n+1 < o0->Cmp A s w w' (kC x y):=by
 subst hK;intro n
 induction n using DQ with
 | ind n ih=>
 intro x y A v v' w w' hd dx dy hv hv' r1 r2 hu;have a:=Sh.of I hv r1 dx;have b:=Sh.of I hv' r2 dy;clear hv hv' r1 r2;have el:∀{l m:List PV}{vs ws:List V}{aw cJ:List ce},fj l=true->fj m=true->eG l < n->Vals vs aw->Vals ws cJ->aM X.K [] H vs l->aM X.K [] H ws m->aw.toArray.size=l.length/\cJ.toArray.size=m.length/\∀j (g1:j < aw.toArray.size) (g2:j < cJ.toArray.size),Dp A.in1 s aw.toArray[j] cJ.toArray[j] (Po l m j):=λd1 d2 hd k1 k2 r r'=>⟨by rw [Ai,<- k1.length,r.length],by rw [Ai,<- k2.length,r'.length],abp I (A:=A.in1) k1 k2 r r' λj x y v v' w w' hx hy vx vy rx ry=>(ih _ hd x y A.in1 v v' w w' (vC hx) (tj d1 hx) (tj d2 hy) vx vy rx ry (by show A.units+1+_+1 < _;omega)).eq⟩;have fin:∀{pa pb:ci}{l m:List PV},(pa=pb->l=m)->fj l=true->SeqAt.RcAt A s (.ref pa) (.ref pb) (gG l m)->Dp A s (.ref pa) (.ref pb) (gG l m):=λ{pa pb l m} h d q=>by
  by_cases SY:pa=pb
  ·rw [h SY,lV _ (h SY▸d),SY];exact FU _
  ·exact FC SY q
 cases a <;> cases b
 case tup.tup pa vs aw l e k r ht pb ws cJ m e2 k2 r2 HI=>
  rw [PV.iz] at hd;obtain⟨z1,z2,ie⟩:=el dx dy ∅ k k2 r r2;have q1:=FE ht HI (A:=A) ∅ ie;have q2:=SeqAt.RcNeAt.tuples ht HI (A:=A) ∅ ie;rw [z1,z2,nZ] at q1 q2;exact⟨q1,q2,fin (λz=>by subst z;have:=VR.O7 I e e2;injection this) dx q1⟩
 case cl.cl pa vs aw l e k r ht pb ws cJ m e2 k2 r2 HI=>
  rw [PV.iz] at hd;obtain⟨z1,z2,ie⟩:=el dx dy ∅ k k2 r r2;by_cases hz:l.length=m.length
  ·have q1:=FO ht HI (by rw [z1,z2];exact hz) (A:=A) ∅ ie;have q2:=FA ht HI (by rw [z1,z2];exact hz) (A:=A) ∅ ie;have ef:(Av l.length).all (Po l m)=gG l m:=by rw [<- nZ,hz,Nat.min_self,beq_self_eq_true,Ez]
   rw [z1,ef] at q1 q2;exact⟨q1,q2,fin (λz=>by subst z;have:=VR.O7 I e e2;injection this) dx q1⟩
  ·have q1:=Ep (A:=A) ht HI (by rw [z1,z2];simpa using hz) ∅;have q2:=D4 (A:=A) ht HI (by rw [z1,z2];simpa using hz) ∅;have ef:=Pa hz;rw [<- ef] at q1;have q2:SeqAt.RcNeAt A s (.ref pa) (.ref pb) (!gG l m):=by rw [ef];exact q2
   exact⟨q1,q2,fin (λz=>by subst z;have:=VR.O7 I e e2;injection this) dx q1⟩
 all_goals
  clear ih el fin;rw [kC] <;> try (intros;simp_all;done)
  refine⟨?_,?_,?_⟩ <;> (try simp only [Bj,Ee]) <;> first | with_reducible exact .none_none | with_reducible exact .none_bool _ | with_reducible exact .none_int _ _ | with_reducible exact .none_str _ _ | with_reducible exact .none_tuple ‹_› ∅ | with_reducible exact .none_list ‹_› ∅ | with_reducible exact .bool_none _ | with_reducible exact .bool_str _ _ _ | with_reducible exact .bool_tuple _ ‹_› ∅ | with_reducible exact .bool_list _ ‹_› ∅ | with_reducible exact .int_none _ _ | with_reducible exact .int_str _ _ _ _ | with_reducible exact .int_tuple _ _ ‹_› ∅ | with_reducible exact .int_list _ _ ‹_› ∅ | with_reducible exact .str_none _ _ | with_reducible exact .str_bool _ _ _ | with_reducible exact .str_int _ _ _ _ | with_reducible exact .str_tuple _ _ ‹_› ∅ | with_reducible exact .str_list _ _ ‹_› ∅ | with_reducible exact .tuple_none ‹_› ∅ | with_reducible exact .tuple_bool _ ‹_› ∅ | with_reducible exact .tuple_int _ _ ‹_› ∅ | with_reducible exact .tuple_str _ _ ‹_› ∅ | with_reducible exact .tuple_list ‹_› ‹_› ∅ | with_reducible exact .list_none ‹_› ∅ | with_reducible exact .list_bool _ ‹_› ∅ | with_reducible exact .list_int _ _ ‹_› ∅ | with_reducible exact .list_str _ _ ‹_› ∅ | with_reducible exact .list_tuple ‹_› ‹_› ∅ | exact .same _ | exact .bool_bool _ _ | exact .bool_int _ _ _ | exact .int_bool _ _ _ | exact .int_int _ _ _ _ | exact .str_str _ _ _ _
end
end
section
open PySem PySem.Spec PyProof.Rows L2 PL
variable {K:Ab}
mutual
theorem VR.nH {ι:List ci}{H:Hp}:∀{v:V}{q:PV},VR K ι H v q->PV.iu q=true->VR K [] H v q
 | _,_,.aO,_=>.aO
 | _,_,.bl b,_=>.bl b
 | _,_,.int i,_=>.int i
 | _,_,.str x,_=>.str x
 | _,_,.ty n,h=>by rw [PV.iu] at h;cases h
 | _,_,.dk _ _ _,h=>by rw [PV.iu] at h;cases h
 | _,_,.dt _ _ _,h=>by rw [PV.iu] at h;cases h
 | _,_,.tup e r,h=>.tup e (aM.nH r (by rw [PV.iu] at h;exact h))
 | _,_,.cl e r,h=>.cl e (aM.nH r (by rw [PV.iu] at h;exact h))
 | _,_,.ref e,h=>by rw [PV.iu] at h;cases h
theorem aM.nH {ι:List ci}{H:Hp}:∀{v:List V}{q:List PV},aM K ι H v q->fj q=true->aM K [] H v q
 | _,_,.nil,_=>.nil
 | _,_,.cons r s,h=>by
  rw [fj,Az] at h;exact .cons (VR.nH r h.1) (aM.nH s h.2)
end
def LQ (x y:PV):Prop:=PV.iu x=true/\PV.iu y=true/\PV.iz x<=150
def d9:M2:=⟨λx y h Q=>LQ x y/\Q (.bl (kC x y)) h,λf q=>⟨q.1,f _ _ q.2⟩⟩
def He:M2:=⟨λx y h Q=>LQ x y/\Q (.bl (!kC x y)) h,λf q=>⟨q.1,f _ _ q.2⟩⟩
def Rv (K:Ab) (neg:Bool):R2:=λu v H Q=>∃x y,VR K [] H u x/\VR K [] H v y/\LQ x y/\Q (.bl (if neg then !kC x y else kC x y)) H
section
theorem Ww (hK:X.K=K) (hu:X.A.units+200 < o0):ir X (im .Eq) (Rv K false):=λZ s σ H u v w w' Q I r1 r2 ⟨x,y,h1,h2,⟨o1,o2,o3⟩,q⟩=>by
 exact E6 (X0 hK I 150 x y X.A u v w w' o3 o1 o2 h1 h2 r1 r2 ∅).rc ⟨.bl _,H,I,rfl,q⟩
theorem Wr (hK:X.K=K) (hu:X.A.units+200 < o0):ir X (im .NotEq) (Rv K true):=λZ s σ H u v w w' Q I r1 r2 ⟨x,y,h1,h2,⟨o1,o2,o3⟩,q⟩=>by
 exact El (X0 hK I 150 x y X.A u v w w' o3 o1 o2 h1 h2 r1 r2 ∅).ne ⟨.bl _,H,I,rfl,q⟩
def Sb:M2.Ok K (Rv K false) d9:=λ{ι H h u v x y Q} hr hu hv q=>⟨x,y,VR.nH hu q.1.1,VR.nH hv q.1.2.1,q.1,q.2 ι _ H (Go.refl _ _) hr (.bl _)⟩
def R7:M2.Ok K (Rv K true) He:=λ{ι H h u v x y Q} hr hu hv q=>⟨x,y,VR.nH hu q.1.1,VR.nH hv q.1.2.1,q.1,q.2 ι _ H (Go.refl _ _) hr (.bl _)⟩
def eF (hK:X.K=K) (hu:X.A.units+200 < o0):JC X K .Eq b d9:=⟨⟨_,Ww hK hu,Sb⟩,kS _⟩
def UK (hK:X.K=K) (hu:X.A.units+200 < o0):JC X K .NotEq b He:=⟨⟨_,Wr hK hu,R7⟩,kS _⟩
end
end
end FL
variable {x:Bb}{b b1:Bool}{t z i1 i2 a1 a2:BK}{ys:Array Bb}{k1 k2:Nat}
namespace L2
open PySem PySem.Spec PyProof.Rows
def tW (b:Bool) (h:mo) (it a:ci) (k:Nat):Prop:=match b with
 | true=>h.IsListIter it a k
 | false=>h.IsTupleIter it a k
def jc (b:Bool) (h:mo) (a:ci) (xs:Array ce):Prop:=match b with
 | true=>h.IsList a xs
 | false=>h.IsTuple a xs
def tW.move (x:tW b h it a k) (g:∀o,h.get? it=ap o->h'.get? it=ap o):tW b h' it a k:=by
 cases b with
 | true=>obtain⟨o,e,p⟩:=(show h.IsListIter it a k from x);exact (show h'.IsListIter it a k from⟨o,g o e,p⟩)
 | false=>obtain⟨o,e,p⟩:=(show h.IsTupleIter it a k from x);exact (show h'.IsTupleIter it a k from⟨o,g o e,p⟩)
def jc.move (x:jc b h a xs) (g:∀o,h.get? a=ap o->h'.get? a=ap o):jc b h' a xs:=by
 cases b with
 | true=>obtain⟨o,e,p⟩:=(show h.IsList a xs from x);exact (show h'.IsList a xs from⟨o,g o e,p⟩)
 | false=>obtain⟨o,e,p⟩:=(show h.IsTuple a xs from x);exact (show h'.IsTuple a xs from⟨o,g o e,p⟩)
def tW.obj (x:tW b h it a k):∃o,h.get? it=ap o/\∀v,o.data≠.cell v:=by
 cases b with
 | true=>obtain⟨o,e,_,d⟩:=(show h.IsListIter it a k from x);exact⟨o,e,λv z=>by rw [d] at z;cases z⟩
 | false=>obtain⟨o,e,_,d⟩:=(show h.IsTupleIter it a k from x);exact⟨o,e,λv z=>by rw [d] at z;cases z⟩
def jc.lt (x:jc b h a xs):a < h.objs.size:=by
 cases b with
 | true=>obtain⟨o,e,p⟩:=(show h.IsList a xs from x);exact Ar e
 | false=>obtain⟨o,e,p⟩:=(show h.IsTuple a xs from x);exact Ar e
section
def kU (h:tW b s.heap it t i) (ht:jc b s.heap t items) (hx:items[i]?=ap x)
  (q:∀h':mo,tW b h' it t (i+1)->Ci it s.heap h'->Q x {s with heap:=h'}):db (dL prog w) A (Builtin.SmallTypes.nextOf (.ref it)) Q E s:=by
 cases b with
 | true=>exact wpAny_nextOf_list_item h ht hx λh' a b=>q h' a b
 | false=>exact iG h ht hx q
def se (hA:A.handled=bm) (h:tW b s.heap it t i) (ht:jc b s.heap t items) (hx:items[i]?=bm)
  (q:∀(h':mo) (e:ci),FT it s.heap h'->(∃o,h'.get? e=ap o/\o.cls=.type "StopIteration")->E (.ref e) {s with heap:=h'}):db (dL prog w) A (Builtin.SmallTypes.nextOf (.ref it)) Q E s:=by
 cases b with
 | true=>exact wpAny_nextOf_list_end hA h ht hx λh' e a b=>q h' e a b
 | false=>exact jw hA h ht hx q
def Lk:Bool->String
 | true=>"list_iterator"
 | false=>"tuple_iterator"
def vf (h:jc b s.heap a xs) (q:Q (.ref s.heap.objs.size) {s with heap:=s.heap.push {cls:=.type (Lk b),data:=.fields #[.ref a,.int 0 0]}}):db (dL prog w) A (pyIter (.ref a)) Q E s:=by
 cases b with
 | true=>exact CK h q
 | false=>exact Ea h q
def Jv (e:h.get? it=ap {cls:=.type (Lk b),data:=.fields #[.ref a,.int 0 0]}):tW b h it a 0:=by
 cases b with
 | true=>exact (show h.IsListIter it a 0 from⟨_,e,rfl,rfl⟩)
 | false=>exact (show h.IsTupleIter it a 0 from⟨_,e,rfl,rfl⟩)
end
structure kg (b1 b2:Bool) (h:mo) (z TI TO i1 i2 a1 a2:ci) (f0:ce) (k1 k2:Nat):Prop where
 zip:IsZip h z TI TO f0
 ti:IsPair h TI (.ref i1) (.ref i2)
 to:∃a b,IsPair h TO a b
 it1:tW b1 h i1 a1 k1
 it2:tW b2 h i2 a2 k2
def q8 {E:ce->cr->Prop}{b2:Bool}{TI TO:ci}{y:ce} (hA:ZipApart z TI TO i1 i2 a1 a2)
  (hz:kg b1 b2 s.heap z TI TO i1 i2 a1 a2 .none k1 k2) (UP:jc b1 s.heap a1 xs) (HI:jc b2 s.heap a2 ys) (hx:xs[k1]?=ap x) (hy:ys[k2]?=ap y)
  (q:∀h':mo,kg b1 b2 h' z TI TO i1 i2 a1 a2 (ut s.heap.objs.size) (k1+1) (k2+1)->IsPair h' s.heap.objs.size x y->(∀c o,c≠z->c≠TO->c≠i1->c≠i2->s.heap.get? c=ap o->h'.get? c=ap o)->Q (.ref s.heap.objs.size) {s with heap:=h'}) :
  db (dL prog w) A (wT.«zip.__next__» {pos:=[.ref z]}) (λfin s'=>∃v,fin=FX (FV v)/\Q v s') E s:=by
 obtain⟨hz,SQ,⟨ta,tb,Ĥ⟩,ċ,ì⟩:=hz;show db _ _ (field (.ref z) 2 >>= λr=>_) _ _ s;refine Aa (A1 hz rfl rfl ?_);refine Aa (A1 hz rfl rfl ?_);refine Aa (BE SQ rfl ?_);refine Aa ?_;refine Aa (A1 hz rfl rfl ?_);refine Af ?_;refine Aa (C6 ?_);refine Aa (A1 hz rfl rfl ?_);show db _ _ (wE (.ref z) 0 .ellipsis >>= λr=>_) _ _ s;refine Aa (Ba hz (show 0 < 5 by decide) λh1 z1 b1=>?_);show db _ _ ((forIn [(AD i1,0),(AD i2,1)] _ _) >>= λr=>_) _ _ _;refine Aa ?_;rw [Cb];have uI:=b1.2;refine Aa ?_;refine Aa (Eu ?_);refine Aa (kU (ċ.move λo e=>(uI _ hA.i1z).trans e) (UP.move λo e=>(uI _ hA.l1z).trans e) hx λh2 j2 b2=>Af ?_);have O0:∀b,b≠z->b≠i1->h2.get? b=s.heap.get? b:=λb n1 n2=>(b2.2 b n2).trans (uI b n1);have ß:=(O0 _ hA.TOz hA.TOi1).trans Ĥ;refine Aa (BE ß rfl ?_);refine Aa (DB ß λh3 t3 b3=>?_);have Ð:∀b,b≠z->b≠i1->b≠TO->h3.get? b=s.heap.get? b:=λb n1 n2 n3=>(b3.2 b n3).trans (O0 b n1 n2);refine Aa (DC (Af ?_));show db _ _ (forIn [(AD i2,1)] _ _) _ _ _;rw [Cb];refine Aa ?_;refine Aa (Eu ?_);refine Aa (kU (ì.move λo e=>(Ð _ hA.i2z hA.i12.symm hA.TOi2.symm).trans e) (HI.move λo e=>(Ð _ hA.l2z hA.l2i1 hA.l2TO).trans e) hy λh4 j4 b4=>Af ?_);have to4:=(b4.2 _ hA.TOi2).trans t3;refine Aa (BE to4 rfl ?_);refine Aa (DB to4 λh5 t5 b5=>?_);have to5:=t5;refine Aa (DC (Af ?_));refine Af ?_;refine Aa (BE to5 rfl ?_);have ĕ:=b5.1.trans (b4.1.trans (b3.1.trans (b2.1.trans b1.1)));refine Aa (CS ?_ (by show 2<=sizeLine;decide));have aa9:∀b,b≠z->b≠i1->b≠TO->b≠i2->h5.get? b=s.heap.get? b:=λb n1 n2 n3 n4=>(b5.2 b n3).trans ((b4.2 b n4).trans (Ð b n1 n2 n3));have z5:h5.get? z=ap {cls:=.type "zip",data:=.fields #[.ellipsis,.bool false,.bool false,.ref TI,.ref TO]}:=(b5.2 _ hA.TOz.symm).trans ((b4.2 _ hA.i2z.symm).trans ((b3.2 _ hA.TOz.symm).trans ((b2.2 _ hA.i1z.symm).trans z1)));have kp:∀b o,h5.get? b=ap o->(h5.push {cls:=.type "tuple",data:=.seq #[x,y]}).get? b=ap o:=λb o e=>Ah _ e;have ad3:(h5.push {cls:=.type "tuple",data:=.seq #[x,y]}).get? h5.objs.size=ap {cls:=.type "tuple",data:=.seq #[x,y]}:=Aq _ rfl;refine Aa ?_;show db _ _ (wE (.ref z) 0 (ut h5.objs.size) >>= λ_=>wE (.ref z) 1 (.bool false)) _ _ _;refine Aa (Ba (kp _ _ z5) (show 0 < 5 by decide) λh7 z7 b7=>?_);refine Ba z7 (show 1 < 5 by decide) λh8 z8 b8=>?_;have LD:∀b,b≠z->h8.get? b=(h5.push {cls:=.type "tuple",data:=.seq #[x,y]}).get? b:=λb n=>(b8.2 b n).trans (b7.2 b n);have nz:s.heap.objs.size≠z:=λe=>by have:=Ar hz;rw [<- e] at this;exact Bd _ this
 refine Af ⟨.ref h5.objs.size,rfl,?_⟩;rw [ĕ];refine q h8 ⟨?_,?_,?_,?_,?_⟩ ?_ ?_
 ·rw [<- ĕ];exact z8
 ·rw [IsPair,LD _ hA.TIz];exact kp _ _ ((aa9 _ hA.TIz hA.TIi1 hA.TITO hA.TIi2).trans SQ)
 ·exact⟨x,y,by rw [IsPair,LD _ hA.TOz];exact kp _ _ to5⟩
 ·refine j2.move λo e=>?_;rw [LD _ hA.i1z];exact kp _ _ ((b5.2 _ hA.TOi1.symm).trans ((b4.2 _ hA.i12).trans ((b3.2 _ hA.TOi1.symm).trans e)))
 ·refine j4.move λo e=>?_;rw [LD _ hA.i2z];exact kp _ _ ((b5.2 _ hA.TOi2.symm).trans e)
 ·rw [IsPair,LD _ nz,<- ĕ];exact ad3
 ·intro c o n1 n2 n3 n4 e;rw [LD _ n1];exact kp _ _ ((aa9 _ n1 n3 n2 n4).trans e)
def ud {b2:Bool}{TI TO:ci}{Q:PySem.Fin->cr->Prop} (hh:A.handled=bm) (hA:ZipApart z TI TO i1 i2 a1 a2)
  (hz:kg b1 b2 s.heap z TI TO i1 i2 a1 a2 .none k1 k2) (UP:jc b1 s.heap a1 xs) (HI:jc b2 s.heap a2 ys) (hx:xs[k1]?=bm\/ys[k2]?=bm)
  (q:∀(h':mo) (e:ci),(∀c o,c≠z->c≠TO->c≠i1->c≠i2->s.heap.get? c=ap o->h'.get? c=ap o)->(∃o,h'.get? e=ap o/\o.cls=.type "StopIteration")->E (.ref e) {s with heap:=h'}) :
  db (dL prog w) A (wT.«zip.__next__» {pos:=[.ref z]}) Q E s:=by
 obtain⟨hz,SQ,⟨ta,tb,Ĥ⟩,ċ,ì⟩:=hz;show db _ _ (field (.ref z) 2 >>= λr=>_) _ _ s;refine Aa (A1 hz rfl rfl ?_);refine Aa (A1 hz rfl rfl ?_);refine Aa (BE SQ rfl ?_);refine Aa ?_;refine Aa (A1 hz rfl rfl ?_);refine Af ?_;refine Aa (C6 ?_);refine Aa (A1 hz rfl rfl ?_);show db _ _ (wE (.ref z) 0 .ellipsis >>= λr=>_) _ _ s;refine Aa (Ba hz (show 0 < 5 by decide) λh1 z1 b1'=>?_);show db _ _ ((forIn [(AD i1,0),(AD i2,1)] _ _) >>= λr=>_) _ _ _;refine Aa ?_;rw [Cb];have uI:=b1'.2;refine Aa ?_;refine Aa (Eu ?_);have fin:∀{h2:mo}{e:ci},h2.get? z=ap {cls:=.type "zip",data:=.fields #[.ellipsis,.bool false,.bool false,.ref TI,.ref TO]}->(∃o,h2.get? e=ap o/\o.cls=.type "StopIteration")->(∀c o,c≠z->c≠TO->c≠i1->c≠i2->s.heap.get? c=ap o->h2.get? c=ap o)->db (dL prog w) A (wE (.ref z) 0 .none) (λ_ s'=>E (.ref e) s') (λ_ _=>True) {s with heap:=h2}:=λ{h2 e} z2 ex k=>by
  refine Ba z2 (show 0 < 5 by decide) λh3 z3 b3=>?_;refine q h3 e (λc o n1 n2 n3 n4 ec=>?_) ?_
  ·rw [b3.2 _ n1];exact k c o n1 n2 n3 n4 ec
  ·obtain⟨o,eo,hc⟩:=ex;by_cases he:e=z
   ·subst he;rw [z2] at eo;cases eo;exact absurd (show BV "zip"=BV "StopIteration" from hc) ⋯
   ·exact⟨o,(b3.2 _ he).trans eo,hc⟩
 cases hx1:xs[k1]? with
 | none=>
  refine Aa (se hh (ċ.move λo e=>(uI _ hA.i1z).trans e) (UP.move λo e=>(uI _ hA.l1z).trans e) hx1 λh2 e k ex=>?_);have z2:h2.get? z=ap {cls:=.type "zip",data:=.fields #[.ellipsis,.bool false,.bool false,.ref TI,.ref TO]}:=k _ _ hA.i1z.symm z1;refine Ba z2 (show 0 < 5 by decide) λh3 z3 b3=>?_;refine q h3 e (λc o n1 n2 n3 n4 ec=>?_) ?_
  ·rw [b3.2 _ n1];exact k _ _ n3 ((uI _ n1).trans ec)
  ·obtain⟨o,eo,hc⟩:=ex;by_cases he:e=z
   ·subst he;rw [z2] at eo;cases eo;exact absurd (show BV "zip"=BV "StopIteration" from hc) ⋯
   ·exact⟨o,(b3.2 _ he).trans eo,hc⟩
 | some x=>
  have hy:ys[k2]?=bm:=by
   rcases hx with h | h
   ·rw [hx1] at h;cases h
   ·exact h
  refine Aa (kU (ċ.move λo e=>(uI _ hA.i1z).trans e) (UP.move λo e=>(uI _ hA.l1z).trans e) hx1 λh2 j2 b2'=>Af ?_);have O0:∀b,b≠z->b≠i1->h2.get? b=s.heap.get? b:=λb n1 n2=>(b2'.2 b n2).trans (uI b n1);have ß:=(O0 _ hA.TOz hA.TOi1).trans Ĥ;refine Aa (BE ß rfl ?_);refine Aa (DB ß λh3 t3 b3=>?_);have Ð:∀b,b≠z->b≠i1->b≠TO->h3.get? b=s.heap.get? b:=λb n1 n2 n3=>(b3.2 b n3).trans (O0 b n1 n2);refine Aa (DC (Af ?_));refine Aa ?_;refine Aa (Eu ?_);show db _ _ (Builtin.SmallTypes.nextOf (.ref i2) >>= λv=>pure (ap v)) _ _ _;refine Aa (se hh (ì.move λo e=>(Ð _ hA.i2z hA.i12.symm hA.TOi2.symm).trans e) (HI.move λo e=>(Ð _ hA.l2z hA.l2i1 hA.l2TO).trans e) hy λh4 e k ex=>?_);have z4:h4.get? z=ap {cls:=.type "zip",data:=.fields #[.ellipsis,.bool false,.bool false,.ref TI,.ref TO]}:=k _ _ hA.i2z.symm ((b3.2 _ hA.TOz.symm).trans ((b2'.2 _ hA.i1z.symm).trans z1));refine Ba z4 (show 0 < 5 by decide) λh5 z5 b5=>?_;refine q h5 e (λc o n1 n2 n3 n4 ec=>?_) ?_
  ·rw [b5.2 _ n1];exact k _ _ n4 ((Ð _ n1 n3 n2).trans ec)
  ·obtain⟨o,eo,hc⟩:=ex;by_cases he:e=z
   ·subst he;rw [z4] at eo;cases eo;exact absurd (show BV "zip"=BV "StopIteration" from hc) ⋯
   ·exact⟨o,(b5.2 _ he).trans eo,hc⟩
def oK {b2:Bool}{TI TO:ci}{y:ce}{Q:Option ce->cr->Prop} (hA:ZipApart z TI TO i1 i2 a1 a2)
  (hz:kg b1 b2 s.heap z TI TO i1 i2 a1 a2 .none k1 k2) (UP:jc b1 s.heap a1 xs) (HI:jc b2 s.heap a2 ys) (hx:xs[k1]?=ap x) (hy:ys[k2]?=ap y)
  (q:∀h':mo,kg b1 b2 h' z TI TO i1 i2 a1 a2 (ut s.heap.objs.size) (k1+1) (k2+1)->IsPair h' s.heap.objs.size x y->(∀c o,c≠z->c≠TO->c≠i1->c≠i2->s.heap.get? c=ap o->h'.get? c=ap o)->Q (ap (.ref s.heap.objs.size)) {s with heap:=h'}) :
  db (dL prog w) A (pyNext (.ref z)) Q E s:=by
 have ty:s.TypeIs (.ref z) "zip":=⟨_,hz.zip,rfl⟩;refine Aa (C2 (AX ty DH (Bg DH ty F.entry_zip_next ?_ (F.args_zip_next_1 _))));exact q8 hA hz UP HI hx hy λh' a b c=>Af (q h' a b c)
def pZ {b2:Bool}{TI TO:ci}{Q:Option ce->cr->Prop} (hh:A.handled=bm) (hA:ZipApart z TI TO i1 i2 a1 a2)
  (hz:kg b1 b2 s.heap z TI TO i1 i2 a1 a2 .none k1 k2) (UP:jc b1 s.heap a1 xs) (HI:jc b2 s.heap a2 ys) (hx:xs[k1]?=bm\/ys[k2]?=bm)
  (q:∀h':mo,(∀c o,c≠z->c≠TO->c≠i1->c≠i2->s.heap.get? c=ap o->h'.get? c=ap o)->Q bm {s with heap:=h'}) :
  db (dL prog w) A (pyNext (.ref z)) Q E s:=by
 have ty:s.TypeIs (.ref z) "zip":=⟨_,hz.zip,rfl⟩;refine Aa (C2 (AX ty DH (Bg DH ty F.entry_zip_next ?_ (F.args_zip_next_1 _))));refine ud (A:=A.in1) hh hA hz UP HI hx λh' e k ex=>?_;obtain⟨o,eo,hc⟩:=ex;refine Aa (Ds (T:="StopIteration") ⟨o,eo,hc⟩ isSubtype_stop ?_);exact Af (q h' k)
def sj (b1 b2:Bool) (a1 a2:ci) (xs ys:Array ce):Meets (wT.«zip.__new__» {pos:=[.type "zip",.ref a1,.ref a2]}) (λ_ R s=>jc b1 s.heap a1 xs/\jc b2 s.heap a2 ys/\
  ∀h':mo,kg b1 b2 h' (s.heap.objs.size+4) (s.heap.objs.size+2) (s.heap.objs.size+3) s.heap.objs.size (s.heap.objs.size+1) a1 a2 .none 0 0->(∀b o,s.heap.get? b=ap o->h'.get? b=ap o)->R (.ok (.ret (.ref (s.heap.objs.size+4)))) {s with heap:=h'}):=
 .of_wp λprog w A R s h=>by
  obtain⟨h1,h2,q⟩:=h;refine Aa ?_;refine Aa (Cz (a:=true) rfl ?_);refine Aa (Cz sub_zip ?_);refine Af ?_;refine Aa ?_;refine Aa ?_;rw [Cb];refine Aa ?_;refine Aa (Bc (vf h1 (Af ?_)));have k1:∀b o,s.heap.get? b=ap o->(s.heap.push {cls:=.type (Lk b1),data:=.fields #[.ref a1,.int 0 0]}).get? b=ap o:=λb o e=>Ah _ e;have g1:(s.heap.push {cls:=.type (Lk b1),data:=.fields #[.ref a1,.int 0 0]}).get? s.heap.objs.size=ap {cls:=.type (Lk b1),data:=.fields #[.ref a1,.int 0 0]}:=Aq _ rfl;have z1:(s.heap.push {cls:=.type (Lk b1),data:=.fields #[.ref a1,.int 0 0]}).objs.size=s.heap.objs.size+1:=CP ..;generalize s.heap.push {cls:=.type (Lk b1),data:=.fields #[.ref a1,.int 0 0]}=uG at k1 g1 z1 ⊢;show db _ _ (forIn [AD a2] _ _) _ _ _;rw [Cb];refine Aa ?_;refine Aa (Bc (vf (xs:=ys) (h2.move λo e=>k1 _ _ e) (Af ?_)));show db _ _ (forIn [] _ _) _ _ _;rw [List.forIn_nil];refine Af (Af ?_);have k2:∀b o,uG.get? b=ap o->(uG.push {cls:=.type (Lk b2),data:=.fields #[.ref a2,.int 0 0]}).get? b=ap o:=λb o e=>Ah _ e;have g2:(uG.push {cls:=.type (Lk b2),data:=.fields #[.ref a2,.int 0 0]}).get? uG.objs.size=ap {cls:=.type (Lk b2),data:=.fields #[.ref a2,.int 0 0]}:=Aq _ rfl;have z2:(uG.push {cls:=.type (Lk b2),data:=.fields #[.ref a2,.int 0 0]}).objs.size=uG.objs.size+1:=CP ..;show db _ _ (newTuple [.ref s.heap.objs.size,.ref uG.objs.size] >>= λr=>_) _ _ {s with heap:=uG.push {cls:=.type (Lk b2),data:=.fields #[.ref a2,.int 0 0]}};generalize uG.push {cls:=.type (Lk b2),data:=.fields #[.ref a2,.int 0 0]}=xv at k2 g2 z2 ⊢;refine Aa (CS ?_ (by show 2<=sizeLine;decide));have k3:∀b o,xv.get? b=ap o->(xv.push {cls:=.type "tuple",data:=.seq [AD s.heap.objs.size,AD uG.objs.size].toArray}).get? b=ap o:=λb o e=>Ah _ e;have g3:(xv.push {cls:=.type "tuple",data:=.seq [AD s.heap.objs.size,AD uG.objs.size].toArray}).get? xv.objs.size=ap {cls:=.type "tuple",data:=.seq #[.ref s.heap.objs.size,.ref uG.objs.size]}:=Aq _ rfl;have z3:(xv.push {cls:=.type "tuple",data:=.seq [AD s.heap.objs.size,AD uG.objs.size].toArray}).objs.size=xv.objs.size+1:=CP ..;show db _ _ (newTuple [.none,.none] >>= λr=>_) _ _ {s with heap:=xv.push {cls:=.type "tuple",data:=.seq [AD s.heap.objs.size,AD uG.objs.size].toArray}};generalize xv.push {cls:=.type "tuple",data:=.seq [AD s.heap.objs.size,AD uG.objs.size].toArray}=Lv at k3 g3 z3 ⊢;refine Aa (CS ?_ (by show 2<=sizeLine;decide));have k4:∀b o,Lv.get? b=ap o->(Lv.push {cls:=.type "tuple",data:=.seq [AZ,AZ].toArray}).get? b=ap o:=λb o e=>Ah _ e;have g4:(Lv.push {cls:=.type "tuple",data:=.seq [AZ,AZ].toArray}).get? Lv.objs.size=ap {cls:=.type "tuple",data:=.seq #[.none,.none]}:=Aq _ rfl;have z4:(Lv.push {cls:=.type "tuple",data:=.seq [AZ,AZ].toArray}).objs.size=Lv.objs.size+1:=CP ..;show db _ _ (newObj (.type "zip") (.fields #[.none,.bool false,.bool false,.ref xv.objs.size,.ref Lv.objs.size]) >>= λr=>_) _ _ {s with heap:=Lv.push {cls:=.type "tuple",data:=.seq [AZ,AZ].toArray}};generalize Lv.push {cls:=.type "tuple",data:=.seq [AZ,AZ].toArray}=Yw at k4 g4 z4 ⊢;refine Aa (A2 ?_ (by simp [sizeOk];decide));have k5:∀b o,Yw.get? b=ap o->(Yw.push {cls:=.type "zip",data:=.fields #[.none,.bool false,.bool false,.ref xv.objs.size,.ref Lv.objs.size]}).get? b=ap o:=λb o e=>Ah _ e;have g5:(Yw.push {cls:=.type "zip",data:=.fields #[.none,.bool false,.bool false,.ref xv.objs.size,.ref Lv.objs.size]}).get? Yw.objs.size=ap {cls:=.type "zip",data:=.fields #[.none,.bool false,.bool false,.ref xv.objs.size,.ref Lv.objs.size]}:=Aq _ rfl;have e1:=z1;have e2:xv.objs.size=s.heap.objs.size+2:=by rw [z2,e1]
  have e3:Lv.objs.size=s.heap.objs.size+3:=by rw [z3,e2]
  have e4:Yw.objs.size=s.heap.objs.size+4:=by rw [z4,e3]
  refine Af ⟨.ref Yw.objs.size,rfl,?_⟩;rw [e2,e3] at g5 k5 ⊢;rw [e4] at g5 ⊢;rw [e3] at g4;rw [e1,e2] at g3;rw [e1] at g2;refine q _ ⟨g5,k5 _ _ (k4 _ _ g3),⟨_,_,k5 _ _ g4⟩,Jv (k5 _ _ (k4 _ _ (k3 _ _ (k2 _ _ g1)))),Jv (k5 _ _ (k4 _ _ (k3 _ _ g2)))⟩ λb o e=>k5 _ _ (k4 _ _ (k3 _ _ (k2 _ _ (k1 _ _ e))))
def Mb {b2:Bool} (h1:jc b1 s.heap a1 xs) (h2:jc b2 s.heap a2 ys)
  (q:∀h':mo,kg b1 b2 h' (s.heap.objs.size+4) (s.heap.objs.size+2) (s.heap.objs.size+3) s.heap.objs.size (s.heap.objs.size+1) a1 a2 .none 0 0->(∀b o,s.heap.get? b=ap o->h'.get? b=ap o)->Q (.ref (s.heap.objs.size+4)) {s with heap:=h'}) :
  db (dL prog w) A (call (.type "zip") [.ref a1,.ref a2]) Q E s:=
 callType_new F.called_zip ⋯ (F.typeCall_zip_2 _ _) (F.newCall_zip_2 _ _) (λo=>F.args_object_init_3 o _ _) F.entry_zip_new (sj b1 b2 a1 a2 xs ys) ⟨h1,h2,λh' z k=>⟨⟨_,z.zip,rfl⟩,q h' z k⟩⟩
def MK (b:Bool) (K:Ab) (H:Hp) (a:ci) (xs:List V):Prop:=match b with
 | true=>di K H a xs
 | false=>dU K H a xs
def Inv.Yn {xs:List V} (I:Inv X Z σ H s) (h:MK b X.K H a xs):∃aw:List ce,Vals xs aw/\jc b s.heap a aw.toArray/\xs.length<=sizeLine:=by
 cases b with
 | true=>obtain⟨aw,r,p,z⟩:=I.list (show di X.K H a xs from h);exact⟨aw,r,p.isList,z⟩
 | false=>obtain⟨aw,r,p,z⟩:=I.tuple (show dU X.K H a xs from h);exact⟨aw,r,p,z⟩
def Inv.Ju {xs ys:List V} (I:Inv X Z σ H s) (h:MK b X.K H a xs) (h':MK b X.K H a ys):xs=ys:=by
 cases b with
 | true=>
  obtain⟨aw,k,⟨o,n,h1,h2,h3,h4⟩,_⟩:=I.list (show di X.K H a xs from h);obtain⟨its',k',⟨o',n',iw,ub,HL,Xt⟩,_⟩:=I.list (show di X.K H a ys from h');rw [h1] at iw;cases iw;rw [h4] at Xt;have:aw=its':=by injection Xt with a b;simpa using a
  subst this;exact Vals.inj k k'
 | false=>exact I.lJ h h'
def abV (b1 b2:Bool) (K:Ab) (a1 a2:ci):It where
 go:=λi H=>∃xs ys x y,MK b1 K H a1 xs/\MK b2 K H a2 ys/\xs[i]?=ap x/\ys[i]?=ap y
 Ud:=λi H v H'=>∃p x y,v=.ref p/\H p=bm/\H'=upd H p (.tup [x,y])/\(∀xs,MK b1 K H a1 xs->xs[i]?=ap x)/\∀ys,MK b2 K H a2 ys->ys[i]?=ap y
 stop:=λi H=>∃xs ys,MK b1 K H a1 xs/\MK b2 K H a2 ys/\(xs.length<=i\/ys.length<=i)
theorem KG {K:Ab}{b2:Bool}{TI TO:ci} (hA:ZipApart z TI TO i1 i2 a1 a2):Turn P w K (.Tuple Ñ kk pos) (abV b1 b2 K a1 a2) [z,TI,TO,i1,i2] z (λi h=>kg b1 b2 h z TI TO i1 i2 a1 a2 .none i i) where
 mem:=by simp
 obj:=λi h st b hb=>by
  simp only [Ax,A8,or_false] at hb;rcases hb with rfl | rfl | rfl | rfl | rfl
  ·exact⟨_,st.zip,λv z=>by cases z⟩
  ·exact⟨_,st.ti,λv z=>by cases z⟩
  ·obtain⟨_,_,e⟩:=st.to;exact⟨_,e,λv z=>by cases z⟩
  ·exact st.it1.obj
  ·exact st.it2.obj
 keep:=λi h h' st k=>⟨k z (by simp) _ st.zip,k TI (by simp) _ st.ti,let ⟨a,b,e⟩:=st.to;⟨a,b,k TO (by simp) _ e⟩,st.it1.move λo e=>k i1 (by simp) _ e,st.it2.move λo e=>k i2 (by simp) _ e⟩
 item:=by
  intro X hP hw hK hc i Z s σ H E I hf st hg;subst hP hw hK;obtain⟨xs,ys,x,y,hx,hy,gx,gy⟩:=hg;obtain⟨aw,rx,tx,_⟩:=I.Yn hx;obtain⟨cJ,ry,ty,_⟩:=I.Yn hy;obtain⟨u,gu,ru⟩:=kH rx gx;obtain⟨v,gv,rv⟩:=kH ry gy;refine oK hA st tx ty (by simpa using gu) (by simpa using gv) λh' zt np k=>?_;refine⟨_,rfl,?_⟩;refine Aa (wpAny_load zt.zip ?_);show db _ _ (if ((["enumerate","zip","dict_itemiterator","dict_reverseitemiterator","odict_iterator","itertools.zip_longest","itertools.pairwise"].contains "zip"&&(ap (ut s.heap.objs.size)==ap (ut s.heap.objs.size)))=true) then (do rule "for.unpacks-the-owned-tuple";wE (.ref z) 0 .none) else pure ()) _ _ _;rw [if_pos (by rw [beq_self_eq_true];decide)];refine Aa (C6 ?_);refine Ba zt.zip (show 0 < 5 by decide) λh2 z2 b2=>?_;have lt:∀b∈[z,TI,TO,i1,i2],b < s.heap.objs.size:=λb hb=>by
   simp only [Ax,A8,or_false] at hb;rcases hb with rfl | rfl | rfl | rfl | rfl
   ·exact Ar st.zip
   ·exact Ar st.ti
   ·obtain⟨_,_,e⟩:=st.to;exact Ar e
   ·obtain⟨o,e,_⟩:=st.it1.obj;exact Ar e
   ·obtain⟨o,e,_⟩:=st.it2.obj;exact Ar e
  have nz:s.heap.objs.size≠z:=λe=>Bd _ (by have:=lt z (by simp);rw [<- e] at this;exact this);have æ:∀b o,b∉[z,TI,TO,i1,i2]->s.heap.get? b=ap o->h2.get? b=ap o:=λb o hb e=>by
   have HH:b≠z:=λq=>hb (by simp [q]);rw [b2.2 b HH];exact k b o HH (λq=>hb (by simp [q])) (λq=>hb (by simp [q])) (λq=>hb (by simp [q])) e
  have â:h2.get? s.heap.objs.size=ap {cls:=.type "tuple",data:=.seq #[u,v]}:=(b2.2 _ nz).trans np;have î:=I.bH.fresh (Ao s.heap.objs.size);refine⟨.ref s.heap.objs.size,upd H s.heap.objs.size (.tup [x,y]),I.rB (t':=s.toks) hf æ (Ao _) ⟨by show 2<=sizeLine;decide,[u,v],.cons ru (.cons rv .nil),⟨_,â,rfl,_,rfl⟩⟩,rfl,⟨_,x,y,rfl,î,rfl,λxs' h'=>?_,λys' h'=>?_⟩,⟨z2,(b2.2 _ hA.TIz).trans zt.ti,let ⟨p,q,e⟩:=zt.to;⟨p,q,(b2.2 _ hA.TOz).trans e⟩,zt.it1.move λo e=>(b2.2 _ hA.i1z).trans e,zt.it2.move λo e=>(b2.2 _ hA.i2z).trans e⟩,λb hb=>?_⟩
  ·rw [I.Ju h' hx];exact gx
  ·rw [I.Ju h' hy];exact gy
  ·rw [aA (AI (lt b hb))];exact (hf b hb).1
 done:=by
  intro X hP hw hK hc i Z s σ H E I hf st hg;subst hP hw hK;obtain⟨xs,ys,hx,hy,hl⟩:=hg;obtain⟨aw,rx,tx,_⟩:=I.Yn hx;obtain⟨cJ,ry,ty,_⟩:=I.Yn hy;have el:=rx.length;have el2:=ry.length;refine pZ (I.ok.hd hc) hA st tx ty ?_ λh' k=>⟨rfl,I.vY (t':=s.toks) hf λb o hb e=>k b o (λz=>hb (by simp [z])) (λz=>hb (by simp [z])) (λz=>hb (by simp [z])) (λz=>hb (by simp [z])) e⟩;rcases hl with hl | hl
  ·exact .inl (by simp;omega)
  ·exact .inr (by simp;omega)
 self:=λA i s Q E st h=>wpAny_pyIter_zip st.zip h
def aaC (K:Ab) (t1 t2:TE):TI:=λσ H R=>t1 σ H λx H1=>t2 σ H1 λy H2=>∃b1 b2 a b,x=.ref a/\y=.ref b/\(∃xs,MK b1 K H2 a xs)/\(∃ys,MK b2 K H2 b ys)/\R (abV b1 b2 K a b) H2
def RG (K:Ab) (hK:X.K=K) {e2:gt}{t1 t2:TE} (hg:Gl X "zip") (hm:X.mg "zip"=bm) (h1:PE X e1 t1) (h2:PE X e2 t2)
  (GI:ga [e1,e2] X.env=(false,kw e1 X.env)::ga [e2] X.env:=by rfl) (qN:iB X e2 []:=by rfl) (dJ:(FS p2 (ga [e2] X.env)).any (·.1)=false:=by rfl) :
  PI X (.Tuple Ñ kk tp) (.Call (.Name "zip" p1) [e1,e2] [] p2) (aaC K t1 t2):=by
 subst hK;intro Z s σ H R I h;refine BB (jY I hg hm boot_zip ?_ ⋯ ⋯);refine Bp ?_ GI dJ;rw [GI,qN];refine Co (bC (h1 Z s σ H _ I h) λu1 s1 ⟨x,H1,I1,r1,q1⟩=>?_);refine Co (bC (h2 Z s1 σ H1 _ I1 q1) λu2 s2 ⟨y,H2,I2,r2,b1,b2,a,b,ex,ey,⟨xs,hx⟩,⟨ys,hy⟩,q⟩=>CJ ?_);subst ex;subst ey;cases r1;cases r2;obtain⟨aw,rx,tx,_⟩:=I2.Yn hx;obtain⟨cJ,ry,ty,_⟩:=I2.Yn hy;have l1:=tx.lt;have l2:=ty.lt;refine Mb tx ty λh' zt k=>?_;refine wpAny_pyIter_zip zt.zip ?_;have dd:∀i j:Nat,i≠j->s2.heap.objs.size+i≠s2.heap.objs.size+j:=λi j n e=>n (Nat.add_left_cancel e);have na:∀i:Nat,a≠s2.heap.objs.size+i:=λi=>AI (AB l1 (BD _ _));have nb:∀i:Nat,b≠s2.heap.objs.size+i:=λi=>AI (AB l2 (BD _ _));have hA:ZipApart (s2.heap.objs.size+4) (s2.heap.objs.size+2) (s2.heap.objs.size+3) s2.heap.objs.size (s2.heap.objs.size+1) a b:=
  ⟨dd 2 4 ⋯,dd 3 4 ⋯,dd 0 4 ⋯,dd 1 4 ⋯,dd 2 3 ⋯,dd 2 0 ⋯,dd 2 1 ⋯,dd 3 0 ⋯,dd 3 1 ⋯,dd 0 1 ⋯,na 4,na 3,na 0,na 1,nb 4,nb 3,nb 0,nb 1⟩
 refine⟨_,_,_,_,H2,rfl,I2.kept (t':=s2.toks) k,KG hA,zt,λc hc=>?_,q⟩;have Ú:s2.heap.objs.size<=c:=by
  simp only [Ax,A8,or_false] at hc;rcases hc with rfl | rfl | rfl | rfl | rfl
  ·exact BD _ _
  ·exact BD _ _
  ·exact BD _ _
  ·exact Ao _
  ·exact BD _ _
 exact I2.xG Ú (I2.bH.fresh Ú)
def ZG (K:Ab):V->Option Int->Option Int->Hp->VK->Prop:=λx lo hi H Q=>∃a xs,x=.ref a/\dU K H a xs/\
 ((HT.dX xs.length 0 lo=0/\HT.dX xs.length xs.length hi=xs.length)->Q x H)/\(¬(HT.dX xs.length 0 lo=0/\HT.dX xs.length xs.length hi=xs.length)->kA H (.tup (yh xs lo hi)) Q)
def Rh (K:Ab) (hK:X.K=K):SlR X (ZG K):=by
 subst hK;intro Z s σ H x v vl vu lo hi sl Q I rx hs pl pu h;obtain⟨a,xs,rfl,hT,qw,qn⟩:=h;by_cases c:HT.dX xs.length 0 lo=0/\HT.dX xs.length xs.length hi=xs.length
 ·have q:=qw c;cases rx;obtain⟨aw,r,ht,hz⟩:=I.tuple hT;have Á:aw.toArray.size=xs.length:=by rw [Ai];exact r.length.symm
  refine⟨"tuple",_,AV.lookup,ht.typeIs,?_⟩;obtain⟨os,t4,Ly,yH⟩:=id hs;have UX:s.TypeIs (.ref sl) "slice":=⟨os,t4,Ly⟩;unfold zn
  try with_reducible refine Bc ?_
  first | refine Aa (Af ?_) | skip
  refine Aa (Dg ht.typeIs ⋯ ?_);refine Aa (AX (name:=Cg "__getitem__") ht.typeIs AV
   (Bg AV ht.typeIs entry_tuple_getitem ?_ (args_tuple_getitem _ _)))
  show db _ _ (Builtin.Tuple.tupleItemsOf (.ref a) >>= _) _ _ s;refine Aa (tupleItemsOf_ ht ?_);refine Aa (Cj UX ?_);refine Aa (HT.jo hs pl pu ?_);show db _ _ (if (((HT.dX aw.toArray.size 0 lo:Nat):Int)==0&&(1:Int)==1&&(HT.dX aw.toArray.size aw.toArray.size hi-HT.dX aw.toArray.size 0 lo)==aw.toArray.size)=true then _ else _) _ _ s;rw [if_pos (by rw [Á,c.1,c.2];simp)];refine Aa ?_
  first
   | refine Aa (Cj ht.typeIs (Af ?_))
   | refine Cj ht.typeIs (Af ?_)
  first
   | rw [if_pos ⋯]
   | rw [if_pos rfl]
  refine Aa (C6 (Af ⟨_,rfl,?_⟩));exact Af ⟨.ref a,H,I,rfl,q⟩
 ·exact VF Z s σ H _ v vl vu lo hi sl Q I rx hs pl pu ⟨a,xs,rfl,hT,c,λp hp=>(qn c).at p hp⟩
def ZP (K:Ab):R2:=λx y H Q=>∃a b xs ys,x=.ref a/\y=.ref b/\dU K H a xs/\dU K H b ys/\xs.length+ys.length<=sizeLine/\
 (xs=[]->Q (.ref b) H)/\(xs≠[]->ys=[]->Q (.ref a) H)/\(xs≠[]->ys≠[]->kA H (.tup (xs++ys)) Q)
def RZ (K:Ab) (hK:X.K=K):ir X (r9 .Add) (ZP K):=by
 subst hK;intro Z s σ H x y v u Q I rx ry h;obtain⟨a,b,xs,ys,rfl,rfl,ha,hb,hz,q0,q1,q2⟩:=h;by_cases c:xs=[]
 ·cases rx;cases ry;obtain⟨aw,r1,p1,_⟩:=I.tuple ha;obtain⟨cJ,r2,p2,_⟩:=I.tuple hb;obtain⟨⟨cls,dd,data,sl⟩,ho,hc,n,hd⟩:=id p1;obtain⟨⟨X1,Tx,data2,Qx⟩,Lw,OV,n2,Ç⟩:=id p2;simp only at hc hd OV Ç;subst hc hd OV Ç;exact concat_meets ⟨_,ho,rfl⟩ ⟨_,Lw,rfl⟩ noFill_tuple_add seq_tuple_add Df C9 (CZ _ _)
   (tuple_addW0 a b aw.toArray cJ.toArray n n2 dd Tx sl Qx (by rw [r1.jV.mpr c];rfl)) ⟨ho,Lw,.ref b,H,I,rfl,q0 c⟩
 ·exact JO Z s σ H _ _ v u Q I rx ry ⟨a,b,xs,ys,rfl,rfl,ha,hb,c,hz,q1 c,λn p hp=>(q2 c n).at p hp⟩
end L2
variable {a:BJ}
namespace FL
section
open PySem PySem.Spec PyProof.Rows L2 PL
variable {K:Ab}
section
variable {b c:gt}{w:W PV}
def addW:PV->PV->W PV
 | .int i,.int j=>.ret (.int (i+j))
 | .str a,.str b=>.fg (a.length+b.length<=sizeLine) (.ret (.str (a++b)))
 | .tup a,.tup b=>.fg (a.length+b.length<=sizeLine) (.ret (.tup (a++b)))
 | _,_=>.fail
def a9 (hK:X.K=K) (ha:EF X K fs a wa) (hb:EF X K fs b wb):EF X K fs (.BinOp a .Add b pos) (.bind wa λx=>.bind wb λy=>addW x y):=
 ⟨PE.imp (JI ((R1 K hK).or (RZ K hK)) ha.p hb.p) λσ H Q ⟨sr,q⟩=>⟨sr,wa.mono (λx q1 u1 H1 g1 s1 v1=>⟨s1,wb.mono (λy q2 u2 H2 g2 s2 v2=>by
  have QS:=g2.vr s1 v1;cases QS with
  | int i=>
   cases v2 with
   | int j=>exact .inl ⟨_,rfl,q2 _ H2 (g1.trans g2) s2 (.int _)⟩
   | _=>exact q2.elim
  | str i=>
   cases v2 with
   | str j=>exact .inl ⟨_,rfl,q2.1,q2.2 _ H2 (g1.trans g2) s2 (.str _)⟩
   | _=>exact q2.elim
  | @tup p vs l e r=>
   cases v2 with
   | @tup p' Qv l' e' r'=>
    refine .inr ⟨p,p',vs,Qv,rfl,rfl,dU.of e,dU.of e',by rw [r.length,r'.length];exact q2.1,λz=>?_,λ_ z=>?_,λ_ _ q H3 s3 h3 n3=>?_⟩
    ·have z':=(PL.aM.jV r).mp z;subst z';exact q2.2 _ H2 (g1.trans g2) s2 (.tup e' r')
    ·have z':=(PL.aM.jV r').mp z;subst z';have q2:=q2.2;rw [C4] at q2;exact q2 _ H2 (g1.trans g2) s2 (.tup e r)
    ·exact q2.2 _ H3 ((g1.trans g2).trans (cU.same s3)) (s2.same s3) (.tup h3 (aM.tk s3.eO (r.append r')))
   | _=>exact q2.elim
  | _=>exact q2.elim) q1⟩) q⟩⟩
theorem lI:∀(l m:List PV),(dW l m).length=min l.length m.length
 | [],m=>by rw [dW];simp;intros;simp_all
 | x::l,[]=>by rw [dW];simp;intros;simp_all
 | x::l,y::m=>by rw [dW,An,lI l m];simp only [An];omega
def m7 (l m:List PV):W (List PV):=.fg (l.length<=sizeLine) (.ret (dW l m))
def Up (h:Ye K H u l):∃(b:Bool) (a:ci) (vs:List V),u=.ref a/\aM K [] H vs l/\∀H',bB K H H'->MK b K H' a vs:=by
 obtain⟨a,vs,e,h | h,r⟩:=h
 ·exact⟨true,a,vs,e,r,λH' t=>(t.f _ _ h).sq⟩
 ·exact⟨false,a,vs,e,r,λH' t=>dU.of (t.t _ _ h)⟩
theorem xl (hK:X.K=K) (hg:Gl X "zip") (hm:X.mg "zip"=bm) (ha:IF X K fs a wl) (hb:IF X K fs b wm)
  (GI:ga [a,b] X.env=(false,kw a X.env)::ga [b] X.env:=by rfl) (qN:iB X b []:=by rfl) (dJ:(FS p2 (ga [b] X.env)).any (·.1)=false:=by rfl) :
  qZ X K fs (.Tuple Ñ kk tp) (.Call (.Name "zip" p1) [a,b] [] p2) (.bind wl λl=>.bind wm λm=>m7 l m):=
 ⟨PI.imp (RG K hK hg hm ha.p hb.p GI qN dJ) λσ H R ⟨sr,q⟩=>⟨sr,wl.mono (λl q1 u1 H1 g1 s1 v1=>⟨s1,wm.mono (λm q2 u2 H2 g2 s2 v2=>by
  obtain⟨b1,a1,vs,rfl,r1,x1⟩:=Up (v1.tk (g2.eJ s1));obtain⟨b2,a2,ws,rfl,r2,x2⟩:=Up v2;have tr:bB K H2 H2:=bB.refl H2;refine⟨b1,b2,a1,a2,rfl,rfl,⟨vs,x1 H2 tr⟩,⟨ws,x2 H2 tr⟩,q2.2 _ H2 (g1.trans g2) s2 ⟨by rw [lI];have:=q2.1;omega,λH' t=>⟨λi pp hp=>?_,vs,ws,x1 H' t,x2 H' t,?_⟩⟩⟩
  ·obtain⟨x,y,hx,hy,rfl⟩:=m8 hp;obtain⟨v,h3,h4⟩:=(aM.tk t r1).get hx;obtain⟨v',HL,Xt⟩:=(aM.tk t r2).get hy;refine⟨⟨vs,ws,v,v',x1 H' t,x2 H' t,h3,HL⟩,λz H3 yl=>?_⟩;obtain⟨p,x',y',rfl,hn,rfl,e1,e2⟩:=yl;have e1:=e1 vs (x1 H' t);have e2:=e2 ws (x2 H' t);rw [h3] at e1;rw [HL] at e2;cases e1;cases e2;have sm:=gV hn (.tup [v,v']);exact⟨sm,.tup aP (.cons (VR.tk sm.eO h4) (.cons (VR.tk sm.eO Xt) .nil))⟩
  ·rw [lI,r1.length,r2.length];omega) q1⟩) q⟩⟩
variable {el eh:Option gt}{lo:W (Option Int)}
def kz (x:PV) (i j:Option Int):W PV:=match x with
 | .tup l=>.ret (.tup (fH l i j))
 | _=>.fail
def L9 {i j:Option Int} (h:HT.dX l.length 0 i=0/\HT.dX l.length l.length j=l.length):fH l i j=l:=by
 unfold fH;rw [h.1,h.2];simp
def gw (hK:X.K=K) (he:EF X K fs e w) (hl:OF X K fs el lo) (hh:OF X K fs eh hi):EF X K fs (.Subscript e (.Slice el eh bm p2) pos) (.bind w λx=>.bind lo λi=>.bind hi λj=>kz x i j):=⟨PE.imp (zm (Rh K hK) he.p hl.p hh.p) λσ H Q ⟨sr,q⟩=>⟨sr,w.mono (λx q1 u1 H1 g1 s1 v1=>⟨s1,lo.mono (λi q2 H2 g2 s2=>⟨s2,hi.mono (λj q3 H3 g3 s3=>by
 have QS:=g3.vr s2 (g2.vr s1 v1);have gg:=(g1.trans g2).trans g3;cases QS with
 | @tup p vs l e r=>
  have Á:=r.length;refine⟨p,vs,rfl,dU.of e,λc=>?_,λc q H4 s4 h4 n4=>?_⟩
  ·rw [Á] at c;have q3:(bd (PV.tup (fH l i j))).run _:=q3;rw [L9 c] at q3;exact q3 _ H3 gg s3 (.tup e r)
  ·exact q3 _ H4 (gg.trans (cU.same s4)) (s3.same s4) (.tup h4 (aM.tk s4.eO (r.cut i j)))
 | _=>exact q3.elim) q2⟩) q1⟩) q⟩⟩
end
end
end FL
variable {x:PL.PV}
namespace FL
section
open PySem PySem.Spec PyProof.Rows L2 PL
variable {K:Ab}
section
open Classical in
noncomputable def LR (K:Ab) (H:Hp) (x:PV) (w:ce):Bool:=decide (∃p v,RelV v w/\VR K [] H v p/\kC p x=true)
open Classical in
def Pp (hK:X.K=K) (I:Inv X Z σ H s) {x p:PV}{v:V}{w:ce} (r:RelV v w) (h:VR K [] H v p):LR K H x w=kC p x:=by
 subst hK;cases e:kC p x with
 | true=>exact decide_eq_true ⟨p,v,r,h,e⟩
 | false=>
  refine decide_eq_false ?_;rintro⟨p',v',r',h',e'⟩;have:=Nt r r';subst this;rw [VR.O7 I h h',e'] at e;cases e
theorem xQ (hK:X.K=K) (I:Inv X Z σ H s):∀{vs:List V}{aw:List ce}{l:List PV},Vals vs aw->aM K [] H vs l->aw.map (LR K H x)=l.map λy=>kC y x
 | _,_,_,.nil,.nil=>rfl
 | _,_,_,.cons r t,.cons q z=>by rw [Aw,Aw,Pp hK I r q,xQ hK I t z]
def Lu (x:PV) (l:List PV):Prop:=PV.iu x=true/\fj l=true/\eG l<=150
theorem tG (hK:X.K=K) (I:Inv X Z σ H s) {v:V}{w:ce} (hx:VR K [] H v x) (rx:RelV v w) (dx:PV.iu x=true) (hu:A.units+150+1 < o0) :
  ∀{vs:List V}{aw:List ce}{l:List PV},Vals vs aw->aM K [] H vs l->fj l=true->eG l<=150->∀u∈aw,Dp A s u w (LR K H x u)
 | _,_,_,.nil,.nil,_,_,u,hu=>by cases hu
 | _,_,_,.cons r t,.cons q z,d,dd,u,hm=>by
  rw [fj,Az] at d;rw [eG] at dd;rcases Ax.mp hm with rfl | hm
  ·rw [Pp hK I r q];exact (X0 hK I 150 _ x A _ v _ w ∅ d.1 dx q hx r rx hu).eq
  ·exact tG hK I hx rx dx hu t z d.2 ∅ u hm
end
def nV (x:PV) (l:List PV):Bool:=l.any λy=>kC y x
def Rr (K:Ab) (neg:Bool):R2:=λx y H Q=>∃p vs l xp,y=.ref p/\(di K H p vs\/dU K H p vs)/\aM K [] H vs l/\VR K [] H x xp/\Lu xp l/\Q (.bl (if neg then !nV xp l else nV xp l)) H
section
theorem any_map' (f:α->Bool):∀l:List α,l.any f=(l.map f).any id
 | []=>rfl
 | x::l=>by rw [Ck,Aw,Ck,any_map' f l];rfl
theorem Wv (K:Ab) (hK:X.K=K) (hu:X.A.units+200 < o0):ir X (im .In) (Rr K false):=by
 intro Z s σ H x y v u Q I rx ry h;obtain⟨p,vs,l,xp,rfl,hq,hl,hx,ok,q⟩:=h;cases ry;have é:X.A.in1.units+150+1 < o0:=by show X.A.units+1+150+1 < _;omega
 have fin:∀{aw:List ce},Vals vs aw->aw.toArray.any (LR K H xp)=nV xp l:=λ{aw} r=>by
  rw [show aw.toArray.any (LR K H xp)=aw.any (LR K H xp) by simp,any_map',xQ hK I r hl,<- any_map'];rfl
 rcases hq with hq | hq
 ·obtain⟨aw,r,pl,hz⟩:=I.list (show di X.K H p vs by rw [hK];exact hq);refine SeqAt.in_listAt (LR K H xp) pl.isList (λw hw=>tG hK I hx rx ok.1 é r hl ok.2.1 ok.2.2 w (by simpa using hw)) ⟨.bl _,H,I,rfl,?_⟩;rw [fin r];exact q
 ·obtain⟨aw,r,pl,hz⟩:=I.tuple (show dU X.K H p vs by rw [hK];exact hq);refine SeqAt.in_tupleAt (LR K H xp) pl (λw hw=>tG hK I hx rx ok.1 é r hl ok.2.1 ok.2.2 w (by simpa using hw)) ⟨.bl _,H,I,rfl,?_⟩;rw [fin r];exact q
theorem RV (K:Ab) (hK:X.K=K) (hu:X.A.units+200 < o0):ir X (im .NotIn) (Rr K true):=by
 intro Z s σ H x y v u Q I rx ry h;obtain⟨p,vs,l,xp,rfl,hq,hl,hx,ok,q⟩:=h;cases ry;have é:X.A.in1.units+150+1 < o0:=by show X.A.units+1+150+1 < _;omega
 have fin:∀{aw:List ce},Vals vs aw->aw.toArray.any (LR K H xp)=nV xp l:=λ{aw} r=>by
  rw [show aw.toArray.any (LR K H xp)=aw.any (LR K H xp) by simp,any_map',xQ hK I r hl,<- any_map'];rfl
 rcases hq with hq | hq
 ·obtain⟨aw,r,pl,hz⟩:=I.list (show di X.K H p vs by rw [hK];exact hq);refine SeqAt.notIn_listAt (LR K H xp) pl.isList (λw hw=>tG hK I hx rx ok.1 é r hl ok.2.1 ok.2.2 w (by simpa using hw)) ⟨.bl _,H,I,rfl,?_⟩;rw [fin r];exact q
 ·obtain⟨aw,r,pl,hz⟩:=I.tuple (show dU X.K H p vs by rw [hK];exact hq);refine SeqAt.notIn_tupleAt (LR K H xp) pl (λw hw=>tG hK I hx rx ok.1 é r hl ok.2.1 ok.2.2 w (by simpa using hw)) ⟨.bl _,H,I,rfl,?_⟩;rw [fin r];exact q
end
end
end FL
namespace L2
open PySem PySem.Spec PyProof.Rows
theorem zl (xs:List ce):∀k≤xs.length,((Av k).filterMap λ(m:Nat)=>xs.toArray[(((xs.length:Int)-1)+(m:Int)*(-1)).toNat]?)=(xs.drop (xs.length-k)).reverse
 | 0,_=>by simp
 | k+1,h=>by
  have ih:=zl xs k ∅;rw [E8,List.filterMap_append,ih];have e:(((xs.length:Int)-1)+(k:Int)*(-1)).toNat=xs.length-(k+1):=by omega
  have h1:xs.length-(k+1) < xs.length:=by omega
  simp only [Bx,List.filterMap_nil,e];have e2:xs.toArray[xs.length-(k+1)]?=ap xs[xs.length-(k+1)]:=by simp [h1]
  rw [e2];have e3:xs.drop (xs.length-(k+1))=xs[xs.length-(k+1)]::xs.drop (xs.length-k):=by
   rw [Bk h1];congr 2;omega
  rw [e3,CM]
section
variable {st:gt}{tl th ts:TO}{lo hi:Option gt}
def Ze (K:Ab) (te:TE) (tl th ts:TO):TE:=λσ H Q=>te σ H λx H1=>tl σ H1 λl H2=>th σ H2 λu H3=>ts σ H3 λs H4=>∃a xs,x=.ref a/\dU K H4 a xs/\l=bm/\u=bm/\s=ap (-1)/\kA H4 (.tup xs.reverse) Q
theorem RL (K:Ab) (hK:X.K=K) (he:PE X e te) (hl:PO X lo tl) (hu:PO X hi th) (hs:PO X (ap st) ts):PE X (.Subscript e (.Slice lo hi (ap st) p2) pos) (Ze K te tl th ts):=by
 subst hK;intro Z s σ H Q I h;refine Subscript_ (bC (he Z s σ H _ I h) λv s1 ⟨x,H1,I1,r1,q1⟩=>?_);refine wpAny_Slice (bC (hl Z s1 σ H1 _ I1 q1) λvl s2 ⟨l,H2,I2,pl,q2⟩=>bC (hu Z s2 σ H2 _ I2 q2) λvu s3 ⟨u,H3,I3,pu,q3⟩=>bC (hs Z s3 σ H3 _ I3 q3) λvs s4 ⟨c,H4,I4,ps,a,xs,ea,hx,el,eu,ec,q⟩=>?_);subst ea;subst el;subst eu;subst ec;cases r1;cases pl;cases pu;cases ps with
 | int i t=>
 have I5:Inv X Z σ H4 {s4 with heap:=s4.heap.push {cls:=.type "slice",data:=.fields #[.none,.none,.int (-1) t]}}:=I4.kept (t':=s4.toks) λb ob q=>Ah _ q;obtain⟨aw,r,ht,hz⟩:=I5.tuple hx;have Á:=r.length;refine tail_any (ops:=[.ref a,.ref s4.heap.objs.size]) ht.typeIs AV.lookup ?_ (by with_unfolding_all rfl);have hs:D6 {s4 with heap:=s4.heap.push {cls:=.type "slice",data:=.fields #[.none,.none,.int (-1) t]}}.heap s4.heap.objs.size .none .none (.int (-1) t):=D6.new ..;generalize {s4 with heap:=s4.heap.push {cls:=.type "slice",data:=.fields #[.none,.none,.int (-1) t]}}=s5 at I5 ht hs;obtain⟨os,t4,Ly,yH⟩:=id hs;have UX:s5.TypeIs (.ref s4.heap.objs.size) "slice":=⟨os,t4,Ly⟩;unfold zn
 try with_reducible refine Bc ?_
 first | refine Aa (Af ?_) | skip
 refine Aa (Dg ht.typeIs ⋯ ?_);refine Aa (AX (name:=Cg "__getitem__") ht.typeIs AV
  (Bg AV ht.typeIs entry_tuple_getitem ?_ (args_tuple_getitem _ _)))
 show db _ _ (Builtin.Tuple.tupleItemsOf (.ref a) >>= _) _ _ s5;refine Aa (tupleItemsOf_ ht ?_);refine Aa (Cj UX ?_);rw [if_pos ⋯];have app:∀{Q:Int×Int×Nat->cr->Prop}{E:ce->cr->Prop}{A:pr} (n:Nat),Q ((n:Int)-1,-1,n) s5->db (dL X.prog X.w) A (Builtin.Slice.sliceApplied (.ref s4.heap.objs.size) (pure (n:Int))) Q E s5:=λ{Q E A} n hq=>by
  unfold Builtin.Slice.sliceApplied Builtin.Slice.sliceFields;refine Aa (Aa (A1 t4 yH (x:=.none) rfl (Aa (A1 t4 yH (x:=.none) rfl (Aa (A1 t4 yH (x:=.int (-1) t) rfl (Af ?_)))))));refine Aa (HT.gU (.int (-1) t) ?_);show db _ _ (if (((-1:Int))==0)=true then _ else _) _ _ s5;rw [if_neg ⋯];refine Aa (HT.gU .none (Aa (HT.gU .none (Aa (Af ?_)))));show db _ _ (match Builtin.Slice.sliceAdjust bm bm (-1) (n:Int) with | (lo,hi)=>pure (lo,(-1:Int),Builtin.Slice.slicePlaces lo hi (-1))) _ _ s5;have e1:Builtin.Slice.sliceAdjust bm bm (-1) (n:Int)=((n:Int)-1,-1):=by unfold Builtin.Slice.sliceAdjust;simp
  rw [e1];have e2:Builtin.Slice.slicePlaces ((n:Int)-1) (-1) (-1)=n:=by
   unfold Builtin.Slice.slicePlaces;rw [if_neg ⋯];by_cases h0:(n:Int)-1 > -1
   ·rw [if_pos h0];show (((n:Int)-1 - -1-1) / 1+1).toNat=n;rw [Int.ediv_one];omega
   ·rw [if_neg h0];show (0:Int).toNat=n;omega
  show db _ _ (pure ((n:Int)-1,(-1:Int),Builtin.Slice.slicePlaces ((n:Int)-1) (-1) (-1))) _ _ s5;rw [e2];exact Af hq
 refine Aa (app aw.toArray.size ?_);show db _ _ (if (((aw.toArray.size:Int)-1)==0&&(-1:Int)==1&&aw.toArray.size==aw.toArray.size)=true then _ else _) _ _ s5;rw [if_neg (by simp)];have hp:=zl aw aw.length (Ao _);rw [B1,List.drop_zero] at hp;have ĩ:((Av aw.toArray.size).filterMap λ(m:Nat)=>aw.toArray[(((aw.toArray.size:Int)-1)+(m:Int)*(-1)).toNat]?).toArray=aw.reverse.toArray:=by
  rw [Ai,hp]
 rw [ĩ];have hsz:sizeOk (.seq aw.reverse.toArray):=by
  show aw.reverse.toArray.size<=sizeLine;rw [Ai,Ce];omega
 have fin:EP X Z σ Q (.ref s5.heap.objs.size) {s5 with heap:=s5.heap.push {cls:=.type "tuple",data:=.seq aw.reverse.toArray}}:=
  ⟨.ref s5.heap.objs.size,_,I5.laid (t':=s5.toks) (o:=.tup xs.reverse) (λb ob q=>Ah _ q) (Ao _) ⟨by rw [Ce];exact hz,_,r.rP,FR _ _⟩,rfl,q.at _ (I5.bH.fresh (Ao _))⟩
 first
  | exact Aa (m:=Builtin.Tuple.tupleExact _) (A2 (Af ⟨_,rfl,Af fin⟩) hsz)
  | exact Aa (m:=Builtin.Tuple.tupleExact _) (A2 (Aa (Af (Af ⟨_,rfl,Af fin⟩))) hsz)
  | exact Aa (Aa (m:=Builtin.Tuple.tupleExact _) (A2 (Af (Af ⟨_,rfl,Af fin⟩)) hsz))
  | exact Aa (Aa (m:=Builtin.Tuple.tupleExact _) (A2 (Af ⟨_,rfl,Af fin⟩) hsz))
end
end L2
namespace FL
section
open PySem PySem.Spec PyProof.Rows L2 PL
variable {K:Ab}
section
variable {b c:gt}{w:W PV}
def nS (neg:Bool) (x:PV) (l:List PV):W Bool:=.fg (Lu x l) (.ret (if neg then !nV x l else nV x l))
def X4 (b:Bool):W PV:=.ret (.bl b)
def XD:∀σ H Q,fE K fs (.bind wa λx=>.bind wl λl=>.bind (nS neg x l) X4) σ H Q->Uk (Rr K neg) (fE K fs wa) (fQ K fs wl) σ H Q:=λσ H Q ⟨sr,q⟩=>
 ⟨sr,wa.mono (λx q1 u1 H1 g1 s1 v1=>⟨s1,wl.mono (λl q2 u2 H2 g2 s2 v2=>by
  obtain⟨ad,vs,rfl,h,rs⟩:=v2.sq s2;exact⟨ad,vs,l,x,rfl,h,rs,g2.vr s1 v1,q2.1,q2.2 _ H2 (g1.trans g2) s2 (.bl _)⟩) q1⟩) q⟩
def XC:∀σ H Q,fT K fs (.bind wa λx=>.bind wl λl=>nS neg x l) σ H Q->Uk (Rr K neg) (fE K fs wa) (fQ K fs wl) σ H λx H'=>∃k,x=.bl k/\Q k H':=λσ H Q ⟨sr,q⟩=>
 ⟨sr,wa.mono (λx q1 u1 H1 g1 s1 v1=>⟨s1,wl.mono (λl q2 u2 H2 g2 s2 v2=>by
  obtain⟨ad,vs,rfl,h,rs⟩:=v2.sq s2;exact⟨ad,vs,l,x,rfl,h,rs,g2.vr s1 v1,q2.1,_,rfl,q2.2 H2 (g1.trans g2) s2⟩) q1⟩) q⟩
def U5 (hK:X.K=K) (hu:X.A.units+200 < o0) (ha:EF X K fs a wa) (hb:QF X K fs b wl) (hk:lc .In b=false:=by rfl):EF X K fs (.Compare a [.In] [b] pos) (.bind wa λx=>.bind wl λl=>.bind (nS false x l) X4):=⟨PE.imp (qC (Wv K hK hu) ha.p hb.p hk) (XD (neg:=false))⟩
def wg (hK:X.K=K) (hu:X.A.units+200 < o0) (ha:EF X K fs a wa) (hb:QF X K fs b wl) (hk:lc .NotIn b=false:=by rfl):TF X K fs (.Compare a [.NotIn] [b] pos) (.bind wa λx=>.bind wl λl=>nS true x l):=⟨PT.imp (qB (RV K hK hu) ha.p hb.p hk) (XC (neg:=true))⟩
abbrev aaA (neg:Bool) (wa:W PV) (wl:W (List PV)):W PV:=.bind wa λx=>.bind wl λl=>.bind (nS neg x l) X4
abbrev SN (neg:Bool) (wa:W PV) (wl:W (List PV)):W Bool:=.bind wa λx=>.bind wl λl=>nS neg x l
def sortI (ns:List Int):List Int:=ns.mergeSort (λa b=>decide (a<=b))
theorem Nh (h1:ms.Perm ns) (h2:ms.Pairwise (·<=·)):ms=sortI ns:=by
 have h3:(sortI ns).Perm ns:=CY ns _;have h4:(sortI ns).Pairwise (λa b=>decide (a<=b)=true):=EE (λa b c=>by simp;omega) (λa b=>by simp;omega) ns;exact List.Perm.eq_of_pairwise (le:=λa b=>a<=b) (λa b _ _ h h'=>Int.le_antisymm h h') h2 (h4.imp (by simp)) (h1.trans h3.symm)
def wB (l:List PV):W (List PV):=.bind (sI l) λns=>.fg (ns.length < 64) (.ret ((sortI ns).map PV.int))
def Ss (hK:X.K=K) (hg:Gl X "sorted") (hm:X.mg "sorted"=bm) (ha:GN X K fs e wl) (he:iB X e []:=by rfl) (dJ:lH X pos []:=by rfl):LF X K fs (.Call (.Name "sorted" p) [e] [] pos) (.bind wl wB):=⟨PE.imp (fZ (IA K hK) hg hm boot_sorted (bz ha.p cX he) ⋯ ⋯ he dJ) λσ H Q ⟨sr,q⟩=>⟨sr,wl.mono (λl q1 u1 H1 g1 s1 _ v1=>by
 obtain⟨ns,el,hC,q2⟩:=oZ (l:=l) q1;obtain⟨a,vs,rfl,h1,r1⟩:=v1 H1 .refl s1;rw [el] at r1;have:=nQ r1;subst this;refine⟨a,ns,rfl,h1,hC,λms a2 a3=>?_⟩;rw [Nh a2 a3];exact JR g1 s1 (nR _ _ _) q2) q⟩⟩
variable {el eh:Option gt}{st:gt}{lo ws:W (Option Int)}
def Nk (x:PV) (i j k:Option Int):W PV:=match x with
 | .tup l=>.fg (i=bm/\j=bm/\k=ap (-1)) (.ret (.tup l.reverse))
 | _=>.fail
def XN (hK:X.K=K) (he:EF X K fs e w) (hl:OF X K fs el lo) (hh:OF X K fs eh hi) (hs:OF X K fs (ap st) ws):EF X K fs (.Subscript e (.Slice el eh (ap st) p2) pos) (.bind w λx=>.bind lo λi=>.bind hi λj=>.bind ws λk=>Nk x i j k):=⟨PE.imp (RL K hK he.p hl.p hh.p hs.p) λσ H Q ⟨sr,q⟩=>⟨sr,w.mono (λx q1 u1 H1 g1 s1 v1=>⟨s1,lo.mono (λi q2 H2 g2 s2=>⟨s2,hi.mono (λj q3 H3 g3 s3=>⟨s3,ws.mono (λk q4 H4 g4 s4=>by
 have QS:=g4.vr s3 (g3.vr s2 (g2.vr s1 v1));have gg:=((g1.trans g2).trans g3).trans g4;cases QS with
 | @tup p vs l e r=>
  have q4:(W.fg (i=bm/\j=bm/\k=ap (-1)) (bd (PV.tup l.reverse))).run _:=q4;exact⟨p,vs,rfl,dU.of e,q4.1.1,q4.1.2.1,q4.1.2.2,λq H5 s5 h5 n5=>q4.2 _ H5 (gg.trans (cU.same s5)) (s4.same s5) (.tup h5 (aM.tk s5.eO r.reverse))⟩
 | _=>exact q4.elim) q3⟩) q2⟩) q1⟩) q⟩⟩
end
end
end FL
variable {x:Bool}
namespace FL
section
open PySem PySem.Spec PyProof.Rows L2 PL
variable {K:Ab}
section
variable {rest:List sK}{T:Type}{out:T->End}
def Xe (l:List PV):PV->W PV
 | .int k=>.fg (0<=k/\k < 1000) (.N3 l[k.toNat]?)
 | _=>.fail
def SF.afz (i:Nat) {op:Operator}{ti:TIp}{M:M2}{k:List PV->W T} (hs:fs[i]?=ap (ap (.ol q0 l))) (hK:X.K=K) (hN:X.N[i]?=ap y) (hv:yr X.env.scope y) (hi:EF X K fs ei wi) (he:EF X K fs e we) (ho:PIp X op ti) (hM:M2.Ok K ti M) (hr:∀l',SF X K x (fs.set i (ap (.ol q0 l'))) rest (k l') out)
  (hd:jg y:=by decide) (iV:yK y:=by decide)
  (ha:∀ov iv new,augStore ei ov iv new=(do re [new,ov,iv] (xL ov iv new);release [new,ov,iv] [];pure .next):=by intros;rfl) :
  SF X K x fs (.AugAssign (.Subscript (.Name y p) ei gq) op e pos::rest) (.bind wi λn=>.bind (Xe l n) λg=>.bind we λv=>.bind (of2 M g v) λr=>.bind (fX l n r) k) out:=
 SF.step (RB (dr hN hv hd iV) hi.p (OZ K hK) he.p ho oJ ha) λD σ H ⟨sr,q⟩=>by
  obtain⟨a,ws,e1,h1,r1⟩:=dc sr hs;refine⟨_,e1,sr,wi.mono (λn q1 u1 H1 g1 s1 v1=>?_) q⟩;obtain⟨a',ws1,m6,iw,yG⟩:=dc s1 hs;rw [e1] at m6;cases m6;cases v1 with
  | int kk=>
   have q1:(0<=kk/\kk < 1000)/\(W.N3 l[kk.toNat]?).run _:=q1;obtain⟨⟨b1,b2⟩,q1⟩:=q1;cases hg:l[kk.toNat]? with
   | none=>rw [hg] at q1;exact q1.elim
   | some g=>
    rw [hg] at q1;obtain⟨u,hu,ru⟩:=yG.get hg;refine⟨a,ws1,kk,u,rfl,rfl,di.of iw,b1,b2,hu,s1,we.mono (λv q2 u2 H2 g2 s2 v2=>?_) q1⟩;refine wV hM s2 (g2.vr s1 ru) v2 ((of2 M g v).mono (λr q3 u3 H3 g3 s3 v3=>?_) q2);obtain⟨a',Y5,U8,HL,V3⟩:=dc s3 hs;rw [e1] at U8;cases U8;have q3:(match mn l.length kk with | some j=>bd (l.set j r) | none=>W.fail).run _:=q3;cases hj:mn l.length kk with
    | none=>rw [hj] at q3;exact q3.elim
    | some j=>
     rw [hj] at q3;refine⟨a,Y5,kk,j,rfl,rfl,HL,by rw [V3.length];exact hj,λH4 sx h4=>?_⟩;obtain⟨s4,g4⟩:=jU s3 hs e1 sx h4 (V3.set v3 j);exact⟨_,k _,hr _,s4,(k _).mono (λt q4=>q4.go (((g1.trans g2).trans g3).f.trans g4) sr s4) q3⟩
  | _=>exact q1.elim
def Rg (l:List PV) (i j:PV) (m:List PV):W (List PV):=match i,j with
 | .int a,.int c=>.fg (0<=a/\a<=c/\c<=l.length/\l.length+m.length<=sizeLine) (.ret (l.take a.toNat++m++l.drop c.toNat))
 | _,_=>.fail
def SF.Zx (i:Nat) {lo hi:gt}{k:List PV->W T} (hs:fs[i]?=ap (ap (.ol q0 l))) (hN:X.N[i]?=ap y) (hv:yr X.env.scope y) (he:LF X K fs e wl) (hl:EF X K fs lo wa) (hh:EF X K fs hi wb) (hr:∀l',SF X K x (fs.set i (ap (.ol q0 l'))) rest (k l') out)
  (ha:∀v,ww (.Subscript (.Name y p) (.Slice (ap lo) (ap hi) bm p2) gq) X.env v=(do
   let ov <- re [v] (kw (.Name y p) X.env)
   let iv <- re [v,ov] (kw (.Slice (ap lo) (ap hi) bm p2) X.env)
   FB gq
   re [v,ov,iv] (xL ov iv v)
   release [iv,v,ov] []):=by intro _;rfl)
  (hd:jg y:=by decide) (iV:yK y:=by decide)
  (ê:EQ [.Subscript (.Name y p) (.Slice (ap lo) (ap hi) bm p2) gq] e pos.line X.env=pure false:=by rfl) (hw:Fa [.Subscript (.Name y p) (.Slice (ap lo) (ap hi) bm p2) gq] e X.env=pure bm:=by rfl)
  (h1:(wf [.Subscript (.Name y p) (.Slice (ap lo) (ap hi) bm p2) gq] X.env).map (·.2)=[ww (.Subscript (.Name y p) (.Slice (ap lo) (ap hi) bm p2) gq) X.env]:=by rfl) :
  SF X K x fs (.Assign [.Subscript (.Name y p) (.Slice (ap lo) (ap hi) bm p2) gq] e pos::rest) (.bind wl λm=>.bind wa λa=>.bind wb λb=>.bind (Rg l a b m) k) out:=
 SF.step (wJ he.p (NP (dr hN hv hd iV) hl.p hh.p ha) ê hw h1) λD σ H ⟨sr,q⟩=>by
  refine⟨sr,wl.mono (λm q1 b vb H1 g1 s1 nb eb rb=>?_) q⟩;obtain⟨a,ws,e1,h1,r1⟩:=dc s1 hs;refine⟨_,e1,s1,wa.mono (λi1 q2 u2 H2 g2 s2 v2=>⟨s2,wb.mono (λj1 q3 u3 H3 g3 s3 v3=>?_) q2⟩) q1⟩;obtain⟨a',Y5,U8,HL,V3⟩:=dc s3 hs;rw [e1] at U8;cases U8;have Ē:=g3.vr s2 v2;have no:¬dI σ fs b:=sr.noOwn nb;have eb3:=(g2.trans g3).pK eb no;have rb3:=(g2.trans g3).Mw s1 rb;have ne:a≠b:=λz=>no ⟨i,_,a,hs,rfl,e1,.inl z.symm⟩;cases Ē with
  | int aa=>
   cases v3 with
   | int cc=>
    have q3:(0<=aa/\aa<=cc/\cc<=l.length/\l.length+m.length<=sizeLine)/\(k (l.take aa.toNat++m++l.drop cc.toNat)).run _:=q3;obtain⟨⟨c1,c2,c3,c4⟩,q3⟩:=q3;refine⟨a,b,Y5,vb,aa,cc,rfl,rfl,rfl,rfl,HL,eb3,ne,c1,c2,by rw [V3.length];exact c3,by rw [V3.length,rb3.length];exact c4,?_⟩;have sx:oB a H3 (upd H3 a (.lst (Y5.take aa.toNat++vb++Y5.drop cc.toNat))):=λz o n hz=>by rw [aA n];exact hz
    obtain⟨s4,g4⟩:=jU s3 hs e1 sx aP (((V3.take aa.toNat).append rb3).append (V3.drop cc.toNat));exact⟨_,k _,hr _,s4,(k _).mono (λt q4=>q4.go (((g1.trans g2).trans g3).f.trans g4) sr s4) q3⟩
   | _=>exact q3.elim
  | _=>exact q3.elim
def VP (l:List PV) (v:PV):W (List PV):=match v with
 | .int k=>.bind (sI l) λns=>.fg (k∈ns) (.ret ((ns.erase k).map PV.int))
 | _=>.fail
theorem SF.remove (i:Nat) {k:List PV->W T} (hs:fs[i]?=ap (ap (.ol q0 l))) (hK:X.K=K) (hN:X.N[i]?=ap y) (hv:yr X.env.scope y) (he:EF X K fs e we) (hr:∀l',SF X K x (fs.set i (ap (.ol q0 l'))) rest (k l') out)
  (hd:jg y:=by decide) (iV:yK y:=by decide) (eY:pc (.Name y p) "remove" X.env (kw (.Name y p) X.env)=kw (.Name y p) X.env:=by rfl)
  (sP:YQ X cu [e]:=by rfl)
  (eX:QJ Ã cu:=by rfl) (xr:iB X e []:=by rfl) (hZ:lH X cu []:=by rfl)
  (qg:kt (.Call (.Attribute (.Name y p) "remove" Ã) [e] [] cu) bm pos.line X.env=pure false:=by rfl) :
  SF X K x fs (.Expr (.Call (.Attribute (.Name y p) "remove" Ã) [e] [] cu) pos::rest) (.bind we λv=>.bind (VP l v) k) out:=
 SF.step (nv (wN K hK B7 PySem.F.slot_list_remove PySem.F.type_list_remove Hj (dr hN hv hd iV) (bz he.p cX xr) eY sP eX xr hZ) qg) λD σ H ⟨sr,q⟩=>by
  obtain⟨a,ws,e1,h1,r1⟩:=dc sr hs;refine⟨_,e1,.inl ⟨rfl,_,di.of h1⟩,sr,we.mono (λv q1 u H1 g1 s1 v1=>?_) q⟩;obtain⟨a',pW,m6,iw,yG⟩:=dc s1 hs;rw [e1] at m6;cases m6;cases v1 with
  | int kk=>
   obtain⟨ns,el,hk,q2⟩:=oZ (l:=l) q1;subst el;have:=nQ yG;subst this;refine⟨a,ns,kk,rfl,rfl,iw,hk,λH2 sx h2=>?_⟩;obtain⟨s2,g2⟩:=jU s1 hs e1 sx h2 (nR _ _ (ns.erase kk));exact⟨_,k _,hr _,s2,(k _).mono (λt q3=>q3.go (g1.f.trans g2) sr s2) q2⟩
  | _=>exact q1.elim
end
end
end FL
variable {vs:List (L2.Key×L2.V)}{kvs:List (L2.Key×PL.PV)}{q:L2.Key×PL.PV}
namespace FL
section
open PySem PySem.Spec PyProof.Rows L2 PL
variable {K:Ab}
abbrev w2 (f:PV->PV->W PV) (wa wb:W PV):W PV:=.bind wa λx=>.bind wb λy=>f x y
structure Yk (P:sw) (w:t0) (K:Ab) (mg:Str->Option ce) (base:mo) (f:ci) (k:Nat) (ps:List Str) (sp:Sp) where
 fd:Da
 ok:gJ P w K mg base lY k f fd ps sp
 bi:Binds K fd ps []
 kp:CO K (.ref f)=true
section
variable {x:Str}{R:Type}{B:(List PV->W R)->W R}{fa:ci}
def afC (hg:Gl X x) (hm:X.mg x=ap (.ref fa)) (hr:AF X K fs es ks B) (hd:jg x:=by decide) (xr:ga (.Name x pos::es) X.env=(false,kw (.Name x pos) X.env)::ga es X.env:=by rfl):AF X K fs (.Name x pos::es) (.f fa::ks) B:=by
 obtain⟨wr,hp,hB⟩:=hr.p;refine⟨wr,PA.imp (bz (wM (v:=.ref fa) hg hm rfl hd) hp xr) λσ H Q ⟨sr,q⟩=>?_,hB⟩;exact⟨sr,wr.mono (λl q2 vs H2 g2 s2 v2=>q2 _ H2 g2 s2 (.f v2)) q⟩
def Tn {B:(List PV->W PV)->W PV} (i:Nat) (G:Yk X.prog X.w X.K X.mg X.base fa k ps (fJ K ks m)) (hr:cL k' X.A) (hk:k<=k') (hs:fs[i]?=ap (ap (.adr fa))) (ha:AF X K fs (e::es) ks B) (hW:W'=B m) (hN:X.N[i]?=ap x:=by rfl) (hv:yr X.env.scope x:=by first | exact CH rfl | exact Ct (CH rfl) | exact Ct (Ct rfl)) (hd:jg x:=by decide) (iV:yK x:=by decide)
  (he:iB X e es:=by rfl) (dJ:lH X pos es:=by rfl):EF X K fs (.Call (.Name x p) (e::es) [] pos) W':=by
 subst hW;obtain⟨w,hp,hB⟩:=ha.p;rw [hB];refine⟨PE.imp (NU (dvs:=[]) (ds:=[]) (E:=E0) G.ok (hr.mono hk) (dr hN hv hd iV) G.kp G.bi .nil NW hp he dJ) λσ H Q ⟨sr,q⟩=>?_⟩;obtain⟨u,e1,r⟩:=sr.at' i _ hs;rcases r with⟨v,e,_⟩ | ⟨a,e,r⟩
 ·cases e
 ·have r:a=fa:=r;subst r;subst e;refine⟨_,e1,rfl,sr,w.mono (λl q1 vs H1 g1 s1 v1=>?_) q⟩;show fJ K ks m (vs++[]) H1 Q E0;rw [C4];exact⟨l,v1.c s1,(m l).mono (λz q2 u H2 g2 r2=>let ⟨s2,g3⟩:=g2.caller v1 s1;q2 u H2 (g1.trans g3) s2 r2) q1⟩
end
def uB:PV->W Key
 | .int i=>.ret (.inl i)
 | .str s=>.ret (.inr s)
 | _=>.fail
def qh (kvs:List (Key×PV)) (k:Key):Bool:=kvs.any λkv=>decide (kv.1=k)
def qi (kvs:List (Key×PV)) (k:Key):Option PV:=(kvs.find? λkv=>decide (kv.1=k)).map (·.2)
def putP (kvs:List (Key×PV)) (k:Key) (v:PV):List (Key×PV):=if qh kvs k=true then kvs.map (λkv=>if kv.1=k then (kv.1,v) else kv) else kvs++[(k,v)]
def df (K:Ab) (H:Hp) (vs:List (Key×V)) (kvs:List (Key×PV)):Prop:=vs.map (·.1)=kvs.map (·.1)/\aM K [] H (vs.map (·.2)) (kvs.map (·.2))
section
def df.cons_inv {p:Key×V} (h:df K H (p::vs) (q::kvs)):p.1=q.1/\VR K [] H p.2 q.2/\df K H vs kvs:=by
 obtain⟨h1,h2⟩:=h;injection h1 with a b;cases h2 with
 | cons r t=>exact⟨a,r,b,t⟩
def df.mk {p:Key×V} (e:p.1=q.1) (r:VR K [] H p.2 q.2) (h:df K H vs kvs):df K H (p::vs) (q::kvs):=⟨by rw [Aw,Aw,e,h.1],.cons r h.2⟩
theorem df.ind {C:List (Key×V)->List (Key×PV)->Prop} (h0:C [] []) (h1:∀p q vs kvs,p.1=q.1->VR K [] H p.2 q.2->df K H vs kvs->C vs kvs->C (p::vs) (q::kvs)):∀{vs kvs},df K H vs kvs->C vs kvs
 | [],[],_=>h0
 | [],_::_,h=>by simp [df] at h
 | _::_,[],h=>by simp [df] at h
 | p::vs,q::kvs,h=>let ⟨a,b,c⟩:=h.cons_inv;h1 p q vs kvs a b c (df.ind h0 h1 c)
def df.has (h:df K H vs kvs) (k:Key):(iQ vs k).isSome=qh kvs k:=by
 rw [<- ng];refine df.ind (C:=λvs kvs=>(vs.any λkv=>decide (kv.1=k))=kvs.any λkv=>decide (kv.1=k)) rfl (λp q vs kvs e _ _ ih=>?_) h;rw [Ck,Ck,ih,e]
def df.get (h:df K H vs kvs) (k:Key) (g:qi kvs k=ap v):∃u,iQ vs k=ap u/\VR K [] H u v:=by
 refine df.ind (C:=λvs kvs=>qi kvs k=ap v->∃u,iQ vs k=ap u/\VR K [] H u v) (λg=>by simp [qi] at g) (λp q vs kvs e r _ ih g=>?_) h g;by_cases c:p.1=k
 ·rw [kI c];have c':=e▸c;have:qi (q::kvs) k=ap q.2:=by simp [qi,BI,c']
  rw [this] at g;cases g;exact⟨_,rfl,r⟩
 ·rw [kJ c];have c':=e▸c;have:qi (q::kvs) k=qi kvs k:=by simp [qi,BI,c']
  exact ih (this▸g)
def df.put (h:df K H vs kvs) (k:Key) (r:VR K [] H u v):df K H (putK vs k u) (putP kvs k v):=by
 have hh:(vs.any λkv=>decide (kv.1=k))=qh kvs k:=by rw [ng];exact h.has k
 unfold putK putP;rw [hh]
 split
 ·refine df.ind (C:=λvs kvs=>df K H (vs.map λkv=>if kv.1=k then (kv.1,u) else kv) (kvs.map λkv=>if kv.1=k then (kv.1,v) else kv)) ⟨rfl,.nil⟩ (λp q vs kvs e rr _ ih=>?_) h;rw [Aw,Aw];by_cases c:p.1=k
  ·rw [if_pos c,if_pos (e▸c)];exact df.mk e r ih
  ·rw [if_neg c,if_neg (e▸c)];exact df.mk e rr ih
 ·refine df.ind (C:=λvs kvs=>df K H (vs++[(k,u)]) (kvs++[(k,v)])) ⟨rfl,.cons r .nil⟩ (λp q vs kvs e rr _ ih=>df.mk e rr ih) h
def df.length (h:df K H vs kvs):vs.length=kvs.length:=by
 have:=congrArg B5 h.1;simpa using this
end
section
variable {rest:List sK}{T:Type}{out:T->End}
def wU (sr:aZ K H σ fs) (hs:fs[i]?=ap (ap (.od kvs))):∃a vs,σ[i]?=ap (ap (.ref a))/\H a=ap (.dK vs)/\df K H vs kvs:=by
 obtain⟨u,e1,r⟩:=sr.at' i _ hs;rcases r with⟨v,e,_⟩ | ⟨a,e,vs,q1,q2,q3⟩
 ·cases e
 ·subst e;exact⟨a,vs,e1,q1,q2,q3⟩
def SF.adN {k:W T} (hN:X.N.Nodup) (hi:X.N[i]?=ap y) (hx:Loc X.env.scope y) (hr:SF X K x (fs.set i (ap (.od []))) rest k out) (hs:kt (.Dict [] [] p2) (ap (.Name y p')) pos.line X.env=pure false:=by rfl)
  (hf:MM X y:=by first | exact .inl rfl | exact .inr rfl | assumption):SF X K x fs (.Assign [.Name y p'] (.Dict [] [] p2) pos::rest) k out:=SF.step (rR hN hi hx NS hs hf) λD σ H ⟨sr,q⟩=>λa H1 s1 e1 n1=>by
 have no:=sr.noOwn n1;have s2:=(sr.same s1).rQ (t:=.od []) ⟨[],e1,rfl,.nil⟩ no i;exact⟨_,k,hr,s2,k.mono (λt q2=>q2.go (cT.rQ (sr.same s1) (cT.same s1 sr) no n1 i) sr s2) q⟩
def Ov {Q:Key->Prop} (r:VR K [] H u v) (q:(uB v).run Q):∃k,u=kV k/\Q k:=by
 cases r with
 | int i=>exact⟨.inl i,rfl,q⟩
 | str s=>exact⟨.inr s,rfl,q⟩
 | _=>exact q.elim
def SM (i:Nat) (hs:fs[i]?=ap (ap (.od kvs))) (hN:X.N[i]?=ap y):∀σ H Q,fT K fs (.bind wa λx=>.bind (uB x) λk=>.ret (if neg then !qh kvs k else qh kvs k)) σ H Q->(fE K fs wa) σ H λu H1=>(Zc i) σ H1 λz H2=>∃a o,z=.ref a/\uW H2 a u o/\(∃b,(V.bl (if neg then !o.isSome else o.isSome))=.bl b/\Q b H2):=λσ H Q ⟨sr,q⟩=>
 ⟨sr,wa.mono (λv q1 u H1 g1 s1 v1=>by
  obtain⟨k,rfl,q2⟩:=Ov v1 q1;obtain⟨a,vs,e1,h1,r1⟩:=wU s1 hs;refine⟨_,e1,a,_,rfl,uW.k h1,_,rfl,?_⟩;rw [r1.has k];exact q2 H1 g1 s1) q⟩
theorem Za (i:Nat) (hs:fs[i]?=ap (ap (.od kvs))) (hu:X.A.units+200 < o0) (ha:EF X K fs a wa) (hN:X.N[i]?=ap y:=by rfl) (hv:yr X.env.scope y:=by first | exact CH rfl | exact Ct (CH rfl) | exact Ct (Ct rfl)) (hd:jg y:=by decide) (iV:yK y:=by decide) (hk:lc .In (.Name y p)=false:=by rfl) :
  TF X K fs (.Compare a [.In] [.Name y p] pos) (.bind wa λx=>.bind (uB x) λk=>.ret (qh kvs k)):=⟨PT.imp (V8 (Wm ∅ ha.p (dr hN hv hd iV)) hk) (SM (neg:=false) i hs hN)⟩
def V6 (kvs:List (Key×PV)) (n v:PV):W (List (Key×PV)):=.bind (uB n) λkk=>.fg (kvs.length < sizeLine) (.ret (putP kvs kk v))
theorem SF.putD (i:Nat) {k:List (Key×PV)->W T} (hs:fs[i]?=ap (ap (.od kvs))) (hu:X.A.units+200 < o0) (hN:X.N[i]?=ap y) (hv:yr X.env.scope y) (he:EF X K fs e we) (hi:EF X K fs ei wi) (hr:∀l',SF X K x (fs.set i (ap (.od l'))) rest (k l') out)
  (hd:jg y:=by decide) (iV:yK y:=by decide) (qg:kt e (ap (.Subscript (.Name y p) ei gq)) pos.line X.env=pure false:=by rfl) :
  SF X K x fs (.Assign [.Subscript (.Name y p) ei gq] e pos::rest) (.bind we λv=>.bind wi λn=>.bind (V6 kvs n v) k) out:=
 SF.step (RA ∅ (dr hN hv hd iV) hi.p he.p qg) λD σ H ⟨sr,q⟩=>by
  refine⟨sr,we.mono (λv q1 u H1 g1 s1 v1=>?_) q⟩;obtain⟨a,vs,e1,h1,r1⟩:=wU s1 hs;refine⟨_,e1,s1,wi.mono (λn q2 u2 H2 g2 s2 v2=>?_) q1⟩;obtain⟨kk,rfl,hz,q3⟩:=Ov v2 q2;obtain⟨a',Qv,m6,iw,yG⟩:=wU s2 hs;rw [e1] at m6;cases m6;refine⟨a,_,rfl,Qt.k iw (by rw [yG.length];exact hz),?_⟩;have sx:oB a H2 (upd H2 a (.dK (putK Qv kk u))):=λz o n hz=>by rw [aA n];exact hz
  obtain⟨s3,g3⟩:=mJ (t':=.od (putP kvs kk v)) s2 hs rfl (by simp) e1 sx λtk=>⟨_,aP,(yG.put kk (g2.vr s1 v1)).1,aM.tk tk (yG.put kk (g2.vr s1 v1)).2⟩;exact⟨_,k _,hr _,s3,(k _).mono (λt q4=>q4.go ((g1.trans g2).f.trans g3) sr s3) q3⟩
end
end
section
open PySem PySem.Spec PyProof.Rows L2 PL
variable {K:Ab}
def fAs (K:Ab) (fs:bF) (i:Nat) (w:W (List PV)):TS:=λD σ H=>aZ K H σ fs/\w.run λl=>∀a vs H',cU σ fs H H'->aZ K H' σ fs->H a=bm->H' a=ap (.lst vs)->aM K [] H' vs l->D.nx (σ.set i (ap (.ref a))) H'
structure AS (X:Cx) (K:Ab) (fs:bF) (st:sK) (i:Nat) (w:W (List PV)):Prop where p:PS X st (fAs K fs i w)
section
variable {st:sK}{rest:List sK}{T:Type}{out:T->End}{k:List PV->W T}
def SF.as (h:AS X K fs st i wl) (hr:∀l,SF X K x (fs.set i (ap (.ol bm l))) rest (k l) out):SF X K x fs (st::rest) (.bind wl k) out:=SF.step h.p λD σ H ⟨sr,q⟩=>⟨sr,wl.mono (λl q1 a ws H1 g1 s1 n e v1=>by
 have no:=sr.noOwn n;have s2:=s1.rQ (t:=.ol bm l) ⟨by simp,ws,e,v1⟩ no i;exact⟨_,k l,hr l,s2,(k l).mono (λt q2=>q2.go (cT.rQ s1 g1.f no n i) sr s2) q1⟩) q⟩
def X8 (b:Nat) (hs:fs[b]?=ap (ap (.ol q0 l))) (h:AS X K (fs.set b (ap (.val (.cl l)))) st i wl):AS X K fs st i (.bind wl MZ):=⟨λZ s σ H D I ⟨sr,q⟩=>by
 obtain⟨a,ws,ob,I2,s2,Í⟩:=bor I sr hs;refine bC (h.p Z s σ _ {nx:=λσ' H1=>∃b vs l',σ'=σ.set i (ap (.ref b))/\cU σ (fs.set _ (ap (.val (.cl l)))) (upd H a (.cM ob (.lst ws))) H1/\aZ K H1 σ (fs.set _ (ap (.val (.cl l))))/\upd H a (.cM ob (.lst ws)) b=bm/\H1 b=ap (.lst vs)/\aM K [] H1 vs l'/\uO l'=true/\∀a vs H',cU σ fs H H'->aZ K H' σ fs->H a=bm->H' a=ap (.lst vs)->aM K [] H' vs l'->D.nx (σ.set i (ap (.ref a))) H',rt:=D.rt,bk:=D.bk,ct:=D.ct} I2 ⟨s2,wl.mono (λl' q1 b vs H1 g1 s1 n e v1=>⟨b,vs,l',rfl,g1,s1,n,e,v1,q1.1,q1.2⟩) q⟩) λf s1 q1=>?_;cases f with
 | next=>
  obtain⟨σ',H1,I1,b,vs,l',rfl,g1,Rn,n,eb,v1,d,q1⟩:=q1;obtain⟨I3,g3,s3,t3,k3⟩:=Í _ s1 H1 I1 g1 Rn;have nb:b≠a:=λy=>by subst y;rw [aP] at n;cases n
  exact⟨_,_,I3,q1 b vs _ g3 s3 (by rw [aA nb] at n;exact n) (k3 b vs nb eb) (aM.kc t3 v1 d)⟩
 | ret v=>exact q1
 | brk=>exact q1
 | cont=>exact q1⟩
end
section
variable {c:gt}{T2:Type}{wt:PV->W T2}{dR:T2->bF}{tf:T2->W Bool}{te:T2->W PV}
def abO (hc:X.calm=true) (hN:X.N.Nodup) (zQ:X.N[i]?=ap y) (hx:X.env.scope.names.lookup y=ap .local) (S:aG X.env.scope X.N sc N' ix) (hi:qZ X K fs tg iter wl) (hg:∀cl C s2 H2 fp,GF (gA X sc N' cl C s2 H2 fp) K (cg ix fs) tg is wt dR) (í:∀cl C s2 H2 fp t,FF (gA X sc N' cl C s2 H2 fp) K (dR t) Ì (tf t)) (he:∀cl C s2 H2 fp t,EF (gA X sc N' cl C s2 H2 fp) K (dR t) Å (te t))
  (hf:∀p,f p=.bind (wt p) λt=>.bind (tf t) λk=>if k=true then .bind (te t) λv=>.ret (ap v) else .ret bm) (hl:uU is (cg ix fs) dR/\∀t,jL (dR t) (cg ix fs)) (uH:∀j∈is,ix[j]?=ap bm)
  (qg:kt (.ListComp Å [⟨tg,iter,Ì,0⟩] sc pos) (ap (.Name y px)) nt.line X.env=pure true:=by rfl) (hs:vS X iter:=by intro _;rfl) :
  AS X K fs (.Assign [.Name y px] (.ListComp Å [⟨tg,iter,Ì,0⟩] sc pos) nt) i (.bind wl λl=>kG l f):=
 ⟨PS.imp (zi hc hN zQ hx S hi.p (λcl C s2 H2 fp=>(hg cl C s2 H2 fp).p) (λcl C s2 H2 fp Z s σ H Q I ⟨t,q⟩=>(í cl C s2 H2 fp t).p Z s σ H Q I q) (λcl C s2 H2 fp Z s σ H Q I ⟨t,q⟩=>(he cl C s2 H2 fp t).p Z s σ H Q I q) qg hs) λD σ H ⟨sr,q⟩=>
  Pd (K:=K) S rfl hf hl.1 hl.2 uH σ H _ ⟨sr,q⟩⟩
def X7 {tf:PV->W Bool}{te:PV->W PV} (hc:X.calm=true) (hN:X.N.Nodup) (zQ:X.N[i]?=ap y) (hx:X.env.scope.names.lookup y=ap .local) (S:aG X.env.scope X.N sc N' ix) (hi:qZ X K fs tg iter wl) (hg:∀cl C s2 H2 fp,PG (gA X sc N' cl C s2 H2 fp) tg (dM j)) (hf:∀cl C s2 H2 fp t,TF (gA X sc N' cl C s2 H2 fp) K ((cg ix fs).set j (ap (.val t))) c (tf t)) (he:∀cl C s2 H2 fp t,EF (gA X sc N' cl C s2 H2 fp) K ((cg ix fs).set j (ap (.val t))) Å (te t)) (h0:ix[j]?=ap bm)
  (qg:kt (.ListComp Å [⟨tg,iter,[c],0⟩] sc pos) (ap (.Name y px)) nt.line X.env=pure true:=by rfl) (hs:vS X iter:=by intro _;rfl) :
  AS X K fs (.Assign [.Name y px] (.ListComp Å [⟨tg,iter,[c],0⟩] sc pos) nt) i (.bind wl λl=>kG l λp=>Hx (tf p) (te p)):=
 have h1:(cg ix fs)[j]?=ap bm:=by unfold cg;rw [Aj,h0];rfl
 abO (wt:=.ret) (tf:=tf) (te:=te) hc hN zQ hx S hi (λcl C s2 H2 fp=>Xw (hg cl C s2 H2 fp)) (λcl C s2 H2 fp t=>xM (hf cl C s2 H2 fp t)) he (λ_=>rfl) (Om h1) (λm hj=>by rw [Bh] at hj;subst hj;exact h0) qg hs
end
end
end FL
namespace L2
open PySem PySem.Spec PyProof.Rows
def Inv.S5 {σ:St}{a:ci}{kvs:List (Key×V)} (I:Inv X Z σ H s) (e:H a=ap (.dK kvs)):∃o,Inv X Z σ (upd H a (.cM o (.dK kvs))) s:=by
 obtain⟨z,hs,vs,r,o,es,ep,h1,h2⟩:=(show bx X.prog X.w H s.heap a (.dK kvs) from I.bH a _ e);exact⟨o,I.write (x:=a) (e:=a) (o:=.cM o (.dK kvs)) (h':=s.heap) (t':=s.toks) (by rw [e];exact BU) (.inl rfl) (λb u _ z=>z) ⟨o,h1⟩ ⟨h1,z,hs,vs,r,o,es,ep,h1,h2⟩⟩
end L2
variable {kvs:List (List L2.Key×PL.PV)}
namespace FL
section
open PySem PySem.Spec PyProof.Rows L2 PL
variable {K:Ab}
def Tp (kvs:List (Key×PV)):PV:=.dv (kvs.map λkv=>kP kv.1) (kvs.map (·.2))
def QD (kvs:List (List Key×PV)):PV:=.dv (kvs.map λkv=>.tup (kv.1.map kP)) (kvs.map (·.2))
def oC (K:Ab) (H:Hp) (vs:List (List Key×V)) (kvs:List (List Key×PV)):Prop:=vs.map (·.1)=kvs.map (·.1)/\aM K [] H (vs.map (·.2)) (kvs.map (·.2))
def Ua (K:Ab) (H:Hp) (ob:HO) (v:PV):Prop:=(∃vs kvs,ob=.dK vs/\v=Tp kvs/\df K H vs kvs)\/∃vs kvs,ob=.dT vs/\v=QD kvs/\oC K H vs kvs
def fDv (K:Ab) (fs:bF) (w:W PV):TE:=λσ H Q=>aZ K H σ fs/\w.run λv=>∀a ob H',cU σ fs H H'->aZ K H' σ fs->H a=bm->H' a=ap ob->Ua K H' ob v->Q (.ref a) H'
structure DVF (X:Cx) (K:Ab) (fs:bF) (e:gt) (w:W PV):Prop where p:PE X e (fDv K fs w)
section
variable {σ:L2.St}{fs:bF}{H:Hp}{a:ci}{ob:HO}{v:PV}
def nk (o':HO) (e:H a=ap ob) (n1:∀vs,ob≠.tup vs) (n2:∀o u,ob≠.cM o u):bB K H (upd H a o'):=⟨λb ws q=>by rw [aA (λz=>by subst z;rw [e] at q;cases q;exact n1 _ rfl)];exact q,λb o u q=>by rw [aA (λz=>by subst z;rw [e] at q;cases q;exact n2 _ _ rfl)];exact q⟩
def aZ.Ur (s:aZ K H σ fs) (n:¬dI σ fs a) (e:H a=ap ob) (n1:∀vs,ob≠.tup vs) (n2:∀o u,ob≠.cM o u) (o':HO):aZ K (upd H a o') σ fs:=⟨s.len,λi t q=>by
 obtain⟨u,h1,h2⟩:=s.at' i t q;exact⟨u,h1,h2.mono (nk o' e n1 n2) (λx b o eb ow hb z=>by subst eb;rw [aA (λy:b=a=>n ⟨i,t,x,q,ow,h1,y▸hb⟩)];exact z)⟩,s.nd⟩
def aav {vs:List (List Key×V)} (h:vs.map (·.1)=kvs.map (·.1)):(kvs.map λkv=>PV.tup (kv.1.map kP))=vs.map λkv=>PV.tup (kv.1.map kP):=by
 have:=congrArg (FZ λk:List Key=>PV.tup (k.map kP)) h;rw [AR,AR] at this;exact this.symm
def aaw {kvs:List (Key×PV)} (h:vs.map (·.1)=kvs.map (·.1)):(kvs.map λkv=>kP kv.1)=vs.map λkv=>kP kv.1:=by
 have:=congrArg (FZ kP) h;rw [AR,AR] at this;exact this.symm
def Ua.cM {X:Cx}{Z:List (ci×Obj)}{s:cr}{σ':L2.St} (I:Inv X Z σ' H s) (e:H a=ap ob) (d:Ua K H ob v):∃u,Inv X Z σ' (upd H a u) s/\VR K [] (upd H a u) (.ref a) v/\(∀vs,ob≠.tup vs)/\∀o u,ob≠.cM o u:=by
 rcases d with⟨vs,kvs,rfl,rfl,d1,d2⟩ | ⟨vs,kvs,rfl,rfl,d1,d2⟩
 ·obtain⟨o,I2⟩:=I.S5 e;exact⟨_,I2,.dk aP (aaw d1) (aM.tk (nk _ e (by simp) (by simp)) d2),by simp,by simp⟩
 ·obtain⟨o,I2⟩:=I.freeze e;exact⟨_,I2,.dt aP (aav d1) (aM.tk (nk _ e (by simp) (by simp)) d2),by simp,by simp⟩
end
section
variable {b c:gt}{w:W PV}
def Tg (h:DVF X K fs e w):EF X K fs e w:=⟨λZ s σ H Q I ⟨sr,q⟩=>by
 refine bC (h.p Z s σ H (λu H1=>∃a ob v,u=.ref a/\cU σ fs H H1/\aZ K H1 σ fs/\H a=bm/\H1 a=ap ob/\Ua K H1 ob v/\∀u H',cU σ fs H H'->aZ K H' σ fs->VR K [] H' u v->Q u H') I ⟨sr,w.mono (λv q1 a ob H1 g1 s1 n e d=>⟨a,ob,v,rfl,g1,s1,n,e,d,q1⟩) q⟩) λu s1 ⟨v,H1,I1,r1,a,ob,v',e,g1,Rn,n,ea,d,q1⟩=>?_;subst e;obtain⟨o',I2,vr,n1,n2⟩:=d.cM I1 ea;exact⟨.ref a,_,I2,r1,q1 _ _ (g1.side n _) (Rn.Ur (λz=>sr.noOwn n z) ea n1 n2 _) vr⟩⟩
def Va:DVF X K fs (.Dict [] [] pos) (.ret (Tp [])):=⟨PE.imp zq λσ H Q ⟨sr,q⟩ p hp=>by
 have sm:=gV hp (.dK []);exact q p _ _ (cU.same sm) (sr.same sm) hp aP (.inl ⟨[],[],rfl,rfl,rfl,.nil⟩)⟩
def abG (hk:EF X K fs a wa) (hv:EF X K fs b wb):DVF X K fs (.Dict [ap a] [b] pos) (.bind wa λx=>.bind wb λy=>.bind (uB x) λk=>.ret (Tp [(k,y)])):=⟨PE.imp (RM (NI hk.p hv.p RC) rfl rfl (by simp) (show (1:Nat)<=15 by decide)) λσ H Q ⟨sr,q⟩ p hp=>by
 have sm:=gV hp (.dK []);refine⟨sr.same sm,wa.mono (λx q1 u1 H1 g1 s1 v1=>⟨s1,wb.mono (λy q2 u2 H2 g2 s2 v2=>?_) q1⟩) q⟩;have np:∀φ,¬eI σ fs φ p:=λφ z=>sr.noOwn hp z.uu;have e2:H2 p=ap (.dK []):=g2.keep p _ (g1.keep p _ aP np) np;have QS:=g2.vr s1 v1;obtain⟨k,rfl,q3⟩:=Ov QS q2;refine⟨e2,[(k,u2)],rfl,by show (1:Nat)<=15;decide,?_⟩;have n1:∀vs,HO.dK []≠.tup vs:=by simp
 have n2:∀o u,HO.dK []≠.cM o u:=by simp
 exact q3 p _ _ (((cU.same sm).trans (g1.trans g2)).side hp _) (s2.Ur (λz=>sr.noOwn hp z) e2 n1 n2 _) hp aP (.inl ⟨_,_,rfl,rfl,rfl,.cons (VR.tk (nk _ e2 n1 n2) v2) .nil⟩)⟩
def JM (kv:List Key×PV):PV:=.tup [.tup (kv.1.map kP),kv.2]
theorem OA (H:Hp):∀k:List Key,aM K [] H (k.map kV) (k.map kP)
 | []=>.nil
 | .inl i::k=>.cons (.int i) (OA H k)
 | .inr i::k=>.cons (.str i) (OA H k)
theorem JY:∀{k:List Key}{vs:List V},aM K [] H vs (k.map kP)->vs=k.map kV
 | [],_,h=>by cases h;rfl
 | .inl i::k,_,h=>by
  cases h with
  | cons x t=>cases x;rw [JY t];rfl
 | .inr i::k,_,h=>by
  cases h with
  | cons x t=>cases x;rw [JY t];rfl
theorem zw:∀{kvs:List (List Key×PV)}{vs:List V},aM K [] H vs (kvs.map JM)->∃zs:List Pz,vs=zs.map (λz=>V.ref z.pa)/\(∀z∈zs,z.At H)/\zs.map (·.k)=kvs.map (·.1)/\aM K [] H (zs.map (·.v)) (kvs.map (·.2))
 | [],_,h=>by cases h;exact⟨[],rfl,by simp,rfl,.nil⟩
 | kv::kvs,_,h=>by
  cases h with
  | cons x t=>
  obtain⟨zs,z1,z2,z3,z4⟩:=zw t;cases x with
  | @tup p ws _ e r=>
  cases r with
  | cons x1 t1=>
  cases t1 with
  | cons x2 t2=>
  cases t2;cases x1 with
  | @tup b us _ e1 r1=>
  have:=JY r1;subst this;refine⟨⟨p,kv.1,b,_⟩::zs,by rw [Aw,z1],λz hz=>?_,by rw [Aw,Aw,z3],.cons x2 z4⟩;rcases Ax.mp hz with rfl | hz
  ·exact⟨e,e1⟩
  ·exact z2 z hz
def Iw (l:List PV):W PV:=⟨λQ=>∃kvs:List (List Key×PV),l=kvs.map JM/\(kvs.map (·.1)).Nodup/\kvs.length<=1000/\Q (QD kvs),λf q=>q.imp λkvs h=>⟨h.1,h.2.1,h.2.2.1,f _ h.2.2.2⟩⟩
theorem Tz (hK:X.K=K) (hc:X.calm=true) (hu:X.A.units+200 < o0) (hg:Gl X "dict") (hm:X.mg "dict"=bm) (ha:GN X K fs e wl) (he:iB X e []:=by rfl) (dJ:lH X pos []:=by rfl) :
  DVF X K fs (.Call (.Name "dict" p) [e] [] pos) (.bind wl Iw):=⟨PE.imp (jq (IE K hK hc ∅) hg hm boot_dict (bz ha.p cX he) ⋯ ⋯ he dJ) λσ H Q ⟨sr,q⟩=>⟨sr,wl.mono (λl q1 u H1 g1 s1 v0 v1=>by
  obtain⟨kvs,rfl,nd,hl,q1⟩:=q1;obtain⟨a,vs,rfl,e3,e4⟩:=v1 H1 .refl s1;obtain⟨zs,rfl,z2,z3,z4⟩:=zw e4;have hzl:zs.length=kvs.length:=by have:=congrArg B5 z3;simpa using this
  refine⟨a,zs,rfl,e3,z2,by rw [z3];exact nd,by omega,λp H2 s2 h2 n2=>?_⟩;exact q1 _ _ H2 (g1.trans (cU.same s2)) (s1.same s2) (g1.there _ n2) h2 (.inr ⟨_,_,rfl,rfl,by rw [AR,<- z3];rfl,by rw [AR];exact aM.tk s2.eO z4⟩)) q⟩⟩
def L5 {Q:PV->Prop} (nd:(kvs.map (·.1)).Nodup) (hl:kvs.length<=1000) (q:Q (QD kvs)):(Iw (kvs.map JM)).run Q:=⟨kvs,rfl,nd,hl,q⟩
def md (kvs:List (List Key×PV)) (k:List Key):Option PV:=(kvs.find? λkv=>decide (kv.1=k)).map (·.2)
theorem oC.get {k:List Key}:∀{vs:List (List Key×V)}{kvs:List (List Key×PV)},oC K H vs kvs->(md kvs k=bm->iQ vs k=bm)/\∀{v},md kvs k=ap v->∃u,iQ vs k=ap u/\VR K [] H u v
 | [],[],_=>⟨λ_=>rfl,λg=>by simp [md] at g⟩
 | [],_::_,h=>by simp [oC] at h
 | _::_,[],h=>by simp [oC] at h
 | p::vs,q::kvs,h=>by
  obtain⟨h1,h2⟩:=h;rw [Aw,Aw] at h1 h2;injection h1 with e b;cases h2 with
  | cons r t=>
  have ih:=oC.get (k:=k) (vs:=vs) (kvs:=kvs) ⟨b,t⟩;by_cases c:p.1=k
  ·rw [kI c];have c':=e▸c;have:md (q::kvs) k=ap q.2:=by simp [md,BI,c']
   rw [this];refine⟨λz=>(by cases z),λ{v} z=>?_⟩;cases z;exact⟨_,rfl,r⟩
  ·rw [kJ c];have c':=e▸c;have:md (q::kvs) k=md kvs k:=by simp [md,BI,c']
   rw [this];exact ih
def df.get' {k:Key}:∀{vs:List (Key×V)}{kvs:List (Key×PV)},df K H vs kvs->(qi kvs k=bm->iQ vs k=bm)/\∀{v},qi kvs k=ap v->∃u,iQ vs k=ap u/\VR K [] H u v:=λ{vs kvs} h=>⟨λz=>by
 have:=h.has k;cases e:iQ vs k with
 | none=>rfl
 | some u=>
  rw [e] at this;have h2:=this.symm;unfold qi at z;rw [Option.map_eq_none_iff,List.find?_eq_none] at z;obtain⟨x,hx,ğ⟩:=BL.mp h2;exact absurd ğ (z x hx),λz=>h.get k z⟩
def UJ (k:Key) (l:List PV):kP k≠.tup l:=by cases k <;> exact PV.noConfusion
def Xa {a b:Key} (h:kP a=kP b):a=b:=by
 cases a <;> cases b <;> simp [kP] at h <;> rw [h]
theorem xj:∀{a b:List Key},a.map kP=b.map kP->a=b
 | [],[],_=>rfl
 | [],_::_,h=>by simp at h
 | _::_,[],h=>by simp at h
 | x::a,y::b,h=>by
  rw [Aw,Aw] at h;injection h with h1 h2;rw [Xa h1,xj h2]
inductive GG:PV->PV->Option PV->Prop
 | k (kvs:List (Key×PV)) (k:Key):kvs≠[]->GG (Tp kvs) (kP k) (qi kvs k)
 | t (kvs:List (List Key×PV)) (k:List Key):kvs≠[]->GG (QD kvs) (.tup (k.map kP)) (md kvs k)
def Vn {kvs:List (Key×PV)} (h0:kvs≠[]) (h:VR K [] H u (Tp kvs)):∃a o vs,u=.ref a/\H a=ap (.cM o (.dK vs))/\df K H vs kvs:=by
 have É:∀{vs:List (Key×V)}{kvs:List (Key×PV)},(kvs.map λkv=>kP kv.1)=(vs.map λkv=>kP kv.1)->vs.map (·.1)=kvs.map (·.1):=λ{vs kvs} e=>by
  have e:(kvs.map (·.1)).map kP=(vs.map (·.1)).map kP:=by rw [AR,AR];exact e
  exact (xj e).symm
 cases h with
 | @dk a o vs _ _ e k r=>exact⟨a,o,vs,rfl,e,É k,r⟩
 | @dt a o vs _ _ e k r=>
  cases kvs with
  | nil=>exact absurd rfl h0
  | cons x l=>cases vs with
   | nil=>simp at k
   | cons y m=>simp at k;exact absurd k.1 (UJ _ _)
def MW (h0:kvs≠[]) (h:VR K [] H u (QD kvs)):∃a o vs,u=.ref a/\H a=ap (.cM o (.dT vs))/\oC K H vs kvs:=by
 have É:∀{vs:List (List Key×V)}{kvs:List (List Key×PV)},(kvs.map λkv=>PV.tup (kv.1.map kP))=(vs.map λkv=>PV.tup (kv.1.map kP))->vs.map (·.1)=kvs.map (·.1):=λ{vs kvs} e=>by
  induction kvs generalizing vs with
  | nil=>cases vs with
   | nil=>rfl
   | cons y m=>simp at e
  | cons x l ih=>cases vs with
   | nil=>simp at e
   | cons y m=>
    injection e with e1 e2;injection e1 with e1;rw [Aw,Aw,xj e1,ih e2]
 cases h with
 | @dt a o vs _ _ e k r=>exact⟨a,o,vs,rfl,e,É k,r⟩
 | @dk a o vs _ _ e k r=>
  cases kvs with
  | nil=>exact absurd rfl h0
  | cons x l=>cases vs with
   | nil=>simp at k
   | cons y m=>simp at k;exact absurd k.1.symm (UJ _ _)
def GG.ok {z:V}{d y:PV}{r:Option PV} (h:GG d y r) (hu:VR K [] H u d) (hz:VR K [] H z y):∃a o,u=.ref a/\IsD H a/\uW H a z o/\(r=bm->o=bm)/\∀v,r=ap v->∃w,o=ap w/\VR K [] H w v:=by
 cases h with
 | k kvs k h0=>
  obtain⟨a,o,vs,rfl,e,d⟩:=Vn h0 hu;have ez:z=kV k:=by
   cases k with
   | inl i=>cases hz;rfl
   | inr i=>cases hz;rfl
  subst ez;exact⟨a,iQ vs k,rfl,.inl ⟨vs,.inr ⟨o,e⟩⟩,.inl ⟨vs,k,.inr ⟨o,e⟩,rfl,rfl⟩,(df.get' d).1,λv=>(df.get' d).2⟩
 | t kvs k h0=>
  obtain⟨a,o,vs,rfl,e,d⟩:=MW h0 hu;cases hz with
  | @tup b us _ e1 r1=>
  have:=JY r1;subst this;exact⟨a,iQ vs k,rfl,.inr ⟨vs,.inr ⟨o,e⟩⟩,.inr ⟨vs,k,b,.inr ⟨o,e⟩,rfl,e1,rfl⟩,(oC.get d).1,λv=>(oC.get d).2⟩
def dgW (d y:PV):W PV:=⟨λQ=>∃v,GG d y (ap v)/\Q v,λf ⟨v,a,q⟩=>⟨v,a,f _ q⟩⟩
def dgB (a b:W PV):W PV:=.bind a λx=>.bind b λy=>dgW x y
theorem PK (hu:X.A.units+200 < o0) (ha:EF X K fs a wa) (hb:EF X K fs b wb) (hs:Yg b):EF X K fs (.Subscript a b pos) (dgB wa wb):=⟨PE.imp (RN ∅ ha.p hb.p hs) λσ H Q ⟨sr,q⟩=>⟨sr,wa.mono (λx q1 u1 H1 g1 s1 v1=>⟨s1,wb.mono (λy q2 u2 H2 g2 s2 v2=>by
 obtain⟨v,g,q2⟩:=q2;obtain⟨a,o,rfl,_,g2',_,h⟩:=g.ok (g2.vr s1 v1) v2;obtain⟨w,rfl,vw⟩:=h v rfl;exact⟨a,w,rfl,g2',q2 _ H2 (g1.trans g2) s2 vw⟩) q1⟩) q⟩⟩
def Kr {k:List Key}{Q:PV->Prop} (h:md kvs k=ap v) (q:Q v):(dgW (QD kvs) (.tup (k.map kP))).run Q:=⟨v,by rw [<- h];exact .t kvs k (λz=>by subst z;simp [md] at h),q⟩
def Ou (d:PV):W (List PV):=⟨λQ=>∃kvs:List (List Key×PV),d=QD kvs/\kvs≠[]/\kvs.length<=1000/\Q (kvs.map λkv=>.tup (kv.1.map kP)),λf q=>q.imp λkvs h=>⟨h.1,h.2.1,h.2.2.1,f _ h.2.2.2⟩⟩
theorem SH (h:EF X K fs e w):qZ X K fs tg e (.bind w Ou):=⟨PI.imp (NM h.p) λσ H R ⟨sr,q⟩=>⟨sr,w.mono (λx q1 u1 H1 g1 s1 v1=>by
 obtain⟨kvs,rfl,h0,hl,q1⟩:=q1;obtain⟨a,o,vs,rfl,e,d1,d2⟩:=MW h0 v1;have len:vs.length=kvs.length:=by have:=congrArg B5 d1;simpa using this
 refine⟨a,o,vs,rfl,e,q1 _ H1 g1 s1 ⟨aY (by simpa using hl),λH' t=>?_⟩⟩;have e':=t.z _ _ _ e;refine⟨λi p hp=>?_,vs,e',by simp [len]⟩;rw [Aj] at hp;cases z:kvs[i]? with
 | none=>rw [z] at hp;cases hp
 | some kv=>
  rw [z] at hp;have hp:=Option.some.inj hp;subst hp;have hi:=(Am.mp z).1;refine⟨⟨vs,e',by omega⟩,λy H2 yy=>?_⟩;obtain⟨rfl,yy⟩:=yy;obtain⟨b,k,v,rfl,k2,k3⟩:=yy vs e';have ek:k=kv.1:=by
   have h1:(vs.map (·.1))[i]?=ap k:=by rw [Aj,k2];rfl
   rw [d1,Aj,z] at h1;exact (Option.some.inj h1).symm
  subst ek;exact⟨kF.refl _,.tup k3 (OA _ _)⟩) q⟩⟩
def Lh {Q:List PV->Prop} (h0:kvs≠[]) (hl:kvs.length<=1000) (q:Q (kvs.map λkv=>.tup (kv.1.map kP))):(Ou (QD kvs)).run Q:=⟨kvs,rfl,h0,hl,q⟩
end
end
section
open PySem PySem.Spec PyProof.Rows L2 PL
variable {K:Ab}
mutual
def PV.pd:PV->PyData
 | .aO=>.none
 | .bl b=>.bool b
 | .int i=>.int i
 | .str x=>.str x
 | .tup l=>.tuple (RQ l)
 | .cl l=>.list (RQ l)
 | _=>.none
def RQ:List PV->List PyData
 | []=>[]
 | x::l=>PV.pd x::RQ l
end
section
mutual
theorem VR.reads (I:Inv X Z σ H s):∀{v:V}{x:PV},VR X.K [] H v x->PV.iu x=true->∀{u},RelV v u->∃as,Reads s.heap u (PV.pd x) as
 | _,_,.aO,_,u,r=>by cases r;rw [PV.pd];exact⟨_,.none⟩
 | _,_,.bl b,_,u,r=>by cases r;rw [PV.pd];exact⟨_,.bool b⟩
 | _,_,.int i,_,u,r=>by obtain⟨t,r⟩:=(show ∃t,u=C8 i t from r);cases r;rw [PV.pd];exact⟨_,.int i t⟩
 | _,_,.str i,_,u,r=>by obtain⟨t,r⟩:=(show ∃t,u=Dn i t from r);cases r;rw [PV.pd];exact⟨_,.str i t⟩
 | _,_,.ty n,h,_,_=>by rw [PV.iu] at h;cases h
 | _,_,.dk _ _ _,h,_,_=>by rw [PV.iu] at h;cases h
 | _,_,.dt _ _ _,h,_,_=>by rw [PV.iu] at h;cases h
 | _,_,.ref e,h,_,_=>by simp at e
 | _,_,.tup e r,h,u,q=>by
  cases q;obtain⟨aw,rv,⟨o,h1,h2,n,h3⟩,_⟩:=I.tuple (dU.of (K:=X.K) e);obtain⟨as,ra⟩:=aM.reads I r (by rw [PV.iu] at h;exact h) rv;rw [PV.pd];exact⟨as,.tuple h1 h2 h3 (by simpa using ra)⟩
 | _,_,.cl e r,h,u,q=>by
  cases q;obtain⟨aw,rv,⟨o,n,h1,h2,_,h3⟩,_⟩:=I.list e.sq;obtain⟨as,ra⟩:=aM.reads I r (by rw [PV.iu] at h;exact h) rv;rw [PV.pd];exact⟨_,.list h1 h2 h3 (by simpa using ra)⟩
theorem aM.reads (I:Inv X Z σ H s):∀{v:List V}{x:List PV},aM X.K [] H v x->fj x=true->∀{u},Vals v u->∃as,ReadsAll s.heap u (RQ x) as
 | _,_,.nil,_,u,r=>by cases r;rw [RQ];exact⟨_,.nil⟩
 | _,_,.cons a t,h,u,r=>by
  rw [fj,Az] at h;cases r with
  | cons r1 r2=>
  obtain⟨as,ra⟩:=VR.reads I a h.1 r1;obtain⟨bs,rb⟩:=aM.reads I t h.2 r2;rw [RQ];exact⟨_,.cons ra rb⟩
end
mutual
theorem vh:∀x:PV,(PV.pd x).hasDict=false
 | .aO=>by simp [PV.pd,B2]
 | .bl _=>by simp [PV.pd,B2]
 | .int _=>by simp [PV.pd,B2]
 | .str _=>by simp [PV.pd,B2]
 | .tup l=>by rw [PV.pd,B2];exact mI l
 | .cl l=>by rw [PV.pd,B2];exact mI l
 | .ref _=>by simp [PV.pd,B2]
 | .ty _=>by simp [PV.pd,B2]
 | .dv _ _=>by simp [PV.pd,B2]
theorem mI:∀x:List PV,Ek (RQ x)=false
 | []=>by simp [RQ,Ek]
 | x::l=>by rw [RQ,Ek,vh x,mI l];rfl
end
end
def KS (x:PV):Prop:=PV.iu x=true/\(PV.pd x).showable=true/\(PV.pd x).depth<=100/\(PV.pd x).shown.length<=sizeLine
def VB (x:PV):W PV:=match x with
 | .int i=>.fg (KS x) (.ret (.str (PV.pd x).shown))
 | .tup l=>.fg (KS x) (.ret (.str (PV.pd x).shown))
 | .cl l=>.fg (KS x) (.ret (.str (PV.pd x).shown))
 | _=>.fail
section
def UM (b:Bool):PV->Prop
 | .int _=>b=true
 | .tup _=>True
 | .cl _=>True
 | _=>False
def ZH (K:Ab) (b:Bool):List V->Hp->VK->Prop:=λxs H Q=>∃v x,xs=[v]/\VR K [] H v x/\KS x/\UM b x/\Q (.str (PV.pd x).shown) H
theorem Md (hK:X.K=K) (hg:X.A.guards=ap []) (hu:X.A.units+200 < o0):bR X (.type "str") (ZH K true):=by
 subst hK;intro Z s σ H xs us Q I r ⟨v,x,e,hv,⟨o1,o2,o3,o4⟩,hx,q⟩;subst e;obtain⟨u,rfl,ru⟩:=vals1 r;have rf:∀a,u=.ref a->db (dL X.prog X.w) X.A (call (.type "str") [u]) (EP X Z σ Q) X.xe s:=λa e=>by
  subst e;obtain⟨as,rd⟩:=VR.reads I hv o1 ru;exact str_of_reads rd o2 (PyData.noDict_hsm (vh x)) hg ∅ (λ_ _ e=>e) (λh' u tk hk=>⟨.str _,H,I.kept (t':=tk) hk,⟨_,rfl⟩,q⟩) o4
 cases hv with
 | int i=>
  obtain⟨t,ru⟩:=(show ∃t,u=C8 i t from ru);subst ru;simp only [PV.pd,PyData.showable,decide_eq_true_iff,PyData.shown] at o2 q;exact P.str_of_int o2 ⟨.str _,H,I.tok _,⟨_,rfl⟩,q⟩
 | tup _ _=>exact rf _ ru
 | cl _ _=>exact rf _ ru
 | _=>exact hx.elim
def XM (hK:X.K=K) (hr:cL k X.A) (hg:Gl X "str") (hm:X.mg "str"=bm) (ha:EF X K fs a wa) (he:iB X a []:=by rfl) (dJ:lH X pos []:=by rfl):EF X K fs (.Call (.Name "str" p) [a] [] pos) (.bind wa VB):=
 ⟨PE.imp (jq (Md hK hr.gd (aU hr)) hg hm sB (bz ha.p cX he) ⋯ ⋯ he dJ) λσ H Q ⟨sr,q⟩=>⟨sr,wa.mono (λx q1 u H1 g1 s1 v1=>by
  have h:KS x/\UM true x/\∀u H',cU σ fs H H'->aZ K H' σ fs->VR K [] H' u (.str (PV.pd x).shown)->Q u H':=by
   cases x with
   | int i=>exact⟨q1.1,(by first | rfl | trivial),q1.2⟩
   | tup l=>exact⟨q1.1,(by first | rfl | trivial),q1.2⟩
   | cl l=>exact⟨q1.1,(by first | rfl | trivial),q1.2⟩
   | _=>exact q1.elim
  exact⟨u,x,rfl,v1,h.1,h.2.1,h.2.2 _ H1 g1 s1 (.str _)⟩) q⟩⟩
end
end
end FL
namespace L2
open PySem PySem.Spec PyProof.Rows
section
variable {σ:St}
theorem Inv.zV (I:Inv X Z σ H s):∀bs:List ci,(∀b∈bs,∃ws,H b=ap (.lst ws))->∃H',Inv X Z σ H' s/\(∀c,c∉bs->H' c=H c)/\∀b∈bs,∃ob ws,H b=ap (.lst ws)/\H' b=ap (.cM ob (.lst ws))
 | [],_=>⟨H,I,λ_ _=>rfl,λb hb=>nomatch hb⟩
 | b::bs,h=>by
  obtain⟨H',I',h1,h2⟩:=Inv.zV I bs λc hc=>h c (.tail _ hc);by_cases hb:b∈bs
  ·refine⟨H',I',λc hc=>h1 c λz=>hc (.tail _ z),λc hc=>?_⟩;rcases Ax.mp hc with rfl | hc
   ·exact h2 _ hb
   ·exact h2 c hc
  ·obtain⟨ws,e⟩:=h b (.head _);obtain⟨ob,I2⟩:=I'.qO ((h1 b hb).trans e);refine⟨_,I2,λc hc=>?_,λc hc=>?_⟩
   ·rw [aA (λz=>by subst z;exact hc (.head _))];exact h1 c λz=>hc (.tail _ z)
   ·by_cases cb:c=b
    ·subst cb;exact⟨ob,ws,e,aP⟩
    ·rcases Ax.mp hc with z | hc
     ·exact absurd z cb
     ·obtain⟨WA,pW,e1,e2⟩:=h2 c hc;exact⟨WA,pW,e1,by rw [aA cb];exact e2⟩
open Classical in
theorem Inv.MY {f:ci->List V} (J:Inv X Z σ H s):∀bs:List ci,(∀b∈bs,∃ob,H b=ap (.cM ob (.lst (f b))))->(∀b∈bs,∀o u,X.H₀ b≠ap (.cM o u))->Inv X Z σ (λc=>if c∈bs then ap (.lst (f c)) else H c) s
 | [],_,_=>by
  have:(λc=>if c∈([]:List ci) then ap (HO.lst (f c)) else H c)=H:=funext λc=>if_neg (by simp);rw [this];exact J
 | b::bs,h,h0=>by
  have J2:=Inv.MY J bs (λc hc=>h c (.tail _ hc)) λc hc=>h0 c (.tail _ hc);by_cases hb:b∈bs
  ·have:(λc=>if c∈b::bs then ap (HO.lst (f c)) else H c)=λc=>if c∈bs then ap (.lst (f c)) else H c:=funext λc=>by
    by_cases z:c=b
    ·subst z;rw [if_pos (.head _),if_pos hb]
    ·by_cases y:c∈bs
     ·rw [if_pos (.tail _ y),if_pos y]
     ·rw [if_neg (λx=>(Ax.mp x).elim z y),if_neg y]
   rw [this];exact J2
  ·obtain⟨ob,e⟩:=h b (.head _);have e2:(λc=>if c∈bs then ap (HO.lst (f c)) else H c) b=ap (.cM ob (.lst (f b))):=by show (if b∈bs then _ else _)=_;rw [if_neg hb];exact e
   have hk:=vA J2.bH e2;have J3:=J2.Y9 e2 (h0 b (.head _)) (hk b _ aP) hk;have:(λc=>if c∈b::bs then ap (HO.lst (f c)) else H c)=upd (λc=>if c∈bs then ap (HO.lst (f c)) else H c) b (.lst (f b)):=funext λc=>by
    by_cases z:c=b
    ·subst z;rw [if_pos (.head _),aP]
    ·rw [aA z];by_cases y:c∈bs
     ·rw [if_pos (.tail _ y),if_pos y]
     ·rw [if_neg (λx=>(Ax.mp x).elim z y),if_neg y]
   rw [this];exact J3
end
end L2
namespace FL
section
open PySem PySem.Spec PyProof.Rows L2 PL
variable {K:Ab}
section
variable {bs:List ci}{ls:List (List PV)}
def jr (sr:aZ K H σ fs) (hs:fs[i]?=ap (ap (.qF bs ls))):∃a,σ[i]?=ap (ap (.ref a))/\iP K H a (.qF bs ls):=by
 obtain⟨u,e1,r⟩:=sr.at' i _ hs;rcases r with⟨v,e,_⟩ | ⟨a,e,r⟩
 ·cases e
 ·subst e;exact⟨a,e1,r⟩
theorem P5:∀{bs:List ci}{ls:List (List PV)},bs.length=ls.length->(∀(j:Nat) (b:ci) (l:List PV),bs[j]?=ap b->ls[j]?=ap l->VR K [] H' (.ref b) (.cl l))->aM K [] H' (bs.map V.ref) (ls.map PV.cl)
 | [],[],_,_=>.nil
 | [],_::_,h,_=>by simp at h
 | _::_,[],h,_=>by simp at h
 | b::bs,l::ls,h,hv=>.cons (hv 0 b l rfl rfl) (P5 (by simpa using h) λj b l h1 h2=>hv (j+1) b l (by simpa using h1) (by simpa using h2))
def abM (I:Inv X Z σ H s) (sr:aZ K H σ fs) (hs:fs[i]?=ap (ap (.qF bs ls))):∃H',Inv X Z σ H' s/\aZ K H' σ (fs.set i (ap (.ol bm (ls.map PV.cl))))/\cT σ fs H σ (fs.set i (ap (.ol bm (ls.map PV.cl)))) H'/\(∀c,H c=bm->H' c=bm)/\
  ∀σ' s' H1,Inv X Z σ' H1 s'->cU σ (fs.set i (ap (.ol bm (ls.map PV.cl)))) H' H1->aZ K H1 σ (fs.set i (ap (.ol bm (ls.map PV.cl))))->∃H2,Inv X Z σ' H2 s'/\cU σ fs H H2/\aZ K H2 σ fs/\(∀p vs,H1 p=ap (.tup vs)->H2 p=ap (.tup vs))/\∀p vs,H p=bm->H1 p=ap (.lst vs)->H2 p=ap (.lst vs):=by
 obtain⟨a,e1,q1,q2,q3,q4,q5⟩:=jr sr hs;have inn:∀b∈bs,∃ws,H b=ap (.lst ws):=λb hb=>by
  obtain⟨j,hj⟩:=CT hb;have h1:=(Am.mp hj).1;obtain⟨ws,e,_⟩:=q5 j b _ hj (Ae (by rw [<- q4];exact h1));exact⟨ws,e⟩
 obtain⟨H',I',k1,k2⟩:=I.zV bs inn;have tk:bB K H H':=⟨λb vs z=>by
  by_cases c:b∈bs
  ·obtain⟨ws,e⟩:=inn b c;rw [e] at z;cases z
  ·rw [k1 b c];exact z,λb o u z=>by
  by_cases c:b∈bs
  ·obtain⟨ws,e⟩:=inn b c;rw [e] at z;cases z
  ·rw [k1 b c];exact z⟩
 have aO:∀c,H c=bm->H' c=bm:=λc z=>by
  by_cases y:c∈bs
  ·obtain⟨ws,e⟩:=inn c y;rw [e] at z;cases z
  ·rw [k1 c y];exact z
 have it:∀{t:SL},(ap t:Option SL)=ap (.ol bm (ls.map PV.cl))->t=.ol bm (ls.map PV.cl):=λz=>by injection z
 have s2:aZ K H' σ (fs.set i (ap (.ol bm (ls.map PV.cl)))):=by
  refine⟨by simp [sr.len],λj t z=>?_,λj k t u b1 b2 b z1 z2 o1 o2=>?_⟩
  ·rcases bf z with⟨rfl,rfl⟩ | ⟨n,z⟩
   ·refine⟨_,e1,.inr ⟨a,rfl,by simp,bs.map V.ref,by rw [k1 a q2];exact q1,P5 q4 λj b l h1 h2=>?_⟩⟩;obtain⟨ob,ws,f1,f2⟩:=k2 b (Bm h1);obtain⟨pW,f3,f4⟩:=q5 j b l h1 h2;rw [f1] at f3;cases f3;exact .cl (.inl ⟨ob,f2⟩) (aM.tk tk f4)
   ·obtain⟨u,h1,h2⟩:=sr.at' j t z;exact⟨u,h1,h2.mono tk (λx b o eb ow hb zz=>by
     subst eb;rw [k1 b (λy=>n (sr.nd j i t _ x a b z hs ow rfl h1 e1 hb (.inr y)))];exact zz)⟩
  ·intro y1 y2 w1 w2;have f:∀{j:Nat}{t:SL}{c:ci},(fs.set i (ap (.ol bm (ls.map PV.cl))))[j]?=ap (ap t)->t.own=true->σ[j]?=ap (ap (.ref c))->t.has c b->∃t',fs[j]?=ap (ap t')/\t'.own=true/\t'.has c b:=λ{j t c} z ow y hb=>by
    rcases bf z with⟨rfl,rfl⟩ | ⟨n,z⟩
    ·refine⟨_,hs,rfl,?_⟩;rcases hb with hb | hb
     ·exact .inl hb
     ·cases hb
    ·exact⟨t,z,ow,hb⟩
   obtain⟨t',a1,a2,a3⟩:=f z1 o1 y1 w1;obtain⟨u',c1,c2,c3⟩:=f z2 o2 y2 w2;exact sr.nd j k t' u' b1 b2 b a1 c1 a2 c2 y1 y2 a3 c3
 have pf:∀φ b,eI σ (fs.set i (ap (.ol bm (ls.map PV.cl)))) φ b->eI σ fs φ b:=λφ b ⟨j,z1,z3⟩=>by
  rcases bf z1 with⟨_,z⟩ | ⟨n,z1⟩
  ·cases z
  ·exact⟨j,z1,z3⟩
 have pb:∀φ b,eI σ fs φ b->eI σ (fs.set i (ap (.ol bm (ls.map PV.cl)))) φ b:=λφ b ⟨j,z1,z3⟩=>by
  have ji:j≠i:=λy=>by subst y;rw [hs] at z1;cases z1
  exact⟨j,by rw [aL ji];exact z1,z3⟩
 have npb:∀b∈bs,∀φ,¬eI σ fs φ b:=λb hb φ ⟨j,z1,z3⟩=>by
  have:=sr.nd j i _ _ b a b z1 hs rfl rfl z3 e1 (.inl rfl) (.inr hb);subst this;rw [hs] at z1;cases z1
 have gf:cT σ fs H σ (fs.set i (ap (.ol bm (ls.map PV.cl)))) H':=by
  refine⟨λb o z n=>⟨?_,λy=>?_⟩,λb z=>?_,λb φ z=>.inl (pb φ b z)⟩
  ·rw [k1 b (λy=>n ⟨i,_,a,hs,rfl,e1,.inr y⟩)];exact z
  ·obtain⟨j,t,x,z1,z2,z3,z4⟩:=y;rcases bf z1 with⟨rfl,rfl⟩ | ⟨m,z1⟩
   ·rcases z4 with z4 | z4
    ·exact n ⟨j,_,x,hs,rfl,z3,.inl z4⟩
    ·cases z4
   ·exact n ⟨j,t,x,z1,z2,z3,z4⟩
  ·by_cases c:b∈bs
   ·obtain⟨ob,ws,f1,f2⟩:=k2 b c;rw [f2] at z;cases z
   ·rw [k1 b c] at z;exact z
 refine⟨H',I',s2,gf,aO,λσ' s' H1 J g s1=>?_⟩
 classical
 have fz:∀b∈bs,∃ob,H1 b=ap (.cM ob (.lst ((match H b with | some (.lst ws)=>ws | _=>[]):List V))):=λb hb=>by
  obtain⟨ob,ws,f1,f2⟩:=k2 b hb;rw [f1];exact⟨ob,g.keep b _ f2 λφ p=>npb b hb φ (pf φ b p)⟩
 have h0:∀b∈bs,∀o u,X.H₀ b≠ap (.cM o u):=λb hb o u z=>by
  have:=I.base.qk b o u z;obtain⟨ws,e⟩:=inn b hb;rw [e] at this;cases this
 have J2:=Inv.MY (f:=λb=>match H b with | some (.lst ws)=>ws | _=>[]) J bs fz h0;have uH:∀b∈bs,(λc=>if c∈bs then ap (HO.lst (match H c with | some (.lst ws)=>ws | _=>[])) else H1 c) b=H b:=λb hb=>by
  obtain⟨ws,e⟩:=inn b hb;show (if b∈bs then _ else _)=_;rw [if_pos hb,e]
 have zP:∀b,b∉bs->(λc=>if c∈bs then ap (HO.lst (match H c with | some (.lst ws)=>ws | _=>[])) else H1 c) b=H1 b:=λb hb=>by
  show (if b∈bs then _ else _)=_;rw [if_neg hb]
 generalize (λc=>if c∈bs then ap (HO.lst (match H c with | some (.lst ws)=>ws | _=>[])) else H1 c)=H2 at J2 uH zP;have ge:cU σ fs H H2:=by
  refine⟨λb o z n=>?_,λb z=>?_⟩
  ·by_cases c:b∈bs
   ·rw [uH b c];exact z
   ·rw [zP b c];exact g.keep b o (by rw [k1 b c];exact z) λφ p=>n φ (pf φ b p)
  ·by_cases c:b∈bs
   ·rw [uH b c] at z;exact z
   ·rw [zP b c] at z;have:=g.there b z;rw [k1 b c] at this;exact this
 refine⟨H2,J2,ge,⟨sr.len,λj t z=>?_,sr.nd⟩,λp vs z=>?_,λp vs n z=>?_⟩
 ·obtain⟨u,m1,m2⟩:=sr.at' j t z;refine⟨u,m1,?_⟩;by_cases c:∃φ,t=.kj φ
  ·obtain⟨φ,rfl⟩:=c;have ji:j≠i:=λy=>by subst y;rw [hs] at z;cases z
   rcases m2 with⟨v,y,_⟩ | ⟨b,rfl,_⟩
   ·cases y
   ·obtain⟨vs,y1,y2⟩:=s1.ownAt (t:=.kj φ) (i:=j) (by rw [aL ji];exact z) rfl m1;refine .inr ⟨b,rfl,vs,?_,y2⟩;rw [zP b (λy=>npb b y φ ⟨j,z,m1⟩)];exact y1
  ·refine m2.mono (ge.eJ sr) (λx b o eb ow hb zz=>ge.keep b o zz λφ ⟨j',p1,p3⟩=>?_);subst eb;have:=sr.nd j j' t _ x b b z p1 ow rfl m1 p3 hb (.inl rfl);subst this;rw [z] at p1;cases p1;exact c ⟨φ,rfl⟩
 ·rw [zP p (λy=>by obtain⟨ob,f⟩:=fz p y;rw [f] at z;cases z)];exact z
 ·rw [zP p (λy=>by obtain⟨ws,e⟩:=inn p y;rw [e] at n;cases n)];exact z
end
section
variable {e2:gt}{rest:List sK}{rF:Pos}{T:Type}{out:T->End}{w w1 w2:W PV}{bs:List ci}{ls:List (List PV)}
def Km (i:Nat) (hs:fs[i]?=ap (ap (.qF bs ls))) (h:EF X K (fs.set i (ap (.ol bm (ls.map PV.cl)))) e w):EF X K fs e (.bind w rE):=⟨λZ s σ H Q I ⟨sr,q⟩=>by
 obtain⟨H',I2,s2,_,_,Í⟩:=abM I sr hs;refine bC (h.p Z s σ _ (λu H1=>∃v,cU σ (fs.set i (ap (.ol bm (ls.map PV.cl)))) H' H1/\aZ K H1 σ (fs.set i (ap (.ol bm (ls.map PV.cl))))/\VR K [] H1 u v/\v.dat=true/\∀u H',cU σ fs H H'->aZ K H' σ fs->VR K [] H' u v->Q u H') I2 ⟨s2,w.mono (λv q1 u H1 g1 s1 v1=>⟨v,g1,s1,v1,q1.1,q1.2⟩) q⟩) λu s1 ⟨x,H1,I1,r1,v,g1,Rn,v1,d,q1⟩=>?_;obtain⟨H2,I3,g3,s3,t3,_⟩:=Í σ s1 H1 I1 g1 Rn;exact⟨x,_,I3,r1,q1 x _ g3 s3 (VR.kc t3 v1 d)⟩⟩
def SF.abc (i:Nat) {Qw:List sK}{wt:W T} (hs:fs[i]?=ap (ap (.qF bs ls))) (hr:SF X K x (fs.set i (ap (.ol bm (ls.map PV.cl)))) Qw wt out):SF X K x fs Qw wt out:=⟨λZ s σ H D I ⟨sr,q⟩=>by
 obtain⟨H',I2,s2,gf,_,_⟩:=abM I sr hs;exact hr.p Z s σ _ D I2 ⟨s2,wt.mono (λt q3=>q3.go gf sr s2) q⟩⟩
def SF.Zy {k:W T} (hN:X.N.Nodup) (hi:X.N[i]?=ap y) (hx:Loc X.env.scope y) (hr:SF X K x (fs.set i (ap (.qF [] []))) rest k out) (hs:kt (.List [] p2) (ap (.Name y p')) pos.line X.env=pure false:=by rfl)
  (hf:MM X y:=by first | exact .inl rfl | exact .inr rfl | assumption):SF X K x fs (.Assign [.Name y p'] (.List [] p2) pos::rest) k out:=SF.step (rR hN hi hx (JJ cX) hs hf) λD σ H ⟨sr,q⟩=>⟨A6 _,λa H1 s1 e1 n1=>by
 have no:=sr.noOwn n1;have oa:iP K H1 a (.qF [] []):=⟨e1,by simp,by simp,rfl,λj b l h=>by simp at h⟩;have s2:=(sr.same s1).rQ (t:=.qF [] []) oa no i;exact⟨_,k,hr,s2,k.mono (λt q2=>q2.go (cT.rQ (sr.same s1) (cT.same s1 sr) no n1 i) sr s2) q⟩⟩
def SG (ls:List (List PV)):PV->W (Nat×List PV)
 | .int k=>.N3 ((mn ls.length k).bind λj=>(ls[j]?).map λl=>(j,l))
 | _=>.fail
theorem SF.Qj (i:Nat) {k:List ci->List (List PV)->W T} (hs:fs[i]?=ap (ap (.qF bs ls))) (hK:X.K=K) (hN:X.N[i]?=ap y) (hv:yr X.env.scope y) (he:LF X K fs e wl) (hr:∀ď WO,SF X K x (fs.set i (ap (.qF ď WO))) rest (k ď WO) out)
  (hd:jg y:=by decide) (iV:yK y:=by decide) (eY:pc (.Name y p) "append" X.env (kw (.Name y p) X.env)=kw (.Name y p) X.env:=by rfl)
  (sP:YQ X cu [e]:=by rfl)
  (eX:QJ Ã cu:=by rfl) (xr:iB X e []:=by rfl) (hZ:lH X cu []:=by rfl)
  (qg:kt (.Call (.Attribute (.Name y p) "append" Ã) [e] [] cu) bm pos.line X.env=pure false:=by rfl) :
  SF X K x fs (.Expr (.Call (.Attribute (.Name y p) "append" Ã) [e] [] cu) pos::rest) (.bind wl λl=>.fg (ls.length < sizeLine) (.bind (.any λ_=>True) λď=>.bind (.ret (ls++[l])) λWO=>k ď WO)) out:=
 SF.step (nv (wN K hK B7 Es Er sf (dr hN hv hd iV) (bz he.p cX xr) eY sP eX xr hZ) qg) λD σ H ⟨sr,q⟩=>by
  obtain⟨a,e1,q1,q2,q3,q4,q5⟩:=jr sr hs;refine⟨_,e1,.inl ⟨rfl,_,di.of q1⟩,sr,wl.mono (λl ql b vs H1 g1 s1 nb eb vl=>?_) q⟩;obtain⟨a',m6,r1,r2,r3,r4,r5⟩:=jr s1 hs;rw [e1] at m6;cases m6;refine⟨a,_,_,rfl,rfl,r1,by rw [Ag,r4];exact ql.1,λH2 sx h2=>?_⟩;have hq:=ql.2 (bs++[b]) trivial;have Ha:H a≠bm:=λz=>by rw [q1] at z;cases z
  have ab:a≠b:=λz=>Ha (z▸nb);have bin:∀c∈bs,∃ws,H c=ap (.lst ws):=λc hc=>by
   obtain⟨j,hj⟩:=CT hc;obtain⟨ws,e,_⟩:=q5 j c _ hj (Ae (by rw [<- q4];exact (Am.mp hj).1));exact⟨ws,e⟩
  have bn:b∉bs:=λz=>by obtain⟨ws,e⟩:=bin b z;rw [nb] at e;cases e
  have nbo:=sr.noOwn nb;have tk:bB K H1 H2:=⟨λc us z=>sx c _ (λw=>by subst w;rw [r1] at z;cases z) z,λc o u z=>sx c _ (λw=>by subst w;rw [r1] at z;cases z) z⟩;have oa:iP K H2 a (.qF (bs++[b]) (ls++[l])):=by
   refine⟨by rw [h2,A5];rfl,λz=>?_,?_,by simp [r4],λj c l' h1 h3=>?_⟩
   ·rcases AG.mp z with z | z
    ·exact r2 z
    ·exact ab (by simpa using z)
   ·exact CN.mpr ⟨r3,by simp,λu hu v hv w=>by simp at hv;subst hv;subst w;exact bn hu⟩
   ·rcases iW h1 with h1 | ⟨rfl,rfl⟩
    ·rcases iW h3 with h3 | ⟨rfl,rfl⟩
     ·obtain⟨ws,f1,f2⟩:=r5 j c l' h1 h3;exact⟨ws,sx c _ (λz=>by subst z;exact r2 (Bm h1)) f1,aM.tk tk f2⟩
     ·have:=(Am.mp h1).1;omega
    ·rcases iW h3 with h3 | ⟨_,rfl⟩
     ·have:=(Am.mp h3).1;omega
     ·exact⟨vs,sx c _ (BG ab) eb,aM.tk tk vl⟩
  have Xp:∀c,(SL.qF (bs++[b]) (ls++[l])).has a c->(SL.qF bs ls).has a c\/c=b:=λc h=>by
   rcases h with h | h
   ·exact .inl (.inl h)
   ·rcases AG.mp (show c∈bs++[b] from h) with h | h
    ·exact .inl (.inr h)
    ·exact .inr (by simpa using h)
  have s2:aZ K H2 σ (fs.set i (ap (.qF (bs++[b]) (ls++[l])))):=by
   refine⟨by simp [s1.len],λj t z=>?_,λj k t u b1 b2 c z1 z2 o1 o2 y1 y2 w1 w2=>?_⟩
   ·rcases bf z with⟨rfl,rfl⟩ | ⟨n,z⟩
    ·exact⟨_,e1,.inr ⟨a,rfl,oa⟩⟩
    ·obtain⟨u,m1,m2⟩:=s1.at' j t z;exact⟨u,m1,m2.mono tk (λx c o ec ow hc zz=>sx c o (λw=>by subst ec;subst w;exact n (s1.nd j i t _ x c c z hs ow rfl m1 e1 hc (.inl rfl))) zz)⟩
   ·have N6:∀{j:Nat}{t:SL}{c':ci},fs[j]?=ap (ap t)->t.own=true->σ[j]?=ap (ap (.ref c'))->¬t.has c' b:=λ{j t c'} m1 m2 m3 m4=>nbo ⟨j,t,c',m1,m2,m3,m4⟩;rcases bf z1 with⟨rfl,rfl⟩ | ⟨n1,v1⟩ <;> rcases bf z2 with⟨m,rfl⟩ | ⟨n2,v2⟩
    ·exact m.symm
    ·rw [e1] at y1;cases y1;rcases Xp c w1 with w1 | w1
     ·exact s1.nd _ k _ u _ b2 c hs v2 rfl o2 e1 y2 w1 w2
     ·exact absurd (w1▸w2) (N6 v2 o2 y2)
    ·subst m;rw [e1] at y2;cases y2;rcases Xp c w2 with w2 | w2
     ·exact s1.nd j _ t _ b1 _ c v1 hs o1 rfl y1 e1 w1 w2
     ·exact absurd (w2▸w1) (N6 v1 o1 y1)
    ·exact s1.nd j k t u b1 b2 c v1 v2 o1 o2 y1 y2 w1 w2
  have g2:cT σ fs H σ (fs.set i (ap (.qF (bs++[b]) (ls++[l])))) H2:=by
   refine⟨λc o z n=>⟨sx c o (λw=>by subst w;exact n ⟨i,_,c,hs,rfl,e1,.inl rfl⟩) (g1.pK z n),λyy=>?_⟩,λc z=>?_,λc φ z=>?_⟩
   ·obtain⟨j,t,x,z1,z2,z3,z4⟩:=yy;rcases bf z1 with⟨rfl,rfl⟩ | ⟨m,z1⟩
    ·rw [e1] at z3;cases z3;rcases Xp c z4 with z4 | rfl
     ·exact n ⟨j,_,_,hs,rfl,e1,z4⟩
     ·rw [nb] at z;cases z
    ·exact n ⟨j,t,x,z1,z2,z3,z4⟩
   ·refine g1.there c ?_;cases zz:H1 c with
    | none=>rfl
    | some o=>
     by_cases ca:c=a
     ·subst ca;rw [h2] at z;cases z
     ·rw [sx c o ca zz] at z;cases z
   ·obtain⟨j,p1,p2⟩:=z;have ji:j≠i:=λw=>by subst w;rw [hs] at p1;cases p1
    exact .inl ⟨j,by rw [aL ji];exact p1,p2⟩
  exact⟨_,k _ _,hr _ _,s2,(k _ _).mono (λt q2=>q2.go g2 sr s2) hq⟩
theorem SF.Zz (i:Nat) {k:List (List PV)->W T} (hs:fs[i]?=ap (ap (.qF bs ls))) (hK:X.K=K) (hN:X.N[i]?=ap y) (hv:yr X.env.scope y) (he:EF X K fs e we) (h1:EF X K fs e1 w1) (h2:EF X K fs e2 w2) (uG:qX e1) (hr:∀WO,SF X K x (fs.set i (ap (.qF bs WO))) rest (k WO) out)
  (ha:∀v,ww (.Subscript (.Subscript (.Name y p) e1 rF) e2 gq) X.env v=(do
   let ov <- re [v] (kw (.Subscript (.Name y p) e1 rF) X.env)
   let iv <- re [v,ov] (kw e2 X.env)
   FB gq
   re [v,ov,iv] (xL ov iv v)
   release [v,ov,iv] []):=by intro _;rfl)
  (hd:jg y:=by decide) (iV:yK y:=by decide) (ê:EQ [.Subscript (.Subscript (.Name y p) e1 rF) e2 gq] e pos.line X.env=pure false:=by rfl) (hw:Fa [.Subscript (.Subscript (.Name y p) e1 rF) e2 gq] e X.env=pure bm:=by rfl)
  (hq1:(wf [.Subscript (.Subscript (.Name y p) e1 rF) e2 gq] X.env).map (·.2)=[ww (.Subscript (.Subscript (.Name y p) e1 rF) e2 gq) X.env]:=by rfl) :
  SF X K x fs (.Assign [.Subscript (.Subscript (.Name y p) e1 rF) e2 gq] e pos::rest) (.bind we λv=>.bind w1 λn=>.bind (SG ls n) λjl=>.bind w2 λm=>.bind (fX jl.2 m v) λl'=>.bind (.ret (ls.set jl.1 l')) k) out:=
 SF.step (wJ he.p (NN (NR (J0 K hK) (dr hN hv hd iV) h1.p uG) h2.p oJ ha) ê hw hq1) λD σ H ⟨sr,q⟩=>by
  refine⟨sr,we.mono (λv qv u H1 g1 s1 v1=>?_) q⟩;obtain⟨a,m6,q1,q2,q3,q4,q5⟩:=jr s1 hs;refine⟨_,m6,s1,w1.mono (λn qn u2 H2 g2 s2 v2=>?_) qv⟩;obtain⟨a2,XQ,r1,r2,r3,r4,r5⟩:=jr s2 hs;rw [m6] at XQ;cases XQ;cases v2 with
  | int kk=>
   have qn:(W.N3 ((mn ls.length kk).bind λj=>(ls[j]?).map λl=>(j,l))).run _:=qn;cases hj:mn ls.length kk with
   | none=>rw [hj] at qn;exact qn.elim
   | some j=>
    have jl:=(xk hj).2.1;have hl:ls[j]?=ap ls[j]:=Ae jl;rw [hj] at qn;simp only [Option.bind_some] at qn;rw [hl] at qn;have qn:(am w2 λm=>.bind (fX ls[j] m v) λl'=>.bind (.ret (ls.set j l')) k).run _:=qn;have hb:bs[j]?=ap (bs[j]'∅):=Ae ∅;generalize bs[j]'∅=b at hb;generalize ls[j]=l at hl qn;have hix:bX (bs.map V.ref) kk=ap (.ref b):=by
     unfold bX;rw [Ag,r4,hj];show (bs.map V.ref)[j]?=_;rw [Aj,hb];rfl
    refine .inl ⟨a,_,kk,.ref b,rfl,rfl,di.of r1,hix,s2,w2.mono (λm qm u3 H3 g3 s3 v3=>?_) qn⟩;obtain⟨a3,U8,p1,p2,p3,p4,p5⟩:=jr s3 hs;rw [m6] at U8;cases U8;cases v3 with
    | int k2=>
     have qm:(match mn l.length k2 with | some j2=>bd (l.set j2 v) | none=>W.fail).run _:=qm;cases OQ:mn l.length k2 with
     | none=>rw [OQ] at qm;exact qm.elim
     | some j2=>
      rw [OQ] at qm;obtain⟨ws,f1,f2⟩:=p5 j b l hb hl;refine⟨b,ws,k2,j2,rfl,rfl,f1,by rw [f2.length];exact OQ,λH4 sx h4=>?_⟩;have ĵ:=Bm hb;have ab:a≠b:=λz=>p2 (z▸ĵ);obtain⟨s4,g4⟩:=pH (t':=.qF bs (ls.set j (l.set j2 v))) s3 hs rfl (by simp) m6 (c:=b) (.inr ĵ) (.inr ĵ) (λc h=>h) rfl sx λtk=>by
       refine⟨sx a _ ab p1,p2,p3,by simp [p4],λj' b' l' m1 m2=>?_⟩;by_cases c:j'=j
       ·subst c;rw [hb] at m1;cases m1;rw [Bu ∅] at m2;cases m2;exact⟨_,h4,aM.tk tk (f2.set ((g2.trans g3).vr s1 v1) j2)⟩
       ·rw [Bf (BG c)] at m2;obtain⟨pW,f3,f4⟩:=p5 j' b' l' m1 m2;refine⟨pW,sx b' _ (λz=>?_) f3,aM.tk tk f4⟩;subst z;have h1:=Am.mp hb;have h2:=Am.mp m1;exact c ((EI p3).mp (h2.2.trans h1.2.symm))
      exact⟨_,k _,hr _,s4,(k _).mono (λt q3=>q3.go (((g1.trans g2).trans g3).f.trans g4) sr s4) qm⟩
    | _=>exact qm.elim
  | _=>exact qn.elim
end
end
end FL
variable {κ:PyProof.Rows.SortKind}{a:BK}{vs:List Bb}{p:Array Nat}{m:Nat}
namespace L2
open PySem PySem.Spec PyProof.Rows
def fi (N:Nat) (P:α->Prop):DW α->Prop
 | .ret a=>P a
 | .ask i j k=>i < N/\j < N/\∀b,fi N P (k b)
theorem fi.mono {N:Nat}{P P':α->Prop} (h:∀a,P a->P' a):∀{t:DW α},fi N P t->fi N P' t
 | .ret a,q=>h a q
 | .ask i j k,q=>⟨q.1,q.2.1,λb=>fi.mono h (q.2.2 b)⟩
theorem fi.bind {N:Nat}{P:α->Prop}{P':β->Prop}{f:α->DW β} (hf:∀a,P a->fi N P' (f a)):∀{t:DW α},fi N P t->fi N P' (t.bind f)
 | .ret a,q=>hf a q
 | .ask i j k,q=>⟨q.1,q.2.1,λb=>fi.bind hf (q.2.2 b)⟩
theorem fi.wp {N:Nat}{P:α->Prop}{cmp:Nat->Nat->(Bool->cr->Prop)->cr->Prop}{Q:α->cr->Prop} (hc:∀i j C,i < N->j < N->(∀b,C b s)->cmp i j C s) (hq:∀a,P a->Q a s):∀{t:DW α},fi N P t->t.kasWp cmp Q s
 | .ret a,q=>hq a q
 | .ask i j k,q=>hc i j _ q.1 q.2.1 λb=>fi.wp hc hq (q.2.2 b)
def c9 (N:Nat) (p:Array Nat):Prop:=p.toList.Perm (Av N)
def c9.lt {N:Nat} (h:c9 N p) (h0:0 < N) (k:Nat):p.getD k 0 < N:=by
 by_cases c:k < p.size
 ·have:p.getD k 0=p[k]:=by simp [Array.getD,c]
  rw [this];exact AL.mp (h.mem_iff.mp (by simp))
 ·have:p.getD k 0=0:=by simp [Array.getD,c]
  rw [this];exact h0
def c9.rev {N:Nat} (h:c9 N p) (i j:Nat):c9 N (E3 p i j):=(Eg.mp (mirror_perm p i j _)).trans h
def c9.bub {N:Nat} (h:c9 N p) (i j:Nat):c9 N (bubble p i j):=(Eg.mp (bubble_perm p i j)).trans h
section
variable {N:Nat} (h0:0 < N)
include h0
theorem Oz (h:c9 N p):∀f n,fi N (λ_=>True) (PySem.W.kas_asc p f n)
 | 0,n=>trivial
 | f+1,n=>⟨h.lt h0 _,h.lt h0 _,λb=>by
  cases b with
  | true=>exact trivial
  | false=>exact Oz h f (n+1)⟩
theorem xi:∀f (p:Array Nat) n q,c9 N p->fi N (λr=>c9 N r.1) (PySem.W.kas_desc f p n q)
 | 0,p,n,q,h=>h
 | f+1,p,n,q,h=>⟨h.lt h0 _,h.lt h0 _,λb=>by
  cases b with
  | true=>
   show fi N _ (if q > 0 then _ else _)
   split
   ·exact xi f _ _ _ (h.rev _ _)
   ·exact xi f _ _ _ h
  | false=>exact⟨h.lt h0 _,h.lt h0 _,λb=>by
    cases b with
    | true=>exact h
    | false=>exact xi f _ _ _ h⟩⟩
def Ox (h:c9 N p):fi N (λr=>c9 N r.2) (PySem.W.kas_tail3 n m p):=by
 exact fi.bind (N:=N) (P:=λ_=>True) (P':=λr:Nat×Array Nat=>c9 N r.2) (f:=λk=>.ret (k,E3 p 0 n)) (λk _=>(show c9 N (E3 p 0 n) from h.rev _ _)) (Oz h0 (h.rev _ _) _ _)
def Oy (h:c9 N p):fi N (λr=>c9 N r.2) (PySem.W.kas_descPart n m p):=fi.bind (λr hr=>by
 split
 ·exact Ox h0 (hr.rev _ _)
 ·exact Ox h0 hr) (xi h0 _ _ _ _ h)
def SA (h:c9 N p):fi N (λr=>c9 N r.2) (PySem.W.kas_count m p):=fi.bind (λn _=>by
 split
 ·exact h
 ·split
  ·exact⟨h.lt h0 _,h.lt h0 _,λb=>by
    cases b with
    | true=>exact h
    | false=>exact Oy h0 (h.rev _ _)⟩
  ·exact Oy h0 h) (Oz h0 h _ _)
theorem xh (h:c9 N p) (k:Nat):∀f l r,fi N (λ_=>True) (PySem.W.kas_place p k f l r)
 | 0,l,r=>trivial
 | f+1,l,r=>by
  show fi N _ (if l≥r then _ else _)
  split
  ·exact trivial
  ·exact⟨h.lt h0 _,h.lt h0 _,λb=>by
    cases b with
    | true=>exact xh h k f _ _
    | false=>exact xh h k f _ _⟩
theorem UI:∀f (p:Array Nat) k,c9 N p->fi N (c9 N) (PySem.W.kas_bin f p k)
 | 0,p,k,h=>h
 | f+1,p,k,h=>fi.bind (λl _=>UI f _ _ (h.bub _ _)) (xh h0 h k _ _ _)
def W8:fi N (c9 N) (FN N):=fi.bind (λr hr=>by
 split
 ·exact UI h0 _ _ _ hr
 ·exact hr) (SA h0 (List.Perm.refl _))
end
section
theorem Hs {P:PySem.Fin->cr->Prop} (ho:s.heap.get? a=ap (tz "list" vs.toArray n)) (ó:vs.length < 64)
  (Į:2<=vs.length->∀h',(∀b o,b≠a->s.heap.get? b=ap o->h'.get? b=ap o)->db (dL prog w) A (keyKind' vs.toArray) (λk s'=>k=κ/\s'={s with heap:=h'}) (λ_ _=>False) {s with heap:=h'})
  (lT:∀h',(∀b o,b≠a->s.heap.get? b=ap o->h'.get? b=ap o)->∀i j,i < vs.length->j < vs.length->∀C:Bool->cr->Prop,(∀b,C b {s with heap:=h'})->db (dL prog w) A (keyLt' κ (vs.getD i AZ) (vs.getD j AZ)) C (λ_ _=>False) {s with heap:=h'})
  (h:∀out:List ce,out.Perm vs->P (.done (.ret .none)) {s with heap:=sortedHeap s.heap a vs out.toArray}) :
  db (dL prog w) A (wT.«list.sort» ⟨[.ref a],[]⟩) P E s:=by
 rw [list_sort_plain];have ha:=Ar ho;refine Aa (listItems_at ho rfl ?_);refine Aa (listUpdate_at ho rfl ?_);obtain⟨e1,ho1⟩:∃e1,(s.heap.update a (Bq λ_=>#[])).get? a=ap (tz "list" #[] e1):=⟨_,get?_update_seq ho (λ_=>#[])⟩;refine Aa (seqEpoch_at ho1 rfl ?_);refine Aa (CS ?_);refine Aa (wpAny_newList ?_);refine Bc ?_;have ĉ:(((s.heap.update a (Bq λ_=>#[])).push (tz "tuple" vs.toArray 0)).push (tz "list" #[] 0)).get? a=ap (tz "list" #[] e1):=by
  rw [Heap.get?_push_ne _ _ _ (by rw [size_push',EB];exact AI (Di ha)),Heap.get?_push_ne _ _ _ (by rw [EB];exact AI ha)];exact ho1
 have kp:∀b o,b≠a->s.heap.get? b=ap o->(((s.heap.update a (Bq λ_=>#[])).push (tz "tuple" vs.toArray 0)).push (tz "list" #[] 0)).get? b=ap o:=λb o n e=>Ah _ (Ah _ (by rw [Fu _ _ _ _ n];exact e));dsimp only;have hsz:vs.toArray.size=vs.length:=by simp
 by_cases h2:vs.toArray.size < 2
 ·rw [if_pos h2,if_pos h2];refine Aa (Af ?_);refine Aa (Af ?_);dsimp only;refine Aa (seqEpoch_at ĉ rfl ?_);refine Aa (listUpdate_at ĉ rfl ?_ (hsz2:=by rw [Array.size_map];show (pairsOf vs).size<=_;rw [pairsOf_size,Ev];omega));simp only [bne_self_eq_false,Ak,if_false];refine Af ?_;have e:(arrOf (SortSt.mk' general' (vs.toArray.zip vs.toArray) #[] 7 bm)).map (·.2)=vs.toArray:=by
   apply EL.mp;simp [List.map_snd_zip]
  show P _ {s with heap:=_};rw [e];exact h vs (List.Perm.refl _)
 ·rw [if_neg h2,if_neg h2];have ub:2<=vs.length:=by omega
  refine Aa (BO (Į ub _ kp) (λk s0 hk=>?_) λ_ _ x=>x.elim);obtain⟨rfl,rfl⟩:=hk;have hw:(FN vs.length).kasWp (PySem.W.kas_ask prog w A k vs) (λp s'=>c9 vs.length p/\s'={s with heap:=((s.heap.update a (Bq λ_=>#[])).push (tz "tuple" vs.toArray 0)).push (tz "list" #[] 0)}) {s with heap:=((s.heap.update a (Bq λ_=>#[])).push (tz "tuple" vs.toArray 0)).push (tz "list" #[] 0)}:=
   fi.wp (λi j C hi hj hC=>lT _ kp i j hi hj C hC) (λp hp=>⟨hp,rfl⟩) (W8 (show 0 < vs.length by omega))
  refine Aa (BO (PySem.W.kat_run (Q:=λmZ s'=>∃p:Array Nat,c9 vs.length p/\arrOf mZ=p.map (PySem.W.kas_item (vs.toArray.zip vs.toArray))/\failedOf mZ=bm/\s'={s with heap:=((s.heap.update a (Bq λ_=>#[])).push (tz "tuple" vs.toArray 0)).push (tz "list" #[] 0)})
   rfl ub ó (λp' mZ s' a1 a2 a3 a4=>⟨p',a4.1,a2,a3,a4.2⟩) hw) ?_ λ_ _ e=>e)
  rintro⟨⟨⟩,mZ⟩ s' ⟨p,hp,har,hf,rfl⟩;have zP:=PySem.W.kat_snds rfl har;have UQ:(p.toList.map λi=>vs.getD i AZ).Perm vs:=by
   have e:(Av vs.length).map (λi=>vs.getD i AZ)=vs:=by
    apply Bn;intro i;by_cases c:i < vs.length
    ·rw [Aj,Bw c,Ae c];show ap (vs.getD i AZ)=_;rw [Ap,Ae c];rfl
    ·rw [Ay (by simp;omega),Ay ∅]
   have:=hp.map (λi=>vs.getD i AZ);rw [e] at this;exact this
  rw [zP];refine Aa (seqEpoch_at ĉ rfl ?_);refine Aa (listUpdate_at ĉ rfl ?_ (hsz2:=by rw [Ai,UQ.length_eq,Ev];omega));rw [hf];simp only [bne_self_eq_false,Ak,if_false];exact Af (h _ UQ)
def Rc {l:ci} (hl:s.heap.IsList l vs.toArray) (ó:vs.length < 64)
  (Į:2<=vs.length->∀h',(∀b o,s.heap.get? b=ap o->h'.get? b=ap o)->db (dL prog w) A.in1.in1 (keyKind' vs.toArray) (λk s'=>k=κ/\s'={s with heap:=h'}) (λ_ _=>False) {s with heap:=h'})
  (lT:∀h',(∀b o,s.heap.get? b=ap o->h'.get? b=ap o)->∀i j,i < vs.length->j < vs.length->∀C:Bool->cr->Prop,(∀b,C b {s with heap:=h'})->db (dL prog w) A.in1.in1 (keyLt' κ (vs.getD i AZ) (vs.getD j AZ)) C (λ_ _=>False) {s with heap:=h'})
  (h:∀out:List ce,out.Perm vs->Q (.ref (s.heap.objs.size+1)) {s with heap:=sortedAll s.heap vs out.toArray}) :
  db (dL prog w) A (call (.builtin "sorted") [.ref l]) Q E s:=by
 refine Calls.call_function_entry kind_sorted plain_sorted entry_sorted (args_sorted1 _) ?_;refine Aa (m:=checkCount "sorted" 1 1 _) (Af ?_);refine Aa (collect_list hl ?_);refine Aa (wpAny_newList ?_);have hsz:((s.heap.push (tz "list" #[] 0)).update s.heap.objs.size (Bq (·++vs.toArray))).objs.size=s.heap.objs.size+1:=by
  rw [EB,size_push']
 have Ĉ:(((s.heap.push (tz "list" #[] 0)).update s.heap.objs.size (Bq (·++vs.toArray))).push (tz "list" vs.toArray 0)).get? (s.heap.objs.size+1)=ap (tz "list" vs.toArray 0):=by
  rw [<- hsz];exact Aq _ rfl
 have kp:∀b o,s.heap.get? b=ap o->b≠s.heap.objs.size+1/\(((s.heap.push (tz "list" #[] 0)).update s.heap.objs.size (Bq (·++vs.toArray))).push (tz "list" vs.toArray 0)).get? b=ap o:=λb o e=>by
  have lt:=Ar e;refine⟨AI (Di lt),Ah _ ?_⟩;rw [Fu _ _ _ _ (AI lt)];exact Ah _ e
 show db _ _ _ _ _ {s with heap:=((s.heap.push (tz "list" #[] 0)).update s.heap.objs.size (Bq (·++vs.toArray))).push (tz "list" vs.toArray 0)};rw [hsz];refine Aa (Bc (Bg slot_list_sort ⟨_,Ĉ,rfl⟩ entry_list_sort (Hs (κ:=κ) Ĉ ó (λh2 h' k=>?_) (λh' k=>?_) λout hp=>⟨_,rfl,?_⟩) (args_list_sort _)))
 ·exact Į h2 h' λb o e=>k b o (kp b o e).1 (kp b o e).2
 ·exact lT h' λb o e=>k b o (kp b o e).1 (kp b o e).2
 ·exact Af ⟨_,rfl,h out hp⟩
end
end L2
variable {x:PL.PV}{i j:Int}{p:Cu}
namespace FL
section
open PySem PySem.Spec PyProof.Rows L2 PL
variable {K:Ab}
def oY:PV->Bool
 | .tup [.str _,.tup [.int _,.int _]]=>true
 | _=>false
def HE (h:oY x=true):∃s i j,x=.tup [.str s,.tup [.int i,.int j]]:=by
 unfold oY at h
 split at h
 ·exact⟨_,_,_,rfl⟩
 ·cases h
section
def Tv (I:Inv X Z σ H s) {v:V}{u:ce} (hv:VR X.K [] H v x) (ru:RelV v u) (hx:oY x=true):∃(a b:ci) (st:Str) (i j:Int) (t t1 t2:Tok) (oa ob:Obj) (na nb:Nat),u=.ref a/\s.heap.get? a=ap oa/\oa.cls=.type "tuple"/\oa.data=.seq #[.str st t,.ref b] na/\s.heap.get? b=ap ob/\ob.cls=.type "tuple"/\ob.data=.seq #[.int i t1,.int j t2] nb:=by
 obtain⟨st,i,j,rfl⟩:=HE hx;cases hv with
 | @tup p vs _ e r=>
 cases ru;cases r with
 | cons r1 r2=>
 cases r1;cases r2 with
 | cons r2 r3=>
 cases r3;cases r2 with
 | @tup b ws _ e2 r4=>
 cases r4 with
 | cons r4 r5=>
 cases r4;cases r5 with
 | cons r5 r6=>
 cases r6;cases r5;obtain⟨aw,rv,⟨o,h1,h2,n,h3⟩,_⟩:=I.tuple (dU.of (K:=X.K) e);obtain⟨cJ,rv2,⟨o2,k1,k2,n2,k3⟩,_⟩:=I.tuple (dU.of (K:=X.K) e2);cases rv with
 | cons q1 q2=>
 cases q2 with
 | cons q2 q3=>
 cases q3;cases rv2 with
 | cons m1 m2=>
 cases m2 with
 | cons m2 m3=>
 cases m3;obtain⟨t,rfl⟩:=q1;cases q2;obtain⟨t1,rfl⟩:=m1;obtain⟨t2,rfl⟩:=m2;exact⟨p,b,st,i,j,t,t1,t2,o,o2,n,n2,rfl,h1,h2,h3,k1,k2,k3⟩
end
theorem Tt {b a' b':ci}{st mZ:Str}{i' j':Int}{t t1 t2 t' Zu Zs:Tok}{oa Yq WA:Obj}{na nb na' Ę:Nat} (hu:A.units+1 < o0)
  (h1:s.heap.get? a=ap oa) (h3:oa.data=.seq #[.str st t,.ref b] na) (k1:s.heap.get? b=ap ob) (k2:ob.cls=.type "tuple") (k3:ob.data=.seq #[.int i t1,.int j t2] nb)
  (iw:s.heap.get? a'=ap Yq) (HL:Yq.data=.seq #[.str mZ t',.ref b'] na') (ĝ:s.heap.get? b'=ap WA) (Ĝ:WA.cls=.type "tuple") (ě:WA.data=.seq #[.int i' Zu,.int j' Zs] Ę)
  {C:Bool->cr->Prop} (hC:∀b,C b s):db (dL prog w) A (keyLt' (tuples' true) (.ref a) (.ref a')) C (λ_ _=>False) s:=by
 refine PySem.W.kat_lt h1 h3 iw HL (FK (Dp.str_str st t mZ t' prog w _ _ (PySem.W.kat_go (λ_=>PySem.W.kat_yes ?_) λ_=>PySem.W.kat_no ?_)))
 ·refine FK ?_;have hT:s.heap.IsTuple b #[.int i t1,.int j t2]:=⟨ob,k1,k2,nb,k3⟩;have hT':s.heap.IsTuple b' #[.int i' Zu,.int j' Zs]:=⟨WA,ĝ,Ĝ,Ę,ě⟩;have go:∀e,PySem.W.KatGo prog w A true (decide ((#[Dn st t,.ref b]:Array ce).size < (#[Dn mZ t',.ref b']:Array ce).size)) C (.ref b) (.ref b') [] 1 e s:=λe=>PySem.W.kat_go (λ_=>PySem.W.kat_yes (PySem.W.kat_nil (hC _))) λ_=>PySem.W.kat_no (PySem.W.kat_one _ _ (HT.Hq hT hT' (.cons i t1 (.cons j t2 .nil)) (.cons i' Zu (.cons j' Zs .nil)) ∅ (hC _)));by_cases c:b=b'
  ·subst c;exact FU (.ref b) prog w _ _ (go _)
  ·refine FC c (FE (e:=λk=>if k=0 then i==i' else j==j') hT hT' ∅ λk g1 g2=>?_) prog w _ _ (go _);have:k=0\/k=1:=by simp at g1;omega
   rcases this with rfl | rfl
   ·exact D5 i t1 i' Zu
   ·exact D5 j t2 j' Zs
 ·exact oneLt_str (hC _)
section
def VS (K:Ab):List V->Hp->VK->Prop:=λxs H Q=>∃(p:ci) (vs:List V) (l:List PV),xs=[.ref p]/\di K H p vs/\aM K [] H vs l/\l.length < 64/\l.all oY=true/\∀m:List PV,m.Perm l->∀ws,aM K [] H ws m->kA H (.lst ws) Q
def NQ {vs:List V}{out:List ce} (r:Vals vs us) (v:aM K [] H vs l) (p:out.Perm us):∃ws m,Vals ws out/\aM K [] H ws m/\m.Perm l:=by
 induction p generalizing vs l with
 | nil=>cases r;cases v;exact⟨[],[],.nil,.nil,.refl _⟩
 | cons x p ih=>
  cases r with
  | cons r1 r2=>
  cases v with
  | cons v1 v2=>
  obtain⟨ws,m,a,b,c⟩:=ih r2 v2;exact⟨_::ws,_::m,.cons r1 a,.cons v1 b,.cons _ c⟩
 | swap x y l'=>
  cases r with
  | cons r1 r2=>
  cases r2 with
  | cons r2 r3=>
  cases v with
  | cons v1 v2=>
  cases v2 with
  | cons v2 v3=>exact⟨_::_::_,_::_::_,.cons r2 (.cons r1 r3),.cons v2 (.cons v1 v3),.swap _ _ _⟩
 | trans p1 p2 ih1 ih2=>
  obtain⟨ws,m,a,b,c⟩:=ih2 r v;obtain⟨pW,m',a',b',c'⟩:=ih1 a b;exact⟨pW,m',a',b',c'.trans c⟩
theorem Iz (hK:X.K=K) (hu:X.A.units+200 < o0):bR X (.builtin "sorted") (VS K):=by
 subst hK;intro Z s σ H xs us Q I r h;obtain⟨p,vs,l,rfl,hq,hv,ó,hd,q⟩:=h;obtain⟨u,rfl,rx⟩:=vals1 r;cases rx;obtain⟨aw,r',pl,hz⟩:=I.list hq;have hl:=r'.length;have MF:=hv.length;have el:∀i,i < aw.length->∃(a b:ci) (st:Str) (i1 j1:Int) (t t1 t2:Tok) (oa ob:Obj) (na nb:Nat),aw.getD i AZ=.ref a/\s.heap.get? a=ap oa/\oa.cls=.type "tuple"/\oa.data=.seq #[.str st t,.ref b] na/\s.heap.get? b=ap ob/\ob.cls=.type "tuple"/\ob.data=.seq #[.int i1 t1,.int j1 t2] nb:=λi hi=>by
  have e1:vs[i]?=ap vs[i]:=Ae ∅;obtain⟨x,ex,vx⟩:=hv.aa8 e1;have hx:=Cw.mp hd x (Bm ex);have ru:RelV vs[i] (aw.getD i AZ):=by
   obtain⟨u,ģ,Ģ⟩:=Vals.get r' e1;rw [Ap,ģ];exact Ģ
  exact Tv I vx ru hx
 refine Rc (κ:=tuples' true) pl.isList ∅ (λh2 h' kp=>?_) (λh' kp i j hi hj C hC=>?_) λout hp=>?_
 ·have Þ:∀l:List ce,(∀v∈l,∃(a:ci) (x:ce) (st:Str) (t:Tok) (oa:Obj) (na:Nat),v=.ref a/\h'.get? a=ap oa/\oa.cls=.type "tuple"/\oa.data=.seq #[.str st t,x] na)->∃fs,PySem.W.KatTups h' l fs/\fs.length=l.length/\∀v∈fs,∃st t,v=Dn st t:=by
   intro l
   induction l with
   | nil=>intro _;exact⟨[],trivial,rfl,by simp⟩
   | cons v l ih=>
    intro hl;obtain⟨fs,f1,f2,f3⟩:=ih λy hy=>hl y (.tail _ hy);obtain⟨a,x,st,t,oa,na,rfl,g1,g2,g3⟩:=hl v (.head _);refine⟨.str st t::fs,PySem.W.KatTups.cons g1 g2 g3 rfl f1,by simp [f2],λy hy=>?_⟩;rcases Ax.mp hy with rfl | hy
    ·exact⟨st,t,rfl⟩
    ·exact f3 y hy
  obtain⟨fs,f1,f2,f3⟩:=Þ aw λv hv=>by
   obtain⟨i,hi,rfl⟩:=DU hv;obtain⟨a,b,st,i1,j1,t,t1,t2,oa,ob,na,nb,e,h1,h2,h3,_⟩:=el i hi;rw [Ap,Ae hi] at e;exact⟨a,.ref b,st,t,oa,na,e,kp _ _ h1,h2,h3⟩
  refine PySem.W.kat_kind (T:=.type "str") f1 ∅ (λv hv=>?_) ⋯ ⟨rfl,rfl⟩;obtain⟨st,t,rfl⟩:=f3 v hv;exact PySem.W.Looks.now
 ·obtain⟨a,b,st,i1,j1,t,t1,t2,oa,ob,na,nb,e,h1,h2,h3,k1,k2,k3⟩:=el i hi;obtain⟨a',b',mZ,i1',j1',t',Zu,Zs,Yq,WA,na',Ę,e',iw,ub,HL,ĝ,Ĝ,ě⟩:=el j hj;rw [e,e'];exact Tt (s:={s with heap:=h'}) (by show X.A.units+1+1+1 < _;omega) (kp _ _ h1) h3 (kp _ _ k1) k2 k3 (kp _ _ iw) HL (kp _ _ ĝ) Ĝ ě hC
 ·obtain⟨ws,m,a1,a2,a3⟩:=NQ r' hv hp;obtain⟨e,he⟩:=sortedAll_at s.heap aw out.toArray;refine⟨.ref (s.heap.objs.size+1),_,I.laid (t':=s.toks) (λ_ _=>sortedAll_old) (Fo _) (show bx X.prog X.w _ _ _ (.lst ws) from⟨?_,out,e,a1,he⟩),rfl,(q m a3 ws a2).at _ (I.bH.fresh (Fo _))⟩;rw [a2.length,a3.length_eq];rw [<- MF];exact hz
def Ng (l:List PV):W (List PV):=.fg (l.length < 64/\l.all oY=true) (.any λm=>m.Perm l)
def Sr (hK:X.K=K) (hu:X.A.units+200 < o0) (hg:Gl X "sorted") (hm:X.mg "sorted"=bm) (ha:GN X K fs e wl) (he:iB X e []:=by rfl) (dJ:lH X pos []:=by rfl):LF X K fs (.Call (.Name "sorted" p) [e] [] pos) (.bind wl Ng):=
 ⟨PE.imp (fZ (Iz hK hu) hg hm boot_sorted (bz ha.p cX he) ⋯ ⋯ he dJ) λσ H Q ⟨sr,q⟩=>⟨sr,wl.mono (λl q1 u1 H1 g1 s1 _ v1=>by
  obtain⟨⟨c1,c2⟩,q2⟩:=q1;obtain⟨a,vs,rfl,h1,r1⟩:=v1 H1 .refl s1;exact⟨a,vs,l,rfl,h1,r1,c1,c2,λm hm ws hw=>JR g1 s1 hw (q2 m hm)⟩) q⟩⟩
end
end
end FL
variable {x:Cp}
namespace L2
open PySem PySem.Spec PyProof.Rows
def KD (z:Str):Str:=⟨placed z λ_ c=>Unicode.upperOf c⟩
def QW (z:Str):Prop:=Builtin.Str.tooLong (KD z).cps.size=false/\(KD z).length<=sizeLine
def VQ:V->List V->Hp->VK->Prop:=λx vs H Q=>∃z,x=.str z/\vs=[]/\QW z/\Q (.str (KD z)) H
def Ob:Mu X "str.upper" VQ:=by
 intro Z s σ H x vs v us Q I rx rv h;obtain⟨z,rfl,rfl,hz,q⟩:=h;obtain⟨t,rfl⟩:=rx;cases rv;refine u8 F.slot_str_upper (typeIs_str _ _ _) F.entry_str_upper (F.args_str_upper_1 _) (gives_str_upper z t hz.1).meets ?_;exact⟨hz.2,⟨.str _,H,I.tok _,⟨_,rfl⟩,q⟩⟩
def RO (G:Qu X.prog X.w X.K X.mg X.base x k ps sp) (hr:cL k' X.A) (hk:k<=k') (hg:Gl X x) (ma:jg x:=by decide):PE X (.Call (.Name x p) [] [] pos) (Ul sp Zh):=by
 intro Z s σ H Q I h;refine BB (xf I hg G.at' ?_ ma);refine PySem.W.callWith_K0 I.tZ G.kp (G7 (us:=[]) (dvs:=[]) (ds:=[]) G.ok (hr.mono hk) G.bi .nil NW I .nil ?_);exact h
end L2
variable {m:List PL.PV->FL.W (List PL.PV)}
namespace FL
open PySem PySem.Spec PyProof.Rows L2 PL
def upW (x:PV):W PV:=match x with
 | .str z=>.fg (QW z) (.ret (.str (KD z)))
 | _=>.fail
def Te {K:Ab}{w:W PV} (hK:X.K=K) (ho:EF X K fs o w)
  (eY:pc o "upper" X.env (kw o X.env)=kw o X.env:=by rfl) (eX:QJ Ã cu:=by rfl) :
  EF X K fs (.Call (.Attribute o "upper" Ã) [] [] cu) (.bind w upW):=
 ⟨PE.imp (JK K hK PySem.F.plainAttrs_str PySem.F.slot_str_upper PySem.F.type_str_upper Ob ho.p eY eX) λσ H Q ⟨sr,q⟩=>⟨sr,w.mono (λx q1 u1 H1 g1 s1 v1=>by
  cases v1 <;> first | exact q1.elim | skip
  exact⟨rfl,_,rfl,rfl,q1.1,q1.2 _ H1 g1 s1 (.str _)⟩) q⟩⟩
theorem lC0 {K:Ab} (G:Qu X.prog X.w X.K X.mg X.base x k ps (eK K [] m)) (hr:cL k' X.A) (hk:k<=k':=by first | exact CI rfl | exact Ao _ | omega) (hg:Gl X x:=by rfl) (hW:WL=m []:=by rfl) (ma:jg x:=by decide) :
  LF X K fs (.Call (.Name x p) [] [] pos) WL:=by
 subst hW;exact⟨PE.imp (RO G hr hk hg ma) λσ H Q ⟨sr,q⟩=>⟨[],.nil,(m []).mono (λz q2 a ws H2 g2 n2 e2 r2=>let ⟨s2,g3⟩:=g2.caller .nil sr;q2 a ws H2 g3 s2 n2 e2 r2) q⟩⟩
def eL (ns:List Int):Prop:=∃g s c:Int,ns=[g,s,c]/\0<=g/\0<=s/\s < 2305843009213693951/\0<=c
def drawn (m:Int):W PV:=.any λv=>∃d:Int,v=.int d/\0<=d/\d < m
def bh:PV->W PV
 | .int m=>.fg (0 < m/\m<=2000) (drawn m)
 | _=>.fail
def oS:of2 (aI g) (.int i) (.int j)=.ret (g i j):=wv λQ=>⟨Cy,λq=>⟨rfl,q⟩⟩
def qG {C:Int->Int->Prop}:of2 (Yb C g) (.int i) (.int j)=.fg (C i j) (.ret (g i j)):=wv λQ=>⟨λq=>⟨q.1,q.2.2⟩,λq=>⟨q.1,rfl,q.2⟩⟩
section
variable (i j:Int) (a b:Bool) (x y:PV) (l m:List PV) (s t:Str)
@[simp] theorem lA:of2 nC (.int i) (.int j)=.ret (.int (i-j)):=oS
@[simp] theorem Pm:of2 oT (.int i) (.int j)=.fg (wn i j) (.ret (.int (i*j))):=qG
@[simp] theorem afs:of2 oDiv (.int i) (.int j)=.fg (Uc i j) (.ret (.int (i / j))):=qG
@[simp] theorem Pn:of2 oMod (.int i) (.int j)=.fg (0 < j) (.ret (.int (i % j))):=qG
@[simp] theorem Ia:of2 uv (.int i) (.int j)=.fg (yF i j) (.ret (.int (i ^ j.toNat))):=qG
@[simp] theorem tE:of2 oLt (.int i) (.int j)=.ret (.bl (decide (i < j))):=oS
@[simp] theorem Kj:of2 oLe (.int i) (.int j)=.ret (.bl (decide (i<=j))):=oS
@[simp] theorem U2:of2 oGt (.int i) (.int j)=.ret (.bl (decide (j < i))):=oS
@[simp] theorem abn:of2 oGe (.int i) (.int j)=.ret (.bl (decide (j<=i))):=oS
@[simp] theorem abm:of2 UN (.int i) (.int j)=.ret (.int (i+j)):=oS
def vE:of2 d9 x y=.fg (LQ x y) (.ret (.bl (kC x y))):=wv λQ=>⟨λq=>⟨q.1,q.2.2⟩,λq=>⟨q.1,rfl,q.2⟩⟩
def U1:of2 He x y=.fg (LQ x y) (.ret (.bl (!kC x y))):=wv λQ=>⟨λq=>⟨q.1,q.2.2⟩,λq=>⟨q.1,rfl,q.2⟩⟩
@[simp] theorem afq:of2 adZ (.bl a) (.bl b)=.ret (.bl (a==b)):=wv λQ=>⟨Cy,λq=>⟨rfl,q⟩⟩
@[simp] theorem vD:of2 nF (.bl a) (.bl b)=.ret (.bl (!(a==b))):=wv λQ=>⟨Cy,λq=>⟨rfl,q⟩⟩
@[simp] theorem mP:of2 K9 x .aO=.ret (.bl x.lg):=wv λQ=>⟨Cy,λq=>⟨rfl,q⟩⟩
@[simp] theorem XI:of2 Sa (.str s) (.str t)=.ret (.bl (!(Builtin.Str.occurrences t s 0 t.length 1).isEmpty)):=wv λQ=>⟨Cy,λq=>⟨rfl,q⟩⟩
def XH {c:Nat} (h:bX s.cps.toList i=ap c):of2 N5 (.str s) (.int i)=.fg (s.length<=sizeLine) (.ret (.str ⟨#[c]⟩)):=wv λQ=>by
 show (s.length<=sizeLine/\match bX s.cps.toList i with | some c=>_/\_ | none=>False)↔_;rw [h];exact⟨λq=>⟨q.1,q.2.2⟩,λq=>⟨q.1,rfl,q.2⟩⟩
@[simp] theorem gH:addW (.int i) (.int j)=.ret (.int (i+j)):=(rfl)
@[simp] theorem Kk:addW (.str s) (.str t)=.fg (s.length+t.length<=sizeLine) (.ret (.str (s++t))):=(rfl)
@[simp] theorem qS:addW (.tup l) (.tup m)=.fg (l.length+m.length<=sizeLine) (.ret (.tup (l++m))):=(rfl)
@[simp] theorem gr:kB (.int i)=.ret (.int (-i)):=(rfl)
@[simp] theorem ba:YK (.bl a)=.ret a:=(rfl)
@[simp] theorem pw (w:W PV):lF (.bl true) w=w:=(rfl)
@[simp] theorem YH (w:W PV):lF (.bl false) w=.ret (.bl false):=(rfl)
@[simp] theorem fV (w:W PV):Gr (.bl true) w=w:=(rfl)
@[simp] theorem qR (w:W PV):Gr (.bl false) w=.ret (.bl false):=(rfl)
@[simp] theorem Pk (w:W PV):orW (.bl true) w=.ret (.bl true):=(rfl)
@[simp] theorem Pl (w:W PV):orW (.bl false) w=w:=(rfl)
@[simp] theorem afo:WB (.bl a)=.ret (.bl (!a)):=(rfl)
@[simp] theorem aX:dj (.bl a)=.ret a:=(rfl)
@[simp] theorem acP:dj (.int i)=.ret (i != 0):=(rfl)
@[simp] theorem acO:dj .aO=.ret false:=(rfl)
@[simp] theorem acN:dj (.tup l)=.ret (!l.isEmpty):=(rfl)
@[simp] theorem acQ:dj (.cl l)=.ret (!l.isEmpty):=(rfl)
@[simp] theorem av:az (.tup l)=.ret l:=(rfl)
@[simp] theorem bT:az (.cl l)=.ret l:=(rfl)
@[simp] theorem n6:su (.cl l)=.ret l:=(rfl)
@[simp] theorem a8:MD l (.int i)=.N3 (bX l i):=(rfl)
@[simp] theorem xP:qe l=.ret (.int l.length):=(rfl)
@[simp] theorem tD:oH l=.ret (.tup l):=(rfl)
@[simp] theorem U3:X4 a=.ret (.bl a):=(rfl)
@[simp] theorem dH:part (.int i)=.ret (ap i):=(rfl)
@[simp] theorem iY:pE (.tup [x,y])=.ret (x,y):=(rfl)
@[simp] theorem XE (z:PV):un3 (.tup [x,y,z])=.ret (x,y,z):=(rfl)
@[simp] theorem Pf (z u:PV):Y8 (.tup [x,y,z,u])=.ret (x,y,z,u):=(rfl)
@[simp] theorem ac0 (k:Kd):fF k (.int i)=.ret (.bl (k.is (.int i))):=(rfl)
@[simp] theorem c7 (k:Kd):fF k (.str s)=.ret (.bl (k.is (.str s))):=(rfl)
@[simp] theorem cO (k:Kd):fF k (.tup l)=.ret (.bl (k.is (.tup l))):=(rfl)
@[simp] theorem ac1 (k:Kd):fF k (.cl l)=.ret (.bl (k.is (.cl l))):=(rfl)
@[simp] theorem ac2 (k:Kd):fF k (.bl a)=.ret (.bl (k.is (.bl a))):=(rfl)
@[simp] theorem acZ (k:Kd):fF k .aO=.ret (.bl (k.is .aO)):=(rfl)
@[simp] theorem bD:qa dQ [.tup l]=.ret (.int l.length):=wv λQ=>⟨Cy,λq=>⟨rfl,q⟩⟩
@[simp] theorem iJ:qa dQ [.cl l]=.ret (.int l.length):=wv λQ=>⟨Cy,λq=>⟨rfl,q⟩⟩
@[simp] theorem Ta:qa dQ [.str s]=.fg (s.length<=sizeLine) (.ret (.int s.length)):=wv λQ=>⟨λq=>⟨q.1,q.2.2⟩,λq=>⟨q.1,rfl,q.2⟩⟩
@[simp] theorem XJ:qa Qf [.int i]=.ret (.int (if i < 0 then -i else i)):=wv λQ=>⟨Cy,λq=>⟨rfl,q⟩⟩
@[simp] theorem ac3:qa tU [.int i]=.ret (.int i):=wv λQ=>⟨Cy,λq=>⟨rfl,q⟩⟩
@[simp] theorem n8:qa tU [.bl a]=.ret (.int (if a then 1 else 0)):=wv λQ=>⟨Cy,λq=>⟨rfl,q⟩⟩
@[simp] theorem XG:qa Qe [.int i,.int j]=.ret (.int (if j > i then j else i)):=wv λQ=>⟨Cy,λq=>⟨rfl,q⟩⟩
@[simp] theorem XF:qa Qd [.int i,.int j]=.ret (.int (if j < i then j else i)):=wv λQ=>⟨Cy,λq=>⟨rfl,q⟩⟩
@[simp] theorem eZ (p q:Option Int):kz (.tup l) p q=.ret (.tup (fH l p q)):=(rfl)
@[simp] theorem S9:Nk (.tup l) bm bm (ap (-1))=.ret (.tup l.reverse):=lm ⟨rfl,rfl,rfl⟩
@[simp] theorem acR:uB (.int i)=.ret (.inl i):=(rfl)
@[simp] theorem Tb:uB (.str s)=.ret (.inr s):=(rfl)
@[simp] theorem fU:ki (.int j)=.fg (okN 0 j) (.ret (kn 0 j.toNat)):=(rfl)
@[simp] theorem xO (k:Int):JD (.int i) (.int j) (.int k)=.fg (k = -1/\okN j i) (.ret (fq i (i-j).toNat)):=(rfl)
@[simp] theorem Pg:G5 (.str s)=.fg (s.cps.size<=sizeLine) (.ret (s.cps.toList.map λc=>.str ⟨#[c]⟩)):=(rfl)
@[simp] theorem Pj:wK (l++[x])=.ret (l,x):=by unfold wK;simp
@[simp] theorem Ph:zd l (.int i)=.fg (-(2 ^ 63)<=i/\i < 2 ^ 63/\l.length*i.toNat<=sizeLine) (.ret (Al i.toNat l).flatten):=(rfl)
@[simp] theorem acV:Kd.is .int (.int i)=true:=(rfl)
@[simp] theorem acW:Kd.is .int (.bl a)=true:=(rfl)
@[simp] theorem acY:Kd.is .bool (.bl a)=true:=(rfl)
@[simp] theorem acX:Kd.is .bool (.int i)=false:=(rfl)
@[simp] theorem dh:Kd.is .str (.str s)=true:=(rfl)
@[simp] theorem d6:Kd.is .str (.tup l)=false:=(rfl)
@[simp] theorem acU:Kd.is .str (.int i)=false:=(rfl)
@[simp] theorem qQ:Kd.is .tup (.tup l)=true:=(rfl)
@[simp] theorem Tc:Kd.is .tup (.str s)=false:=(rfl)
@[simp] theorem acS:Kd.is .tup (.int i)=false:=(rfl)
@[simp] theorem acT:Kd.is .tup (.bl a)=false:=(rfl)
@[simp] theorem cm (h0:0 < i) (h1:i<=2000):bh (.int i)=drawn i:=lm ⟨h0,h1⟩
def bo {m:Int}{Q:PV->Prop} (h:∀d:Int,0<=d->d < m->Q (.int d)):(drawn m).run Q:=λv ⟨d,e,h0,h1⟩=>e▸h d h0 h1
end
namespace W
variable {α β:Type}
def le (a b:W α):Prop:=∀Q,b.run Q->a.run Q
def le.refl (a:W α):a.le a:=λ_ h=>h
def le.of_eq {a b:W α} (h:a=b):a.le b:=h▸le.refl a
def le.ret {a:W α}{v:α}{f:α->W β}{b:W β} (h:a.le (.ret v)) (hf:(f v).le b):(a.bind f).le b:=λQ q=>h _ (hf Q q)
def le.use {a:W α}{v:α}{Q:α->Prop} (h:a.le (.ret v)) (q:Q v):a.run Q:=h _ q
end W
section
variable {S R:Type}
@[simp] theorem abe (s:S) (f:PV->S->W S):dG [] s f=.ret s:=(rfl)
@[simp] theorem YB (x:PV) (r:List PV) (s:S) (f:PV->S->W S):dG (x::r) s f=.bind (f x s) λs'=>dG r s' f:=(rfl)
theorem sZ {f:PV->S->W S}{Q:S->Prop} (I:List PV->S->Prop):∀{l:List PV}{s:S},I l s->(∀x r s,I (x::r) s->(f x s).run (I r))->(∀s,I [] s->Q s)->(dG l s f).run Q
 | [],s,h0,_,he=>he s h0
 | x::r,s,h0,hs,he=>(f x s).mono (λs' h=>sZ I h hs he) (hs x r s h0)
theorem forF_run {f:PV->S->W (Lp S R)}{Q:Lp S R->Prop} (I:List PV->S->Prop):∀{l:List PV}{s:S},I l s->(∀x r s,I (x::r) s->(f x s).run λo=>match o with | .go s'=>I r s' | .out t=>Q (.out t))->(∀s,I [] s->Q (.go s))->(FL.iy l s f).run Q
 | [],s,h0,_,he=>he s h0
 | x::r,s,h0,hs,he=>(f x s).mono (λo h=>match o,h with
  | .go s',h=>forF_run I h hs he
  | .out t,h=>h) (hs x r s h0)
theorem j8 {f:PV->S->W S}{Q:S->Prop} (I:Nat->S->Prop) {s:S} (h0:I 0 s) (hs:∀(i:Nat) (x:PV) s,l[i]?=ap x->I i s->(f x s).run (I (i+1))) (he:∀s,I l.length s->Q s):(dG l s f).run Q:=by
 refine sZ (λr s=>∃i,i<=l.length/\r=l.drop i/\I i s) ⟨0,A6 _,rfl,h0⟩ (λx r s ⟨i,hi,e,h⟩=>?_) (λs ⟨i,hi,e,h⟩=>?_)
 ·have lT:i < l.length:=by
   rcases Dj i l.length with h | h
   ·exact h
   ·rw [EZ h] at e;cases e
  rw [Bk lT] at e;injection e with e1 e2;subst e1;exact (f _ s).mono (λs' h'=>⟨i+1,lT,e2,h'⟩) (hs i _ s (Ae lT) h)
 ·have:i=l.length:=by
   have:=congrArg B5 e;rw [CV] at this;simp at this;omega
  subst this;exact he s h
theorem xI {f:PV->S->W (Lp S R)}{Q:Lp S R->Prop} (I:Nat->S->Prop) {s:S} (h0:I 0 s) (hs:∀(i:Nat) (x:PV) s,l[i]?=ap x->I i s->(f x s).run λo=>match o with | .go s'=>I (i+1) s' | .out t=>Q (.out t)) (he:∀s,I l.length s->Q (.go s)):(FL.iy l s f).run Q:=by
 refine forF_run (λr s=>∃i,i<=l.length/\r=l.drop i/\I i s) ⟨0,A6 _,rfl,h0⟩ (λx r s ⟨i,hi,e,h⟩=>?_) (λs ⟨i,hi,e,h⟩=>?_)
 ·have lT:i < l.length:=by
   rcases Dj i l.length with h | h
   ·exact h
   ·rw [EZ h] at e;cases e
  rw [Bk lT] at e;injection e with e1 e2;subst e1;exact (f _ s).mono (λo h'=>match o,h' with
   | .go s',h'=>⟨i+1,lT,e2,h'⟩
   | .out t,h'=>h') (hs i _ s (Ae lT) h)
 ·have:i=l.length:=by
   have:=congrArg B5 e;simp at this;omega
  subst this;exact he s h
def ly {f:PV->S->W S}{Q:S->Prop} (I:Nat->S->Prop) {s:S} (h0:I 0 s) (hs:∀(i:Nat) s,i < n->I i s->(f (.int (i:Int)) s).run (I (i+1))) (he:∀s,I n s->Q s):(dG (kn 0 n) s f).run Q:=
 j8 I h0 (λi x s hx h=>by obtain⟨hi,rfl⟩:=o7 hx;rw [E1];exact hs i s hi h) (λs h=>he s (by rw [jF] at h;exact h))
def O4 {f:PV->S->W (Lp S R)}{Q:Lp S R->Prop} (I:Nat->S->Prop) {s:S} (h0:I 0 s) (hs:∀(i:Nat) s,i < n->I i s->(f (.int (i:Int)) s).run λo=>match o with | .go s'=>I (i+1) s' | .out t=>Q (.out t)) (he:∀s,I n s->Q (.go s)):(FL.iy (kn 0 n) s f).run Q:=
 xI I h0 (λi x s hx h=>by obtain⟨hi,rfl⟩:=o7 hx;rw [E1];exact hs i s hi h) (λs h=>he s (by rw [jF] at h;exact h))
theorem jM {c:S->W Bool}{b:S->W S}{Q:S->Prop} (I:Nat->S->Prop) {s:S} (h0:I n s) (hs:∀n s,I n s->(c s).run λk=>if k=true then (b s).run (λs'=>∃m,m < n/\I m s') else Q s):(mD c b s).run Q:=by
 refine⟨n+1,?_⟩;have:∀k n s,n < k->I n s->(mE c b k s).run Q:=by
  intro k
  induction k with
  | zero=>intro n s h;omega
  | succ k ih=>
   intro n s hn h;refine (c s).mono (λz q=>?_) (hs n s h);cases z with
   | true=>exact (b s).mono (λs' ⟨m,hm,h'⟩=>ih m s' ∅ h') (show (b s).run _ from q)
   | false=>exact q
 exact this (n+1) n s ∅ h0
theorem GQ {c:S->W Bool}{b:S->W (Lp S R)}{Q:Lp S R->Prop} (I:Nat->S->Prop) {s:S} (h0:I n s) (hs:∀n s,I n s->(c s).run λk=>if k=true then (b s).run (λo=>match o with | .go s'=>∃m,m < n/\I m s' | .out t=>Q (.out t)) else Q (.go s)):(FL.rq c b s).run Q:=by
 refine⟨n+1,?_⟩;have:∀k n s,n < k->I n s->(jN c b k s).run Q:=by
  intro k
  induction k with
  | zero=>intro n s h;omega
  | succ k ih=>
   intro n s hn h;refine (c s).mono (λz q=>?_) (hs n s h);cases z with
   | true=>exact (b s).mono (λo q=>match o,q with
    | .go s',⟨m,hm,h'⟩=>ih m s' ∅ h'
    | .out t,q=>q) (show (b s).run _ from q)
   | false=>exact q
 exact this (n+1) n s ∅ h0
theorem qJ {f:PV->W PV}{g:PV->PV}:∀{l:List PV},(∀x∈l,f x=.ret (g x))->mapW l f=.ret (l.map g)
 | [],_=>rfl
 | x::r,h=>by
  show am (f x) (λy=>am (mapW r f) λl=>bd (y::l))=_;rw [h x (.head _),qJ λy hy=>h y (.tail _ hy)];rfl
theorem Hw {g:PV->Option PV}:∀{l:List PV},(∀x∈l,f x=.ret (g x))->kG l f=.ret (l.filterMap g)
 | [],_=>rfl
 | x::r,h=>by
  show am (f x) (λo=>am (kG r f) λl=>bd (o.toList++l))=_;rw [h x (.head _),Hw λy hy=>h y (.tail _ hy),Bx];cases g x <;> rfl
@[simp] theorem iM (bs:List Bool):Gu (bs.map PV.bl)=.ret (.bl (bs.all id)):=by unfold Gu;rw [yk];rfl
@[simp] theorem TX (bs:List Bool):Ql (bs.map PV.bl)=.ret (.bl (bs.any id)):=by unfold Ql;rw [yk];rfl
theorem all_map (f:PV->Bool) (l:List PV):Gu (l.map λx=>.bl (f x))=.ret (.bl (l.all f)):=by
 have:(l.map λx=>PV.bl (f x))=(l.map f).map PV.bl:=by rw [AR];rfl
 rw [this,iM,List.all_map];rfl
end
section
variable (i j:Int) (a b:Bool) (x y:PV) (l m:List PV) (s t:Str)
@[simp] theorem UZ:kC (.int i) (.int j)=(i==j):=by rw [kC]
@[simp] theorem Pc:kC (.str s) (.str t)=(s==t):=by rw [kC]
@[simp] theorem U0:kC (.bl a) (.bl b)=(a==b):=by rw [kC]
@[simp] theorem UY:kC (.tup l) (.tup m)=gG l m:=by rw [kC]
@[simp] theorem agJ:kC (.cl l) (.cl m)=gG l m:=by rw [kC]
@[simp] theorem Xz:gG [] []=true:=by rw [gG]
@[simp] theorem Pb:gG (x::l) (y::m)=(kC x y&&gG l m):=by rw [gG]
@[simp] theorem acJ:PV.iu (.int i)=true:=by rw [PV.iu] <;> simp
@[simp] theorem afm:PV.iu (.bl a)=true:=by rw [PV.iu] <;> simp
@[simp] theorem acH:PV.iu (.str s)=true:=by rw [PV.iu] <;> simp
@[simp] theorem acI:PV.iu .aO=true:=by rw [PV.iu] <;> simp
@[simp] theorem acG:PV.iu (.tup l)=fj l:=by rw [PV.iu]
@[simp] theorem afl:PV.iu (.cl l)=fj l:=by rw [PV.iu]
@[simp] theorem abf:fj []=true:=by rw [fj]
@[simp] theorem YC:fj (x::l)=(PV.iu x&&fj l):=by rw [fj]
@[simp] theorem abk:PV.iz (.int i)=0:=by rw [PV.iz] <;> simp
@[simp] theorem acM:PV.iz (.bl a)=0:=by rw [PV.iz] <;> simp
@[simp] theorem abi:PV.iz (.str s)=0:=by rw [PV.iz] <;> simp
@[simp] theorem abj:PV.iz .aO=0:=by rw [PV.iz] <;> simp
@[simp] theorem abh:PV.iz (.tup l)=eG l+1:=by rw [PV.iz]
@[simp] theorem acL:PV.iz (.cl l)=eG l+1:=by rw [PV.iz]
@[simp] theorem YE:eG []=0:=by rw [eG]
@[simp] theorem XB:eG (x::l)=max (PV.iz x) (eG l):=by rw [eG]
def F3:LQ (.int i) (.int j):=⟨by simp,by simp,by simp⟩
@[simp] theorem cq:of2 d9 (.int i) (.int j)=.ret (.bl (i==j)):=by rw [vE,lm (F3 i j),UZ]
@[simp] theorem Ib:of2 He (.int i) (.int j)=.ret (.bl (!(i==j))):=by rw [U1,lm (F3 i j),UZ]
@[simp] theorem afr:of2 d9 (.bl a) (.bl b)=.ret (.bl (a==b)):=by rw [vE,lm ⟨by simp,by simp,by simp⟩,U0]
@[simp] theorem afp:of2 He (.bl a) (.bl b)=.ret (.bl (!(a==b))):=by rw [U1,lm ⟨by simp,by simp,by simp⟩,U0]
end
theorem jH:∀{l:List PV},fj l=true↔∀x∈l,PV.iu x=true
 | []=>by simp
 | x::l=>by rw [fj,Az,jH (l:=l)];simp
theorem jI:∀{l:List PV},(∀x∈l,PV.iz x<=n)->eG l<=n
 | [],_=>by simp
 | x::l,h=>by
  have h1:=h x (.head _);have h2:=jI (l:=l) λy hy=>h y (.tail _ hy);rw [eG];omega
structure EV where
 P:sw
 w:t0
 K:Ab
 mg:Str->Option ce
 base:mo
structure DF where
 x:Str
 s:sK
 ps:List Str
 k:Nat
 sp:Ab->Sp
abbrev DF.C (d:DF) (v:EV):=Qu v.P v.w v.K v.mg v.base d.x d.k d.ps (d.sp v.K)
structure DI (v:EV) (d:DF) where
 f:ci
 fd:Da
 fn:QH v.K d.x d.x d.s f fd
 bi:Binds v.K fd d.ps []
 at':v.mg d.x=ap (.ref f)
abbrev DI.O {v:EV}{d:DF} (D:DI v d):Prop:=gJ v.P v.w v.K v.mg v.base lY d.k D.f D.fd d.ps (d.sp v.K)
def DI.c {v:EV}{d:DF} (D:DI v d) (h:D.O):d.C v:=⟨D.f,D.fd,h,D.bi,D.fn.kp,D.at'⟩
def DI.cN {v:EV}{d:DF} (D:DI v d) (h:gJ v.P v.w v.K v.mg v.base lY k D.f D.fd d.ps sp):Qu v.P v.w v.K v.mg v.base d.x k d.ps sp:=⟨D.f,D.fd,h,D.bi,D.fn.kp,D.at'⟩
def DI.cA {v:EV}{d:DF} (D:DI v d) (h:D.O):Yk v.P v.w v.K v.mg v.base D.f d.k d.ps (d.sp v.K):=⟨D.fd,h,D.bi,D.fn.kp⟩
structure DX (K:Ab) (x:Str) (st:sK):Prop where
 ex:∃f fd,AH K d4 x=ap (ap (.ref f))/\QH K x x st f fd
def dx {K:Ab}{st:sK}{f:ci}{kV:ce} (a:AH K d4 x=ap (ap (.ref f))) (l:K.lookup f=ap ⟨oc,od,.func (BZ x x (gI st) (br st) (ai st) .none kV È pm an cK ct),RU⟩)
  (c:D3 K cK x=true) (k:CO K (.ref f)=true):DX K x st:=⟨f,_,a,Xy l c k⟩
def gk {N P:List Str} (h1:sc.kind=.function:=by rfl) (h2:sc.isCoroutine=false:=by rfl) (h3:sc.isGenerator=false:=by rfl) (h4:N.Nodup:=by decide +kernel) (h5:N.take P.length=P:=by rfl) (h6:∀x∈P,sc.names.lookup x=ap .local\/sc.names.lookup x=ap .cell:=by decide +kernel) (h7:∀y∈sc.names,y.2≠.free:=by decide +kernel):ar N P sc:=⟨h1,h2,h3,h4,h5,h6,h7⟩
def lcs {N:List Str} (h1:sc.kind=.function:=by rfl) (h2:∀y∈sc.names,y.2≠.cell:=by decide +kernel) (h3:∀y∈sc.names,y.2=.local->sc.names.lookup y.1=ap .local:=by decide +kernel) (h4:∀y∈sc.names,y.2=.free->(Xs.names.lookup y.1=ap .cell\/Xs.names.lookup y.1=ap .free):=by decide +kernel) (h5:N'.Nodup:=by decide +kernel) (h6:ix.length=N'.length:=by rfl)
  (h7:((ix.zip N').all λp=>match p.1 with | none=>true | some j=>decide (N[j]?=ap p.2)&&decide (sc.names.lookup p.2=ap .free))=true:=by decide +kernel):aG Xs N sc N' ix:=⟨h1,h2,h3,h4,h5,h6,h7⟩
abbrev mh (l:List (Str×wP)):nw:={kind:=.function,names:=(Cg ".0",.local)::l,isGenerator:=false,isCoroutine:=false,more:=[]}
abbrev lo:wP:=.local
abbrev gi:wP:=.globalImplicit
abbrev fr:wP:=.free
section
variable {v:EV}{st:sK}{N:List Str}
def mkV {m:QI PV n} (D:DI v ⟨x,st,ps,k+1,λK=>fJ K ks (cy n m)⟩) (S:ar N ps (ai st)) (Â:∀l:List PV,l.length=n->∀(cK:ce) (A:pr) (outer:List Env) (s:cr) (H:Hp) (E:XK),cL k (A.deeper (sn x (ai st) s.heap.objs.size D.f cK))->SF (i7 lY v.P v.w v.K v.mg v.base N x (ai st) D.f cK A outer s H E).wW v.K false (i8 ks l N.length) (br st) (cy n m l) .rt)
  (o8:ks.length=ps.length:=by rfl) (one:jd ks:=by repeat' first | exact dC | exact aD (n:=0) | exact aD (n:=1) | exact aD (n:=2) | exact aD (n:=3) | exact aD (n:=4) | exact aD (n:=5) | exact aD (n:=6) | apply ju | apply km):D.O:=fnV D.fn S o8 one Â
def mkL {m:QI (List PV) n} (D:DI v ⟨x,st,ps,k+1,λK=>eK K ks (cy n m)⟩) (S:ar N ps (ai st)) (Â:∀l:List PV,l.length=n->∀(cK:ce) (A:pr) (outer:List Env) (s:cr) (H:Hp) (E:XK),cL k (A.deeper (sn x (ai st) s.heap.objs.size D.f cK))->SF (i7 lY v.P v.w v.K v.mg v.base N x (ai st) D.f cK A outer s H E).wW v.K false (i8 ks l N.length) (br st) (cy n m l) .rl)
  (o8:ks.length=ps.length:=by rfl) (one:jd ks:=by repeat' first | exact dC | exact aD (n:=0) | exact aD (n:=1) | exact aD (n:=2) | exact aD (n:=3) | exact aD (n:=4) | exact aD (n:=5) | exact aD (n:=6) | apply ju | apply km):D.O:=fnL D.fn S o8 one Â
def aaj {m:W PV} (D:DI v ⟨x,st,ps,k+1,λK=>fJ K ks (cy 0 m)⟩) (S:ar N ps (ai st)) (Â:∀(cK:ce) (A:pr) (outer:List Env) (s:cr) (H:Hp) (E:XK),cL k (A.deeper (sn x (ai st) s.heap.objs.size D.f cK))->SF (i7 lY v.P v.w v.K v.mg v.base N x (ai st) D.f cK A outer s H E).wW v.K false (i8 ks [] N.length) (br st) (m) .rt)
  (o8:ks.length=ps.length:=by rfl) (one:jd ks:=by repeat' first | exact dC | exact aD (n:=0) | exact aD (n:=1) | exact aD (n:=2) | exact aD (n:=3) | exact aD (n:=4) | exact aD (n:=5) | exact aD (n:=6) | apply ju | apply km):D.O:=mkV (n:=0) (m:=m) D S (λl hl=>match l,hl with | [],_=>Â) o8 one
def lZ {m:PV->W PV} (D:DI v ⟨x,st,ps,k+1,λK=>fJ K ks (cy 1 m)⟩) (S:ar N ps (ai st)) (Â:∀(x0:PV) (cK:ce) (A:pr) (outer:List Env) (s:cr) (H:Hp) (E:XK),cL k (A.deeper (sn x (ai st) s.heap.objs.size D.f cK))->SF (i7 lY v.P v.w v.K v.mg v.base N x (ai st) D.f cK A outer s H E).wW v.K false (i8 ks [x0] N.length) (br st) (m x0) .rt)
  (o8:ks.length=ps.length:=by rfl) (one:jd ks:=by repeat' first | exact dC | exact aD (n:=0) | exact aD (n:=1) | exact aD (n:=2) | exact aD (n:=3) | exact aD (n:=4) | exact aD (n:=5) | exact aD (n:=6) | apply ju | apply km):D.O:=mkV (n:=1) (m:=m) D S (λl hl=>match l,hl with | [x0],_=>Â x0) o8 one
def ux {m:PV->PV->W PV} (D:DI v ⟨x,st,ps,k+1,λK=>fJ K ks (cy 2 m)⟩) (S:ar N ps (ai st)) (Â:∀(x0:PV) (x1:PV) (cK:ce) (A:pr) (outer:List Env) (s:cr) (H:Hp) (E:XK),cL k (A.deeper (sn x (ai st) s.heap.objs.size D.f cK))->SF (i7 lY v.P v.w v.K v.mg v.base N x (ai st) D.f cK A outer s H E).wW v.K false (i8 ks [x0,x1] N.length) (br st) (m x0 x1) .rt)
  (o8:ks.length=ps.length:=by rfl) (one:jd ks:=by repeat' first | exact dC | exact aD (n:=0) | exact aD (n:=1) | exact aD (n:=2) | exact aD (n:=3) | exact aD (n:=4) | exact aD (n:=5) | exact aD (n:=6) | apply ju | apply km):D.O:=mkV (n:=2) (m:=m) D S (λl hl=>match l,hl with | [x0,x1],_=>Â x0 x1) o8 one
def Oc {m:PV->PV->PV->W PV} (D:DI v ⟨x,st,ps,k+1,λK=>fJ K ks (cy 3 m)⟩) (S:ar N ps (ai st)) (Â:∀(x0:PV) (x1:PV) (x2:PV) (cK:ce) (A:pr) (outer:List Env) (s:cr) (H:Hp) (E:XK),cL k (A.deeper (sn x (ai st) s.heap.objs.size D.f cK))->SF (i7 lY v.P v.w v.K v.mg v.base N x (ai st) D.f cK A outer s H E).wW v.K false (i8 ks [x0,x1,x2] N.length) (br st) (m x0 x1 x2) .rt)
  (o8:ks.length=ps.length:=by rfl) (one:jd ks:=by repeat' first | exact dC | exact aD (n:=0) | exact aD (n:=1) | exact aD (n:=2) | exact aD (n:=3) | exact aD (n:=4) | exact aD (n:=5) | exact aD (n:=6) | apply ju | apply km):D.O:=mkV (n:=3) (m:=m) D S (λl hl=>match l,hl with | [x0,x1,x2],_=>Â x0 x1 x2) o8 one
def aai {m:PV->PV->PV->PV->PV->W PV} (D:DI v ⟨x,st,ps,k+1,λK=>fJ K ks (cy 5 m)⟩) (S:ar N ps (ai st)) (Â:∀(x0:PV) (x1:PV) (x2:PV) (x3:PV) (x4:PV) (cK:ce) (A:pr) (outer:List Env) (s:cr) (H:Hp) (E:XK),cL k (A.deeper (sn x (ai st) s.heap.objs.size D.f cK))->SF (i7 lY v.P v.w v.K v.mg v.base N x (ai st) D.f cK A outer s H E).wW v.K false (i8 ks [x0,x1,x2,x3,x4] N.length) (br st) (m x0 x1 x2 x3 x4) .rt)
  (o8:ks.length=ps.length:=by rfl) (one:jd ks:=by repeat' first | exact dC | exact aD (n:=0) | exact aD (n:=1) | exact aD (n:=2) | exact aD (n:=3) | exact aD (n:=4) | exact aD (n:=5) | exact aD (n:=6) | apply ju | apply km):D.O:=mkV (n:=5) (m:=m) D S (λl hl=>match l,hl with | [x0,x1,x2,x3,x4],_=>Â x0 x1 x2 x3 x4) o8 one
def ad6 {m:W (List PV)} (D:DI v ⟨x,st,ps,k+1,λK=>eK K ks (cy 0 m)⟩) (S:ar N ps (ai st)) (Â:∀(cK:ce) (A:pr) (outer:List Env) (s:cr) (H:Hp) (E:XK),cL k (A.deeper (sn x (ai st) s.heap.objs.size D.f cK))->SF (i7 lY v.P v.w v.K v.mg v.base N x (ai st) D.f cK A outer s H E).wW v.K false (i8 ks [] N.length) (br st) (m) .rl)
  (o8:ks.length=ps.length:=by rfl) (one:jd ks:=by repeat' first | exact dC | exact aD (n:=0) | exact aD (n:=1) | exact aD (n:=2) | exact aD (n:=3) | exact aD (n:=4) | exact aD (n:=5) | exact aD (n:=6) | apply ju | apply km):D.O:=mkL (n:=0) (m:=m) D S (λl hl=>match l,hl with | [],_=>Â) o8 one
def Si {m:PV->W (List PV)} (D:DI v ⟨x,st,ps,k+1,λK=>eK K ks (cy 1 m)⟩) (S:ar N ps (ai st)) (Â:∀(x0:PV) (cK:ce) (A:pr) (outer:List Env) (s:cr) (H:Hp) (E:XK),cL k (A.deeper (sn x (ai st) s.heap.objs.size D.f cK))->SF (i7 lY v.P v.w v.K v.mg v.base N x (ai st) D.f cK A outer s H E).wW v.K false (i8 ks [x0] N.length) (br st) (m x0) .rl)
  (o8:ks.length=ps.length:=by rfl) (one:jd ks:=by repeat' first | exact dC | exact aD (n:=0) | exact aD (n:=1) | exact aD (n:=2) | exact aD (n:=3) | exact aD (n:=4) | exact aD (n:=5) | exact aD (n:=6) | apply ju | apply km):D.O:=mkL (n:=1) (m:=m) D S (λl hl=>match l,hl with | [x0],_=>Â x0) o8 one
def Lb {m:PV->PV->W (List PV)} (D:DI v ⟨x,st,ps,k+1,λK=>eK K ks (cy 2 m)⟩) (S:ar N ps (ai st)) (Â:∀(x0:PV) (x1:PV) (cK:ce) (A:pr) (outer:List Env) (s:cr) (H:Hp) (E:XK),cL k (A.deeper (sn x (ai st) s.heap.objs.size D.f cK))->SF (i7 lY v.P v.w v.K v.mg v.base N x (ai st) D.f cK A outer s H E).wW v.K false (i8 ks [x0,x1] N.length) (br st) (m x0 x1) .rl)
  (o8:ks.length=ps.length:=by rfl) (one:jd ks:=by repeat' first | exact dC | exact aD (n:=0) | exact aD (n:=1) | exact aD (n:=2) | exact aD (n:=3) | exact aD (n:=4) | exact aD (n:=5) | exact aD (n:=6) | apply ju | apply km):D.O:=mkL (n:=2) (m:=m) D S (λl hl=>match l,hl with | [x0,x1],_=>Â x0 x1) o8 one
def aal {m:PV->PV->PV->W (List PV)} (D:DI v ⟨x,st,ps,k+1,λK=>eK K ks (cy 3 m)⟩) (S:ar N ps (ai st)) (Â:∀(x0:PV) (x1:PV) (x2:PV) (cK:ce) (A:pr) (outer:List Env) (s:cr) (H:Hp) (E:XK),cL k (A.deeper (sn x (ai st) s.heap.objs.size D.f cK))->SF (i7 lY v.P v.w v.K v.mg v.base N x (ai st) D.f cK A outer s H E).wW v.K false (i8 ks [x0,x1,x2] N.length) (br st) (m x0 x1 x2) .rl)
  (o8:ks.length=ps.length:=by rfl) (one:jd ks:=by repeat' first | exact dC | exact aD (n:=0) | exact aD (n:=1) | exact aD (n:=2) | exact aD (n:=3) | exact aD (n:=4) | exact aD (n:=5) | exact aD (n:=6) | apply ju | apply km):D.O:=mkL (n:=3) (m:=m) D S (λl hl=>match l,hl with | [x0,x1,x2],_=>Â x0 x1 x2) o8 one
def ad5 {m:PV->PV->PV->PV->PV->W (List PV)} (D:DI v ⟨x,st,ps,k+1,λK=>eK K ks (cy 5 m)⟩) (S:ar N ps (ai st)) (Â:∀(x0:PV) (x1:PV) (x2:PV) (x3:PV) (x4:PV) (cK:ce) (A:pr) (outer:List Env) (s:cr) (H:Hp) (E:XK),cL k (A.deeper (sn x (ai st) s.heap.objs.size D.f cK))->SF (i7 lY v.P v.w v.K v.mg v.base N x (ai st) D.f cK A outer s H E).wW v.K false (i8 ks [x0,x1,x2,x3,x4] N.length) (br st) (m x0 x1 x2 x3 x4) .rl)
  (o8:ks.length=ps.length:=by rfl) (one:jd ks:=by repeat' first | exact dC | exact aD (n:=0) | exact aD (n:=1) | exact aD (n:=2) | exact aD (n:=3) | exact aD (n:=4) | exact aD (n:=5) | exact aD (n:=6) | apply ju | apply km):D.O:=mkL (n:=5) (m:=m) D S (λl hl=>match l,hl with | [x0,x1,x2,x3,x4],_=>Â x0 x1 x2 x3 x4) o8 one
end
section
variable {K:Ab}
theorem eC {m:List PV->W PV} (G:Qu X.prog X.w X.K X.mg X.base x k ps (fJ K ks m)) (hr:cL k' X.A) (ha:AF X K fs (e::es) ks B) (hk:k<=k':=by first | exact CI rfl | exact Ao _ | omega) (hg:Gl X x:=by rfl) (hW:W'=B m:=by rfl) (ma:jg x:=by decide)
  (he:iB X e es:=by rfl) (dJ:lH X pos es:=by rfl):EF X K fs (.Call (.Name x p) (e::es) [] pos) W':=Tj G hr hk hg ha hW ma he dJ
theorem lC {B:(List PV->W (List PV))->W (List PV)} (G:Qu X.prog X.w X.K X.mg X.base x k ps (eK K ks m)) (hr:cL k' X.A) (ha:AF X K fs (e::es) ks B) (hk:k<=k':=by first | exact CI rfl | exact Ao _ | omega) (hg:Gl X x:=by rfl) (hW:WL=B m:=by rfl) (ma:jg x:=by decide)
  (he:iB X e es:=by rfl) (dJ:lH X pos es:=by rfl):LF X K fs (.Call (.Name x p) (e::es) [] pos) WL:=Su G hr hk hg ha hW ma he dJ
def dq (i:Nat) (hN:X.N.Nodup) (hi:X.N[i]?=ap x:=by rfl) (hx:Loc X.env.scope x:=by first | exact .inl rfl | exact .inr rfl) (hf:MM X x:=by first | exact .inl rfl | exact .inr rfl | assumption):PG X (.Name x pos) (dM i):=RH hN hi hx hf
variable {T:Type}{out:T->End}{rest:List sK}
def sv (i:Nat) {k:PV->W T} (hN:X.N.Nodup) (he:EF X K fs e we) (hr:∀v,SF X K b (fs.set i (ap (.val v))) rest (k v) out) (hi:X.N[i]?=ap y:=by rfl) (hx:Loc X.env.scope y:=by first | exact .inl rfl | exact .inr rfl) (hs:kt e (ap (.Name y p')) pos.line X.env=pure false:=by rfl)
  (hf:MM X y:=by first | exact .inl rfl | exact .inr rfl | assumption):SF X K b fs (.Assign [.Name y p'] e pos::rest) (.bind we k) out:=SF.set hN hi hx he hr hs hf
def sl (i:Nat) {k:List PV->W T} (hN:X.N.Nodup) (he:LF X K fs e wl) (hr:∀l,SF X K b (fs.set i (ap (.ol bm l))) rest (k l) out) (hi:X.N[i]?=ap y:=by rfl) (hx:Loc X.env.scope y:=by first | exact .inl rfl | exact .inr rfl) (hs:kt e (ap (.Name y p')) pos.line X.env=pure false:=by rfl)
  (hf:MM X y:=by first | exact .inl rfl | exact .inr rfl | assumption):SF X K b fs (.Assign [.Name y p'] e pos::rest) (.bind wl k) out:=SF.adM hN hi hx he hr hs hf
end
end FL
variable {P:List Bb->Prop}{m:PL.PV->FL.W PL.PV}{d:FL.DF}
namespace FL
open PySem PySem.Spec PyProof.Rows L2 PL
def us1 (h:∀a,P [a]):∀us:List ce,us.length=1->P us
 | [_],_=>h _
def us2 (h:∀a b,P [a,b]):∀us:List ce,us.length=2->P us
 | a::_,e=>us1 (P:=λl=>P (a::l)) (h _) _ (FI.inj e)
def us3 (h:∀a b c,P [a,b,c]):∀us:List ce,us.length=3->P us
 | a::_,e=>us2 (P:=λl=>P (a::l)) (h _) _ (FI.inj e)
def us4 (h:∀a b c d,P [a,b,c,d]):∀us:List ce,us.length=4->P us
 | a::_,e=>us3 (P:=λl=>P (a::l)) (h _) _ (FI.inj e)
def us5 (h:∀a b c d e,P [a,b,c,d,e]):∀us:List ce,us.length=5->P us
 | a::_,e=>us4 (P:=λl=>P (a::l)) (h _) _ (FI.inj e)
def us6 (h:∀a b c d e f,P [a,b,c,d,e,f]):∀us:List ce,us.length=6->P us
 | a::_,e=>us5 (P:=λl=>P (a::l)) (h _) _ (FI.inj e)
def DX.mk2 {v:EV} (D:DX v.K d.x d.s) (X:v.K.In h) (G:h.Ns d4 v.mg)
  (hb:∀(kV È pm:ce) (an:Option ci) (cK ct:ce) (us:List ce),us.length=d.ps.length->bindArgs (BZ d.x d.x (gI d.s) (br d.s) (ai d.s) .none kV È pm an cK ct) ⟨us,[]⟩=pure (d.ps.zip us):=by
   first
    | exact λ_ _ _ _ _ _=>us1 λ_=>rfl
    | exact λ_ _ _ _ _ _=>us2 λ_ _=>rfl
    | exact λ_ _ _ _ _ _=>us3 λ_ _ _=>rfl
    | exact λ_ _ _ _ _ _=>us4 λ_ _ _ _=>rfl
    | exact λ_ _ _ _ _ _=>us5 λ_ _ _ _ _=>rfl
    | exact λ_ _ _ _ _ _=>us6 λ_ _ _ _ _ _=>rfl
    | exact λ_ _ _ _ _ _=>us7 λ_ _ _ _ _ _ _=>rfl
    | exact λ_ _ _ _ _ _=>us8 λ_ _ _ _ _ _ _ _=>rfl):Nonempty (DI v d):=by
 obtain⟨f,fd,a,F⟩:=D.ex;exact⟨⟨f,fd,F,F.binds hb,BN X G a⟩⟩
def DX.go {v:EV} (D:DX v.K d.x d.s) (X:v.K.In h) (G:h.Ns d4 v.mg) {P:Prop} (k:∀D:DI v d,D.O) (r:d.C v->P)
  (hb:∀(kV È pm:ce) (an:Option ci) (cK ct:ce) (us:List ce),us.length=d.ps.length->bindArgs (BZ d.x d.x (gI d.s) (br d.s) (ai d.s) .none kV È pm an cK ct) ⟨us,[]⟩=pure (d.ps.zip us):=by
   first
    | exact λ_ _ _ _ _ _=>us1 λ_=>rfl
    | exact λ_ _ _ _ _ _=>us2 λ_ _=>rfl
    | exact λ_ _ _ _ _ _=>us3 λ_ _ _=>rfl
    | exact λ_ _ _ _ _ _=>us4 λ_ _ _ _=>rfl
    | exact λ_ _ _ _ _ _=>us5 λ_ _ _ _ _=>rfl
    | exact λ_ _ _ _ _ _=>us6 λ_ _ _ _ _ _=>rfl
    | exact λ_ _ _ _ _ _=>us7 λ_ _ _ _ _ _ _=>rfl
    | exact λ_ _ _ _ _ _=>us8 λ_ _ _ _ _ _ _ _=>rfl):P:=by
 obtain⟨D⟩:=D.mk2 X G hb;exact r (D.c (k D))
def Jx (K:Ab):Sp:=λvs H Q _=>∃(a:ci) (ns:List Int),vs=[.ref a]/\T6 H/\di K H a (ns.map V.int)/\ns.length<=63/\∀H',Q (.bl true) H'
def Sq {K:Ab} (ok:∀ns:List Int,ns.length<=63->(m (.cl (ns.map PV.int))).run (·=.bl true)):∀vs H Q E,Jx K vs H Q E->fJ K [.v] (cy 1 m) vs H Q E:=λvs H Q E ⟨a,ns,e,hO,hS,hl,q⟩=>by
 subst e;have fz:Vf K H a (ns.map V.int):=by
  rcases hS with (h | ⟨o,h⟩) | h
  ·rcases hO a with z | ⟨o,xs,z⟩
   ·rw [h] at z;cases z
   ·rw [h] at z;cases z
  ·exact .inl ⟨o,h⟩
  ·exact .inr h
 refine⟨[.cl (ns.map PV.int)],.v (.cl fz (nR _ _ ns)) .nil,(m (.cl (ns.map PV.int))).mono (λv e u H' _ r=>?_) (ok ns hl)⟩;subst e;cases r;exact q H'
structure ab0 (K:Ab) (mg:Str->Option ce) (d:DF):Prop where
 f:∀v:EV,v.K=K->v.mg=mg->∀D:DI v d,D.O
def mkAll {l:E5}{K:Ab}{fa:ci}{st:sK} (ok:∀ns:List Int,ns.length<=63->(m (.cl (ns.map PV.int))).run (·=.bl true)) (X:K.In h) (G:h.Ns d4 mg) (hfa:mg "law"=ap (.ref fa)) (aby:DX K "law" st)
  (hb:∀(kV È pm:ce) (an:Option ci) (cK ct:ce) (us:List ce),us.length=1->bindArgs (BZ "law" "law" (gI st) (br st) (ai st) .none kV È pm an cK ct) ⟨us,[]⟩=pure (([("_law_script":Str)]:List Str).zip us))
  (F:ab0 K mg ⟨"law",st,["_law_script"],k,λK=>fJ K [.v] (cy 1 m)⟩) :
  ∃fd:Da,(∀(s:cr) (v:ce),BindsTo s fd ⟨[v],[]⟩ [("_law_script",v)])/\∀base:mo,K.In base->base.Ns d4 mg->gJ l.prog w K mg base lY k fa fd ["_law_script"] (Jx K):=by
 obtain⟨f,fd,a,F'⟩:=aby.ex;have e:=hfa.symm.trans (BN X G a);cases e;have fb:=F'.binds (ps:=["_law_script"]) hb;obtain⟨oc,od,kV,È,pm,an,cK,ct,RU,rfl,_⟩:=id F'.ex;exact⟨BZ "law" "law" (gI st) (br st) (ai st) .none kV È pm an cK ct,λs v=>.of_eq (hb kV È pm an cK ct [v] rfl),λbase _ _=>(F.f ⟨l.prog,w,K,mg,base⟩ rfl rfl ⟨_,_,F',fb,hfa⟩).imp (Sq ok)⟩
end FL
namespace My
open PySem PySem.Spec PyProof.Rows L2 PL FL
def jX (jm:PV):W (List PV):=
 []\λmV=>
 am (jm\λx3=>bd [x3]) λft=>
 am (mD (λs4=>(s4.2\λl5=>bd (!l5.isEmpty))) (λs4=>(
 am (wK s4.2) λt7=>
 t7.2\λx9=>am (kE s4.1 x9) λmU=>
 eM (rC (am (am (bd t7.2) (fF .str)) dj)) (
 am (am (bd t7.2) az) λl11=>am (xN t7.1 l11) λgQ=>
 bd (mU,gQ)) (
 bd (mU,t7.1)))) (mV,ft)) λs4=>
 (s4.1\λl12=>bd l12.reverse)
def iI (jm:PV):W PV:=
 []\λjP=>
 []\λw5=>
 am (jm\λx3=>jX x3) λl30=>am (dG l30 (jP,w5) λwO s4=>(
 am (am (am (bd wO) (fF .str)) dj) λb=>am (if b=true then (
 wO\λvU=>am (kE s4.1 vU) λJn=>
 bd (Jn,s4.2)) else (
 am (wK s4.2) λt20=>
 am (wK t20.1) λt22=>
 am (t22.2\λyO=>t20.2\λue=>bd (.tup [yO,ue])) λq9=>am (kE s4.1 q9) λJm=>
 bd (Jm,t22.1))) λVM=>
 am (b2 nC (am (bd VM.1) qe) (bd (.int 1))) λKy=>am (kE VM.2 Ky) λzH=>
 bd (VM.1,zH))) λs4=>
 (am (bd s4.1) oH)
def du (cj:PV):W PV:=
 (eM (am (am (bd cj) (fF .str)) dj) (bd (.tup [])) (bd cj))
def fB (jm:PV):W PV:=
 am (jm\λx2=>iI x2) λjP=>
 am (am (am (bd jP) az) λl4=>mapW l4 λp5=>(bd .aO)) λyo=>
 am (am (am (bd jP) az) λl6=>.fg (l6.length<=sizeLine) (.ret (dZ 0 l6))) λl19=>am (dG l19 yo λp8 s7=>am (pE p8) λt9=>(
 am (am (t9.2\λmC=>du mC) az) λLg=>am (dG Lg s7 λKf pY=>(
 t9.1\λjk=>Kf\λkr=>am (fX pY kr jk) λGw=>
 bd Gw)) λpY=>
 bd pY)) λs7=>
 (am (bd s7) oH)
def eD (fP:PV) (lq:PV):W PV:=
 (eM (am (am (bq (am (bd fP) az) (bd lq)) (fF .str)) dj) (bq (am (bd fP) az) (bd lq)) (bd lq))
def g8 (dN:PV):W (List PV):=
 am (dN\λx2=>fB x2) λd7=>
 am (am (am (bd d7) az) λl4=>mapW l4 λp5=>(bd (.tup []))) λlR=>
 am (am (b2 nC (c1 dQ (bd d7)) (bd (.int 1))) λx6=>am (am (bd (.int 1)) kB) λx7=>am (am (bd (.int 1)) kB) λx8=>JD x6 x7 x8) λLg=>am (dG Lg lR λlj s9=>(
 am (eM (t2 K9 (bq (am (bd d7) az) (bd lj)) (bd .aO)) (bd (.tup [])) (bq (bd s9) (bq (am (bd d7) az) (bd lj)))) λGx=>
 am (w2 addW (lj\λku=>bd (.tup [ku])) (bd Gx)) λjk=>lj\λkr=>am (fX s9 kr jk) λzJ=>
 bd zJ)) λs9=>
 bd s9
def eS (xa:PV) (lq:PV):W PV:=
 (am (am (am (c1 dQ (bd xa)) ki) λl2=>kG l2 λp3=>Hx (um (SN true (bd p3) (am (bq (am (bd xa) az) (bd lq)) az)) (SN true (bd lq) (am (bq (am (bd xa) az) (bd p3)) az))) (bd p3)) oH)
def kY (dN:PV):W PV:=
 am (dN\λx2=>iI x2) λgj=>
 am (dN\λx4=>g8 x4) λlR=>
 (am (am (am (c1 dQ (bd gj)) ki) λl6=>mapW l6 λp7=>(am (gj\λx8=>p7\λx9=>eD x8 x9) λmC=>(.int 0)\λrm=>am (am (bq (am (bd gj) az) (bd p7)) λrj=>du rj) λku=>am ((.cl lR)\λjk=>p7\λkr=>eS jk kr) λGP=>bd (.tup [mC,rm,ku,GP]))) oH)
def hE (fK:PV) (k_:PV):W (List PV):=
 (.int 0)\λP8=>
 am (t2 oLt (bd k_) (c1 dQ (bd fK))) λb=>am (if b=true then (
 am (c1 Qf (bq (am (bd fK) az) (bd k_))) λP7=>
 bd P7) else (
 bd P8)) λs3=>
 am (b2 oT (b2 oMod (bd s3) (b2 oT (b2 uv (bd (.int 10)) (bd (.int 60))) (b2 uv (bd (.int 10)) (bd (.int 60))))) (c1 tU (b2 oGe (bd s3) (b2 uv (bd (.int 10)) (bd (.int 18)))))) λog=>
 (og\λx6=>am (b2 oMod (w2 addW (w2 addW (bd s3) (b2 oT (bd (.int 104729)) (bd k_))) (bd (.int 7))) (bd (.int 2305843009213693951))) λx7=>(.int 0)\λx8=>bd [x6,x7,x8])
def gh (dA:List PV) (jx:PV):W (PV×List PV):=
 eM (t2 oGt (bq (bd dA) (bd (.int 0))) (bd (.int 0))) (
 am (b2 oMod (bq (bd dA) (bd (.int 0))) (bd jx)) λKq=>
 am (b2 oDiv (bq (bd dA) (bd (.int 0))) (bd jx)) λx3=>(.int 0)\λx4=>am (fX dA x4 x3) λmH=>
 Kq\λx5=>bd (x5,mH)) (
 (.int 2)\λx6=>am (Xe dA x6) λx7=>(.int 1)\λx8=>am (of2 UN x7 x8) λmC=>am (fX dA x6 mC) λgX=>
 am (b2 oMod (w2 addW (w2 addW (b2 oT (bq (bd gX) (bd (.int 1))) (bd (.int 69069))) (b2 oT (bd (.int 9973)) (bq (bd gX) (bd (.int 2))))) (bd (.int 5))) (bd (.int 2305843009213693921))) λsi=>
 am (b2 oMod (b2 oT (bd si) (w2 addW (w2 addW (b2 oMod (bd si) (bd (.int 999983))) (b2 oT (bd (.int 2)) (bq (bd gX) (bd (.int 2))))) (bd (.int 3)))) (bd (.int 2305843009213693907))) λku=>(.int 1)\λjk=>am (fX gX jk ku) λiD=>
 am (b2 oMod (b2 oDiv (bq (bd iD) (bd (.int 1))) (bd (.int 65537))) (bd jx)) λkr=>bd (kr,iD))
def dE (jx:PV):W (List PV):=
 (.str "abcdefghijklmnopqrstuvwxyz")\λoW=>
 am ((.int 26)\λx3=>bh x3) λqP=>
 am (bq ((.int 1)\λx5=>(.int 3)\λx6=>(.int 5)\λx7=>(.int 7)\λx8=>(.int 9)\λx9=>(.int 11)\λmC=>bd [x5,x6,x7,x8,x9,mC]) ((.int 6)\λrm=>bh rm)) λrA=>
 am (bq ((.str "")\λku=>(.str "k")\λjk=>bd [ku,jk]) ((.int 2)\λkr=>bh kr)) λwj=>
 am ((.str "")\λvV=>(.str "q")\λvU=>(.str "zz")\λrh=>(.str "abcdef")\λpV=>bd [vV,vU,rh,pV]) λxR=>
 []\λsX=>
 am (am (bd jx) ki) λWW=>am (dG WW sX λW9 VL=>(
 am (b2 N5 (bd oW) (b2 oMod (w2 addW (bd qP) (b2 oT (bd rA) (bd W9))) (bd (.int 26)))) λvn=>
 am (w2 addW (w2 addW (bd wj) (bd vn)) (bq (am (bd (.cl xR)) az) (b2 oMod (w2 addW (bd qP) (bd W9)) (bd (.int 4))))) λQN=>am (kE VL QN) λzZ=>
 bd zZ)) λVL=>
 bd VL
def fx (aQ:PV):W PV:=
 (Gs (am (bd aQ) (fF .int)) (am (am (bd aQ) (fF .bool)) WB))
def eR (aQ:PV) (jx:PV):W PV:=
 (Gs (am (bd aQ) (fF .tup)) (b2 d9 (c1 dQ (bd aQ)) (bd jx)))
def jz (aQ:PV):W PV:=
 eM (Ym (rC (am (am (bd aQ) (fF .str)) dj)) (rC (chT oLe oLe (bd (.int 1)) (c1 dQ (bd aQ)) (bd (.int 8))))) (
 (bd (.bl false))) (
 (am (am (am (bd aQ) G5) λl1=>mapW l1 λp2=>(b2 Sa (bd p2) (bd (.str "abcdefghijklmnopqrstuvwxyz")))) Gu))
def g9 (aQ:PV) (Hd:PV):W PV:=
 am (aQ\λx3=>bd [x3]) λft=>
 am (rq (λs4=>(s4.2\λl5=>bd (!l5.isEmpty))) (λs4=>(
 am (wK s4.2) λt7=>
 eM (am (t7.2\λx8=>(.int 2)\λx9=>eR x8 x9) dj) (
 am (am (bd t7.2) az) λl11=>am (xN t7.1 l11) λgQ=>
 bd (.go (s4.1,gQ))) (
 eM (Ym (rC (am (t7.2\λjk=>jz jk) dj)) (um (t7.2\λrj=>am (uB rj) λk13=>bd (qh s4.1 k13)) (rC (am (bd Hd) dj)))) (
 (.bl false)\λkr=>bd (Lp.out kr)) (
 (.bl true)\λvV=>t7.2\λvU=>am (V6 s4.1 vU vV) λJA=>
 bd (.go (JA,t7.1)))))) ([],ft)) (GJ (λs4=>
 (bd (.bl true))) id)
def dY (fP:PV) (dP:PV):W (List PV):=
 (am (am (am (bd fP) az) λl1=>am (am (bd dP) az) λl2=>m7 l1 l2) λl3=>kG l3 λp4=>am (pE p4) λt5=>Hx (rC (am (am (bd t5.1) (fF .str)) dj)) (bd t5.2))
def bJ (Ni:PV):W PV:=
 (bq (am (bd Ni) az) (am (c1 dQ (bd Ni)) λx1=>bh x1))
def kZ (eB:PV):W PV:=
 am (am (bd eB) az) λrH=>
 am ((.int 4)\λx3=>bh x3) λUg=>
 am (mD (λs4=>(t2 oGt (am (bd s4) qe) (bd (.int 1)))) (λs4=>(
 am (bq (am (am (b2 nC (am (bd s4) qe) (bd (.int 1))) λx6=>bh x6) λx7=>am (b2 nC (am (bd s4) qe) (bd (.int 2))) λx8=>(.int 0)\λx9=>(.int 0)\λmC=>bd [x7,x8,x9,mC]) (bd Ug)) λmW=>
 am (am (bq (bd s4) (bd mW)) λrj=>am (bq (bd s4) (w2 addW (bd mW) (bd (.int 1)))) λku=>bd (.tup [rj,ku])) λqE=>
 am (um (t2 d9 (bd Ug) (bd (.int 3))) (t2 d9 ((.int 2)\λjk=>bh jk) (bd (.int 0)))) λb=>am (if b=true then (
 am (am (bq (bd s4) (w2 addW (bd mW) (bd (.int 1)))) λpV=>am (bq (bd s4) (bd mW)) λpU=>bd (.tup [pV,pU])) λqD=>
 bd qD) else (
 bd qE)) λYo=>
 am (Yo\λrg=>bd [rg]) λl24=>mW\λue=>am (w2 addW (bd mW) (bd (.int 2))) λq9=>am (Rg s4 ue q9 l24) λqz=>
 bd qz)) rH) λs4=>
 (bq (bd s4) (bd (.int 0)))
def nJ:W PV:=
 (am (pq (am (w2 addW (bd (.int 1)) (am (bq ((.int 5)\λx1=>(.int 8)\λx2=>bd [x1,x2]) (c1 tU (b2 d9 ((.int 8)\λx3=>bh x3) (bd (.int 0))))) λx4=>bh x4)) λx5=>dE x5)) λx6=>kZ x6)
def bp:Nat->PV->W (List PV)
 | 0,_=>W.fail
 | n+1,cV=>
 eM (am (am (bd cV) (fF .str)) dj) (
 (cV\λx1=>bd [x1])) (
 am (am (bq (am (bd cV) az) (bd (.int 0))) λx3=>bp n x3) λwG=>
 am (am (bd wG) qe) λsk=>
 am (am (bq (am (bd cV) az) (bd (.int 1))) λx5=>bp n x5) λl18=>am (dG l18 wG λzb s6=>(
 am (eM (am (am (bd zb) (fF .str)) dj) (bd zb) (am (w2 addW (bq (am (bd zb) az) (bd (.int 0))) (bd sk)) λx9=>am (w2 addW (bq (am (bd zb) az) (bd (.int 1))) (bd sk)) λmC=>bd (.tup [x9,mC]))) λrm=>am (kE s6 rm) λNq=>
 bd Nq)) λs6=>
 (s6\λWZ=>am (am (am (b2 nC (bd sk) (bd (.int 1))) λrj=>am (b2 nC (am (bd s6) qe) (bd (.int 1))) λku=>bd (.tup [rj,ku])) λjk=>bd [jk]) λWY=>mS WZ WY))
def eW (bU:PV):W PV:=
 am (am ((.int 0)\λx2=>bd [x2]) λl3=>am (c1 dQ (bd bU)) λx4=>zd l3 x4) λka=>
 am (am (am (am (bd bU) az) λl6=>.fg (l6.length<=sizeLine) (.ret (dZ 0 l6))) λl7=>kG l7 λp8=>am (pE p8) λt9=>Hx (rC (am (am (bd t9.2) (fF .str)) dj)) (bd t9.1)) λHv=>
 (.int 0)\λye=>
 am (mD (λpY=>(pY.2.1\λl12=>bd (!l12.isEmpty))) (λpY=>(
 am (am (am (am (bd (.cl pY.2.1)) az) λl14=>kG l14 λZ2=>Hx (um (SN true (bq (am (bq (am (bd bU) az) (bd Z2)) az) (bd (.int 0))) (am (bd (.cl pY.2.1)) az)) (SN true (bq (am (bq (am (bd bU) az) (bd Z2)) az) (bd (.int 1))) (am (bd (.cl pY.2.1)) az))) (bd Z2)) MZ) λzf=>
 am ((.cl zf)\λvV=>bJ vV) λsM=>
 am (w2 addW (w2 addW (bd pY.2.2) (bd (.int 1))) (am (bq ((.int 1)\λrh=>(.int 3)\λpV=>(.int 13)\λpU=>bd [rh,pV,pU]) ((.int 3)\λuf=>bh uf)) λrg=>bh rg)) λyd=>
 yd\λue=>sM\λq9=>am (fX pY.1 q9 ue) λmy=>
 sM\λKy=>am (VP pY.2.1 Ky) λJV=>
 bd (my,JV,yd))) (ka,Hv,ye)) λpY=>
 (am (bd pY.1) oH)
def gY (dN:PV) (dP:PV) (kd:PV):W (List PV):=
 am (dN\λx2=>fB x2) λd7=>
 []\λwR=>
 am (am (am (bd kd) az) λl4=>.fg (l4.length<=sizeLine) (.ret (dZ 0 l4))) λl19=>am (dG l19 wR λp6 s5=>am (pE p6) λt7=>(
 am (am (am (bd dP) az) λl8=>.fg (l8.length<=sizeLine) (.ret (dZ 0 l8))) λLg=>am (dG Lg s5 λYp s9=>am (pE Yp) λZt=>(
 eM (um (t2 oLe (bd Zt.2) (bd t7.2)) (Ym (t2 K9 (bq (am (bd d7) az) (bd Zt.1)) (bd .aO)) (t2 oLt (bd t7.2) (bq (am (bd dP) az) (bq (am (bd d7) az) (bd Zt.1)))))) (
 am (Zt.1\λku=>t7.1\λjk=>bd (.tup [ku,jk])) λkr=>am (kE s9 kr) λzx=>
 bd zx) (
 bd s9))) λs9=>
 bd s9)) λs5=>
 bd s5
def jy (fP:PV) (dP:PV) (kd:PV) (nG:PV) (NY:PV):W PV:=
 am (bq (am (bd NY) az) (bd (.int 0))) λlS=>
 am (bq (am (bd NY) az) (bd (.int 1))) λnN=>
 am (b2 oLt (bq (am (bd dP) az) (bd lS)) (bq (am (bd kd) az) (bd nN))) λvB=>
 am (eM (am (bd vB) dj) (lS\λx5=>bd (.tup [x5])) (am (bq (am (bd fP) az) (bd lS)) λx6=>du x6)) λbelow_4=>
 am (am (am (am (bd below_4) az) λl8=>mapW l8 λp9=>(dgB (bd nG) (p9\λmC=>am (b2 nC (bd nN) (bd (.int 1))) λrm=>bd (.tup [mC,rm])))) oH) λJk=>
 am (am (am (am (bd nG) Ou) λl13=>kG l13 λZ3=>Hx (um (t2 d9 (bq (am (bd Z3) az) (bd (.int 1))) (bd nN)) (t2 He (bq (am (bd Z3) az) (bd (.int 0))) (bd lS))) (dgB (bd nG) (bd Z3))) oH) λvP=>
 (am (fP\λkr=>lS\λGP=>eD kr GP) λvV=>nN\λvU=>Jk\λrh=>vP\λpV=>bd (.tup [vV,vU,rh,pV]))
def lQ (dN:PV) (dP:PV):W PV:=
 am (dN\λx2=>iI x2) λgj=>
 am (am ((.int 0)\λx4=>bd [x4]) λl7=>am (am (gj\λx5=>dP\λx6=>dY x5 x6) wB) λl8=>mS l7 l8) λtT=>
 am (dN\λmC=>dP\λrm=>(.cl tT)\λrj=>gY mC rm rj) λwQ=>
 am (am (am (am (am (bd (.cl wQ)) az) λl14=>.fg (l14.length<=sizeLine) (.ret (dZ 0 l14))) λWZ=>mapW WZ λþ=>am (pE þ) λĔ=>(Ĕ.2\λvU=>Ĕ.1\λrh=>bd (.tup [vU,rh]))) Iw) λrX=>
 (am (am (am (bd (.cl wQ)) az) λl20=>mapW l20 λp21=>(gj\λuf=>dP\λrg=>(.cl tT)\λyO=>rX\λue=>p21\λq9=>jy uf rg yO ue q9)) oH)
def lP (aQ:PV):W PV:=
 (aQ\λx1=>(.bl true)\λx2=>g9 x1 x2)
def cZ (aK:PV) (bb:PV):W PV:=
 (bq (am (bq (am (bd aK) az) (bd bb)) az) (bd (.int 2)))
def gc (aK:PV) (bb:PV):W PV:=
 (bq (am (bq (am (bd aK) az) (bd bb)) az) (bd (.int 3)))
def jA (aK:PV) (bb:PV) (Ue:PV):W PV:=
 (Gs (b2 d9 (aK\λx1=>bb\λx2=>cZ x1 x2) (bd (.tup []))) (b2 d9 (bq (am (bq (am (bd aK) az) (bd bb)) az) (bd (.int 0))) (bd Ue)))
def bE (oD:PV):W PV:=
 (bq (am (bq (am (bd oD) az) (bd (.int 0))) az) (bd (.int 0)))
def jB (oD:PV):W PV:=
 (bq (am (bq (am (bd oD) az) (bd (.int 0))) az) (am (bd (.int 1)) kB))
def kX (oD:PV):W PV:=
 (am (am (am (oD\λx3=>am (am (bd (.int 2)) part) λi1=>bm\λj2=>kz x3 i1 j2) az) λl4=>mapW l4 λp5=>(p5\λx6=>bE x6)) oH)
def gb (aW:PV) (bb:PV):W (List PV):=
 am (aW\λx2=>bb\λx3=>cZ x2 x3) λnj=>
 (eM (t2 d9 (c1 dQ (bd nj)) (bd (.int 2))) (nj\λx4=>am (am (bq (am (bd nj) az) (bd (.int 1))) λx5=>am (bq (am (bd nj) az) (bd (.int 0))) λx6=>bd (.tup [x5,x6])) λx7=>bd [x4,x7]) (bd []))
def gZ (aW:PV) (bb:PV):W (List PV):=
 am (aW\λx2=>bb\λx3=>gc x2 x3) λtS=>
 (am (am (am (bd tS) az) λl4=>mapW l4 λp5=>(bb\λx6=>p5\λx7=>bd (.tup [x6,x7]))) λl12=>am (am (am (bd tS) az) λl8=>mapW l8 λp9=>(p9\λmC=>bb\λrm=>bd (.tup [mC,rm]))) λl13=>mS l12 l13)
def eg (aW:PV) (cj:PV) (bb:PV):W (List PV):=
 eM (am (am (bd cj) (fF .str)) dj) (
 (eM (am (aW\λx1=>bb\λx2=>cj\λx3=>jA x1 x2 x3) dj) (am ((.str "found")\λx4=>(.tup [])\λx5=>bd (.tup [x4,x5])) λx6=>bd [x6]) (bd []))) (
 am (am (aW\λx8=>bb\λx9=>gb x8 x9) λW2=>mapW W2 λGH=>((.str "split")\λrj=>GH\λku=>bd (.tup [rj,ku]))) λJw=>
 am (am (aW\λkr=>bb\λGP=>gZ kr GP) λLg=>mapW Lg λZ1=>((.str "over")\λrh=>Z1\λpV=>bd (.tup [rh,pV]))) λJN=>
 (am (am (am (am ((.str "doubled")\λpU=>am (bb\λuf=>bb\λrg=>bd (.tup [uf,rg])) λyO=>bd (.tup [pU,yO])) λue=>bd [ue]) λl26=>am (am (bd (.cl Jw)) su) λWX=>mS l26 WX) λl28=>am (am (bd (.cl JN)) su) λWW=>mS l28 WW) Ng))
def dD (aW:PV) (aQ:PV):W PV:=
 (Gs (aQ\λx1=>fx x1) (chB oLe oLt (bd (.int 0)) (bd aQ) (c1 dQ (bd aW))))
def bj (aW:PV) (aQ:PV):W PV:=
 eM (Ym (rC (am (am (bd aQ) (fF .tup)) dj)) (t2 d9 (c1 dQ (bd aQ)) (bd (.int 0)))) (
 (bd (.bl false))) (
 eM (rC (am (am (am (am (bd aQ) az) λl1=>mapW l1 λp2=>(aW\λx3=>p2\λx4=>dD x3 x4)) Gu) dj)) (
 (bd (.bl false))) (
 (am (am (am (am (bd aQ) az) λl8=>am (am (aQ\λx7=>am (am (bd (.int 1)) part) λi5=>bm\λj6=>kz x7 i5 j6) az) λl9=>m7 l8 l9) λW2=>mapW W2 λGH=>am (pE GH) λpX=>(aaA false (bd pX.2) (am (aW\λku=>pX.1\λjk=>cZ ku jk) az))) Gu)))
def bA (aW:PV) (cj:PV) (aQ:PV):W PV:=
 am (eM (am (am (bd cj) (fF .str)) dj) (bd (.int 2)) (bd (.int 4))) λOg=>
 (Gs (aQ\λx4=>Og\λx5=>eR x4 x5) (Gs (aW\λx2=>am (bq (am (bd aQ) az) (bd (.int 0))) λx3=>bj x2 x3) (am (bq (am (bd aQ) az) (bd (.int 1))) (fF .str))))
def bO (aW:PV) (u0:PV) (aQ:PV):W PV:=
 am (am (am (bd u0) az) λl2=>mapW l2 λp3=>(bd .aO)) λMV=>
 aQ\λx5=>am (am (bd (.int 1)) kB) λx6=>am (fX MV x6 x5) λmF=>
 am (am (b2 nC (c1 dQ (bd u0)) (bd (.int 1))) λx7=>am (am (bd (.int 1)) kB) λx8=>am (am (bd (.int 1)) kB) λx9=>JD x7 x8 x9) λl33=>am (iy l33 mF λlN Rm=>(
 am (bq (am (bd u0) az) (bd lN)) λqH=>
 am (bq (bd Rm) (bd lN)) λvX=>
 eM (rC (am (aW\λjk=>qH\λkr=>vX\λGP=>bA jk kr GP) dj)) (
 .aO\λvV=>bd (Lp.out vV)) (
 am (am (am (qH\λvU=>du vU) az) λl22=>am (am (vX\λpU=>am (am (bd (.int 2)) part) λi19=>bm\λj20=>kz pU i19 j20) az) λl23=>m7 l22 l23) λl31=>am (dG l31 Rm λp25 VJ=>am (pE p25) λē=>(
 ē.2\λKy=>ē.1\λY4=>am (fX VJ Y4 Ky) λJh=>
 bd Jh)) λVJ=>
 bd (.go VJ)))) (GJ (λRm=>
 (bd (.cl Rm))) id)
def fy (aW:PV) (cj:PV) (oD:PV):W PV:=
 (aaA false (am (bq (am (bd oD) az) (bd (.int 1))) λx1=>am (oD\λx2=>kX x2) λx3=>bd (.tup [x1,x3])) (aW\λx4=>cj\λx5=>am (oD\λx6=>jB x6) λx7=>eg x4 x5 x7))
def eQ (aW:PV) (G4:PV) (aQ:PV):W PV:=
 eM (rC (am (G4\λx1=>lP x1) dj)) (
 (bd (.bl false))) (
 am (G4\λx3=>iI x3) λGX=>
 am (aW\λx5=>GX\λx6=>aQ\λx7=>bO x5 x6 x7) λmF=>
 eM (Ym (t2 K9 (bd mF) (bd .aO)) (t2 He (c1 dQ (bq (am (bd aQ) az) (bd (.int 0)))) (bd (.int 1)))) (
 (bd (.bl false))) (
 (am (am (am (am (bd GX) az) λl8=>am (am (bd mF) az) λl9=>m7 l8 l9) λW2=>mapW W2 λGH=>am (pE GH) λpX=>(aW\λku=>pX.1\λjk=>pX.2\λkr=>fy ku jk kr)) Gu)))
def fM (eB:PV):W PV:=
 am (am (bd eB) az) λrH=>
 am ((.int 4)\λx3=>bh x3) λgP=>
 am (mD (λs4=>(t2 oGt (am (bd s4) qe) (bd (.int 1)))) (λs4=>(
 am (bq (am (am (b2 nC (am (bd s4) qe) (bd (.int 1))) λx6=>bh x6) λx7=>am (b2 nC (am (bd s4) qe) (bd (.int 2))) λx8=>(.int 0)\λx9=>(.int 0)\λmC=>bd [x7,x8,x9,mC]) (bd gP)) λmW=>
 am (am (bq (bd s4) (bd mW)) λrj=>am (bq (bd s4) (w2 addW (bd mW) (bd (.int 1)))) λku=>bd (.tup [rj,ku])) λqE=>
 am (um (t2 d9 (bd gP) (bd (.int 3))) (t2 d9 ((.int 2)\λjk=>bh jk) (bd (.int 0)))) λb=>am (if b=true then (
 am (am (bq (bd s4) (w2 addW (bd mW) (bd (.int 1)))) λpV=>am (bq (bd s4) (bd mW)) λpU=>bd (.tup [pV,pU])) λqD=>
 bd qD) else (
 bd qE)) λYo=>
 am (Yo\λrg=>bd [rg]) λl24=>mW\λue=>am (w2 addW (bd mW) (bd (.int 2))) λq9=>am (Rg s4 ue q9 l24) λqz=>
 bd qz)) rH) λs4=>
 (bq (bd s4) (bd (.int 0)))
def eU:W PV:=
 (am (pq (am (w2 addW (bd (.int 1)) (am (bq ((.int 5)\λx1=>(.int 8)\λx2=>bd [x1,x2]) (c1 tU (b2 d9 ((.int 8)\λx3=>bh x3) (bd (.int 0))))) λx4=>bh x4)) λx5=>dE x5)) λx6=>fM x6)
def eT (dw:PV):W PV:=
 am (am (dw\λx2=>bp 12 x2) λl3=>kG l3 λp4=>Hx (am (am (bd p4) (fF .str)) dj) (bd p4)) λm9=>
 am (w2 addW (bd (.int 1)) (am (bq ((.int 6)\λx6=>(.int 10)\λx7=>bd [x6,x7]) (c1 tU (b2 d9 ((.int 8)\λx8=>bh x8) (bd (.int 0))))) λx9=>bh x9)) λOe=>
 (am (pq (am (am (bd Oe) ki) λl11=>mapW l11 λp12=>((.cl m9)\λku=>bJ ku))) λjk=>fM jk)
def cC (dw:PV):W PV:=
 eM (t2 d9 ((.int 2)\λx1=>bh x1) (bd (.int 0))) (
 (dw\λx2=>kY x2)) (
 (dw\λx3=>am (am (pq (dw\λx4=>bp 12 x4)) λx5=>eW x5) λx6=>lQ x3 x6))
def eV (aK:PV) (bb:PV):W (List PV):=
 am (bq (am (bd aK) az) (bd bb)) λx1=>am (Y8 x1) λt3=>
 am (am ((.str "doubled")\λx5=>bb\λx6=>bb\λx7=>bd (.tup [x5,x6,x7])) λx8=>bd [x8]) λxH=>
 am (t2 d9 (c1 dQ (bd t3.2.2.1)) (bd (.int 2))) λb=>am (if b=true then (
 am (am ((.str "split")\λpU=>am (bq (am (bd t3.2.2.1) az) (bd (.int 0))) λuf=>am (bq (am (bd t3.2.2.1) az) (bd (.int 1))) λrg=>bd (.tup [pU,uf,rg])) λyO=>am ((.str "split")\λue=>am (bq (am (bd t3.2.2.1) az) (bd (.int 1))) λq9=>am (bq (am (bd t3.2.2.1) az) (bd (.int 0))) λQN=>bd (.tup [ue,q9,QN])) λKy=>bd [yO,Ky]) λWW=>am (xN xH WW) λFl=>
 bd Fl) else (
 bd xH)) λQy=>
 am (am (bd t3.2.2.2) az) λl43=>am (dG l43 Qy λjt Rl=>(
 am (am ((.str "over")\λY3=>bb\λY2=>jt\λVk=>bd (.tup [Y3,Y2,Vk])) λY1=>am ((.str "over")\λY0=>jt\λx38=>bb\λx39=>bd (.tup [Y0,x38,x39])) λx40=>bd [Y1,x40]) λl41=>am (xN Rl l41) λnY=>
 bd nY)) λRl=>
 bd Rl
def cB (aK:PV) (bU:PV) (a6:PV) (cj:PV) (bb:PV):W (List PV):=
 am (bq (am (bd bU) az) (bd cj)) λzc=>
 eM (am (am (bd zc) (fF .str)) dj) (
 (am (am ((.str "found")\λx2=>bb\λx3=>bb\λx4=>bd (.tup [x2,x3,x4])) λx5=>bd [x5]) λl6=>am (c1 tU (Gs (b2 d9 (bq (am (bq (am (bd aK) az) (bd bb)) az) (bd (.int 2))) (bd (.tup []))) (b2 d9 (bq (am (bq (am (bd aK) az) (bd bb)) az) (bd (.int 0))) (bd zc)))) λx7=>zd l6 x7)) (
 (am (aK\λx8=>bb\λx9=>eV x8 x9) λW2=>kG W2 λGH=>Hx (um (am (bq (am (bq (am (bd a6) az) (bq (am (bd zc) az) (bd (.int 0)))) az) (bq (am (bd GH) az) (bd (.int 1)))) dj) (am (bq (am (bq (am (bd a6) az) (bq (am (bd zc) az) (bd (.int 1)))) az) (bq (am (bd GH) az) (bd (.int 2)))) dj)) (bd GH)))
def hJ (aK:PV) (bU:PV):W (List PV):=
 am (am (c1 dQ (bd bU)) ki) λl32=>am (dG l32 (([]:List ci),([]:List (List PV))) λsd s3=>(
 am (am ((.bl false)\λx5=>bd [x5]) λl6=>am (c1 dQ (bd aK)) λx7=>zd l6 x7) λl8=>W.fg (s3.2.length < sizeLine) (am (W.any λ_=>True) λb9=>(s3.2++[l8])\λsY=>
 am (am (c1 dQ (bd aK)) ki) λl30=>am (dG l30 (b9,sY) λqu Mx=>(
 am (am (am (am (am (am (bq (am (bq (am (bd aK) az) (bd qu)) az) (bd (.int 2))) az) λWZ=>mapW WZ λþ=>(bq (am (bq (am (bd (.cl (Mx.2.map PV.cl))) az) (bd sd)) az) (bd þ))) Ql) rE) rE) λUx=>
 am (am (am (orB (bd Ux) (am (aK\λvV=>bU\λvU=>am (bd (.cl (Mx.2.map PV.cl))) λrh=>sd\λpV=>qu\λpU=>cB vV vU rh pV pU) λl22=>bd (.bl (!l22.isEmpty)))) rE) rE) λrg=>sd\λyO=>am (SG Mx.2 yO) λj25=>qu\λq9=>am (fX j25.2 q9 rg) λWX=>(Mx.2.set j25.1 WX)\λzY=>
 bd (Mx.1,zY))) λMx=>
 bd Mx))) λs3=>
 bd (s3.2.map PV.cl)
def eE (aK:PV) (bU:PV) (a6:PV) (cj:PV) (bb:PV):W PV:=
 am (bb\λx2=>bd [x2]) λkR=>
 am (am (c1 dQ (bd aK)) ki) λl35=>am (dG l35 kR λVr s4=>(
 am (am (am (bq (am (bq (am (bd aK) az) (bq (bd s4) (am (bd (.int 1)) kB))) az) (bd (.int 2))) az) λl7=>kG l7 λp8=>Hx (am (bq (am (bq (am (bd a6) az) (bd cj)) az) (bd p8)) dj) (bd p8)) λWz=>
 am (orB (am (aK\λrm=>bU\λrj=>a6\λku=>cj\λjk=>am (bq (bd s4) (am (bd (.int 1)) kB)) λkr=>cB rm rj ku jk kr) λWY=>bd (.bl (WY.isEmpty))) (b2 d9 ((.int 3)\λmC=>bh mC) (bd (.int 0)))) λPt=>
 eM (um (am (am (bd (.cl Wz)) su) λLg=>bd (!Lg.isEmpty)) (am (bd Pt) dj)) (
 am ((.cl Wz)\λrh=>bJ rh) λpV=>am (kE s4 pV) λgD=>
 bd gD) (
 bd s4))) λs4=>
 am (mD (λNp=>(am (aK\λuf=>bU\λrg=>a6\λyO=>cj\λue=>am (bq (bd Np) (am (bd (.int 1)) kB)) λq9=>cB uf rg yO ue q9) λWX=>bd (WX.isEmpty))) (λNp=>(
 am (am (pq (am (am (bq (am (bq (am (bd aK) az) (bq (bd Np) (am (bd (.int 1)) kB))) az) (bd (.int 2))) az) λWW=>kG WW λý=>Hx (am (bq (am (bq (am (bd a6) az) (bd cj)) az) (bd ý)) dj) (bd ý))) λVm=>bJ Vm) λVl=>am (kE Np Vl) λnA=>
 bd nA)) s4) λNp=>
 (am (bd Np) oH)
def c6:Nat->PV->PV->PV->PV->PV->W PV
 | 0,_,_,_,_,_=>W.fail
 | n+1,aK,bU,a6,cj,d8=>
 am (am (pq (aK\λx1=>bU\λx2=>a6\λx3=>cj\λx4=>am (bq (am (bd d8) az) (am (bd (.int 1)) kB)) λx5=>cB x1 x2 x3 x4 x5)) λx6=>bJ x6) λx7=>am (un3 x7) λt8=>
 eM (t2 d9 (bd t8.1) (bd (.str "found"))) (
 (d8\λx9=>t8.1\λmC=>bd (.tup [x9,mC]))) (
 am (bq (am (bd bU) az) (bd cj)) λrO=>
 am (aK\λku=>bU\λjk=>a6\λkr=>am (bq (am (bd rO) az) (bd (.int 0))) λGP=>am (aK\λvV=>bU\λvU=>a6\λrh=>am (bq (am (bd rO) az) (bd (.int 0))) λpV=>t8.2.1\λpU=>eE vV vU rh pV pU) λuf=>c6 n ku jk kr GP uf) λF1=>
 (d8\λrg=>t8.1\λyO=>F1\λue=>am (aK\λq9=>bU\λQN=>a6\λKy=>am (bq (am (bd rO) az) (bd (.int 1))) λY4=>am (aK\λx30=>bU\λVm=>a6\λVl=>am (bq (am (bd rO) az) (bd (.int 1))) λY3=>t8.2.2\λY2=>eE x30 Vm Vl Y3 Y2) λVk=>c6 n q9 QN Ky Y4 Vk) λY1=>bd (.tup [rg,yO,ue,Y1])))
def cQ (aK:PV) (pG:PV):W PV:=
 am (pG\λx2=>bp 12 x2) λrN=>
 am (aK\λx4=>(.cl rN)\λx5=>hJ x4 x5) λmT=>
 am (b2 nC (c1 dQ (bd (.cl rN))) (bd (.int 1))) λHy=>
 am (am (am (c1 dQ (bd aK)) ki) λl9=>kG l9 λYp=>Hx (am (aK\λrm=>(.cl rN)\λrj=>(.cl mT)\λku=>Hy\λjk=>Yp\λkr=>cB rm rj ku jk kr) λWY=>bd (!WY.isEmpty)) (bd Yp)) λrG=>
 (aK\λvV=>(.cl rN)\λvU=>(.cl mT)\λrh=>Hy\λpV=>am (am ((.cl rG)\λpU=>bJ pU) λuf=>bd (.tup [uf])) λrg=>c6 12 vV vU rh pV rg)
def gE:W PV:=
 am (eU) λgF=>
 am (gF\λx3=>cC x3) λwo=>
 am (gF\λx5=>eT x5) λjS=>
 (gF\λx6=>wo\λx7=>jS\λx8=>am (wo\λx9=>jS\λmC=>cQ x9 mC) λrm=>bd (.tup [x6,x7,x8,rm]))
def cx:W (List PV):=
 (.tup [])\λIy=>
 am (am (bd (.int 45)) ki) λl45=>am (dG l45 Iy λrA s3=>(
 am (s3\λx6=>bd (.tup [x6])) λPR=>
 bd PR)) λs3=>
 am (.aO\λx8=>(.bl true)\λx9=>(.bl false)\λmC=>(.str "")\λrm=>(.str "found")\λrj=>(.str "split")\λku=>am (pq (bd [])) λjk=>(Tp [])\λkr=>(.tup [])\λGP=>s3\λvV=>am (b2 uv (bd (.int 10)) (bd (.int 30))) λvU=>am (am (bd (.int 1)) kB) λrh=>(.int 99)\λpV=>bd [x8,x9,mC,rm,rj,ku,jk,kr,GP,vV,vU,rh,pV]) λrG=>
 (am (am (bd (.cl rG)) su) λl42=>am (am ((.str "found")\λpU=>bd (.tup [pU])) λuf=>am (am ((.int 0)\λrg=>bd (.tup [rg])) λyO=>bd (.tup [yO])) λue=>am (am ((.int 0)\λq9=>bd (.tup [q9])) λQN=>(.str "found")\λKy=>(.str "found")\λY4=>bd (.tup [QN,Ky,Y4])) λx30=>am (pq (am ((.int 0)\λVm=>bd (.tup [Vm])) λVl=>(.str "found")\λY3=>bd [Vl,Y3])) λY2=>am ((.tup [])\λVk=>(.str "found")\λY1=>bd (.tup [Vk,Y1])) λY0=>am ((.int 0)\λx38=>(.str "found")\λx39=>am (uB x38) λk40=>bd (Tp [(k40,x39)])) λx41=>bd [uf,ue,x30,Y2,Y0,x41]) λl43=>mS l42 l43)
def fC (aB:PV):W (List PV):=
 am (am (c1 dQ (bq (am (bd aB) az) (bd (.int 0)))) λx2=>bh x2) λQg=>
 am (am (bq (am (bd aB) az) (bd (.int 0))) λx3=>am (bq (am (bq (am (bd aB) az) (bd (.int 0))) az) (bd Qg)) λx4=>bd (.tup [x3,x4])) λx5=>am (pE x5) λt6=>
 am (am (am (bd t6.2) VB) λx8=>am (t6.2\λx9=>bd (.tup [x9])) λmC=>am (pq (t6.2\λrm=>bd [rm])) λrj=>.aO\λku=>am (b2 nC (am (bd (.int 1)) kB) (bd t6.2)) λjk=>am (w2 addW (bd t6.2) (b2 uv (bd (.int 10)) (bd (.int 20)))) λkr=>(Tp [])\λGP=>bd [x8,mC,rj,ku,jk,kr,GP]) λmK=>
 am (t2 oLt (bd t6.2) (bd (.int 2))) λb=>am (if b=true then (
 am (b2 d9 (bd t6.2) (bd (.int 1))) λpU=>am (kE mK pU) λpJ=>
 bd pJ) else (
 bd mK)) λQy=>
 am (am (am (bd (.cl Qy)) az) λl23=>mapW l23 λp24=>(w2 addW (am (w2 addW (w2 addW (t6.1\λQN=>bm\λi25=>am (am (bd Qg) part) λj26=>kz QN i25 j26) (p24\λKy=>bd (.tup [Ky]))) (t6.1\λVm=>am (am (w2 addW (bd Qg) (bd (.int 1))) part) λi29=>bm\λj30=>kz Vm i29 j30)) λVl=>bd (.tup [Vl])) (aB\λVk=>am (am (bd (.int 1)) part) λi33=>bm\λj34=>kz Vk i33 j34))) λz9=>
 am (am (am (bd (.cl z9)) su) λl58=>am (am (w2 addW (am (pq (am (bd t6.1) az)) λY0=>bd (.tup [Y0])) (aB\λx40=>am (am (bd (.int 1)) part) λi38=>bm\λj39=>kz x40 i38 j39)) λx41=>am (w2 addW ((.tup [])\λx42=>bd (.tup [x42])) (aB\λx45=>am (am (bd (.int 1)) part) λi43=>bm\λj44=>kz x45 i43 j44)) λx46=>am (w2 addW (.aO\λx47=>bd (.tup [x47])) (aB\λx50=>am (am (bd (.int 1)) part) λi48=>bm\λj49=>kz x50 i48 j49)) λx51=>am (w2 addW (am (bq (am (bd t6.1) az) (bd (.int 0))) λx52=>bd (.tup [x52])) (aB\λx55=>am (am (bd (.int 1)) part) λi53=>bm\λj54=>kz x55 i53 j54)) λx56=>am (pq (am (bd aB) az)) λx57=>bd [x41,x46,x51,x56,x57]) λl59=>mS l58 l59) λzX=>
 am (.aO\λx61=>am (am (bq (am (bd aB) az) (bd (.int 1))) upW) λx62=>am (am (bq (am (bd aB) az) (bd (.int 1))) λx63=>bd (.tup [x63])) λx64=>am (pq (am (bq (am (bd aB) az) (bd (.int 1))) λx65=>bd [x65])) λx66=>(.bl true)\λx67=>(.int 0)\λx68=>am (w2 addW (bq (am (bd aB) az) (bd (.int 1))) (bd (.str " "))) λx69=>am (am (bq (am (bd aB) az) (bd (.int 1))) λx72=>bm\λi70=>am (am (am (bd (.int 1)) kB) part) λj71=>VH x72 i70 j71) λx73=>(.str "")\λx74=>bd [x61,x62,x64,x66,x67,x68,x69,x73,x74]) λmx=>
 am (am (am (bd (.cl zX)) su) λl85=>am (am (am (bd (.cl mx)) az) λl76=>mapW l76 λp77=>(w2 addW (w2 addW (aB\λx80=>bm\λi78=>am (am (bd (.int 1)) part) λj79=>kz x80 i78 j79) (p77\λx81=>bd (.tup [x81]))) (aB\λx84=>am (am (bd (.int 2)) part) λi82=>bm\λj83=>kz x84 i82 j83))) λl86=>mS l85 l86) λzW=>
 (am (am (bd (.cl zW)) su) λaeh=>am (am (w2 addW (bd aB) (aB\λx87=>bd (.tup [x87]))) λx88=>am (aB\λx91=>bm\λi89=>am (am (bd (.int 1)) part) λj90=>kz x91 i89 j90) λx92=>am (aB\λx95=>bm\λi93=>am (am (am (bd (.int 1)) kB) part) λj94=>kz x95 i93 j94) λx96=>am (w2 addW (bd aB) (.aO\λx97=>bd (.tup [x97]))) λx98=>am (aB\λx99=>bm\λaet=>bm\λaep=>am (am (am (bd (.int 1)) kB) part) λaem=>Nk x99 aet aep aem) λadn=>am (aB\λadm=>bd (.tup [adm])) λadl=>bd [x88,x92,x96,x98,adn,adl]) λaeg=>mS aeh aeg)
def bG:Nat->PV->PV->W (List PV)
 | 0,_,_=>W.fail
 | n+1,aB,cW=>
 eM (Ym (t2 d9 (c1 dQ (bd aB)) (bd (.int 2))) (t2 d9 ((.int 3)\λx1=>bh x1) (bd (.int 0)))) (
 (am (am (bd cW) su) λl3=>am (aB\λx2=>fC x2) λl4=>mS l3 l4)) (
 eM (t2 d9 ((.int 2)\λx5=>bh x5) (bd (.int 0))) (
 (am (am (bq (am (bd aB) az) (bd (.int 2))) λx6=>cW\λx7=>bG n x6 x7) λl8=>mapW l8 λp9=>(w2 addW (aB\λrj=>bm\λi10=>am (am (bd (.int 2)) part) λj11=>kz rj i10 j11) (p9\λku=>am (bq (am (bd aB) az) (bd (.int 3))) λjk=>bd (.tup [ku,jk]))))) (
 (am (am (bq (am (bd aB) az) (bd (.int 3))) λkr=>cW\λGP=>bG n kr GP) λLg=>mapW Lg λZ1=>(w2 addW (aB\λpU=>bm\λi19=>am (am (bd (.int 3)) part) λj20=>kz pU i19 j20) (Z1\λuf=>bd (.tup [uf]))))))
def nI (fK:PV):W PV:=
 am (am ((.int 1)\λx3=>am (am (c1 dQ (bd fK)) λx1=>(.int 6)\λx2=>qa Qd [x1,x2]) λx4=>qa Qe [x3,x4]) ki) λl30=>am (iy l30 () λĚ s6=>(
 am (fK\λx9=>Ě\λmC=>hE x9 mC) λrS=>ZU eL rS (
 am (gE) λrm=>am (Y8 rm) λpX=>
 am (am (pX.2.2.2\λku=>am (pq (cx)) λjk=>bG 12 ku jk) λWZ=>am (cx) λWY=>mS WZ WY) λl28=>am (iy l28 () λyV ü=>(
 eM (t2 nF (pX.2.1\λrh=>pX.2.2.1\λpV=>yV\λpU=>eQ rh pV pU) (bd (.bl false))) (
 (.bl false)\λuf=>bd (Lp.out uf)) (
 bd (.go ())))) (GJ (λü=>
 eM (t2 nF (pX.2.1\λrg=>pX.2.2.1\λyO=>pX.2.2.2\λue=>eQ rg yO ue) (bd (.bl true))) (
 (.bl false)\λq9=>bd (Lp.out q9)) (
 bd (.go ()))) Lp.out)))) (GJ (λs6=>
 (bd (.bl true))) id)
end My
variable {Q:List PL.PV->Prop}{t:My.Tr}
namespace My
open PySem PySem.Spec PyProof.Rows L2 PL FL
def Tr.pv:Tr->PV
 | .leaf x=>.str x
 | .node l r=>.tup [l.pv,r.pv]
def Ent.pv:Ent->PV
 | .word x=>.str x
 | .pair a b=>.tup [.int (a:Int),.int (b:Int)]
def qA {l:List α} (h:l≠[]):∃a x,l=a++[x]:=⟨l.dropLast,l.getLast h,(List.dropLast_concat_getLast h).symm⟩
def Nl {a b:List Tr} (h:posts a++b=t.post):sizes a+b.length=t.size:=by
 have h1:=congrArg B5 h;rw [Ad,t.post_len] at h1;have h2:∀l:List Tr,(posts l).length=sizes l:=by
  intro l
  induction l with
  | nil=>rfl
  | cons x l ih=>
   have e1:posts (x::l)=x.post++posts l:=rfl;have e2:sizes (x::l)=x.size+sizes l:=rfl;rw [e1,e2,Ad,ih,x.post_len]
 rw [h2] at h1;exact h1
theorem iq {x:PV} (h:l.length < 1000):kE l x=.ret (l++[x]):=lm (by have:=aY (n:=1000) (Ao _);omega)
theorem NX (t:Tr) (hz:t.size<=900):(jX t.pv).le (.ret (t.post.map Tr.pv)):=λQ q=>by
 refine jM (λn s=>∃ts bs:List Tr,n=sizes ts/\s=(bs.map Tr.pv,ts.map Tr.pv)/\posts ts++bs.reverse=t.post) ⟨[t],[],rfl,rfl,by rw [oP];simp⟩ ?_;rintro n s ⟨ts,bs,rfl,rfl,hp⟩;have hs:=Nl hp;rw [Ce] at hs;by_cases he:ts=[]
 ·subst he;have ĩ:bs.reverse=t.post:=hp;simp;rw [<- List.map_reverse,ĩ];exact q
 ·obtain⟨us,u,rfl⟩:=qA he;have MF:=len_sizes us;rw [bS,fu] at hs;simp;rw [iq (by rw [Ag];omega)];cases u with
  | leaf x=>
   simp [Tr.pv];refine⟨_,?_,us,rfl,bs++[.leaf x],⟨by simp [Tr.pv],rfl⟩,?_⟩
   ·rw [bS,fu];show sizes us < sizes us+1;omega
   ·rw [jT,oP] at hp;rw [Fv,<- hp];simp [Tr.post]
  | node c d=>
   have e1:xN (us.map Tr.pv) [c.pv,d.pv]=.ret (us.map Tr.pv++[c.pv,d.pv]):=lm (aY (by
    have:(Tr.node c d).size=c.size+d.size+1:=rfl;simp;omega))
   simp [Tr.pv,e1];refine⟨_,?_,us++[c,d],rfl,bs++[.node c d],⟨by simp [Tr.pv],by simp⟩,?_⟩
   ·have e2:sizes [Tr.node c d]=c.size+d.size+1:=by rw [fu];rfl
    have e3:sizes [c,d]=c.size+d.size:=by simp [sizes]
    rw [bS,bS,e2,e3];omega
   ·rw [jT,oP] at hp;rw [Fv,<- hp,jT,K2];simp [Tr.post]
def aq (l:List Nat):List PV:=l.map λ(n:Nat)=>.int (n:Int)
@[simp] theorem bc (l:List Nat):(aq l).length=l.length:=Ag _
@[simp] theorem Oa (a b:List Nat):aq (a++b)=aq a++aq b:=A5
@[simp] theorem gK (a:Nat) (l:List Nat):aq (a::l)=.int (a:Int)::aq l:=rfl
@[simp] theorem f9:aq []=[]:=rfl
def o6 (n:Nat):kn 0 n=aq (Av n):=by
 refine Cd λi _=>?_;rw [E1]
theorem Oj {p:Nat->Bool}:∀{l:List Nat},(∀k∈l,f (.int ((k:Nat):Int))=.ret (if p k=true then ap (.int ((k:Nat):Int)) else bm))->kG (aq l) f=.ret (aq (l.filter p))
 | [],_=>rfl
 | k::l,h=>by
  show am (f _) (λo=>am (kG (aq l) f) λm=>bd (o.toList++m))=_;rw [h k (.head _),Oj λy hy=>h y (.tail _ hy),Dw];cases p k <;> rfl
theorem qI {f:PV->W PV}{g:Nat->PV}:∀{l:List Nat},(∀k∈l,f (.int ((k:Nat):Int))=.ret (g k))->mapW (aq l) f=.ret (l.map g)
 | [],_=>rfl
 | k::l,h=>by
  show am (f _) (λy=>am (mapW (aq l) f) λm=>bd (y::m))=_;rw [h k (.head _),qI λy hy=>h y (.tail _ hy)];rfl
def aao (g:PV->Option PV) (h:∀x∈l,f x=.ret (g x)) (q:Q (l.filterMap g)):(kG l f).run Q:=by rw [Hw h];exact q
def kW {f:PV->W PV} (g:PV->PV) (h:∀x∈l,f x=.ret (g x)) (q:Q (l.map g)):(mapW l f).run Q:=by rw [qJ h];exact q
def sD {l:List Nat} (p:Nat->Bool) (h:∀k∈l,f (.int ((k:Nat):Int))=.ret (if p k=true then ap (.int ((k:Nat):Int)) else bm)) (q:Q (aq (l.filter p))):(kG (aq l) f).run Q:=by rw [Oj h];exact q
def oU {l:List Nat}{f:PV->W PV} (g:Nat->PV) (h:∀k∈l,f (.int ((k:Nat):Int))=.ret (g k)) (q:Q (l.map g)):(mapW (aq l) f).run Q:=by rw [qI h];exact q
theorem kT (t:Tr) (hz:t.size<=900):(iI t.pv).le (.ret (.tup ((t.nd 0).map Ent.pv))):=λQ q=>by
 unfold iI;simp only [f8,bv];refine W.le.use (NX t hz) ?_;refine sZ (λr s=>∃(k:List Tr) (À:List Ent) (ls:List Nat),r=k.map Tr.pv/\s=(À.map Ent.pv,aq ls.reverse)/\run k À ls=ap (t.nd 0,[t.size-1])/\À.length+k.length<=900/\ls.length<=À.length) ⟨t.post,[],[],rfl,rfl,KZ t,by simp [t.post_len];omega,Ao _⟩ ?_ ?_
 ·rintro x r s ⟨k,À,ls,e,rfl,h,hl,ë⟩;cases k with
  | nil=>cases e
  | cons p k=>
   injection e with e1 e2;subst e1;subst e2;rw [An] at hl;cases p with
   | leaf x=>
    have a1:∀y,kE (aq ls.reverse) y=.ret (aq ls.reverse++[y]):=λy=>iq (by simp;omega);simp [Tr.pv,iq (l:=À.map Ent.pv) (by simp;omega),a1];refine⟨k,rfl,À++[Ent.word x],À.length::ls,⟨by simp [Ent.pv],by simp⟩,h,by simp;omega,by simp;omega⟩
   | node c d=>
    match ls,h,ë with
    | b::a::ls,h,ë=>
     rw [An,An] at ë;have a0:aq (b::a::ls).reverse=(aq ls.reverse++[.int (a:Int)])++[.int (b:Int)]:=by simp
     have a1:∀y,kE (aq ls.reverse) y=.ret (aq ls.reverse++[y]):=λy=>iq (by simp;omega);rw [a0];simp only [Tr.pv,f8,cO,d6,aX,Ak,if_false,Pj];simp [iq (l:=À.map Ent.pv) (by simp;omega),a1];refine⟨k,rfl,À++[Ent.pair a b],À.length::ls,⟨by simp [Ent.pv],by simp⟩,h,by simp;omega,by simp;omega⟩
 ·rintro s ⟨k,À,ls,e,rfl,h,hl,ë⟩;cases k with
  | nil=>
   cases h;simpa using q
  | cons p k=>cases e
end My
variable {a b d:Int}
namespace My
open PySem PySem.Spec PyProof.Rows L2 PL FL
theorem mulL (h:-1000000000<=a/\a<=1000000000):wn a b:=UB ∅ ∅
theorem mulR (h:-1000000000<=b/\b<=1000000000):wn a b:=mul_r ∅ ∅
theorem Q1:∀ns l Q,eL ns->((cy 1 bh) l).run Q->((λlo l=>cy 1 (gh lo) l) (ns.map PV.int) l).run λt=>Q t.1/\∃JP:List Int,t.2=JP.map PV.int/\eL JP:=by
 rintro ns l Q ⟨g,s,c,rfl,g0,s0,s1,c0⟩ q
 match l,q with
 | [],q=>exact q.elim
 | _::_::_,q=>exact q.elim
 | [x],q=>
  show (gh _ x).run _;have q:=q;cases x with
  | int m=>
   obtain⟨⟨m0,m1⟩,q⟩:=q;have q:∀d:Int,0<=d->d < m->Q (.int d):=λd h0 h1=>q _ ⟨d,rfl,h0,h1⟩;unfold gh;generalize hA:(2305843009213693921:Int)=A;generalize hB:(2305843009213693907:Int)=B;generalize hC:(65537:Int)=C;generalize hD:(999983:Int)=D;have A0:0 < A:=by omega
   have B0:0 < B:=by omega
   have C0:0 < C:=by omega
   have D0:0 < D:=by omega
   by_cases hg:0 < g
   ·simp [bX,mn,hg,m0,fX,Uc];refine⟨by omega,q _ (Cc _ ∅) (BX _ m0),[g / m,s,c],rfl,_,_,_,rfl,Int.ediv_nonneg g0 ∅,s0,s1,c0⟩
   ·have e1:wn s 69069:=mulR ∅;have e2:wn 9973 (c+1):=mulL ∅;have e3:wn 2 (c+1):=mulL ∅;simp [bX,mn,hg,m0,fX,Xe,e1,e2,e3,A0,B0,C0,D0];generalize hM:(s*69069+9973*(c+1)+5) % A=M;have M0:0<=M:=by rw [<- hM];exact Cc _ ∅
    have M1:M < A:=by rw [<- hM];exact BX _ A0
    have e4:∀y,wn M y:=λy=>UB ∅ ∅;generalize hN:M*(M % D+2*(c+1)+3) % B=N;have N0:0<=N:=by rw [<- hN];exact Cc _ ∅
    have N1:N < B:=by rw [<- hN];exact BX _ B0
    refine⟨e4 _,⟨C0,by omega⟩,q _ (Cc _ ∅) (BX _ m0),[g,N,c+1],rfl,_,_,_,rfl,g0,N0,by omega,by omega⟩
  | _=>exact q.elim
theorem Ya (i:Int):0<=(if i < 0 then -i else i):=by split <;> omega
theorem RD {k:Int} (k0:0<=k) (q:∀l,(∃ms:List Int,l=ms.map PV.int/\eL ms)->Q l):(hE (.cl (ns.map PV.int)) (.int k)).run Q:=by
 unfold hE;generalize hA:(2305843009213693951:Int)=A;have A0:0 < A:=by omega
 have fin:∀x:Int,0<=x->(am (b2 oT (b2 oMod (bd (.int x)) (b2 oT (b2 uv (bd (.int 10)) (bd (.int 60))) (b2 uv (bd (.int 10)) (bd (.int 60))))) (c1 tU (b2 oGe (bd (.int x)) (b2 uv (bd (.int 10)) (bd (.int 18)))))) λog=>
 (og\λx6=>am (b2 oMod (w2 addW (w2 addW (bd (.int x)) (b2 oT (bd (.int 104729)) (bd (.int k)))) (bd (.int 7))) (bd (.int A))) λx7=>(.int 0)\λx8=>bd [x6,x7,x8])).run Q:=by
  intro x x0;have p1:yF 10 60:=⟨by decide,by decide,by decide⟩;have p2:yF 10 18:=⟨by decide,by decide,by decide⟩;simp only [f8,Ia,lm p1,lm p2,Pm,Pn,abn,n8,gH,W.P6,W.Ro,ev,lm (mulL (show -1000000000<=(104729:Int)/\(104729:Int)<=1000000000 by decide)),lm A0];refine⟨IntMulOk.of_bits (by decide +kernel) (by decide +kernel),by decide +kernel,?_,?_⟩
  ·split
   ·exact mulR ∅
   ·exact mulR ∅
  ·refine q _ ⟨[_,_,_],rfl,_,_,_,rfl,Int.mul_nonneg (Cc _ (by decide +kernel)) ?_,Cc _ ∅,by rw [hA];exact BX _ A0,DG _⟩
   split <;> decide
 by_cases lT:k < (ns.length:Int)
 ·obtain⟨v,e,e2⟩:=Qh (xs:=ns.map PV.int) k0 (by rw [Ag];exact lT);rw [Aj] at e2;obtain⟨c,rfl⟩:∃c,v=.int c:=by
   cases z:ns[k.toNat]? with
   | none=>rw [z] at e2;cases e2
   | some c=>rw [z] at e2;exact⟨c,(Option.some.inj e2).symm⟩
  simp only [f8,iJ,tE,Ag,lT,decide_true,ba,if_true,bT,a8,e,py,XJ];exact fin _ (Ya _)
 ·simp only [f8,iJ,tE,Ag,lT,decide_false,ba,Ak,if_false];exact fin 0 (DG _)
theorem Hl (h0:0<=d) (h1:d < 6):∃st:Int,bX [PV.int 1,PV.int 3,PV.int 5,PV.int 7,PV.int 9,PV.int 11] d=ap (.int st)/\(st=1\/st=3\/st=5\/st=7\/st=9\/st=11):=by
 have:d=0\/d=1\/d=2\/d=3\/d=4\/d=5:=by omega
 rcases this with rfl | rfl | rfl | rfl | rfl | rfl
 ·exact⟨1,rfl,by decide⟩
 ·exact⟨3,rfl,by decide⟩
 ·exact⟨5,rfl,by decide⟩
 ·exact⟨7,rfl,by decide⟩
 ·exact⟨9,rfl,by decide⟩
 ·exact⟨11,rfl,by decide⟩
theorem Hm (h0:0<=d) (h1:d < 2):∃bg:Str,bX [PV.str "",PV.str "k"] d=ap (.str bg)/\Part bg 1:=by
 have:d=0\/d=1:=by omega
 rcases this with rfl | rfl
 ·exact⟨"",rfl,by decide +kernel,by decide +kernel⟩
 ·exact⟨"k",rfl,by decide +kernel,by decide +kernel⟩
theorem Hn (h0:0<=d) (h1:d < 4):∃bg:Str,bX [PV.str "",PV.str "q",PV.str "zz",PV.str "abcdef"] d=ap (.str bg)/\Part bg 6:=by
 have:d=0\/d=1\/d=2\/d=3:=by omega
 rcases this with rfl | rfl | rfl | rfl
 ·exact⟨"",rfl,by decide +kernel,by decide +kernel⟩
 ·exact⟨"q",rfl,by decide +kernel,by decide +kernel⟩
 ·exact⟨"zz",rfl,by decide +kernel,by decide +kernel⟩
 ·exact⟨"abcdef",rfl,by decide +kernel,by decide +kernel⟩
theorem cf (h:-1000<=i/\i<=1000/\-1000<=j/\j<=1000) (h2:j-i<=1000):okN i j:=⟨by omega,by omega,by omega,by omega,aY ∅⟩
theorem Kz {m:Int} (m0:0<=m) (m1:m<=26) (q:∀ws:List Str,ws.length=m.toNat->(∀x∈ws,Wd x)->ws.Nodup->(∃b,b<=1/\(ws.map λx=>x.cps[b]?).Nodup)->Q (ws.map PV.str)):(dE (.int m)).run Q:=by
 unfold dE;simp only [f8,bv,cm 26 ⋯ ⋯,cm 6 ⋯ ⋯,cm 2 ⋯ ⋯];refine bo λd1 a1 b1=>bo λd3 a3 b3=>?_;obtain⟨st,xr,kst⟩:=Hl a3 b3;simp only [a8,xr,py,ev];refine bo λd5 a5 b5=>?_;obtain⟨bg,hbg,kbg⟩:=Hm a5 b5;simp only [a8,hbg,py,ev,fU,lm (cf (i:=0) (j:=m) ∅ ∅)];have lb:=kbg.1;refine ly (λi s=>∃ws:List Str,s=ws.map PV.str/\ws.length=i/\(∀x∈ws,Wd x)/\(ws.map λx=>x.cps[bg.length]?)=(Av i).map λk:Nat=>ap (97+((d1+st*(0+(k:Int))) % 26).toNat)) ⟨[],rfl,rfl,by simp,rfl⟩ ?_ ?_
 ·rintro i s hi ⟨ws,rfl,hl,hw,hs⟩;have e0:0<=(d1+st*(0+(i:Int))) % 26:=Cc _ ⋯;have e1:(d1+st*(0+(i:Int))) % 26 < 26:=BX _ ⋯;have e2:(d1+st*(i:Int))=d1+st*(0+(i:Int)):=by rw [E1]
  obtain⟨en,hen,ken⟩:=Hn (d:=(d1+(i:Int)) % 4) (Cc _ ⋯) (BX _ ⋯);have le:=ken.1;have c1:wn st (i:Int):=mulL ∅;have c2:("abcdefghijklmnopqrstuvwxyz":Str).length<=sizeLine:=by decide +kernel
  have c3:bg.length+(⟨#[97+((d1+st*(0+(i:Int))) % 26).toNat]⟩:Str).length<=sizeLine:=aY (by show bg.length+1<=1000;omega);have c4:(bg++(⟨#[97+((d1+st*(0+(i:Int))) % 26).toNat]⟩:Str)).length+en.length<=sizeLine:=aY (by rw [Dc];show bg.length+1+en.length<=1000;omega);simp only [f8,bv,Pm,lm c1,gH,Pn,lm (show (0:Int) < 26 by decide),lm (show (0:Int) < 4 by decide),e2,XH _ _ (Ld e0 e1),lm c2,Kk,lm c3,bT,a8,hen,py,lm c4,iq (l:=ws.map PV.str) (by rw [Ag];omega),ev];refine⟨ws++[bg++⟨#[97+((d1+st*(0+(i:Int))) % 26).toNat]⟩++en],by rw [A5];rfl,by rw [Ad,hl];rfl,?_,by rw [A5,hs,E8,A5,List.map_singleton,List.map_singleton,KA]⟩;intro x hx;rcases AG.mp hx with z | z
  ·exact hw x z
  ·rw [Bh.mp z];exact MR kbg ken ∅ ∅
 ·rintro s ⟨ws,rfl,hl,hw,hs⟩;have nd:(ws.map λx=>x.cps[bg.length]?).Nodup:=by rw [hs];exact uA kst ∅
  exact q ws hl hw (wX (g:=λx:Str=>x.cps[bg.length]?) nd) ⟨_,by omega,nd⟩
end My
variable {Q:PL.PV->Prop}{ws:List Cp}
namespace My
open PySem PySem.Spec PyProof.Rows L2 PL FL
theorem X6 {l:List α} (h:k+1 < l.length):∃a x y b,l=a++x::y::b/\a.length=k:=by
 refine⟨l.take k,l[k],l[k+1],l.drop (k+2),?_,by rw [Cm];omega⟩;have e1:l.drop k=l[k]::l.drop (k+1):=Bk ∅;have e2:=Bk ∅;rw [<- e2,<- e1,List.take_append_drop]
theorem yU (hw:ws≠[]) (h8:ws.length<=100) (q:∀t:Tr,t.aJ.Perm ws->Q t.pv):(kZ (.cl (ws.map PV.str))).run Q:=by
 unfold kZ;simp only [f8,bv,bT,ev,cm 4 ⋯ ⋯];refine bo λw w0 w1=>?_;refine jM (λn s=>∃ts:List Tr,s=ts.map Tr.pv/\n=ts.length/\ts≠[]/\(ts.flatMap Tr.aJ).Perm ws/\ts.length<=100) (n:=ws.length) ⟨ws.map Tr.leaf,by simp [Tr.pv],by simp,by simpa using hw,?_,by simpa using h8⟩ ?_
 ·rw [List.flatMap_map];have:ws.flatMap (λx=>(Tr.leaf x).aJ)=ws:=by
   simp [Tr.aJ,List.flatMap_singleton']
  rw [this]
 ·rintro n s ⟨ts,rfl,rfl,OP,hp,hl⟩;by_cases h1:1 < ts.length
  ·have c0:(1:Int) < (ts.length:Int):=by omega
   simp only [f8,bv,xP,Ag,U2,c0,decide_true,ba,ev,if_true,lA,cm ((ts.length:Int)-1) ∅ ∅];refine bo λd d0 d1=>?_;obtain⟨a,ha,a0,a1⟩:∃a:Nat,bX [PV.int d,PV.int ((ts.length:Int)-2),PV.int 0,PV.int 0] w=ap (.int (a:Int))/\0<=a/\a+1 < ts.length:=by
    have:w=0\/w=1\/w=2\/w=3:=by omega
    rcases this with rfl | rfl | rfl | rfl
    ·exact⟨d.toNat,by show ap (PV.int d)=_;rw [Int.toNat_of_nonneg d0],by omega,by omega⟩
    ·exact⟨ts.length-2,by show ap (PV.int ((ts.length:Int)-2))=_;congr 2;omega,by omega,by omega⟩
    ·exact⟨0,rfl,by omega,by omega⟩
    ·exact⟨0,rfl,by omega,by omega⟩
   obtain⟨as,x,y,bs,rfl,hk⟩:=X6 a1;have i0:bX ((as++x::y::bs).map Tr.pv) (a:Int)=ap x.pv:=bw (by rw [Aj,AA ∅];simp [hk]);have i1:bX ((as++x::y::bs).map Tr.pv) ((a:Int)+1)=ap y.pv:=by
    have:((a:Int)+1)=((a+1:Nat):Int):=by push_cast;rfl
    rw [this];exact bw (by rw [Aj,AA ∅];simp [hk])
   simp only [a8,ha,py,ev,i0,i1,gH,f8];have fin:∀p:Tr,p.aJ.Perm (x.aJ++y.aJ)->(Rg ((as++x::y::bs).map Tr.pv) (.int (a:Int)) (.int ((a:Int)+2)) [p.pv]).run λa=>∃m,m < (as++x::y::bs).length/\∃ts:List Tr,a=ts.map Tr.pv/\m=ts.length/\ts≠[]/\(ts.flatMap Tr.aJ).Perm ws/\ts.length<=100:=by
    intro p Ĩ;rw [Ad,An,An] at hl;refine⟨⟨by omega,by omega,?_,aY ?_⟩,?_⟩
    ·rw [Ag,Ad,An,An];push_cast;omega
    ·rw [Ag,Ad,An,An];simp;omega
    ·have e:((as++x::y::bs).map Tr.pv).take (a:Int).toNat++[p.pv]++((as++x::y::bs).map Tr.pv).drop ((a:Int)+2).toNat=(as++p::bs).map Tr.pv:=by
      have t1:(a:Int).toNat=as.length:=by omega
      have t2:((a:Int)+2).toNat=as.length+2:=by omega
      rw [t1,t2,<- List.map_take,<- Ex,List.take_left' rfl];have:(as++x::y::bs).drop (as.length+2)=bs:=by
       rw [show as++x::y::bs=(as++[x,y])++bs by simp,List.drop_left' (by simp)]
      rw [this];simp
     show ∃m,_/\∃ts:List Tr,_;rw [e];refine⟨(as++p::bs).length,by simp,as++p::bs,rfl,rfl,by simp,?_,by simp;omega⟩;refine List.Perm.trans ?_ hp;simp only [Cf,List.flatMap_cons];refine List.Perm.append_left _ ?_;rw [<- A3];exact Ĩ.append_right _
   by_cases h3:w=3
   ·subst h3;simp only [cq,ba,beq_self_eq_true,ev,f8,if_true,bv,cm 2 ⋯ ⋯];refine bo λd2 d20 d21=>?_;by_cases h4:d2=0
    ·subst h4;simp only [cq,ba,beq_self_eq_true,ev,f8,if_true,bv,i0,i1,a8,gH,py];exact fin (.node y x) List.perm_append_comm
    ·have e4:(d2==0)=false:=by simpa using h4
     simp only [cq,ba,e4,ev,f8,bv,Ak,if_false];exact fin (.node x y) (List.Perm.refl _)
   ·have e3:(w==3)=false:=by simpa using h3
    simp only [cq,ba,e3,ev,f8,bv,Ak,if_false];exact fin (.node x y) (List.Perm.refl _)
  ·have c0:¬(1:Int) < (ts.length:Int):=by omega
   simp only [f8,bv,xP,Ag,U2,c0,decide_false,ba,ev,Ak,if_false]
   match ts,OP,h1,hp with
   | [t],_,_,hp=>
    have:t.aJ.Perm ws:=by simpa using hp
    exact q t this
   | _::_::_,_,h1,_=>simp at h1
structure pS (t:Tr):Prop where
 ws:t.Ws
 nd:t.aJ.Nodup
 few:t.aJ.length<=8
 sg:∃b,b<=1/\(t.aJ.map λx=>x.cps[b]?).Nodup
theorem LC (q:∀t:Tr,pS t->Q t.pv):nJ.run Q:=by
 unfold nJ;simp only [f8,bv,cm 8 ⋯ ⋯];refine bo λd d0 d1=>?_;obtain⟨n,hn,n0,n1⟩:∃n:Int,bX [PV.int 5,PV.int 8] (if (d==0)=true then 1 else 0)=ap (.int n)/\0 < n/\n<=8:=by
  by_cases h:d=0
  ·subst h;exact⟨8,rfl,by decide,by decide⟩
  ·have e:(d==0)=false:=by simpa using h
   rw [e];exact⟨5,rfl,by decide,by decide⟩
 simp only [cq,ev,n8,a8,hn,py,cm n n0 ∅];refine bo λk k0 k1=>?_;refine Kz ∅ ∅ λws hl hw hd ⟨b,b1,hb⟩=>?_;refine yU (λz=>by rw [z] at hl;simp at hl;omega) ∅ λt ht=>q t ⟨λx hx=>hw x (ht.mem_iff.mp hx),ht.nodup_iff.mpr hd,by rw [ht.length_eq,hl];omega,b,b1,(ht.map _).nodup_iff.mpr hb⟩
end My
variable {a b i j:Nat}{ds:List Int}{m:List PL.PV}
namespace My
open PySem PySem.Spec PyProof.Rows L2 PL FL
def uF:Ent->Bool
 | .word _=>false
 | .pair _ _=>true
structure Dt (t:Tr) (ds:List Int) (left:List Nat) (d:Int):Prop where
 len:ds.length=t.size
 zero:∀j,j < t.size->(uF (en t 0 j)=false\/j∈left)->ds.getD j 0=0
 up:∀j,j < t.size->j∉left->∀a b,en t 0 j=.pair a b->a∉left/\b∉left/\ds.getD a 0 < ds.getD j 0/\ds.getD b 0 < ds.getD j 0/\1<=ds.getD j 0/\ds.getD j 0<=d
 inj:∀i j,i < t.size->j < t.size->i∉left->j∉left->uF (en t 0 i)=true->uF (en t 0 j)=true->ds.getD i 0=ds.getD j 0->i=j
 pos:0<=d
 Yt:∀j∈left,j < t.size/\uF (en t 0 j)=true
 ris:left.Pairwise (· < ·)
def iX {l:List Int}{v:Int} (h:i < l.length):(l.set i v).getD i 0=v:=by rw [Ap,Bu h];rfl
def bW {l:List Int}{v:Int} (h:i≠j):(l.set i v).getD j 0=l.getD j 0:=by rw [Ap,Bf h,<- Ap]
def uy {l:List Nat} (h:l.Pairwise (· < ·)) {x y:Nat}:y∈l.erase x↔y∈l/\y≠x:=by
 have nd:l.Nodup:=h.imp (λz=>AI z);rw [nd.mem_erase_iff];exact⟨λz=>⟨z.2,z.1⟩,λz=>⟨z.2,z.1⟩⟩
theorem da (t:Tr) (h:j < t.size) (e:en t 0 j=.pair a b):a < j/\b < j:=by
 rcases Qc t 0 j h with⟨x,e1,_⟩ | ⟨a',b',e1,e2,e3,_⟩
 ·rw [e1] at e;cases e
 ·rw [e1] at e;injection e with h1 h2;omega
theorem Dt.next {left:List Nat}{x:Int} (D:Dt t ds left d) (hj:j∈left) (e:en t 0 j=.pair a b) (ha:a∉left) (hb:b∉left) (hx:0<=x):Dt t (ds.set j (d+1+x)) (left.erase j) (d+1+x):=by
 obtain⟨hjs,hjp⟩:=D.Yt j hj;obtain⟨haj,hbj⟩:=da t hjs e;have Qz:j < ds.length:=by rw [D.len];exact hjs
 have hm:∀y,y∈left.erase j↔y∈left/\y≠j:=λy=>uy D.ris;have Ô:∀y,y < t.size->y∉left->ds.getD y 0<=d:=λy hy ă=>by
  cases ey:en t 0 y with
  | word w=>rw [D.zero y hy (.inl (by rw [ey];rfl))];exact D.pos
  | pair p q=>exact (D.up y hy ă p q ey).2.2.2.2.2
 refine⟨by rw [BH];exact D.len,λy hy hc=>?_,λy hy ă p q ey=>?_,λu v hu hv hul hvl pu pv UO=>?_,by have:=D.pos;omega,λy hy=>D.Yt y ((hm y).mp hy).1,List.Pairwise.sublist List.erase_sublist D.ris⟩
 ·have ç:j≠y:=λz=>by
   subst z;rcases hc with hc | hc
   ·rw [hjp] at hc;cases hc
   ·exact ((hm j).mp hc).2 rfl
  rw [bW ç];exact D.zero y hy (hc.imp id λz=>((hm y).mp z).1)
 ·by_cases ç:j=y
  ·subst ç;rw [e] at ey;injection ey with h1 h2;subst h1 h2;have la:=Ô a ∅ ha;have lb:=Ô b ∅ hb;rw [iX Qz,bW ∅,bW ∅];have:=D.pos;exact⟨λz=>ha ((hm a).mp z).1,λz=>hb ((hm b).mp z).1,by omega,by omega,by omega,by omega⟩
  ·have aeu:y∉left:=λz=>ă ((hm y).mpr ⟨z,BG ç⟩);obtain⟨p1,p2,p3,p4,p5,p6⟩:=D.up y hy aeu p q ey;have np:j≠p:=λz=>p1 (z▸hj);have nq:j≠q:=λz=>p2 (z▸hj);rw [bW ç,bW np,bW nq];exact⟨λz=>p1 ((hm p).mp z).1,λz=>p2 ((hm q).mp z).1,p3,p4,p5,by omega⟩
 ·by_cases c1:j=u
  ·by_cases c2:j=v
   ·exact c1.symm.trans c2
   ·exfalso;subst c1;have Xk:v∉left:=λz=>hvl ((hm v).mpr ⟨z,BG c2⟩);rw [iX Qz,bW c2] at UO;have:=Ô v hv Xk;omega
  ·have aaK:u∉left:=λz=>hul ((hm u).mpr ⟨z,BG c1⟩);by_cases c2:j=v
   ·exfalso;subst c2;rw [iX Qz,bW c1] at UO;have:=Ô u hu aaK;omega
   ·have Xk:v∉left:=λz=>hvl ((hm v).mpr ⟨z,BG c2⟩);rw [bW c1,bW c2] at UO;exact D.inj u v hu hv aaK Xk pu pv UO
def splits (t:Tr):List Nat:=(Av t.size).filter λj=>uF (en t 0 j)
def Dt.first (t:Tr):Dt t (Al t.size 0) (splits t) 0:=by
 have z:∀j,(Al t.size (0:Int)).getD j 0=0:=λj=>by
  rw [Ap,Bz]
  split <;> rfl
 have mem:∀j,j∈splits t↔j < t.size/\uF (en t 0 j)=true:=λj=>by unfold splits;rw [AQ,AL]
 refine⟨A9,λj _ _=>z j,λj hj hn a b e=>absurd ((mem j).mpr ⟨hj,by rw [e];rfl⟩) hn,λi j hi hj hni _ pi _ _=>absurd ((mem i).mpr ⟨hi,pi⟩) hni,DG _,λj hj=>(mem j).mp hj,?_⟩;exact List.Pairwise.filter _ Dk
theorem Kl (t:Tr):dZ 0 ((t.nd 0).map Ent.pv)=(Av t.size).map λj=>PV.tup [.int ((j:Nat):Int),(en t 0 j).pv]:=by
 have hl:(dZ 0 ((t.nd 0).map Ent.pv)).length=t.size:=by rw [cR,Ag,t.bu]
 apply Bn;intro i;by_cases hi:i < t.size
 ·have h1:(dZ 0 ((t.nd 0).map Ent.pv))[i]?=ap ((dZ 0 ((t.nd 0).map Ent.pv))[i]'∅):=Ae _;obtain⟨y,hy,e⟩:=gL h1;rw [Aj,f7 t 0 i hi] at hy;have SO:=Option.some.inj hy;rw [h1,e,<- SO,Aj,Bw hi,AO];rfl
 ·rw [Ay ∅,Ay (by rw [Ag,BP];omega)]
def Sl:PV->Option PV
 | .tup [_,.str _]=>bm
 | .tup [k,_]=>ap k
 | _=>bm
def WS (t:Tr):(dZ 0 ((t.nd 0).map Ent.pv)).filterMap Sl=aq (splits t):=by
 rw [Kl];unfold splits;generalize Av t.size=l
 induction l with
 | nil=>rfl
 | cons j l ih=>
  rw [Aw,Bx,Dw];cases e:en t 0 j with
  | word w=>exact ih
  | pair a b=>
   rw [ih];rfl
def vj (l:List Nat):aq l=(l.map λn=>((n:Nat):Int)).map PV.int:=by unfold aq;rw [AR];rfl
theorem tF (y:Nat):∀l:List Nat,(l.map λn=>((n:Nat):Int)).erase (y:Int)=(l.erase y).map λn=>((n:Nat):Int)
 | []=>rfl
 | a::l=>by
  rw [Aw,List.erase_cons,List.erase_cons,tF y l];by_cases c:a=y
  ·subst c;simp
  ·have c1:(((a:Nat):Int)==(y:Int))=false:=by simp;omega
   have c2:(a==y)=false:=by simpa using c
   rw [c1,c2];simp
theorem WK (h0:0<=d) (h1:d < 3):∃m:Int,bX [PV.int 1,PV.int 3,PV.int 13] d=ap (.int m)/\0 < m/\m<=13:=by
 have:d=0\/d=1\/d=2:=by omega
 rcases this with rfl | rfl | rfl
 ·exact⟨1,rfl,by decide,by decide⟩
 ·exact⟨3,rfl,by decide,by decide⟩
 ·exact⟨13,rfl,by decide,by decide⟩
theorem JE:∀(l:List Nat) (k n:Nat),l.Pairwise (· < ·)->(∀x∈l,k<=x/\x < n)->l.length<=n-k
 | [],_,_,_,_=>A6 _
 | a::l,k,n,h,hb=>by
  have h1:=(Ed.mp h);have h2:=hb a BC;have ih:=JE l (a+1) n h1.2 λx hx=>⟨h1.1 x hx,(hb x (AY _ hx)).2⟩;rw [An];omega
def VI (s:Nat):Ent->Ent
 | .word x=>.word x
 | .pair p q=>.pair (p+s) (q+s)
theorem Hh:∀(t:Tr) (o s:Nat),t.nd (o+s)=(t.nd o).map (VI s)
 | .leaf _,_,_=>rfl
 | .node a b,o,s=>by
  have ha:=a.size_pos;rw [Tr.nd,Tr.nd,Hh a o s,show o+s+a.size=o+a.size+s by omega,Hh b (o+a.size) s,A5,A5];congr 2;congr 1 <;> omega
def ip (h:l.length+m.length<=1000):mS l m=.ret (l++m):=lm (aY h)
theorem jC:∀(n:Nat) (t:Tr),t.depth < n->t.size<=900->(bp n t.pv).le (.ret ((t.nd 0).map Ent.pv))
 | 0,_,h,_=>by omega
 | n+1,.leaf w,_,_=>λQ q=>by
  unfold bp;simp [Tr.pv];exact q
 | n+1,.node a b,h,hz=>λQ q=>by
  have hs:(Tr.node a b).size=a.size+b.size+1:=rfl;have hpa:=a.size_pos;have hd:a.depth < n/\b.depth < n:=by simp [Tr.depth] at h;omega
  unfold bp;have i0:bX [a.pv,b.pv] 0=ap a.pv:=rfl;have i1:bX [a.pv,b.pv] 1=ap b.pv:=rfl;simp only [Tr.pv,f8,bv,cO,d6,aX,Ak,if_false,av,a8,i0,i1,py];refine W.le.use (jC n a hd.1 ∅) ?_;simp only [xP,Ag,a.bu,ev];refine W.le.use (jC n b hd.2 ∅) ?_;refine j8 (λi s=>s=(a.nd 0++((b.nd 0).take i).map (VI a.size)).map Ent.pv) (by simp) (λi x s hx hs=>?_) (λs hs=>?_)
  ·subst hs;rw [Aj] at hx;cases e:(b.nd 0)[i]? with
   | none=>rw [e] at hx;cases hx
   | some en=>
    rw [e] at hx;have ex:=Option.some.inj hx;subst ex;have hi:i < b.size:=by have:=(Am.mp e).1;rw [b.bu] at this;exact this
    have et:(b.nd 0).take (i+1)=(b.nd 0).take i++[en]:=by rw [Fp,e];rfl
    have al:∀y,kE ((a.nd 0++((b.nd 0).take i).map (VI a.size)).map Ent.pv) y=.ret ((a.nd 0++((b.nd 0).take i).map (VI a.size)).map Ent.pv++[y]):=λy=>iq (by simp [a.bu];omega);cases en with
    | word w=>
     simp only [Ent.pv,f8,bv,c7,dh,aX,if_true,al,ev,et];simp [VI,Ent.pv]
    | pair u v=>
     have j0:bX [PV.int (u:Int),PV.int (v:Int)] 0=ap (.int u):=rfl;have j1:bX [PV.int (u:Int),PV.int (v:Int)] 1=ap (.int v):=rfl;simp only [Ent.pv,f8,bv,cO,d6,aX,Ak,if_false,av,a8,j0,j1,py,gH,al,ev,et];simp [VI,Ent.pv]
  ·subst hs;rw [CB (by rw [Ag];exact Ao _)];have es:(b.nd 0).map (VI a.size)=b.nd a.size:=by rw [<- Hh b 0 a.size,AO]
   rw [es];simp only [f8,bv,lA,xP,Ag,Ad,a.bu,b.bu,ev];rw [ip (by simp [a.bu,b.bu];omega)];have e:(Tr.node a b).nd 0=a.nd 0++b.nd a.size++[.pair (a.size-1) (a.size+b.size-1)]:=by rw [Tr.nd];simp
   rw [e] at q;have e1:((a.size:Int)-1)=((a.size-1:Nat):Int):=by omega
   have e2:(((a.size+b.size:Nat):Int)-1)=((a.size+b.size-1:Nat):Int):=by omega
   rw [e1,e2];simpa [Ent.pv] using q
theorem pick_run (h0:l≠[]) (h1:l.length<=1000) (q:∀x∈l,Q x):(bJ (.cl l)).run Q:=by
 unfold bJ;have hp:0 < l.length:=DT.mpr h0;simp only [f8,bv,bT,iJ,cm (l.length:Int) ∅ ∅,ev];refine bo λd d0 d1=>?_;obtain⟨v,hv,ġ⟩:=Qh (xs:=l) d0 d1;simp only [a8,hv,py,ev];exact q v (Bm ġ)
theorem xq (k:Nat) (l:List Nat) (b:Bool):nS b (.int (k:Int)) (aq l)=.ret (if b then !decide (k∈l) else decide (k∈l)):=by
 have h1:Lu (.int (k:Int)) (aq l):=⟨by simp,jH.mpr λx hx=>by
  obtain⟨n,_,rfl⟩:=Au.mp hx;simp,jI λx hx=>by
  obtain⟨n,_,rfl⟩:=Au.mp hx;simp⟩
 have h2:nV (.int (k:Int)) (aq l)=decide (k∈l):=by
  unfold nV aq;rw [List.any_map]
  induction l with
  | nil=>simp
  | cons a l ih=>
   have ih:=ih ⟨by simp,jH.mpr λx hx=>by
    obtain⟨n,_,rfl⟩:=Au.mp hx;simp,jI λx hx=>by
    obtain⟨n,_,rfl⟩:=Au.mp hx;simp⟩
   rw [Ck,ih];by_cases c:a=k
   ·subst c;simp
   ·have c1:(((a:Nat):Int)==(k:Int))=false:=by simp;omega
    have c2:¬k=a:=λz=>c z.symm;simp [c1,c2]
 unfold nS;rw [lm h1,h2]
def P4 (l:List Nat):uO (aq l)=true:=Gj.mpr λx hx=>by
 obtain⟨n,_,rfl⟩:=Au.mp hx;rw [PV.dat] <;> simp
def dF (ds:List Int):List PV:=ds.map PV.int
@[simp] theorem hX (ds:List Int):(dF ds).length=ds.length:=Ag _
def OH (ds:List Int) (y:Nat) (v:Int):(dF ds).set y (.int v)=dF (ds.set y v):=by unfold dF;rw [EU]
def Rq (t:Tr) (left:List Nat) (j:Nat):Bool:=match en t 0 j with
 | .pair a b=>!decide (a∈left)&&!decide (b∈left)
 | _=>false
theorem J1 (h:k < n):mn n (k:Int)=ap k:=by
 unfold mn;rw [if_pos ∅,if_pos ∅];simp
def gC (h:k < l.length):fX l (.int (k:Int)) v=.ret (l.set k v):=by
 unfold fX;simp [J1 h]
def wZ (t:Tr) (h:j < t.size):bX ((t.nd 0).map Ent.pv) (j:Int)=ap (en t 0 j).pv:=bw (by rw [Aj,f7 t 0 j h];rfl)
theorem L6 (t:Tr) (hz:t.size<=900) (q:∀ds d,Dt t ds [] d->d<=13*((splits t).length:Int)->Q (.tup (dF ds))):(eW (.cl ((t.nd 0).map Ent.pv))).run Q:=by
 unfold eW;have e1:zd [PV.int 0] (.int ((t.nd 0).map Ent.pv).length)=.ret (dF (Al t.size 0)):=by
  rw [Ph,lm ⟨by omega,by rw [Ag,t.bu];omega,aY (by simp [t.bu];omega)⟩];congr 1;rw [Ag,t.bu,A4]
  induction t.size with
  | zero=>rfl
  | succ n ih=>rw [Bv,B9,ih];rfl
 have e3:((t.nd 0).map Ent.pv).length<=sizeLine:=aY (by rw [Ag,t.bu];omega);simp only [f8,iJ,e1,bT,lm e3,bv];refine aao Sl (λx hx=>?_) ?_
 ·rw [Kl] at hx;obtain⟨j,hj,rfl⟩:=Au.mp hx;cases en t 0 j with
  | word w=>simp [Ent.pv,Sl]
  | pair u v=>simp [Ent.pv,Sl]
 rw [WS t];refine jM (λn s=>∃(ds:List Int) (left:List Nat) (d:Int),s=(dF ds,aq left,PV.int d)/\n=left.length/\Dt t ds left d/\d+13*(left.length:Int)<=13*((splits t).length:Int)) ⟨_,_,0,rfl,rfl,Dt.first t,by omega⟩ ?_;rintro n s ⟨ds,left,d,rfl,rfl,D,hd⟩;by_cases he:left=[]
 ·subst he;simp;exact q ds d D (by simpa using hd)
 ·have ee:(!(aq left).isEmpty)=true:=by cases left with | nil=>exact absurd rfl he | cons a l=>rfl
  have ë:left.length<=t.size:=by
   have:=JE left 0 t.size D.ris λx hx=>⟨A6 _,(D.Yt x hx).1⟩;omega
  obtain⟨r,hr,hr2⟩:∃r∈left,Rq t left r=true:=by
   obtain⟨l0,l1,rfl⟩:∃l0 l1,left=l0::l1:=by cases left with | nil=>exact absurd rfl he | cons a l=>exact⟨a,l,rfl⟩
   refine⟨l0,.head _,?_⟩;obtain⟨h1,h2⟩:=D.Yt l0 (.head _);unfold Rq;cases e:en t 0 l0 with
   | word w=>rw [e] at h2;cases h2
   | pair a b=>
    obtain⟨g1,g2⟩:=da t h1 e;have Ô:∀y∈l0::l1,l0<=y:=λy hy=>by
     rcases Ax.mp hy with rfl | hy
     ·exact Ao _
     ·exact D2 ((Ed.mp D.ris).1 y hy)
    have na:a∉l0::l1:=λz=>by have:=Ô a z;omega
    have nb:b∉l0::l1:=λz=>by have:=Ô b z;omega
    show (!decide _&&!decide _)=true;rw [decide_eq_false na,decide_eq_false nb];rfl
  have ne:aq (left.filter (Rq t left))≠[]:=by
   intro z;have:=congrArg B5 z;rw [bc] at this;have m:=AQ.mpr ⟨hr,hr2⟩;rw [EG.mp this] at m;cases m
  have e5:MZ (aq (left.filter (Rq t left)))=.ret (aq (left.filter (Rq t left))):=lm (P4 _);simp only [ev,ee,if_true,f8,bv];refine sD (Rq t left) (λk hk=>?_) ?_
  ·obtain⟨h1,h2⟩:=D.Yt k hk;unfold Rq;cases e:en t 0 k with
   | word w=>rw [e] at h2;cases h2
   | pair a b=>
    have j0:bX [PV.int (a:Int),PV.int (b:Int)] 0=ap (.int a):=rfl;have j1:bX [PV.int (a:Int),PV.int (b:Int)] 1=ap (.int b):=rfl;simp only [f8,bT,a8,wZ t h1,e,Ent.pv,py,av,j0,j1,xq,if_true];by_cases ca:a∈left
    ·simp [ca]
    ·simp [ca];by_cases cb:b∈left
     ·simp [cb]
     ·simp [cb]
  rw [e5];refine pick_run ne (by rw [bc];have:=Bi (Rq t left) left;omega) λx hx=>?_;obtain⟨j,hj,rfl⟩:=Au.mp hx;obtain⟨Xn,OQ⟩:=AQ.mp hj;obtain⟨js,jp⟩:=D.Yt j Xn;cases ej:en t 0 j with
  | word w=>rw [ej] at jp;cases jp
  | pair a b=>
  unfold Rq at OQ;rw [ej] at OQ;simp at OQ;simp only [gH,ev,cm 3 ⋯ ⋯];refine bo λz z0 z1=>?_;obtain⟨m,hm,m0,m1⟩:=WK z0 z1;simp only [a8,hm,py,ev,cm m m0 ∅];refine bo λy y0 y1=>?_;have ğ:VP (aq left) (.int (j:Int))=.ret (aq (left.erase j)):=by
   show am (sI (aq left)) _=_;rw [vj,o5];show W.fg _ _=_;rw [lm (Au.mpr ⟨j,Xn,rfl⟩),tF,<- vj]
  simp only [gH,ev,gC (l:=dF ds) (k:=j) (by rw [hX,D.len];exact js),ğ,OH];refine⟨(left.erase j).length,by rw [Ey Xn];have:=EX Xn;omega,_,_,_,rfl,rfl,D.next Xn ej OQ.1 OQ.2 y0,?_⟩;rw [Ey Xn];have:=EX Xn;omega
theorem pS.size (g:pS t):t.size<=15:=by have:=t.size_eq;have:=g.few;omega
theorem pS.depth (g:pS t):t.depth < 8:=by have:=t.oh;have:=g.few;omega
theorem QO (h:Wd x):jz (.str x)=.ret (.bl true):=by
 unfold jz;obtain⟨h1,h2,h3⟩:=h;have c1:x.length<=sizeLine:=aY ∅;have c2:x.cps.size<=sizeLine:=c1;have c3:(1:Int)<=(x.length:Int):=by omega
 have c4:(x.length:Int)<=8:=by omega
 simp only [f8,c7,dh,aX,Bj,Ak,if_false,Ta,lm c1,Kj,c3,c4,decide_true,pw,ba,Pg,lm c2];rw [qJ (g:=λ_=>PV.bl true) λy hy=>?_]
 ·simp only [f8];rw [all_map (λ_=>true)];congr 2;exact Cw.mpr λ_ _=>rfl
 ·obtain⟨c,hc,rfl⟩:=Au.mp hy;obtain⟨k1,k2⟩:=h3 c hc;simp only [XI,HF k1 k2]
def mG (l:List PV) (n:Int):eR (.tup l) (.int n)=.ret (.bl ((l.length:Int)==n)):=by
 unfold eR;simp only [f8,cO,qQ,fV,bD,cq]
def VN (x:Str) (n:PV):eR (.str x) n=.ret (.bl false):=by
 unfold eR;simp only [f8,c7,Tc,qR]
def yP (i:Int):fx (.int i)=.ret (.bl true):=by
 unfold fx;simp
theorem OY (t:Tr) (hw:t.Ws) (b:Bool) (hd:b=true\/t.aJ.Nodup) (hz:t.size<=900):(g9 t.pv (.bl b)).le (.ret (.bl true)):=λQ q=>by
 unfold g9;simp only [f8,bv];refine GQ (λn s=>∃(ts:List Tr) (kvs:List (Key×PV)),n=sizes ts/\s=(kvs,ts.map Tr.pv)/\(∀x∈ts.flatMap Tr.aJ,Wd x)/\(b=true\/(ts.flatMap Tr.aJ).Nodup/\∀x∈ts.flatMap Tr.aJ,qh kvs (.inr x)=false)/\sizes ts+kvs.length<=900) (n:=sizes [t]) ⟨[t],[],rfl,rfl,λx hx=>hw x (by simpa using hx),by rcases hd with h | h;exact .inl h;exact .inr ⟨by simpa using h,by simp [qh]⟩,by rw [fu];simpa using hz⟩ ?_;rintro n s ⟨ts,kvs,rfl,rfl,h1,h2,h3⟩;by_cases he:ts=[]
 ·subst he;exact q
 ·obtain⟨us,u,rfl⟩:=qA he;have hsu:=u.size_pos;have MF:=len_sizes us;rw [bS,fu] at h3;have ee:(!((us++[u]).map Tr.pv).isEmpty)=true:=by simp
  have em:(us++[u]).map Tr.pv=us.map Tr.pv++[u.pv]:=by simp
  simp only [f8,ev,ee,if_true,bv];rw [em];simp only [Pj,ev];cases u with
  | leaf x=>
   have wx:Wd x:=h1 x (by simp [Tr.aJ]);have c1:kvs.length < sizeLine:=ve ∅;have cb:=h2.imp id λh=>h.2 x (by simp [Tr.aJ]);have ct:(if (qh kvs (.inr x))=true then (bd (!b)) else bd false)=bd false:=by
    rcases cb with h | h
    ·rw [h];split <;> rfl
    ·rw [h];rfl
   simp only [Tr.pv,VN,aX,ev,Ak,if_false,QO wx,Bj,f8,Tb,ct,V6,lm c1,bv];refine⟨sizes us,by rw [bS,fu];show sizes us < sizes us+1;omega,us,_,rfl,rfl,λy hy=>h1 y (by simp [hy]),?_,?_⟩
   ·rcases h2 with h | ⟨h,k⟩
    ·exact .inl h
    ·right
     rw [Cf] at h;have nx:x∉us.flatMap Tr.aJ:=λz=>by
      have:=(CN.mp h).2.2 x z x (by simp [Tr.aJ]);exact this rfl
     refine⟨(CN.mp h).1,λy hy=>?_⟩;have ky:=k y (by simp [hy]);have kx:=k x (by simp [Tr.aJ]);have nyx:x≠y:=λz=>nx (z▸hy);unfold putP;rw [kx];show qh (kvs++[_]) _=false;unfold qh at ky ⊢;rw [List.any_append,ky];simp [nyx]
   ·have:(putP kvs (.inr x) (.bl true)).length<=kvs.length+1:=by
     unfold putP
     split <;> simp
    omega
  | node c d=>
   have hsz:(Tr.node c d).size=c.size+d.size+1:=rfl;have e1:xN (us.map Tr.pv) [c.pv,d.pv]=.ret (us.map Tr.pv++[c.pv,d.pv]):=lm (aY (by simp;omega));have e2:(([c.pv,d.pv].length:Int)==2)=true:=rfl;simp only [Tr.pv,mG,e2,aX,ev,if_true,av,e1,bv];have e3:sizes [c,d]=c.size+d.size:=by simp [sizes]
   refine⟨sizes (us++[c,d]),by rw [bS,bS,fu,e3];omega,us++[c,d],kvs,rfl,by simp,λy hy=>h1 y (by simpa [Tr.aJ,Cf] using hy),?_,by rw [bS,e3];omega⟩;refine h2.imp id λ⟨h,k⟩=>⟨by simpa [Tr.aJ,Cf] using h,λy hy=>k y (by simpa [Tr.aJ,Cf] using hy)⟩
def okJ (t:Tr) (ds:List Int) (j:Nat):Bool:=match en t 0 j with
 | .word _=>ds.getD j 0==0
 | .pair a b=>decide (ds.getD a 0 < ds.getD j 0)&&decide (ds.getD b 0 < ds.getD j 0)&&decide (1<=ds.getD j 0)&&decide (ds.getD j 0<=99)
def KQ (t:Tr) (ds:List Int):List Int:=(splits t).map (ds.getD · 0)
def SI (t:Tr) (ds:List Int):Bool:=decide (ds.length=t.size)&&(decide (KQ t ds).Nodup&&(Av t.size).all (okJ t ds))
def int_at (h:j < ds.length):bX (dF ds) (j:Int)=ap (.int (ds.getD j 0)):=bw (by
 unfold dF;rw [Aj,Ae h,Ap,Ae h];rfl)
theorem Vg (t:Tr) (ds:List Int) (h:ds.length=t.size):dW ((t.nd 0).map Ent.pv) (dF ds)=(Av t.size).map λj=>PV.tup [(en t 0 j).pv,.int (ds.getD j 0)]:=by
 refine Bn λj=>?_;by_cases hj:j < t.size
 ·have hl:j < (dW ((t.nd 0).map Ent.pv) (dF ds)).length:=by rw [lI];simp [t.bu,h];exact hj
  obtain⟨x,y,hx,hy,e⟩:=m8 (Ae hl);rw [Aj,f7 t 0 j hj] at hx;have vz:=Option.some.inj hx;have Qz:j < ds.length:=by omega
  unfold dF at hy;rw [Aj,Ae Qz] at hy;have SO:=Option.some.inj hy;rw [Ae hl,e,<- vz,<- SO,Aj,Bw hj];show _=ap (PV.tup [_,.int (ds.getD j 0)]);rw [Ap,Ae Qz];rfl
 ·rw [Ay (by rw [lI];simp [t.bu,h];omega),Ay (by simp;omega)]
theorem split_le (t:Tr) (ds:List Int) (h:ds.length=t.size) (hz:t.size<=900):dY (.tup ((t.nd 0).map Ent.pv)) (.tup (dF ds))=.ret (dF (KQ t ds)):=by
 unfold dY;have c:((t.nd 0).map Ent.pv).length<=sizeLine:=aY (by rw [Ag,t.bu];omega);simp only [f8,av,m7,lm c,Vg t ds h];rw [Hw (g:=λx=>match x with | .tup [.str _,_]=>bm | .tup [_,y]=>ap y | _=>bm) λx hx=>?_]
 ·congr 1;unfold KQ splits dF;generalize Av t.size=l
  induction l with
  | nil=>rfl
  | cons j l ih=>
   rw [Aw,Bx,Dw,ih];cases e:en t 0 j with
   | word w=>rfl
   | pair a b=>rfl
 ·obtain⟨j,hj,rfl⟩:=Au.mp hx;cases en t 0 j with
  | word w=>simp [Ent.pv]
  | pair a b=>simp [Ent.pv]
end My
variable {x:PL.PV}{e:My.Ent}{es:List My.Ent}{bs:List Int}
namespace My
open PySem PySem.Spec PyProof.Rows L2 PL FL
section
variable {α β:Type}
theorem Od {c:α->PV}{f:PV->W PV}{g:α->PV}:∀{l:List α},(∀x∈l,(f (c x)).le (.ret (g x)))->(mapW (l.map c) f).le (.ret (l.map g))
 | [],_=>W.le.refl _
 | x::r,h=>W.le.ret (h x (.head _)) (W.le.ret (Od λy hy=>h y (.tail _ hy)) (W.le.refl _))
theorem UC {c:α->PV}{g:α->Option PV}:∀{l:List α},(∀x∈l,(f (c x)).le (.ret (g x)))->(kG (l.map c) f).le (.ret (l.filterMap g))
 | [],_=>W.le.refl _
 | x::r,h=>W.le.ret (h x (.head _)) (W.le.ret (UC λy hy=>h y (.tail _ hy)) (W.le.of_eq (by rw [Bx];cases g x <;> rfl)))
def iH {c:α->PV}{f:PV->W PV}{Q:List PV->Prop} (g:α->PV) {l:List α} (h:∀x∈l,(f (c x)).le (.ret (g x))) (q:Q (l.map g)):(mapW (l.map c) f).run Q:=Od h Q q
def xg {c:α->PV}{Q:List PV->Prop} (g:α->Option PV) {l:List α} (h:∀x∈l,(f (c x)).le (.ret (g x))) (q:Q (l.filterMap g)):(kG (l.map c) f).run Q:=UC h Q q
theorem Kg {p:α->Bool}{g:α->β}:∀l:List α,l.filterMap (λx=>if p x=true then ap (g x) else bm)=(l.filter p).map g
 | []=>rfl
 | x::l=>by
  rw [Bx,Dw,Kg l];cases p x <;> rfl
end
def Pr (c:α->PV) (l:List α) (k:Nat):dZ k (l.map c)=(l.zipIdx k).map λp=>PV.tup [.int ((p.2:Nat):Int),c p.1]:=by
 induction l generalizing k with
 | nil=>rfl
 | cons a l ih=>rw [Aw,dZ,ih,List.zipIdx_cons,Aw]
def vp:V->PV
 | .int i=>.int i
 | .str x=>.str x
 | .bl b=>.bl b
 | _=>.aO
def YM (t:Tr):List PV:=(ah (t.nd 0) 0 (Al t.size V.aO)).map vp
@[simp] theorem Kw (t:Tr):(YM t).length=t.size:=by unfold YM;rw [Ag,IK,A9]
def Kx (t:Tr) (h:j < t.size):(YM t)[j]?=ap (vp (kf t 0 j .aO)):=by unfold YM;rw [Aj,X9 t h];rfl
def cv (t:Tr):((t.nd 0).map Ent.pv).length=t.size:=by rw [Ag,t.bu]
theorem Gv (t:Tr) (hz:t.size<=900):(fB t.pv).le (.ret (.tup (YM t))):=λQ q=>by
 unfold fB;have c:((t.nd 0).map Ent.pv).length<=sizeLine:=aY (by rw [cv];omega);simp only [f8,bv];refine W.le.use (kT t hz) ?_;simp only [av,ev];refine kW (λ_=>.aO) (λx hx=>rfl) ?_;simp only [lm c,ev];have e0:((t.nd 0).map Ent.pv).map (λ_=>PV.aO)=(ah ((t.nd 0).take 0) 0 (Al t.size V.aO)).map vp:=by
  rw [List.take_zero,ah,List.map_replicate,C3,cv];rfl
 rw [e0];refine j8 (λi s=>s=(ah ((t.nd 0).take i) 0 (Al t.size V.aO)).map vp) rfl (λi x s hx hs=>?_) (λs hs=>?_)
 ·subst hs;have hi:i < t.size:=by have:=(Am.mp hx).1;rw [cR,cv] at this;exact this
  obtain⟨y,hy,rfl⟩:=gL hx;have e:=f7 t 0 i hi;rw [Aj,e] at hy;have hy:=Option.some.inj hy;subst hy;have et:(t.nd 0).take (i+1)=(t.nd 0).take i++[en t 0 i]:=by rw [Fp,e];rfl
  have ea:ah ((t.nd 0).take (i+1)) 0 (Al t.size V.aO)=Qn (ah ((t.nd 0).take i) 0 (Al t.size V.aO)) (0+i) (en t 0 i):=by
   rw [et,yp,Cm,t.bu];congr 1;omega
  have hal:(ah ((t.nd 0).take i) 0 (Al t.size V.aO)).length=t.size:=by rw [IK,A9]
  rw [ea];generalize hA:ah ((t.nd 0).take i) 0 (Al t.size V.aO)=A at hal ⊢;unfold du;cases õ:en t 0 i with
  | word w=>simp [Ent.pv,dG,Qn]
  | pair a b=>
   obtain⟨ha,hb⟩:=da t hi õ;have s1:fX (A.map vp) (.int (a:Int)) (.int ((0+i:Nat):Int))=.ret ((A.map vp).set a (.int ((0+i:Nat):Int))):=gC (by rw [Ag];omega);have s2:fX ((A.map vp).set a (.int ((0+i:Nat):Int))) (.int (b:Int)) (.int ((0+i:Nat):Int))=.ret (((A.map vp).set a (.int ((0+i:Nat):Int))).set b (.int ((0+i:Nat):Int))):=gC (by rw [BH,Ag];omega);simp only [Ent.pv,iY,ev,cO,d6,aX,bv,Ak,if_false,av,dG,f8,s1,s2];show _=FZ vp ((A.set a _).set b _);rw [EU,EU];rfl
 ·subst hs;simp only [cR,Ag];rw [List.take_length];exact q
def JQ (e:Ent) (j:Nat):PV:=match e with | .word x=>.str x | .pair _ _=>.int (j:Int)
def stB (t:Tr) (ds:List Int) (b:Int) (j:Nat):Bool:=decide (ds.getD j 0<=b)&&(match kf t 0 j .aO with | .int a=>decide (b < ds.getD a.toNat 0) | _=>true)
def y9 (t:Tr) (ds:List Int) (b:Int) (n j:Nat):List (Nat×Nat):=((Av j).filter (stB t ds b)).map λk=>(k,n)
def aR (t:Tr) (ds bs:List Int):Nat->List (Nat×Nat)
 | 0=>[]
 | i+1=>aR t ds bs i++y9 t ds (bs.getD i 0) i t.size
def Mz (l:List (Nat×Nat)):List PV:=l.map λp=>.tup [.int (p.1:Int),.int (p.2:Int)]
def wz (t:Tr) (ds:List Int) (b:Int) (n j:Nat):(y9 t ds b n j).length<=j:=by
 unfold y9;rw [Ag];refine A7 (Bi _ _) ?_;rw [BP];exact Ao _
theorem jR (t:Tr) (ds bs:List Int):∀i,(aR t ds bs i).length<=i*t.size
 | 0=>A6 _
 | i+1=>by
  rw [aR,Ad];have h1:=jR t ds bs i;have h2:=wz t ds (bs.getD i 0) i t.size;rw [FH];omega
def Nc (t:Tr) (ds:List Int) (b:Int) (n j:Nat):y9 t ds b n (j+1)=y9 t ds b n j++(if stB t ds b j then [(j,n)] else []):=by
 unfold y9;rw [E8,List.filter_append,A5];congr 1;by_cases c:stB t ds b j <;> simp [c]
def sG (p:Nat×Nat):List Key:=[.inl (p.1:Int),.inl (p.2:Int)]
theorem zM {p q:Nat×Nat} (h:sG p=sG q):p=q:=by
 obtain⟨a,b⟩:=p;obtain⟨c,d⟩:=q;simp [sG] at h;obtain⟨h1,h2⟩:=h;exact Prod.ext (by show a=c;omega) (by show b=d;omega)
def mL:Nat->List (Nat×Nat)->List (List Key×PV)
 | _,[]=>[]
 | k,p::l=>(sG p,.int (k:Int))::mL (k+1) l
theorem lO:∀(k:Nat) (l:List (Nat×Nat)),(mL k l).map (·.1)=l.map sG
 | _,[]=>rfl
 | k,p::l=>by rw [mL,Aw,Aw,lO (k+1) l]
def zB (k:Nat) (l:List (Nat×Nat)):(mL k l).length=l.length:=by have:=congrArg B5 (lO k l);simpa using this
theorem rY:∀(k:Nat) (l:List (Nat×Nat)) (p:Nat×Nat),p∈l->md (mL k l) (sG p)=ap (.int ((k+l.idxOf p:Nat):Int))
 | k,q::l,p,h=>by
  rw [List.idxOf_cons];by_cases c:q=p
  ·subst c;simp [mL,md]
  ·have hp:p∈l:=(Ax.mp h).elim (λz=>absurd z.symm c) id;have ih:=rY (k+1) l p hp;have c2:sG q≠sG p:=λz=>c (zM z);have c3:(q==p)=false:=by simpa using c
   have e:md (mL k (q::l)) (sG p)=md (mL (k+1) l) (sG p):=by simp [mL,md,c2]
   rw [e,ih,c3];congr 2;show ((k+1+l.idxOf p:Nat):Int)=((k+(l.idxOf p+1):Nat):Int);omega
def GL (e:Ent) (j:Nat) (d b:Int):List Nat:=if d < b then [j] else match e with | .word _=>[] | .pair x y=>[x,y]
def X3 (l:List (Nat×Nat)) (j n:Nat):List Nat:=(l.filter λp=>decide (p.2=n)&&!decide (p.1=j)).map λp=>l.idxOf p
def Kp (e:Ent) (l:List (Nat×Nat)) (j n:Nat) (d b:Int):PV:=.tup [JQ e j,.int (n:Int),.tup (aq ((GL e j d b).map λx=>l.idxOf (x,n-1))),.tup (aq (X3 l j n))]
def JT {f:α->β} (hf:∀x y,f x=f y->x=y) {l:List α} (h:l.Nodup):(l.map f).Nodup:=List.Pairwise.map f (λa b n z=>n (hf a b z)) h
def KN (t:Tr) (ds:List Int) (b:Int) (n j:Nat):(y9 t ds b n j).Nodup:=by
 exact JT (λx y h=>(Prod.mk.inj h).1) (List.Pairwise.filter _ List.nodup_range)
theorem gT:∀{i:Nat}{p:Nat×Nat},p∈aR t ds bs i->p.2 < i/\p.1 < t.size
 | 0,_,h=>by simp [aR] at h
 | i+1,p,h=>by
  rw [aR] at h;rcases AG.mp h with h | h
  ·have:=gT h;omega
  ·obtain⟨k,hk,rfl⟩:=Au.mp h;have:=AL.mp (AQ.mp hk).1;exact⟨Du _,this⟩
theorem jQ (t:Tr) (ds bs:List Int):∀i,(aR t ds bs i).Nodup
 | 0=>Fq
 | i+1=>by
  rw [aR];refine CN.mpr ⟨jQ t ds bs i,KN _ _ _ _ _,λa ha b hb z=>?_⟩;subst z;have h1:=(gT ha).1;obtain⟨k,_,rfl⟩:=Au.mp hb;exact Bd _ h1
def hV (h:l[k]?=ap v):MD l (.int (k:Int))=.ret v:=by
 rw [a8,bw h];rfl
def F4 (ds:List Int) (h:(dZ 0 (dF ds))[i]?=ap x):i < ds.length/\x=.tup [.int (i:Int),.int (ds.getD i 0)]:=by
 have hi:i < ds.length:=by have:=(Am.mp h).1;rw [cR,hX] at this;exact this
 obtain⟨y,hy,rfl⟩:=gL h;unfold dF at hy;rw [Aj,Ae hi] at hy;have hy:=Option.some.inj hy;subst hy;refine⟨hi,?_⟩;rw [AO,Ap,Ae hi];rfl
theorem y7 (t:Tr) (ds bs:List Int) (hd:ds.length=t.size) (hz:t.size<=100) (hb:bs.length*t.size<=900) (hb2:bs.length<=900):(gY t.pv (.tup (dF ds)) (.cl (dF bs))).le (.ret (Mz (aR t ds bs bs.length))):=λQ q=>by
 unfold gY;have c1:(dF bs).length<=sizeLine:=aY (by rw [hX];omega);have c2:(dF ds).length<=sizeLine:=aY (by rw [hX];omega);simp only [f8,bv];refine W.le.use (Gv t ∅) ?_;simp only [bT,ev,lm c1];refine j8 (λi s=>s=Mz (aR t ds bs i)) rfl (λi x s hx hs=>?_) (λs hs=>?_)
 ·subst hs;obtain⟨hi,rfl⟩:=F4 bs hx;simp only [iY,ev,bv,av,lm c2];have hl:=jR t ds bs i;have hm:i*t.size+t.size<=900:=by
   have:(i+1)*t.size<=bs.length*t.size:=Nat.mul_le_mul_right _ hi;rw [FH] at this;omega
  refine j8 (λj s=>s=Mz (aR t ds bs i++y9 t ds (bs.getD i 0) i j)) (by simp [y9]) (λj x s hx hs=>?_) (λs hs=>?_)
  ·subst hs;obtain⟨hj,rfl⟩:=F4 ds hx;have MF:=wz t ds (bs.getD i 0) i j;simp only [iY,ev,bv];rw [Nc];have Kc:j < t.size:=by omega
   have đ:stB t ds (bs.getD i 0) j=true->(kE (Mz (aR t ds bs i++y9 t ds (bs.getD i 0) i j)) (PV.tup [.int (j:Int),.int (i:Int)])).run λs=>s=Mz (aR t ds bs i++(y9 t ds (bs.getD i 0) i j++if stB t ds (bs.getD i 0) j=true then [(j,i)] else [])):=λc=>by
    rw [iq (by unfold Mz;rw [Ag,Ad];omega),if_pos c];unfold Mz;rw [<- A3,A5 (l₂:=[(j,i)])];rfl
   have no:stB t ds (bs.getD i 0) j=false->Mz (aR t ds bs i++y9 t ds (bs.getD i 0) i j)=Mz (aR t ds bs i++(y9 t ds (bs.getD i 0) i j++if stB t ds (bs.getD i 0) j=true then [(j,i)] else [])):=λc=>by rw [c];simp
   generalize eb:bs.getD i 0=b at đ no ⊢;generalize ed:ds.getD j 0=d at *;simp only [f8,bv,Kj,ev,ba,av,hV (Kx t Kc)];by_cases c:d<=b
   ·simp only [c,decide_true,if_true,bv,ev];rcases rz t 0 j .aO [] Kc with⟨_,e,_⟩ | ⟨a,_,ha,e,_⟩
    ·have sb:stB t ds b j=true:=by unfold stB;rw [e,ed];simp [c]
     rw [e];simp only [vp,mP,ev,ba,PV.lg,if_true];exact đ sb
    ·rw [AO] at e;have sb:stB t ds b j=decide (b < ds.getD a 0):=by unfold stB;rw [e,ed];simp [c]
     rw [e];have i2:bX (dF ds) (a:Int)=ap (.int (ds.getD a 0)):=int_at ∅;simp only [vp,mP,ev,ba,PV.lg,Ak,if_false,a8,i2,py,tE,f8];by_cases c2:b < ds.getD a 0
     ·rw [decide_eq_true c2] at sb ⊢;exact đ sb
     ·rw [decide_eq_false c2] at sb ⊢;exact no sb
   ·have sb:stB t ds b j=false:=by unfold stB;rw [ed];simp [c]
    simp only [c,decide_false,Ak,if_false,ev];exact no sb
  ·subst hs;rw [cR,hX,hd];rfl
 ·subst hs;rw [cR,hX];exact q
def Sd {l:List (Nat×Nat)} (h:l≠[]) (k:Nat):mL k l≠[]:=by cases l with | nil=>exact absurd rfl h | cons a l=>simp [mL]
def Hg (k:Nat) (l:List (Nat×Nat)):((mL k l).map λkv=>PV.tup (kv.1.map kP))=l.map λp=>PV.tup [.int (p.1:Int),.int (p.2:Int)]:=by
 have:=congrArg (FZ λx:List Key=>PV.tup (x.map kP)) (lO k l);rw [AR,AR] at this;exact this
theorem Q8 {l:List (Nat×Nat)} (h1:es[j]?=ap e) (h2:j < ds.length) (h3:n < bs.length) (hl:l.length<=1000) (h0:l≠[])
  (hb:∀x∈GL e j (ds.getD j 0) (bs.getD n 0),1<=n/\(x,n-1)∈l) :
  (jy (.tup (es.map Ent.pv)) (.tup (dF ds)) (.cl (dF bs)) (QD (mL 0 l)) (.tup [.int (j:Int),.int (n:Int)])).le (.ret (Kp e l j n (ds.getD j 0) (bs.getD n 0))):=λQ q=>by
 unfold jy;have i0:bX [PV.int (j:Int),PV.int (n:Int)] 0=ap (.int j):=rfl;have i1:bX [PV.int (j:Int),PV.int (n:Int)] 1=ap (.int n):=rfl;have i2:bX (dF ds) (j:Int)=ap (.int (ds.getD j 0)):=int_at h2;have i3:bX (dF bs) (n:Int)=ap (.int (bs.getD n 0)):=int_at h3;have i4:bX (es.map Ent.pv) (j:Int)=ap e.pv:=bw (by rw [Aj,h1];rfl);simp only [f8,bv,av,bT,a8,i0,i1,i2,i3,i4,py,ev,tE,aX];generalize hdj:ds.getD j 0=d at *;generalize hbn:bs.getD n 0=b at *;have below:∀{R:PV->Prop},R (.tup (aq (GL e j d b)))->(if decide (d < b)=true then bd (PV.tup [PV.int (j:Int)]) else du e.pv).run R:=λ{R} r=>by
  unfold GL at r;unfold du;by_cases c:d < b
  ·rw [if_pos c] at r;simpa [c] using r
  ·cases e with
   | word w=>simpa [c,Ent.pv] using r
   | pair a b=>simpa [c,Ent.pv] using r
 refine below ?_;refine iH (λx=>.int ((l.idxOf (x,n-1):Nat):Int)) (λk hk=>?_) ?_
 ·obtain⟨g1,g2⟩:=hb k hk;intro R r;have en1:(n:Int)-1=((n-1:Nat):Int):=by omega
  simp only [dgB,f8,bv,lA,ev,en1];rw [show PV.tup [.int (k:Int),.int ((n-1:Nat):Int)]=.tup ((sG (k,n-1)).map kP) from rfl];refine Kr (rY 0 l (k,n-1) g2) ?_;rw [AO];exact r
 simp only [bv,tD,ev];refine Lh (Sd h0 0) (by rw [zB];exact hl) ?_;rw [Hg];refine xg (λp=>if (decide (p.2=n)&&!decide (p.1=j))=true then ap (.int ((l.idxOf p:Nat):Int)) else bm) (λp hp=>?_) ?_
 ·intro R r;obtain⟨u,v⟩:=p;have j0:bX [PV.int (u:Int),PV.int (v:Int)] 0=ap (.int u):=rfl;have j1:bX [PV.int (u:Int),PV.int (v:Int)] 1=ap (.int v):=rfl;simp only [dgB,f8,bv,av,a8,j0,j1,py,ev,cq,Ib,ba];have get:∀{R:PV->Prop},R (.int ((l.idxOf (u,v):Nat):Int))->(dgW (QD (mL 0 l)) (PV.tup [.int (u:Int),.int (v:Int)])).run R:=λ{R} r=>by
   refine Kr (rY 0 l (u,v) hp) ?_;rw [AO];exact r
  by_cases c1:v=n
  ·subst c1;by_cases c2:u=j
   ·subst c2;simp only [beq_self_eq_true,Bj,if_true,ev,Ak,if_false];simpa using r
   ·have c3:((u:Int)==(j:Int))=false:=by simp;omega
    simp only [beq_self_eq_true,c3,Ee,if_true,ev,bv];refine get ?_;simpa [c2] using r
  ·have c3:((v:Int)==(n:Int))=false:=by simp;omega
   simp only [c3,Ak,if_false,ev];simpa [c1] using r
 rw [Kg];have nm:∀{R:PV->Prop},R (JQ e j)->(eD (.tup (es.map Ent.pv)) (.int (j:Int))).run R:=λ{R} r=>by
  unfold eD;simp only [f8,bv,av,a8,i4,py,ev];cases e with
  | word w=>simpa [Ent.pv,JQ] using r
  | pair a b=>simpa [Ent.pv,JQ] using r
 refine nm ?_;have e1:(l.filter λp=>decide (p.2=n)&&!decide (p.1=j)).map (λp=>PV.int ((l.idxOf p:Nat):Int))=aq (X3 l j n):=by
  unfold aq X3;rw [AR];rfl
 have e2:(GL e j d b).map (λx=>PV.int ((l.idxOf (x,n-1):Nat):Int))=aq ((GL e j d b).map λx=>l.idxOf (x,n-1)):=by
  unfold aq;rw [AR];rfl
 rw [e1,e2];exact q
def YI (t:Tr) (ds bs:List Int):List PV:=(aR t ds bs bs.length).map λp=>Kp (en t 0 p.1) (aR t ds bs bs.length) p.1 p.2 (ds.getD p.1 0) (bs.getD p.2 0)
def okD (t:Tr) (ds bs:List Int):Prop:=∀p∈aR t ds bs bs.length,∀x∈GL (en t 0 p.1) p.1 (ds.getD p.1 0) (bs.getD p.2 0),1<=p.2/\(x,p.2-1)∈aR t ds bs bs.length
theorem rZ:∀(k:Nat) (l:List (Nat×Nat)),(l.zipIdx k).map (λp=>PV.tup [PV.tup [.int (p.1.1:Int),.int (p.1.2:Int)],.int ((p.2:Nat):Int)])=(mL k l).map JM
 | _,[]=>rfl
 | k,p::l=>by rw [List.zipIdx_cons,Aw,rZ (k+1) l];rfl
def a7 (t:Tr) (ds:List Int):List Int:=0::sortI (KQ t ds)
def Jz (t:Tr) (ds:List Int):(KQ t ds).length<=t.size:=by
 unfold KQ splits;rw [Ag];have:=Bi (λj=>uF (en t 0 j)) (Av t.size);rw [BP] at this;exact this
def vk {x:Int}{l:List Int}:x∈sortI l↔x∈l:=(CY l _).mem_iff
def oI (l:List Int):(sortI l).length=l.length:=(CY l _).length_eq
theorem P0 (t:Tr) (ds:List Int) (hd:ds.length=t.size) (hz:t.size<=25) (h0:aR t ds (a7 t ds) (a7 t ds).length≠[]) (ok:okD t ds (a7 t ds)):(lQ t.pv (.tup (dF ds))).le (.ret (.tup (YI t ds (a7 t ds)))):=λQ q=>by
 unfold lQ;simp only [f8,bv];refine W.le.use (kT t ∅) ?_;have hs:=Jz t ds;have hl:(a7 t ds).length<=t.size+1:=by unfold a7;rw [An,oI];omega
 have e2:wB (dF (KQ t ds))=.ret (dF (sortI (KQ t ds))):=by
  unfold wB dF;rw [o5];show W.fg _ _=_;rw [lm ∅]
 have e3:mS [PV.int 0] (dF (sortI (KQ t ds)))=.ret (dF (a7 t ds)):=by
  rw [ip (by rw [hX,oI];simp;omega)];rfl
 simp only [split_le t ds hd ∅,ev,e2,e3];have hb:(a7 t ds).length*t.size<=900:=by
  have:(a7 t ds).length*t.size<=26*25:=Nat.mul_le_mul ∅ hz;omega
 refine W.le.use (y7 t ds (a7 t ds) hd ∅ hb ∅) ?_;generalize hL:aR t ds (a7 t ds) (a7 t ds).length=L at *;have hLl:L.length<=900:=by rw [<- hL];exact A7 (jR _ _ _ _) hb
 have hLm:∀p∈L,p.2 < (a7 t ds).length/\p.1 < t.size:=λp hp=>gT (hL▸hp);have c:(Mz L).length<=sizeLine:=aY (by unfold Mz;rw [Ag];omega);simp only [bT,ev,lm c,f8];unfold Mz;rw [Pr];refine iH (λp:(Nat×Nat)×Nat=>PV.tup [PV.tup [.int (p.1.1:Int),.int (p.1.2:Int)],.int ((p.2:Nat):Int)]) (λp _ R r=>by simpa using r) ?_;rw [rZ];refine L5 ?_ (by rw [zB];omega) ?_
 ·rw [lO];exact JT (λ_ _ h=>zM h) (hL▸jQ t ds _ _)
 refine iH (λp:Nat×Nat=>Kp (en t 0 p.1) L p.1 p.2 (ds.getD p.1 0) ((a7 t ds).getD p.2 0)) (λp hp=>?_) ?_
 ·obtain⟨g1,g2⟩:=hLm p hp;refine Q8 (f7 t 0 p.1 g2) ∅ g1 ∅ h0 λx hx=>?_;have:=ok p (by rw [hL];exact hp) x hx;rw [hL] at this;exact this
 ·have:YI t ds (a7 t ds)=L.map λp:Nat×Nat=>Kp (en t 0 p.1) L p.1 p.2 (ds.getD p.1 0) ((a7 t ds).getD p.2 0):=by unfold YI;rw [hL]
  rw [<- this];exact q
theorem jb:∀(t:Tr) (o x:Nat) (p:V),x < t.size->(x=t.size-1/\kf t o x p=p)\/∃a u v,x < a/\a < t.size/\kf t o x p=.int ((o+a:Nat):Int)/\en t o a=.pair u v/\(u=o+x\/v=o+x)
 | .leaf _,o,x,p,h=>.inl ⟨by have:x < 1:=h;show x=0;omega,rfl⟩
 | .node l r,o,x,p,h=>by
  have es:(Tr.node l r).size=l.size+r.size+1:=rfl;have top:en (.node l r) o (l.size+r.size)=.pair (o+l.size-1) (o+l.size+r.size-1):=by rw [en,if_neg ∅,if_neg ∅]
  by_cases c1:x < l.size
  ·rw [show kf (.node l r) o x p=kf l o x (.int (o+l.size+r.size:Nat)) by rw [kf,if_pos c1]];rcases jb l o x (.int (o+l.size+r.size:Nat)) c1 with⟨h1,h2⟩ | ⟨a,u,v,h1,h2,h3,h4,h5⟩
   ·exact .inr ⟨l.size+r.size,_,_,by omega,by omega,by rw [h2,Be],top,.inl ∅⟩
   ·exact .inr ⟨a,u,v,h1,by omega,h3,by rw [en,if_pos h2];exact h4,h5⟩
  ·by_cases c2:x < l.size+r.size
   ·rw [show kf (.node l r) o x p=kf r (o+l.size) (x-l.size) (.int (o+l.size+r.size:Nat)) by rw [kf,if_neg c1,if_pos c2]];rcases jb r (o+l.size) (x-l.size) (.int (o+l.size+r.size:Nat)) ∅ with⟨h1,h2⟩ | ⟨a,u,v,h1,h2,h3,h4,h5⟩
    ·exact .inr ⟨l.size+r.size,_,_,by omega,by omega,by rw [h2,Be],top,.inr ∅⟩
    ·refine .inr ⟨l.size+a,u,v,by omega,by omega,by rw [h3,Be],?_,by omega⟩;rw [en,if_neg ∅,if_pos ∅,B8];exact h4
   ·exact .inl ⟨by omega,by rw [kf,if_neg c1,if_neg c2]⟩
theorem lB:∀(t:Tr) (o j:Nat) (p:V) (a b:Nat),j < t.size->en t o j=.pair a b->o<=a/\o<=b/\a < o+j/\b < o+j/\a < b/\kf t o (a-o) p=.int ((o+j:Nat):Int)/\kf t o (b-o) p=.int ((o+j:Nat):Int)
 | .leaf _,o,j,p,a,b,h,e=>by rw [en] at e;cases e
 | .node l r,o,j,p,a,b,h,e=>by
  have es:(Tr.node l r).size=l.size+r.size+1:=rfl;have lp:=l.size_pos;have rp:=r.size_pos;by_cases c1:j < l.size
  ·rw [en,if_pos c1] at e;obtain⟨h1,h2,h3,h4,h5,h6,h7⟩:=lB l o j (.int (o+l.size+r.size:Nat)) a b c1 e;refine⟨h1,h2,h3,h4,h5,?_,?_⟩
   ·rw [kf,if_pos ∅];exact h6
   ·rw [kf,if_pos ∅];exact h7
  ·by_cases c2:j < l.size+r.size
   ·rw [en,if_neg c1,if_pos c2] at e;obtain⟨h1,h2,h3,h4,h5,h6,h7⟩:=lB r (o+l.size) (j-l.size) (.int (o+l.size+r.size:Nat)) a b ∅ e;refine⟨by omega,by omega,by omega,by omega,h5,?_,?_⟩
    ·rw [kf,if_neg ∅,if_pos ∅,Fm,h6,show o+l.size+(j-l.size)=o+j by omega]
    ·rw [kf,if_neg ∅,if_pos ∅,Fm,h7,show o+l.size+(j-l.size)=o+j by omega]
   ·rw [en,if_neg c1,if_neg c2] at e;injection e with e1 e2;subst e1;subst e2;have hj:j=l.size+r.size:=by omega
    subst hj;have à:∀(t:Tr) (o:Nat) (p:V),kf t o (t.size-1) p=p:=λt o p=>by
     have tp:=t.size_pos;rcases jb t o (t.size-1) p ∅ with⟨_,h⟩ | ⟨a,_,_,h1,h2,_⟩
     ·exact h
     ·omega
    refine⟨by omega,by omega,by omega,by omega,by omega,?_,?_⟩
    ·rw [kf,if_pos ∅,show o+l.size-1-o=l.size-1 by omega,à,Be]
    ·rw [kf,if_neg ∅,if_pos ∅,show o+l.size+r.size-1-o-l.size=r.size-1 by omega,à,Be]
structure DD (t:Tr) (ds:List Int):Prop where
 len:ds.length=t.size
 leaf:∀j w,j < t.size->en t 0 j=.word w->ds.getD j 0=0
 pair:∀j a b,j < t.size->en t 0 j=.pair a b->ds.getD a 0 < ds.getD j 0/\ds.getD b 0 < ds.getD j 0/\1<=ds.getD j 0
 nd:(KQ t ds).Nodup
def DD.of (h:SI t ds=true):DD t ds:=by
 unfold SI at h;rw [Az,Az,decide_eq_true_iff,decide_eq_true_iff] at h;obtain⟨h1,h2,h3⟩:=h;have h4:∀j,j < t.size->okJ t ds j=true:=λj hj=>Cw.mp h3 j (AL.mpr hj);refine⟨h1,λj w hj e=>?_,λj a b hj e=>?_,h2⟩
 ·have:=h4 j hj;unfold okJ at this;rw [e] at this;exact eq_of_beq this
 ·have:=h4 j hj;unfold okJ at this;rw [e] at this;rw [Az,Az,Az,decide_eq_true_iff,decide_eq_true_iff,decide_eq_true_iff,decide_eq_true_iff] at this;exact⟨this.1.1.1,this.1.1.2,this.1.2⟩
def DD.mem (D:DD t ds) (hj:j < t.size):ds.getD j 0∈a7 t ds:=by
 cases e:en t 0 j with
 | word w=>rw [D.leaf j w hj e];exact .head _
 | pair a b=>
  refine AY _ (vk.mpr ?_);exact Au.mpr ⟨j,AQ.mpr ⟨AL.mpr hj,by rw [e];rfl⟩,rfl⟩
theorem Nf (l:List Int):(sortI l).Pairwise (·<=·):=(EE (le:=λa b=>decide (a<=b)) (λa b c=>by simp;omega) (λa b=>by simp;omega) l).imp (by simp)
theorem DD.inc (D:DD t ds):(a7 t ds).Pairwise (· < ·):=by
 unfold a7;refine Ed.mpr ⟨λx hx=>?_,?_⟩
 ·have hx:=vk.mp hx;unfold KQ splits at hx;obtain⟨j,hj,rfl⟩:=Au.mp hx;obtain⟨h1,h2⟩:=AQ.mp hj;cases e:en t 0 j with
  | word w=>rw [e] at h2;cases h2
  | pair a b=>have:=(D.pair j a b (AL.mp h1) e).2.2;omega
 ·have nd:(sortI (KQ t ds)).Nodup:=(CY _ _).nodup_iff.mpr D.nd;exact (List.Pairwise.and (Nf _) nd).imp λ⟨h1,h2⟩=>Int.lt_iff_le_and_ne.mpr ⟨h1,h2⟩
theorem sJ {l:List Int} (h:l.Pairwise (· < ·)) (hn:n < l.length) {x:Int} (hx:x∈l) (lt:x < l.getD n 0):1<=n/\x<=l.getD (n-1) 0:=by
 obtain⟨i,hi,rfl⟩:=DU hx;have gd:∀{k} (hk:k < l.length),l.getD k 0=l[k]:=λ{k} hk=>by rw [Ap,Ae hk];rfl
 rw [gd hn] at lt;have c:i < n:=by
  rcases Dj i n with c | c
  ·exact c
  ·rcases Ec c with c | c
   ·subst c;omega
   ·have:=BS.mp h _ _ hn hi c;omega
 refine⟨by omega,?_⟩;rw [gd ∅];rcases Ec (show i<=n-1 by omega) with c2 | c2
 ·subst c2;exact DG _
 ·have:=BS.mp h _ _ hi ∅ c2;omega
theorem xo {l:List Int} (h:l.Pairwise (· < ·)) (hn:n < l.length) (hi:i < n):l.getD i 0 < l.getD n 0:=by
 have gd:∀{k} (hk:k < l.length),l.getD k 0=l[k]:=λ{k} hk=>by rw [Ap,Ae hk];rfl
 rw [gd hn,gd ∅];exact BS.mp h _ _ ∅ hn hi
theorem cH {t:Tr}{ds bs:List Int}:∀{m:Nat}{j n:Nat},(j,n)∈aR t ds bs m↔n < m/\j < t.size/\stB t ds (bs.getD n 0) j=true
 | 0,j,n=>by simp [aR]
 | m+1,j,n=>by
  rw [aR,AG,cH];unfold y9;rw [Au]
  constructor
  ·rintro (⟨h1,h2,h3⟩ | ⟨k,hk,e⟩)
   ·exact⟨by omega,h2,h3⟩
   ·obtain⟨h1,h2⟩:=AQ.mp hk;injection e with e1 e2;subst e1;subst e2;exact⟨by omega,AL.mp h1,h2⟩
  ·rintro⟨h1,h2,h3⟩;by_cases c:n=m
   ·subst c;exact .inr ⟨j,AQ.mpr ⟨AL.mpr h2,h3⟩,rfl⟩
   ·exact .inl ⟨by omega,h2,h3⟩
theorem gB {b:Int} (hj:j < t.size):stB t ds b j=true↔ds.getD j 0<=b/\∀a,kf t 0 j .aO=.int ((a:Nat):Int)->b < ds.getD a 0:=by
 unfold stB;rw [Az,decide_eq_true_iff];rcases jb t 0 j .aO hj with⟨_,e⟩ | ⟨a,u,v,_,ha,e,_,_⟩
 ·rw [e];exact⟨λh=>⟨h.1,λa z=>by cases z⟩,λh=>⟨h.1,rfl⟩⟩
 ·rw [AO] at e;rw [e];refine⟨λh=>⟨h.1,λa' z=>?_⟩,λh=>⟨h.1,?_⟩⟩
  ·injection z with z;have:a=a':=by omega
   subst this;simpa using h.2
  ·simpa using h.2 a rfl
theorem DD.ok (D:DD t ds):okD t ds (a7 t ds):=by
 rintro⟨j,n⟩ hp x hx;obtain⟨hn,hj,hs⟩:=cH.mp hp;obtain⟨GI,qN⟩:=(gB hj).mp hs;have inc:=D.inc;show 1<=n/\(x,n-1)∈_;unfold GL at hx;by_cases c:ds.getD j 0 < (a7 t ds).getD n 0
 ·rw [if_pos c] at hx;have:x=j:=by simpa using hx
  subst this;obtain⟨g1,g2⟩:=sJ inc hn (D.mem hj) c;have lt:=xo inc hn (show n-1 < n by omega);exact⟨g1,cH.mpr ⟨by omega,hj,(gB hj).mpr ⟨g2,λa e=>by have:=qN a e;omega⟩⟩⟩
 ·rw [if_neg c] at hx;cases e:en t 0 j with
  | word w=>rw [e] at hx;cases hx
  | pair a b=>
   rw [e] at hx;obtain⟨p1,p2,p3⟩:=D.pair j a b hj e;obtain⟨_,_,a1,a2,_,a3,a4⟩:=lB t 0 j .aO a b hj e;rw [AO,D1] at *;have hx:x=a\/x=b:=by simpa using hx
   have key:x < t.size/\ds.getD x 0 < ds.getD j 0/\kf t 0 x .aO=.int ((j:Nat):Int):=by
    rcases hx with rfl | rfl
    ·exact⟨by omega,p1,a3⟩
    ·exact⟨by omega,p2,a4⟩
   obtain⟨k1,k2,k3⟩:=key;obtain⟨g1,g2⟩:=sJ inc hn (D.mem k1) ∅;have lt:=xo inc hn (show n-1 < n by omega);refine⟨g1,cH.mpr ⟨by omega,k1,(gB k1).mpr ⟨g2,λa' e'=>?_⟩⟩⟩;rw [k3] at e';injection e' with e';have:j=a':=by omega
   subst this;omega
theorem xS:∀(t:Tr) (o:Nat),∃w,en t o 0=.word w
 | .leaf w,o=>⟨w,rfl⟩
 | .node l r,o=>by rw [en,if_pos (show 0 < l.size from l.size_pos)];exact xS l o
theorem DD.ne (D:DD t ds):aR t ds (a7 t ds) (a7 t ds).length≠[]:=by
 intro z;have:(0,0)∈aR t ds (a7 t ds) (a7 t ds).length:=by
  obtain⟨w,e⟩:=xS t 0;refine cH.mpr ⟨by simp [a7],t.size_pos,(gB t.size_pos).mpr ⟨?_,λa ea=>?_⟩⟩
  ·rw [D.leaf 0 w t.size_pos e];exact DG _
  ·rcases jb t 0 0 .aO t.size_pos with⟨_,e⟩ | ⟨a',u,v,_,ha,e,ep,_⟩
   ·rw [e] at ea;cases ea
   ·rw [e,AO] at ea;injection ea with ea;have:a'=a:=by omega
    subst this;have:=(D.pair a' u v ha ep).2.2;show (0:Int) < _;omega
 rw [z] at this;cases this
def PZ (D:DD t ds) (hz:t.size<=25):(lQ t.pv (.tup (dF ds))).le (.ret (.tup (YI t ds (a7 t ds)))):=P0 t ds D.len hz D.ne D.ok
def Vp (t:Tr):List PV:=(Av t.size).map λj=>.tup (aq (up t 0 j []))
@[simp] theorem QX (t:Tr):(Vp t).length=t.size:=by unfold Vp;simp
def Jj (t:Tr) (h:j < t.size):(Vp t)[j]?=ap (.tup (aq (up t 0 j []))):=by unfold Vp;simp [h]
theorem Vo (t:Tr):∀(k j:Nat),j+k+1=t.size->(up t 0 j []).length<=k+1:=λk=>by
 induction k using DQ with
 | ind k ih=>
  intro j hj;rcases rz t 0 j .aO [] ∅ with⟨q1,q2,q3⟩ | ⟨a,q1,q2,q3,q4⟩
  ·rw [q3];show 1<=k+1;omega
  ·rw [q4,An];have:=ih (t.size-a-1) ∅ a ∅;omega
theorem Y6 (t:Tr) (h:j < t.size):(up t 0 j []).length<=t.size:=by
 have:=Vo t (t.size-j-1) j ∅;omega
def GR (t:Tr) (i:Nat):List PV:=(Av t.size).map λj=>if j+i < t.size then .tup [] else .tup (aq (up t 0 j []))
def qt (t:Tr) (i:Nat):(GR t i).length=t.size:=by unfold GR;simp
def Ji (t:Tr) (i:Nat) (h:j < t.size) (c:¬j+i < t.size):(GR t i)[j]?=ap (.tup (aq (up t 0 j []))):=by unfold GR;simp [h,c]
theorem QT (t:Tr) (i j:Nat) (h:j+i+1=t.size):(GR t i).set j (.tup (aq (up t 0 j [])))=GR t (i+1):=by
 apply Bn;intro k;by_cases hk:k < t.size
 ·by_cases e:j=k
  ·subst e;rw [Bu (by rw [qt];exact hk),Ji t (i+1) hk ∅]
  ·rw [Bf e];unfold GR;simp only [Aj,Bw hk,CC];by_cases c:k+i < t.size
   ·rw [if_pos c,if_pos ∅]
   ·rw [if_neg c,if_neg ∅]
 ·rw [Ay (by rw [BH,qt];omega),Ay (by rw [qt];omega)]
def Y7 (t:Tr):GR t 0=Al t.size (.tup []):=by
 apply Bn;intro k;unfold GR;by_cases hk:k < t.size
 ·simp [hk]
 ·simp [hk]
theorem QU (t:Tr):GR t t.size=Vp t:=by
 apply Cd;intro j _;rw [if_neg ∅]
theorem Oi (t:Tr) (hz:t.size<=900):(g8 t.pv).le (.ret (Vp t)):=λQ q=>by
 unfold g8;simp only [f8,bv];refine W.le.use (Gv t hz) ?_;simp only [av,ev];refine kW (λ_=>.tup []) (λx hx=>rfl) ?_;have e0:(YM t).map (λ_=>PV.tup [])=GR t 0:=by rw [C3,Kw,Y7]
 have en:(((t.size:Nat):Int)-1 - -1).toNat=t.size:=by omega
 rw [e0];simp only [bD,Kw,f8,lA,ev,gr,xO,en];refine⟨⟨trivial,cf ∅ ∅⟩,?_⟩;show (dG _ _ _).run _;refine j8 (λi s=>s=GR t i) rfl (λi x s hx hs=>?_) (λs hs=>?_)
 ·subst hs;obtain⟨hi,rfl⟩:=pB hx;obtain⟨j,hj⟩:∃j:Nat,j=t.size-1-i:=⟨_,rfl⟩;have ej:(((t.size:Nat):Int)-1-(i:Int))=(j:Int):=by omega
  rw [ej];have Kc:j < t.size:=by omega
  have fin:∀l:List PV,l.length<=900->.int (j:Int)::l=aq (up t 0 j [])->(am (addW (.tup [.int (j:Int)]) (.tup l)) λx=>fX (GR t i) (.int (j:Int)) x).run λs=>s=GR t (i+1):=λl hl he=>by
   rw [qS,lm (aY (by simp;omega))];show (fX _ _ (.tup (.int (j:Int)::l))).run _;rw [he,gC (by rw [qt];exact Kc),QT t i j ∅];rfl
  simp only [f8,bv,hV (Kx t Kc),ev];rcases rz t 0 j .aO [] Kc with⟨_,e,e2⟩ | ⟨a,ha1,ha,e,e2⟩
  ·rw [e];simp only [vp,mP,PV.lg,ba,ev,if_true];have:=fin [] (by simp) (by rw [e2,AO];rfl);simpa using this
  ·rw [AO] at e;rw [e];have i2:MD (GR t i) (.int (a:Int))=.ret (.tup (aq (up t 0 a []))):=hV (Ji t i ha ∅);simp only [vp,mP,PV.lg,ba,ev,Ak,if_false,i2,f8];have ua:=Y6 t ha;have:=fin (aq (up t 0 a [])) (by rw [bc];omega) (by rw [e2];simp);simpa using this
 ·subst hs;have el:(fq (((t.size:Nat):Int)-1) t.size).length=t.size:=by unfold fq;simp
  rw [el,QU];exact q
def YL (t:Tr) (j:Nat):List Nat:=(Av t.size).filter λk=>!decide (k∈up t 0 j [])&&!decide (j∈up t 0 k [])
theorem Qk (t:Tr) (hz:t.size<=900) (hj:j < t.size):(eS (.cl (Vp t)) (.int (j:Int))).le (.ret (.tup (aq (YL t j)))):=λQ q=>by
 unfold eS;simp only [f8,bv,iJ,QX,fU,lm (cf (i:=0) (j:=(t.size:Int)) ∅ ∅),ev,A4,o6];refine sD (λk=>!decide (k∈up t 0 j [])&&!decide (j∈up t 0 k [])) (λk hk=>?_) q;have hk:=AL.mp hk;simp only [f8,bT,hV (Jj t hj),hV (Jj t hk),av,xq,if_true];by_cases c1:k∈up t 0 j []
 ·simp [c1]
 ·by_cases c2:j∈up t 0 k []
  ·simp [c1,c2]
  ·simp [c1,c2]
def J7:Ent->List Nat
 | .word _=>[]
 | .pair a b=>[a,b]
def o9 (e:Ent):du e.pv=.ret (.tup (aq (J7 e))):=by
 unfold du;cases e with
 | word w=>simp [Ent.pv,J7]
 | pair a b=>simp [Ent.pv,J7]
def Se (h:es[j]?=ap e):eD (.tup (es.map Ent.pv)) (.int (j:Int))=.ret (JQ e j):=by
 have i1:MD (es.map Ent.pv) (.int (j:Int))=.ret e.pv:=hV (by rw [Aj,h];rfl);unfold eD;cases e with
 | word w=>simp only [f8,av,i1];rfl
 | pair a b=>simp only [f8,av,i1];rfl
def grS (t:Tr) (j:Nat):PV:=.tup [JQ (en t 0 j) j,.int 0,.tup (aq (J7 (en t 0 j))),.tup (aq (YL t j))]
def grL (t:Tr):List PV:=(Av t.size).map (grS t)
theorem LB (t:Tr) (hz:t.size<=900):(kY t.pv).le (.ret (.tup (grL t))):=λQ q=>by
 unfold kY;simp only [f8,bv];refine W.le.use (kT t hz) ?_;refine W.le.use (Oi t hz) ?_;simp only [bD,cv,ev,fU,lm (cf (i:=0) (j:=(t.size:Int)) ∅ ∅),A4,o6];unfold aq;refine iH (grS t) (λj hj R r=>?_) q;have hj:=AL.mp hj;have i1:MD ((t.nd 0).map Ent.pv) (.int (j:Int))=.ret (en t 0 j).pv:=hV (by rw [Aj,f7 t 0 j hj];rfl);simp only [Se (f7 t 0 j hj),f8,av,i1,o9,bv,ev];exact W.le.use (Qk t hz hj) r
end My
variable {F:List (List Bool)}
namespace My
open PySem PySem.Spec PyProof.Rows L2 PL FL
structure Sy where
 nm:PV
 lv:Nat
 un:List Nat
 be:List Nat
def Sy.pv (s:Sy):PV:=.tup [s.nm,.int (s.lv:Int),.tup (aq s.un),.tup (aq s.be)]
def eN (g:List Sy):PV:=.tup (g.map Sy.pv)
def sy (g:List Sy) (i:Nat):Sy:=g.getD i ⟨.aO,0,[],[]⟩
def M8 {g:List Sy} (h:i < g.length):g[i]?=ap (sy g i):=by
 unfold sy;rw [Ap,Ae h];rfl
def LH {g:List Sy} (h:i < g.length):MD (g.map Sy.pv) (.int (i:Int))=.ret (sy g i).pv:=hV (by rw [Aj,M8 h];rfl)
def OG (w:Str):PV->Bool
 | .str s=>s==w
 | _=>false
def hm (g:List Sy) (i:Nat) (w:Str):Bool:=(sy g i).un.isEmpty&&OG w (sy g i).nm
inductive Qs (g:List Sy):Nat->Nat->Prop
 | refl (i:Nat):Qs g i i
 | step {i u j:Nat}:u∈(sy g i).un->Qs g u j->Qs g i j
structure WG (g:List Sy) (ws:List Str):Prop where
 pos:0 < g.length
 len:g.length<=300
 dn:∀i,i < g.length->∀u∈(sy g i).un,u < i
 pE:∀i,i < g.length->(sy g i).un.length<=2
 be:∀i,i < g.length->∀u∈(sy g i).be,u < g.length
 TJ:∀i,i < g.length->(sy g i).be.length<=30
 nm:∀i,i < g.length->(∃s,(sy g i).nm=.str s)\/∃n,(sy g i).nm=.int n
 aeM:∀w∈ws,∃i,i < g.length/\Qs g (g.length-1) i/\hm g i w=true
def nh {g:List Sy} (h:i < g.length):cZ (eN g) (.int (i:Int))=.ret (.tup (aq (sy g i).un)):=by
 unfold cZ eN;simp only [f8,av,LH h];rfl
def Ml {g:List Sy} (h:i < g.length):gc (eN g) (.int (i:Int))=.ret (.tup (aq (sy g i).be)):=by
 unfold gc eN;simp only [f8,av,LH h];rfl
theorem eq_nil (l:List Nat) (h:l.length<=1000):of2 d9 (.tup (aq l)) (.tup [])=.ret (.bl l.isEmpty):=by
 have fk:fj (aq l)=true:=jH.mpr λx hx=>by
  obtain⟨n,_,rfl⟩:=Au.mp hx;simp
 have fd:eG (aq l)<=1:=jI λx hx=>by
  obtain⟨n,_,rfl⟩:=Au.mp hx;simp
 rw [vE,lm ⟨by simp [fk],by simp,by simp;omega⟩];cases l with
 | nil=>simp
 | cons a l=>simp [gG]
def U4 (h:(∃s,x=.str s)\/∃n,x=.int n) (w:Str):of2 d9 x (.str w)=.ret (.bl (OG w x)):=by
 rcases h with⟨s,rfl⟩ | ⟨n,rfl⟩
 ·rw [vE,lm ⟨by simp,by simp,by simp⟩,Pc];rfl
 ·rw [vE,lm ⟨by simp,by simp,by simp⟩];simp [kC,OG]
theorem Kb {g:List Sy} (G:WG g ws) (h:i < g.length) (w:Str):jA (eN g) (.int (i:Int)) (.str w)=.ret (.bl (hm g i w)):=by
 unfold jA;have l2:=G.pE i h;have i0:bX [(sy g i).nm,PV.int ((sy g i).lv:Int),.tup (aq (sy g i).un),.tup (aq (sy g i).be)] 0=ap (sy g i).nm:=rfl;simp only [f8,nh h,eq_nil _ (show (sy g i).un.length<=1000 by omega)];unfold eN hm;cases e:(sy g i).un.isEmpty with
 | false=>simp
 | true=>simp only [fV,av,f8,LH h,Sy.pv,a8,i0,py,U4 (G.nm i h) w,CD]
abbrev Dd:=Str×Nat×Nat
def d3 (d:Dd):PV:=.tup [.str d.1,.int (d.2.1:Int),.int (d.2.2:Int)]
def d2 (d:Dd):PV:=.tup [.str d.1,.tup [.int (d.2.1:Int),.int (d.2.2:Int)]]
abbrev dbl (i:Nat):Dd:=("doubled",i,i)
abbrev ovr (i o:Nat):List Dd:=[("over",i,o),("over",o,i)]
def spl:List Nat->List Dd
 | [a,b]=>[("split",a,b),("split",b,a)]
 | _=>[]
def yI (g:List Sy) (i:Nat):List Dd:=dbl i::(spl (sy g i).un++(sy g i).be.flatMap (ovr i))
theorem tq (i:Nat):∀l:List Nat,(l.flatMap (ovr i)).length=2*l.length
 | []=>rfl
 | a::l=>by rw [List.flatMap_cons,Ad,tq i l];simp;omega
def wA (l:List Nat):(spl l).length<=2:=by unfold spl;split <;> simp
theorem Tw {g:List Sy} (G:WG g ws) (h:i < g.length):(yI g i).length<=63:=by
 unfold yI;rw [An,Ad,tq];have:=wA (sy g i).un;have:=G.TJ i h;omega
theorem PU {g:List Sy} (G:WG g ws) (h:i < g.length) {d:Dd} (hd:d∈yI g i):d.2.1 < g.length/\d.2.2 < g.length:=by
 rcases Ax.mp hd with rfl | hd
 ·exact⟨h,h⟩
 rcases AG.mp hd with hd | hd
 ·have hu:=G.dn i h;revert hu hd;generalize (sy g i).un=l;intro hd hu
  match l with
  | [a,b]=>
   have h1:=hu a (by simp);have h2:=hu b (by simp);simp [spl] at hd;rcases hd with rfl | rfl
   ·exact⟨by show a < _;omega,by show b < _;omega⟩
   ·exact⟨by show b < _;omega,by show a < _;omega⟩
  | []=>simp [spl] at hd
  | [_]=>simp [spl] at hd
  | _::_::_::_=>simp [spl] at hd
 ·obtain⟨o,ho,hd⟩:=CU.mp hd;have:=G.be i h o ho;simp at hd;rcases hd with rfl | rfl
  ·exact⟨h,this⟩
  ·exact⟨this,h⟩
theorem Lf {g:List Sy} (G:WG g ws) (h:i < g.length):(eV (eN g) (.int (i:Int))).le (.ret ((yI g i).map d3)):=λQ q=>by
 unfold eV eN;have l1:=wA (sy g i).un;have l3:=G.TJ i h;have i1:∀a b:Nat,bX [PV.int (a:Int),PV.int (b:Int)] 1=ap (.int (b:Int)):=λ_ _=>rfl;simp only [f8,bv,av,LH h,ev,Sy.pv,Pf,bD,bc,cq,ba];have fin:∀s:List PV,s=(dbl i::spl (sy g i).un).map d3->(dG (aq (sy g i).be) s λjt Rl=>am (xN Rl [.tup [.str "over",.int (i:Int),jt],.tup [.str "over",jt,.int (i:Int)]]) λnY=>bd nY).run Q:=λs hs=>by
  refine j8 (λk s=>s=(dbl i::(spl (sy g i).un++((sy g i).be.take k).flatMap (ovr i))).map d3) (by rw [hs];simp) (λk x s hx hs=>?_) (λs hs=>?_)
  ·subst hs;unfold aq at hx;rw [Aj] at hx;cases eo:(sy g i).be[k]? with
   | none=>rw [eo] at hx;cases hx
   | some o=>
   rw [eo] at hx;have ex:=Option.some.inj hx;subst ex;have et:(sy g i).be.take (k+1)=(sy g i).be.take k++[o]:=by rw [Fp,eo];rfl
   unfold xN;rw [lm (aY (by simp only [Ag,An,Ad,tq];simp;omega))];rw [et,Cf];simp [d3]
  ·subst hs;rw [bc,List.take_length];exact q
 have hu:=G.pE i h;revert fin hu;generalize (sy g i).un=l;intro fin hu
 match l,hu with
 | [],_=>
  exact fin _ rfl
 | [a],_=>
  exact fin _ rfl
 | [a,b],_=>
  refine⟨aY (by simp),?_⟩;exact fin _ rfl
def uo (F:List (List Bool)):List PV:=F.map λr=>.cl (r.map PV.bl)
def fa (F:List (List Bool)) (j i:Nat):Bool:=(F.getD j []).getD i false
structure FW (g:List Sy) (F:List (List Bool)) (n:Nat):Prop where
 len:n<=F.length
 row:∀j,j < n->(F.getD j []).length=g.length
theorem wd {g:List Sy} (fw:FW g F n) (hj:j < n) (hi:i < g.length):(bq (am (bq (bd (uo F)) (bd (.int (j:Int)))) az) (bd (.int (i:Int))))=.ret (.bl (fa F j i)):=by
 have Qz:=AB hj fw.len;have e1:F[j]?=ap (F.getD j []):=by rw [Ap,Ae Qz];rfl
 have i1:MD (uo F) (.int (j:Int))=.ret (.cl ((F.getD j []).map PV.bl)):=hV (by unfold uo;rw [Aj,e1];rfl);have hl:=fw.row j hj;have e2:(F.getD j [])[i]?=ap (fa F j i):=by unfold fa;generalize F.getD j []=r at hl;rw [Ap,Ae ∅];rfl
 have i2:MD ((F.getD j []).map PV.bl) (.int (i:Int))=.ret (.bl (fa F j i)):=hV (by rw [Aj,e2];rfl);simp only [f8,i1,bT,i2]
def lD (g:List Sy) (F:List (List Bool)) (e:Ent) (i:Nat):List Dd:=match e with
 | .word w=>if hm g i w=true then [("found",i,i)] else []
 | .pair a b=>(yI g i).filter λd=>fa F a d.2.1&&fa F b d.2.2
def pT (n:Nat):Ent->Prop
 | .word _=>True
 | .pair a b=>a < n/\b < n
theorem k7 {g:List Sy} (G:WG g ws) (he:es[j]?=ap e) (hi:i < g.length) (fw:FW g F n) (hn:pT n e) :
  (cB (eN g) (.cl (es.map Ent.pv)) (.cl (uo F)) (.int (j:Int)) (.int (i:Int))).le (.ret ((lD g F e i).map d3)):=λQ q=>by
 unfold cB;have ie:MD (es.map Ent.pv) (.int (j:Int))=.ret e.pv:=hV (by rw [Aj,he];rfl);simp only [f8,bv,bT,ie,ev];cases e with
 | word w=>
  have l2:=G.pE i hi;have i0:bX [(sy g i).nm,PV.int ((sy g i).lv:Int),.tup (aq (sy g i).un),.tup (aq (sy g i).be)] 0=ap (sy g i).nm:=rfl;have i2:bX [(sy g i).nm,PV.int ((sy g i).lv:Int),.tup (aq (sy g i).un),.tup (aq (sy g i).be)] 2=ap (.tup (aq (sy g i).un)):=rfl;have fin:∀b:Bool,hm g i w=b->(zd [PV.tup [.str "found",.int (i:Int),.int (i:Int)]] (.int (if b then 1 else 0))).run Q:=λb hb=>by
   have q:Q ((if hm g i w=true then [(("found",i,i):Dd)] else []).map d3):=q;rw [hb] at q;cases b with
   | true=>
    exact⟨⟨by decide,by decide,aY (by simp)⟩,q⟩
   | false=>
    exact⟨⟨by decide,by decide,aY (by simp)⟩,q⟩
  simp only [Ent.pv,c7,dh,aX,ev,if_true,eN,av,f8,LH hi,Sy.pv,a8,i0,i2,py,bv,eq_nil _ (show (sy g i).un.length<=1000 by omega),U4 (G.nm i hi) w];cases c:(sy g i).un.isEmpty with
  | false=>
   simp only [qR,ev,n8];exact fin false (by unfold hm;rw [c];rfl)
  | true=>
   simp only [fV,ev,n8];exact fin _ (by unfold hm;rw [c];rfl)
 | pair a b=>
  obtain⟨ha,hb⟩:=hn;have j0:bX [PV.int (a:Int),PV.int (b:Int)] 0=ap (.int a):=rfl;have j1:bX [PV.int (a:Int),PV.int (b:Int)] 1=ap (.int b):=rfl;simp only [Ent.pv,cO,d6,aX,ev,Ak,if_false,av,a8,j0,j1,py,f8,bv];refine W.le.use (Lf G hi) ?_;refine xg (λd:Dd=>if (fa F a d.2.1&&fa F b d.2.2)=true then ap (d3 d) else bm) (λd hd R r=>?_) ?_
  ·obtain⟨h1,h2⟩:=PU G hi hd;have k1:bX [PV.str d.1,PV.int (d.2.1:Int),PV.int (d.2.2:Int)] 1=ap (.int (d.2.1:Int)):=rfl;have k2:bX [PV.str d.1,PV.int (d.2.1:Int),PV.int (d.2.2:Int)] 2=ap (.int (d.2.2:Int)):=rfl;have t1:=wd fw ha h1;have t2:=wd fw hb h2;simp only [f8,a8] at t1 t2;simp only [d3,av,f8,a8,k1,k2,py,t1,t2,aX];cases c1:fa F a d.2.1 with
   | false=>simpa [c1] using r
   | true=>
    cases c2:fa F b d.2.2 with
    | false=>simpa [c1,c2] using r
    | true=>simpa [c1,c2,d3] using r
  ·rw [Kg];exact q
def iT (g:List Sy) (f:Nat->Bool):Nat->List Bool
 | 0=>[]
 | k+1=>iT g f k++[(sy g k).un.any (λl=>(iT g f k).getD l false)||f k]
@[simp] theorem iR (g:List Sy) (f:Nat->Bool):∀k,(iT g f k).length=k
 | 0=>rfl
 | k+1=>by rw [iT,Ad,iR g f k];rfl
def jG {l m:List α}{d:α} (h:i < l.length):(l++m).getD i d=l.getD i d:=by
 rw [Ap,AE h,<- Ap]
def lU {l m:List α}{d:α} (h:l.length<=i):(l++m).getD i d=m.getD (i-l.length) d:=by
 rw [Ap,AA h,<- Ap]
theorem wF (g:List Sy) (f:Nat->Bool):∀{k:Nat},i < k->(iT g f k).getD i false=(iT g f (i+1)).getD i false
 | 0,h=>by omega
 | k+1,h=>by
  by_cases c:i=k
  ·subst c;rfl
  ·rw [iT,jG (by rw [iR];omega)];exact wF g f ∅
theorem ZD (g:List Sy) (f:Nat->Bool) (dn:∀i,i < g.length->∀u∈(sy g i).un,u < i) (h:i < g.length):(iT g f g.length).getD i false=((sy g i).un.any (λl=>(iT g f g.length).getD l false)||f i):=by
 rw [wF g f h,iT,lU (by rw [iR];exact Ao _),iR,B1];show (_||_)=_;congr 1;rw [BR,BL,BL];have key:∀l∈(sy g i).un,(iT g f i).getD l false=(iT g f g.length).getD l false:=λl hl=>by
  have:=dn i h l hl;rw [wF g f this,wF g f (show l < g.length by omega)]
 exact⟨λ⟨l,h1,h2⟩=>⟨l,h1,by rw [<- key l h1];exact h2⟩,λ⟨l,h1,h2⟩=>⟨l,h1,by rw [key l h1];exact h2⟩⟩
def GK (es:List Ent) (j:Nat):Ent:=es.getD j (.word "")
def tab (g:List Sy) (es:List Ent):Nat->List (List Bool)
 | 0=>[]
 | j+1=>tab g es j++[iT g (λi=>!(lD g (tab g es j) (GK es j) i).isEmpty) g.length]
@[simp] theorem ck (g:List Sy) (es:List Ent):∀j,(tab g es j).length=j
 | 0=>rfl
 | j+1=>by rw [tab,Ad,ck g es j];rfl
theorem nr (g:List Sy) (es:List Ent):∀{k:Nat},i < k->(tab g es k).getD i []=iT g (λx=>!(lD g (tab g es i) (GK es i) x).isEmpty) g.length
 | 0,h=>by omega
 | k+1,h=>by
  by_cases c:i=k
  ·subst c;rw [tab,lU (by rw [ck];exact Ao _),ck,B1];rfl
  ·rw [tab,jG (by rw [ck];omega)];exact nr g es ∅
def GY (g:List Sy) (es:List Ent) (n:Nat):FW g (tab g es n) n:=⟨by rw [ck];exact Ao _,λj hj=>by rw [nr g es hj,iR]⟩
def zL {g:List Sy}{F':List (List Bool)} (h:pT n e) (hf:∀j,j < n->F.getD j []=F'.getD j []):lD g F e i=lD g F' e i:=by
 cases e with
 | word w=>rfl
 | pair a b=>
  dsimp only [lD,fa];rw [hf a h.1,hf b h.2]
theorem Q2 (g:List Sy) (es:List Ent) (h:j<=k):∀x,x < j->(tab g es j).getD x []=(tab g es k).getD x []:=λx hx=>by rw [nr g es hx,nr g es (show x < k by omega)]
theorem abl {g:List Sy} (G:WG g ws) (hj:j < n) (hi:i < g.length) (he:pT j (GK es j)):fa (tab g es n) j i=((sy g i).un.any (λl=>fa (tab g es n) j l)||!(lD g (tab g es n) (GK es j) i).isEmpty):=by
 have e1:∀x,fa (tab g es n) j x=(iT g (λx=>!(lD g (tab g es j) (GK es j) x).isEmpty) g.length).getD x false:=λx=>by unfold fa;rw [nr g es hj]
 have e2:(λl=>fa (tab g es n) j l)=λl=>(iT g (λx=>!(lD g (tab g es j) (GK es j) x).isEmpty) g.length).getD l false:=funext e1;rw [e2,e1,ZD g _ G.dn hi,zL (F':=tab g es n) he (Q2 g es ∅)]
def v8 (b:Bool):rE (.bl b)=.ret (.bl b):=lm (by rw [PV.dat] <;> simp)
def any_map' (f:Nat->Bool) (l:List Nat):Ql (l.map λx=>.bl (f x))=.ret (.bl (l.any f)):=by
 have:(l.map λx=>PV.bl (f x))=(l.map f).map PV.bl:=by rw [AR];rfl
 rw [this,TX,List.any_map];rfl
def jn (F:List (List Bool)):List (List PV):=F.map λr=>r.map PV.bl
def M4 (F:List (List Bool)):(jn F).map PV.cl=uo F:=by unfold jn uo;rw [AR];rfl
theorem So {g:List Sy} (G:WG g ws) (hz:es.length<=900) (hes:∀j,j < es.length->pT j (GK es j)):(hJ (eN g) (.cl (es.map Ent.pv))).le (.ret (uo (tab g es es.length))):=λQ q=>by
 have gl:=G.len;unfold hJ;simp only [f8,bv,iJ,Ag,fU,lm (cf (i:=0) (j:=(es.length:Int)) ∅ ∅),ev,A4];refine ly (λj s=>s.2=jn (tab g es j)) rfl (λj s hj hs=>?_) (λs hs=>?_)
 ·obtain⟨s1,s2⟩:=s;replace hs:s2=jn (tab g es j):=hs;subst hs;have e1:qa dQ [eN g]=.ret (.int (g.length:Int)):=by unfold eN;rw [bD,Ag]
  have e2:zd [PV.bl false] (.int (g.length:Int))=.ret ((Al g.length false).map PV.bl):=by
   rw [Ph,lm ⟨by omega,by omega,aY (by simp;omega)⟩,A4];congr 1;simp
  have ae2:es[j]?=ap (GK es j):=by unfold GK;rw [Ap,Ae hj];rfl
  simp only [f8,e1,e2,bv,ev];refine⟨by show (jn (tab g es j)).length < sizeLine;unfold jn;rw [Ag,ck];have:=aY (n:=901) ∅;omega,?_⟩;intro b9 _;simp only [fU,lm (cf (i:=0) (j:=(g.length:Int)) ∅ ∅),ev,A4,bv]
  let f:Nat->Bool:=λx=>!(lD g (tab g es j) (GK es j) x).isEmpty
  refine ly (λi s=>s.2=jn (tab g es j++[iT g f i++Al (g.length-i) false])) (by show _++_=_;simp [jn,iT]) (λi s hi hs=>?_) (λs hs=>?_)
  ·obtain⟨s1,s2⟩:=s;replace hs:s2=_:=hs;subst hs;generalize hF:tab g es j++[iT g f i++Al (g.length-i) false]=F;have fw:FW g F (j+1):=by
    subst hF;refine⟨by simp,λx hx=>?_⟩;by_cases c:x=j
    ·subst c;rw [lU (by rw [ck];exact Ao _),ck,B1];show (iT g f i++_).length=_;rw [Ad,iR,A9];omega
    ·rw [jG (by rw [ck];omega)];exact (GY g es j).row x ∅
   have ff:∀l,l < i->fa F j l=(iT g f i).getD l false:=λl hl=>by
    subst hF;unfold fa;rw [lU (by rw [ck];exact Ao _),ck,B1];show (iT g f i++_).getD l false=_;rw [jG (by rw [iR];exact hl)]
   have fd:lD g F (GK es j) i=lD g (tab g es j) (GK es j) i:=zL (hes j hj) λx hx=>by
    subst hF;rw [jG (by rw [ck];exact hx)]
   have un:MD (g.map Sy.pv) (.int (i:Int))=.ret (sy g i).pv:=LH hi;have i2:bX [(sy g i).nm,PV.int ((sy g i).lv:Int),.tup (aq (sy g i).un),.tup (aq (sy g i).be)] 2=ap (.tup (aq (sy g i).un)):=rfl;simp only [M4,eN,av,f8,un,Sy.pv,a8,i2,py,bv,ev,bT];refine oU (λl=>.bl (fa F j l)) (λl hl=>?_) ?_
   ·have:=G.dn i hi l hl;have:=wd fw (show j < j+1 by omega) (show l < g.length by omega);simpa using this
   ·rw [any_map'];have eA:(sy g i).un.any (fa F j)=(sy g i).un.any λl=>(iT g f i).getD l false:=by
     rw [BR,BL,BL];exact⟨λ⟨l,h1,h2⟩=>⟨l,h1,by rw [<- ff l (G.dn i hi l h1)];exact h2⟩,λ⟨l,h1,h2⟩=>⟨l,h1,by rw [ff l (G.dn i hi l h1)];exact h2⟩⟩
    have fin:(am (SG (jn F) (.int (j:Int))) λj25=>am (fX j25.2 (.int (i:Int)) (.bl ((sy g i).un.any (fa F j)||f i))) λWX=>bd ((s1,(jn F).set j25.1 WX):List ci×List (List PV))).run λs=>s.2=jn (tab g es j++[iT g f (i+1)++Al (g.length-(i+1)) false]):=by
     have Qz:j < (jn F).length:=by unfold jn;rw [Ag];have:=fw.len;omega
     have e3:(jn F)[j]?=ap ((iT g f i++Al (g.length-i) false).map PV.bl):=by
      subst hF;unfold jn;rw [Aj,AA (by rw [ck];exact Ao _),ck,B1];rfl
     have e4:SG (jn F) (.int (j:Int))=.ret (j,(iT g f i++Al (g.length-i) false).map PV.bl):=by
      show W.N3 ((mn (jn F).length (j:Int)).bind λj=>(jn F)[j]?.map λl=>(j,l))=_;rw [J1 Qz];show W.N3 ((jn F)[j]?.map _)=_;rw [e3];rfl
     rw [e4];simp only [f8];rw [gC (by rw [Ag,Ad,iR,A9];omega)];subst hF;unfold jn;rw [eA];apply Bn;intro x;have er:g.length-i=(g.length-(i+1))+1:=by omega
     by_cases c:x=j
     ·subst c;congr 1;rw [iT,er,Bv,<- EU,Fe _ _ (by rw [iR];exact Ao _),iR,B1];simp
     ·rw [Bf (BG c),Aj,Aj];by_cases c2:x < j
      ·rw [AE (by rw [ck];exact c2),AE (by rw [ck];exact c2)]
      ·rw [Ay (by rw [Ad,ck];simp;omega),Ay (by rw [Ad,ck];simp;omega)]
    simp only [ev,v8];cases cA:(sy g i).un.any (fa F j) with
    | true=>
     rw [cA] at fin;simp only [Pk,ev,v8];simpa using fin
    | false=>
     rw [cA] at fin;simp only [Pl,bv];refine W.le.use (k7 G (F:=F) ae2 hi fw (by have:=hes j hj;revert this;cases GK es j with | word w=>exact id | pair a b=>exact λz=>⟨Di z.1,Di z.2⟩)) ?_;have e5:(!((lD g F (GK es j) i).map d3).isEmpty)=f i:=by rw [fd,EH]
     simp only [ev,e5,v8];simpa using fin
  ·rw [hs,tab,B1];simp [f]
 ·show Q (s.2.map PV.cl);rw [hs,M4];exact q
end My
variable {u i0:Nat}{g:List My.Sy}{d:My.Dd}
namespace My
open PySem PySem.Spec PyProof.Rows L2 PL FL
def Ch (g:List Sy):List Nat->Prop
 | []=>False
 | [i]=>i < g.length
 | i::k::r=>i < g.length/\k∈(sy g i).un/\Ch g (k::r)
theorem Ch.snoc (hu:u∈(sy g i).un) (hg:u < g.length):∀{p:List Nat},Ch g (p++[i])->Ch g (p++[i]++[u])
 | [],h=>⟨h,hu,hg⟩
 | [a],h=>⟨h.1,h.2.1,h.2.2,hu,hg⟩
 | a::b::p,h=>⟨h.1,h.2.1,Ch.snoc hu hg (p:=b::p) h.2.2⟩
theorem Ch.last:∀{p:List Nat},Ch g (p++[i])->i < g.length
 | [],h=>h
 | [a],h=>h.2.2
 | a::b::p,h=>Ch.last (p:=b::p) h.2.2
theorem Ch.lt:∀{p:List Nat},Ch g p->∀x∈p,x < g.length
 | [i],h,x,hx=>by rw [Bh.mp hx];exact h
 | i::k::r,h,x,hx=>by
  rcases Ax.mp hx with rfl | hx
  ·exact h.1
  ·exact Ch.lt (p:=k::r) h.2.2 x hx
theorem Ch.len (G:WG g ws):∀{p:List Nat}{i:Nat},Ch g (i::p)->p.length<=i
 | [],i,_=>A6 _
 | k::r,i,h=>by
  have h1:=G.dn i h.1 k h.2.1;have h2:=Ch.len G (p:=r) (i:=k) h.2.2;rw [An];omega
def aba (h:i < g.length):bX (g.map Sy.pv) (i:Int)=ap (sy g i).pv:=bw (by rw [Aj,M8 h];rfl)
def M9 (s:Sy):bX [s.nm,PV.int (s.lv:Int),.tup (aq s.un),.tup (aq s.be)] 2=ap (.tup (aq s.un)):=(rfl)
def jZ (q:List Nat) (l:Nat):bX (aq (q++[l])) (-1)=ap (.int (l:Int)):=by rw [Oa];exact Qi _ _
structure PI (g:List Sy) (F:List (List Bool)) (j i0:Nat) (q:List Nat) (l:Nat):Prop where
 ch:Ch g (q++[l])
 hd:(q++[l]).head?=ap i0
 f:fa F j l=true
 m:q.length+l<=i0
theorem PI.next (G:WG g ws) {l:Nat}{q:List Nat} (P:PI g F j i0 q l) (hu:u∈(sy g l).un) (hf:fa F j u=true):PI g F j i0 (q++[l]) u:=by
 have hl:=P.ch.last;have:=G.dn l hl u hu;have:=P.m;refine⟨P.ch.snoc hu ∅,?_,hf,by rw [Ad];simp;omega⟩;rw [List.head?_append,P.hd];rfl
section
variable {g:List Sy}{ws:List Str}{F:List (List Bool)}{es:List Ent}{j n:Nat}{e:Ent}
theorem N2 (G:WG g ws) (fw:FW g F n) (hj:j < n) {l:Nat} (hl:l < g.length) {Q:List PV->Prop} (q:Q (aq ((sy g l).un.filter λu=>fa F j u))) :
  (kG (aq (sy g l).un) λp8=>Hx (am (bq (am (bq (bd (uo F)) (bd (.int (j:Int)))) az) (bd p8)) dj) (bd p8)).run Q:=by
 refine sD (λu=>fa F j u) (λu hu=>?_) q;have:=G.dn l hl u hu;rw [wd fw hj (show u < g.length by omega)];cases fa F j u <;> simp
theorem vm (G:WG g ws) (he:es[j]?=ap e) (fw:FW g F n) (hj:j < n) (hn:pT n e) (hc:∀i,i < g.length->fa F j i=((sy g i).un.any (λl=>fa F j l)||!(lD g F e i).isEmpty)) (h0:i0 < g.length) (f0:fa F j i0=true)
  (q:∀p l,Ch g (p++[l])->(p++[l]).head?=ap i0->lD g F e l≠[]->Q (.tup (aq (p++[l])))) :
  (eE (eN g) (.cl (es.map Ent.pv)) (.cl (uo F)) (.int (j:Int)) (.int (i0:Int))).run Q:=by
 have gl:=G.len;have e1:qa dQ [eN g]=.ret (.int (g.length:Int)):=by unfold eN;rw [bD,Ag]
 unfold eE;simp only [f8,bv,e1,ev,fU,lm (cf (i:=0) (j:=(g.length:Int)) ∅ ∅),A4];refine ly (λ_ s=>∃p l,s=aq (p++[l])/\PI g F j i0 p l) ⟨[],i0,rfl,h0,rfl,f0,by simp⟩ (λk s hk hs=>?_) (λs hs=>?_)
 ·obtain⟨p,l,rfl,P⟩:=hs;have hl:=P.ch.last;have pE:=G.pE l hl;have pm:=P.m;have step:∀x∈aq ((sy g l).un.filter λu=>fa F j u),(kE (aq (p++[l])) x).run λs=>∃p l,s=aq (p++[l])/\PI g F j i0 p l:=λx hx=>by
   obtain⟨u,hu,rfl⟩:=Au.mp hx;obtain⟨ģ,Ģ⟩:=AQ.mp hu;rw [iq (by rw [bc,Ad];simp;omega)];exact⟨p++[l],u,by simp,P.next G ģ Ģ⟩
  simp only [gr,a8,jZ,py,f8,bv,ev];simp only [eN,av,bT,aba hl,py,f8,ev,Sy.pv,M9];have on:=@N2 g ws F j n G fw hj l hl;refine on ?_;refine W.le.use (k7 G he hl fw hn) ?_;have stop:∃p' l',aq (p++[l])=aq (p'++[l'])/\PI g F j i0 p' l':=⟨p,l,rfl,P⟩;have go:∀b:Bool,(eM (um (am (am (bd (.cl (aq ((sy g l).un.filter λu=>fa F j u)))) su) λLg=>bd (!Lg.isEmpty)) (am (bd (.bl b)) dj)) (am (am (bd (.cl (aq ((sy g l).un.filter λu=>fa F j u)))) λrh=>bJ rh) λpV=>am (kE (aq (p++[l])) pV) λgD=>bd gD) (bd (aq (p++[l])))).run λs=>∃p l,s=aq (p++[l])/\PI g F j i0 p l:=λb=>by
   generalize hon:aq ((sy g l).un.filter λu=>fa F j u)=on at step;have onl:on.length<=1000:=by
    rw [<- hon,bc];have:=Bi (λu=>fa F j u) (sy g l).un;omega
   cases on with
   | nil=>simpa using stop
   | cons x r=>
    cases b with
    | false=>simpa using stop
    | true=>
     refine pick_run (by simp) onl λy hy=>?_;simpa using step y hy
  cases cd:((lD g F e l).map d3).isEmpty with
  | true=>
   simp only [ev,Pk];simpa using go true
  | false=>
   simp only [ev,Pl,bv,cm 3 ⋯ ⋯];refine bo λd _ _=>?_;simp only [cq,ev];simpa using go (d==0)
 ·obtain⟨p,l,rfl,P⟩:=hs;refine jM (λm s=>∃p,s=aq (p++[m])/\PI g F j i0 p m) ⟨p,rfl,P⟩ ?_;rintro l s ⟨p,rfl,P⟩;have hl:=P.ch.last;have pE:=G.pE l hl;have pm:=P.m;simp only [gr,a8,jZ,py,f8,bv,ev];refine W.le.use (k7 G he hl fw hn) ?_;cases cd:((lD g F e l).map d3).isEmpty with
  | false=>
   refine q p l P.ch P.hd λz=>?_;rw [z] at cd;cases cd
  | true=>
   have on:=@N2 g ws F j n G fw hj l hl;simp only [f8,a8] at on;simp only [eN,av,bT,aba hl,py,f8,ev,Sy.pv,M9];refine on ?_;have Ĵ:=hc l hl;rw [P.f] at Ĵ;have lz:(lD g F e l).isEmpty=true:=by rw [EH] at cd;exact cd
   rw [lz] at Ĵ;have ha:(sy g l).un.any (λu=>fa F j u)=true:=by simpa using Ĵ.symm
   obtain⟨u,hu,hfu⟩:=BL.mp ha;have mem:=AQ.mpr ⟨hu,hfu⟩;refine pick_run (λz=>?_) (by rw [bc];have:=Bi (λu=>fa F j u) (sy g l).un;omega) λx hx=>?_
   ·have:=congrArg B5 z;rw [bc] at this;rw [EG.mp this] at mem;cases mem
   ·obtain⟨v,hv,rfl⟩:=Au.mp hx;obtain⟨hv1,ġ⟩:=AQ.mp hv;rw [iq (by rw [bc,Ad];simp;omega)];exact⟨v,G.dn l hl v hv1,p++[l],by simp,P.next G hv1 ġ⟩
end
def ht:Tr->Nat->Nat
 | .leaf _,_=>0
 | .node l r,j=>if j < l.size then ht l j else if j < l.size+r.size then ht r (j-l.size) else (Tr.node l r).depth
theorem OK:∀(t:Tr) (j:Nat),ht t j<=t.depth
 | .leaf _,_=>Ao _
 | .node l r,j=>by
  have e:(Tr.node l r).depth=max l.depth r.depth+1:=rfl;have h1:=OK l j;have h2:=OK r (j-l.size);rw [ht]
  split
  ·omega
  ·split <;> omega
theorem Ka (t:Tr):ht t (t.size-1)=t.depth:=by
 cases t with
 | leaf _=>rfl
 | node l r=>
  have es:(Tr.node l r).size=l.size+r.size+1:=rfl;rw [ht,if_neg ∅,if_neg ∅]
theorem OL:∀(t:Tr) (o j a b:Nat),j < t.size->en t o j=.pair a b->ht t (a-o) < ht t j/\ht t (b-o) < ht t j
 | .leaf _,o,j,a,b,h,e=>by rw [en] at e;cases e
 | .node l r,o,j,a,b,h,e=>by
  have es:(Tr.node l r).size=l.size+r.size+1:=rfl;have lp:=l.size_pos;have rp:=r.size_pos;by_cases c1:j < l.size
  ·rw [en,if_pos c1] at e;obtain⟨h1,h2,h3,h4,_⟩:=lB l o j .aO a b c1 e;have:=OL l o j a b c1 e;have q1:∀x,x < l.size->ht (.node l r) x=ht l x:=λx hx=>by rw [ht,if_pos hx]
   rw [q1 (a-o) ∅,q1 (b-o) ∅,q1 j c1];exact this
  ·by_cases c2:j < l.size+r.size
   ·rw [en,if_neg c1,if_pos c2] at e;obtain⟨h1,h2,h3,h4,_⟩:=lB r (o+l.size) (j-l.size) .aO a b ∅ e;have:=OL r (o+l.size) (j-l.size) a b ∅ e;have q1:∀x,¬x < l.size->x < l.size+r.size->ht (.node l r) x=ht r (x-l.size):=λx h1 h2=>by rw [ht,if_neg h1,if_pos h2]
    rw [q1 (a-o) ∅ ∅,q1 (b-o) ∅ ∅,q1 j c1 c2,Fm,Fm];exact this
   ·rw [en,if_neg c1,if_neg c2] at e;injection e with e1 e2;subst e1;subst e2;have er:(Tr.node l r).depth=max l.depth r.depth+1:=rfl;have ej:ht (.node l r) j=(Tr.node l r).depth:=by rw [ht,if_neg c1,if_neg c2]
    have e3:ht (.node l r) (o+l.size-1-o)=l.depth:=by rw [ht,if_pos ∅,show o+l.size-1-o=l.size-1 by omega,Ka]
    have e4:ht (.node l r) (o+l.size+r.size-1-o)=r.depth:=by rw [ht,if_neg ∅,if_pos ∅,show o+l.size+r.size-1-o-l.size=r.size-1 by omega,Ka]
    omega
theorem qT:∀(t:Tr) (o j:Nat) (w:Str),j < t.size->en t o j=.word w->w∈t.aJ
 | .leaf x,o,j,w,h,e=>by
  rw [en] at e;injection e with e;subst e;simp [Tr.aJ]
 | .node l r,o,j,w,h,e=>by
  have es:(Tr.node l r).size=l.size+r.size+1:=rfl;by_cases c1:j < l.size
  ·rw [en,if_pos c1] at e;exact B4 _ (qT l o j w c1 e)
  ·by_cases c2:j < l.size+r.size
   ·rw [en,if_neg c1,if_pos c2] at e;exact AU _ (qT r _ (j-l.size) w ∅ e)
   ·rw [en,if_neg c1,if_neg c2] at e;cases e
inductive QE (g:List Sy) (t:Tr):Nat->List Nat->PV->Prop
 | leaf {j:Nat}{p:List Nat}{i:Nat}{w:Str}:en t 0 j=.word w->Ch g (p++[i])->hm g i w=true->QE g t j (p++[i]) (.tup [.tup (aq (p++[i])),.str "found"])
 | node {j:Nat}{p:List Nat}{i a b:Nat}{nm:Str}{x y:Nat}{p1 p2:List Nat}{wa wb:PV}:en t 0 j=.pair a b->Ch g (p++[i])->(nm,x,y)∈yI g i->QE g t a (x::p1) wa->QE g t b (y::p2) wb->QE g t j (p++[i]) (.tup [.tup (aq (p++[i])),.str nm,wa,wb])
def XW (h:d∈yI g i):(d.1==("found":Str))=false:=by
 have k1:(("doubled":Str)==("found":Str))=false:=by decide +kernel
 have k2:(("split":Str)==("found":Str))=false:=by decide +kernel
 have k3:(("over":Str)==("found":Str))=false:=by decide +kernel
 rcases Ax.mp h with rfl | h
 ·exact k1
 rcases AG.mp h with h | h
 ·revert h;generalize (sy g i).un=l;intro h;unfold spl at h
  split at h
  ·simp at h;rcases h with rfl | rfl <;> exact k2
  ·cases h
 ·obtain⟨o,_,h⟩:=CU.mp h;simp at h;rcases h with rfl | rfl <;> exact k3
def Hi (t:Tr) (h:j < t.size):GK (t.nd 0) j=en t 0 j:=by unfold GK;rw [Ap,f7 t 0 j h];rfl
def vG (t:Tr) (h:j < t.size):pT j (en t 0 j):=by
 cases e:en t 0 j with
 | word w=>trivial
 | pair a b=>exact da t h e
section
abbrev gR (g:List Sy) (t:Tr):List (List Bool):=tab g (t.nd 0) t.size
def S7 (G:WG g ws) (hj:j < t.size) (hi:i < g.length):fa (gR g t) j i=((sy g i).un.any (λl=>fa (gR g t) j l)||!(lD g (gR g t) (en t 0 j) i).isEmpty):=by
 have:=abl G (es:=t.nd 0) (n:=t.size) hj hi (by rw [Hi t hj];exact vG t hj);rw [Hi t hj] at this;exact this
def qK {m:Nat} (h:pT m e) (hm:m<=n):pT n e:=by
 cases e with
 | word w=>trivial
 | pair a b=>exact⟨AB h.1 hm,AB h.2 hm⟩
theorem so (G:WG g ws):∀(n j:Nat),ht t j < n->j < t.size->∀(p:List Nat) (i:Nat),Ch g (p++[i])->lD g (gR g t) (en t 0 j) i≠[]->∀{Q:PV->Prop},(∀w,QE g t j (p++[i]) w->Q w)->
  (c6 n (eN g) (.cl ((t.nd 0).map Ent.pv)) (.cl (uo (gR g t))) (.int (j:Int)) (.tup (aq (p++[i])))).run Q
 | 0,j,h,_,_,_,_,_,_,_=>by omega
 | n+1,j,h,hj,p,i,hc,hd,Q,q=>by
  have hi:=hc.last;have fw:=GY g (t.nd 0) t.size;have ej:=f7 t 0 j hj;unfold c6;simp only [f8,bv,gr,av,a8,jZ,py,ev];refine W.le.use (k7 G ej hi fw (qK (vG t hj) ∅)) ?_;have ll:(lD g (gR g t) (en t 0 j) i).length<=63:=by
   cases e:en t 0 j with
   | word w=>unfold lD;simp only;split <;> simp
   | pair a b=>unfold lD;exact A7 (Bi _ _) (Tw G hi)
  refine pick_run (λz=>hd (Fw.mp z)) (by rw [Ag];omega) λx hx=>?_;obtain⟨d,SW,rfl⟩:=Au.mp hx;have e1:∀s:Str,of2 d9 (.str s) (.str "found")=.ret (.bl (s==("found":Str))):=λs=>by rw [vE,lm ⟨by simp,by simp,by simp⟩,Pc]
  simp only [d3,XE,ev,e1,f8,ba];cases e:en t 0 j with
  | word w=>
   rw [e] at SW hd;have SW:d∈(if hm g i w=true then [(("found",i,i):Dd)] else []):=SW;have hh:hm g i w=true:=by
    cases c:hm g i w with
    | true=>rfl
    | false=>rw [c] at SW;cases SW
   rw [if_pos hh] at SW;have:=Bh.mp SW;subst this;simp only [beq_self_eq_true,if_true,ev];exact q _ (.leaf e hc hh)
  | pair a b=>
   rw [e] at SW hd;obtain⟨ò,Ç⟩:=AQ.mp SW;rw [Az] at Ç;obtain⟨l1,l2⟩:=PU G hi ò;obtain⟨a1,b1⟩:=da t hj e;obtain⟨t1,t2⟩:=OL t 0 j a b hj e;rw [D1] at t1 t2;have ha:a < t.size:=by omega
   have hb:b < t.size:=by omega
   have j0:bX [PV.int (a:Int),PV.int (b:Int)] 0=ap (.int a):=rfl;have j1:bX [PV.int (a:Int),PV.int (b:Int)] 1=ap (.int b):=rfl;simp only [XW ò,Ak,if_false,bT,f8,bv,a8,wZ t hj,e,Ent.pv,py,ev,av,j0,j1];have UU:∀(k:Nat),k < t.size->∀i,i < g.length->fa (gR g t) k i=((sy g i).un.any (λl=>fa (gR g t) k l)||!(lD g (gR g t) (en t 0 k) i).isEmpty):=λk hk i hi=>S7 G hk hi;refine vm G (f7 t 0 a ha) fw ha (qK (vG t ha) ∅) (UU a ha) l1 Ç.1 λp1 m1 c1 h1 k1=>?_;refine so G n a ∅ ha p1 m1 c1 k1 λwa Wa=>?_;refine vm G (f7 t 0 b hb) fw hb (qK (vG t hb) ∅) (UU b hb) l2 Ç.2 λp2 m2 c2 h2 k2=>?_;refine so G n b ∅ hb p2 m2 c2 k2 λwb Wb=>?_;obtain⟨r1,e1⟩:∃r,p1++[m1]=d.2.1::r:=by
    cases hx:p1++[m1] with
    | nil=>rw [hx] at h1;cases h1
    | cons y r=>rw [hx] at h1;cases h1;exact⟨r,rfl⟩
   obtain⟨r2,e2⟩:∃r,p2++[m2]=d.2.2::r:=by
    cases hx:p2++[m2] with
    | nil=>rw [hx] at h2;cases h2
    | cons y r=>rw [hx] at h2;cases h2;exact⟨r,rfl⟩
   rw [e1] at Wa;rw [e2] at Wb;exact q _ (.node e hc ò Wa Wb)
theorem Qs.fa (G:WG g ws) (hj:j < t.size) (r:Qs g i k):i < g.length->My.fa (gR g t) j k=true->My.fa (gR g t) j i=true:=by
 induction r with
 | refl i=>intro _ h;exact h
 | @step i u k hu _ ih=>
  intro hi h;have:=G.dn i hi u hu;have h1:=ih ∅ h;rw [S7 G hj hi,Fc];exact .inl (BL.mpr ⟨u,hu,h1⟩)
theorem Vt (G:WG g ws) (hw:∀w∈t.aJ,w∈ws):∀j,j < t.size->fa (gR g t) j (g.length-1)=true/\∃i,i < g.length/\lD g (gR g t) (en t 0 j) i≠[]:=λj=>by
 have gp:=G.pos
 induction j using DQ with
 | ind j ih=>
  intro hj;cases e:en t 0 j with
  | word w=>
   obtain⟨i,hi,r,hh⟩:=G.aeM w (hw w (qT t 0 j w hj e));have ne:lD g (gR g t) (.word w) i≠[]:=by
    show (if hm g i w=true then _ else _)≠[];rw [if_pos hh];simp
   refine⟨r.fa G hj ∅ ?_,i,hi,ne⟩;rw [S7 G hj hi,e,Fc];refine .inr ?_;cases c:lD g (gR g t) (.word w) i with
   | nil=>exact absurd c ne
   | cons _ _=>rfl
  | pair a b=>
   obtain⟨ha,hb⟩:=da t hj e;have h1:=(ih a ha ∅).1;have h2:=(ih b hb ∅).1;have mem:dbl (g.length-1)∈lD g (gR g t) (.pair a b) (g.length-1):=AQ.mpr ⟨.head _,by show (My.fa _ _ _&&My.fa _ _ _)=true;rw [h1,h2];rfl⟩;have ne:lD g (gR g t) (.pair a b) (g.length-1)≠[]:=λz=>by rw [z] at mem;cases mem
   refine⟨?_,g.length-1,by omega,ne⟩;rw [S7 G hj ∅,e,Fc];refine .inr ?_;cases c:lD g (gR g t) (.pair a b) (g.length-1) with
   | nil=>exact absurd c ne
   | cons _ _=>rfl
theorem whole_run (G:WG g ws) (hw:∀w∈t.aJ,w∈ws) (hd:t.depth < 12) (hz:t.size<=900) (q:∀i w,QE g t (t.size-1) [i] w->Q w):(cQ (eN g) t.pv).run Q:=by
 have tp:=t.size_pos;have gl:=G.len;have nl:=t.bu 0;have fw:=GY g (t.nd 0) t.size;have e1:qa dQ [eN g]=.ret (.int (g.length:Int)):=by unfold eN;rw [bD,Ag]
 have hr:t.size-1 < t.size:=by omega
 unfold cQ;simp only [f8,bv];refine W.le.use (jC 12 t hd hz) ?_;refine W.le.use (So G (es:=t.nd 0) ∅ λj hj=>by rw [nl] at hj;rw [Hi t hj];exact vG t hj) ?_;rw [nl];have el:((t.size:Int)-1)=((t.size-1:Nat):Int):=by omega
 simp only [iJ,cv,ev,lA,el,e1,fU,lm (cf (i:=0) (j:=(g.length:Int)) ∅ ∅),A4,o6];have ej:=f7 t 0 (t.size-1) hr;unfold aq;refine xg (λi:Nat=>if (!(lD g (gR g t) (en t 0 (t.size-1)) i).isEmpty)=true then ap (PV.int (i:Int)) else bm) (λi hi R r=>?_) ?_
 ·have hi:=AL.mp hi;simp only [bv];refine W.le.use (k7 G ej hi fw (qK (vG t hr) ∅)) ?_;rw [EH];cases c:(lD g (gR g t) (en t 0 (t.size-1)) i).isEmpty with
  | false=>simpa [c] using r
  | true=>simpa [c] using r
 ·rw [Kg];obtain⟨_,i,hi,ne⟩:=Vt G hw (t.size-1) hr;refine pick_run (λz=>?_) ?_ λx hx=>?_
  ·have mem:i∈(Av g.length).filter λi=>!(lD g (gR g t) (en t 0 (t.size-1)) i).isEmpty:=AQ.mpr ⟨AL.mpr hi,by cases c:lD g (gR g t) (en t 0 (t.size-1)) i with | nil=>exact absurd c ne | cons _ _=>rfl⟩;rw [Fw.mp z] at mem;cases mem
  ·rw [Ag];have:=Bi (λi=>!(lD g (gR g t) (en t 0 (t.size-1)) i).isEmpty) (Av g.length);rw [BP] at this;omega
  ·obtain⟨k,hk,rfl⟩:=Au.mp hx;obtain⟨į,Ċ⟩:=AQ.mp hk;have į:=AL.mp į;refine so G 12 (t.size-1) (by have:=OK t (t.size-1);omega) hr [] k į (λz=>?_) λw h=>q k w h;rw [z] at Ċ;cases Ċ
end
end My
variable {P:Nat->List Nat}{p:List Nat}
namespace My
open PySem PySem.Spec PyProof.Rows L2 PL FL
def Ve (g:List Sy) (t:Tr) (V:Nat->PV) (P:Nat->List Nat) (j:Nat):Prop:=
 ∃q i,P j=q++[i]/\Ch g (q++[i])/\((∃w,en t 0 j=.word w/\hm g i w=true/\V j=.tup [.tup (aq (P j)),.str "found"])\/
  ∃a b nm x y r1 r2,en t 0 j=.pair a b/\(nm,x,y)∈yI g i/\P a=x::r1/\P b=y::r2/\V j=.tup [.tup (aq (P j)),.str nm,V a,V b])
def Ve.congr {V V':Nat->PV}{P':Nat->List Nat} (h:Ve g t V P j) (h0:V' j=V j/\P' j=P j) (h1:∀a b,en t 0 j=.pair a b->(V' a=V a/\P' a=P a)/\V' b=V b/\P' b=P b):Ve g t V' P' j:=by
 obtain⟨q,i,e,c,h⟩:=h;refine⟨q,i,by rw [h0.2];exact e,c,?_⟩;rcases h with⟨w,e1,e2,e3⟩ | ⟨a,b,nm,x,y,r1,r2,e1,e2,e3,e4,e5⟩
 ·exact .inl ⟨w,e1,e2,by rw [h0.1,h0.2];exact e3⟩
 ·obtain⟨⟨k1,k2⟩,k3,k4⟩:=h1 a b e1;exact .inr ⟨a,b,nm,x,y,r1,r2,e1,e2,by rw [k2];exact e3,by rw [k4];exact e4,by rw [h0.1,h0.2,k1,k3];exact e5⟩
theorem vW:∀(s:Tr) (o:Nat),(∀k,k < s.size->en t 0 (o+k)=en s o k)->∀p w,QE g t (o+s.size-1) p w->∃(V:Nat->PV) (P:Nat->List Nat),V (o+s.size-1)=w/\P (o+s.size-1)=p/\∀k,o<=k->k < o+s.size->Ve g t V P k
 | .leaf x,o,hs,p,w,h=>by
  have e0:en t 0 o=.word x:=hs 0 (by show 0 < 1;decide);have ei:o+(Tr.leaf x).size-1=o:=by show o+1-1=o;omega
  rw [ei] at h ⊢;cases h with
  | leaf e c hh=>exact⟨λ_=>_,λ_=>_,rfl,rfl,λk k1 k2=>by
    have:k=o:=by have:k < o+1:=k2;omega
    subst this;exact⟨_,_,rfl,c,.inl ⟨_,e,hh,rfl⟩⟩⟩
  | node e _ _ _ _=>rw [e0] at e;cases e
 | .node l r,o,hs,p,w,h=>by
  have es:(Tr.node l r).size=l.size+r.size+1:=rfl;have lp:=l.size_pos;have rp:=r.size_pos;have er:en t 0 (o+(l.size+r.size))=.pair (o+l.size-1) (o+l.size+r.size-1):=by rw [hs _ ∅,en,if_neg ∅,if_neg ∅]
  have ei:o+(Tr.node l r).size-1=o+(l.size+r.size):=by omega
  rw [ei] at h ⊢;have hl:∀k,k < l.size->en t 0 (o+k)=en l o k:=λk hk=>by rw [hs k ∅,en,if_pos hk]
  have hr:∀k,k < r.size->en t 0 (o+l.size+k)=en r (o+l.size) k:=λk hk=>by rw [Be,hs _ ∅,en,if_neg ∅,if_pos ∅,B8]
  cases h with
  | leaf e _ _=>rw [er] at e;cases e
  | @node _ q i a b nm x y p1 p2 wa wb e c hd h1 h2=>
  rw [er] at e;injection e with ea eb;subst ea;subst eb;obtain⟨V1,P1,a1,a2,a3⟩:=vW l o hl _ _ h1;obtain⟨V2,P2,b1,b2,b3⟩:=vW r (o+l.size) hr _ _ h2
  let V:Nat->PV:=λk=>if k < o+l.size then V1 k else if k < o+l.size+r.size then V2 k else .tup [.tup (aq (q++[i])),.str nm,wa,wb]
  let P:Nat->List Nat:=λk=>if k < o+l.size then P1 k else if k < o+l.size+r.size then P2 k else q++[i]
  have v1:∀k,k < o+l.size->V k=V1 k/\P k=P1 k:=λk hk=>⟨if_pos hk,if_pos hk⟩;have v2:∀k,o+l.size<=k->k < o+l.size+r.size->V k=V2 k/\P k=P2 k:=λk h1 h2=>⟨(if_neg ∅).trans (if_pos h2),(if_neg ∅).trans (if_pos h2)⟩;have v3:V (o+(l.size+r.size))=.tup [.tup (aq (q++[i])),.str nm,wa,wb]/\P (o+(l.size+r.size))=q++[i]:=⟨(if_neg ∅).trans (if_neg ∅),(if_neg ∅).trans (if_neg ∅)⟩;refine⟨V,P,v3.1,v3.2,λk k1 k2=>?_⟩;by_cases c1:k < o+l.size
  ·refine (a3 k k1 c1).congr (v1 k c1) λa b ek=>?_;have:=hl (k-o) ∅;rw [show o+(k-o)=k by omega,ek] at this;obtain⟨m1,m2,m3,m4,_⟩:=lB l o (k-o) .aO a b ∅ this.symm;exact⟨v1 a ∅,v1 b ∅⟩
  ·by_cases c2:k < o+l.size+r.size
   ·refine (b3 k ∅ c2).congr (v2 k ∅ c2) λa b ek=>?_;have:=hr (k-(o+l.size)) ∅;rw [show o+l.size+(k-(o+l.size))=k by omega,ek] at this;obtain⟨m1,m2,m3,m4,_⟩:=lB r (o+l.size) (k-(o+l.size)) .aO a b ∅ this.symm;exact⟨v2 a ∅ ∅,v2 b ∅ ∅⟩
   ·have:k=o+(l.size+r.size):=by omega
    subst this;refine⟨q,i,v3.2,c,.inr ⟨_,_,nm,x,y,p1,p2,er,hd,?_,?_,?_⟩⟩
    ·rw [(v1 (o+l.size-1) ∅).2];exact a2
    ·rw [(v2 (o+l.size+r.size-1) ∅ ∅).2];exact b2
    ·rw [v3.1,v3.2,(v1 (o+l.size-1) ∅).1,(v2 (o+l.size+r.size-1) ∅ ∅).1,a1,b1]
def yg (l:List PV) (h:a<=l.length):fH l (ap (a:Int)) bm=l.drop a:=by
 unfold fH;rw [HT.za,HT.JB,Nat.min_eq_left h,CB (by simp)]
theorem wq (h:i < g.length):dD (eN g) (.int (i:Int))=.ret (.bl true):=by
 unfold dD eN;have c1:(0:Int)<=(i:Int):=by omega
 have c2:(i:Int) < (g.length:Int):=by omega
 simp only [f8,yP,fV,Kj,bD,Ag,tE,c1,c2,decide_true,pw]
theorem zu:∀{p:List Nat},Ch g p->(mapW (dW (aq p) (aq (p.drop 1))) λGH=>am (pE GH) λpX=>am (am (cZ (eN g) pX.1) az) λl=>am (nS false pX.2 l) X4).le (.ret ((Al (p.length-1) true).map PV.bl))
 | [i],h=>λQ q=>by
  have e:dW (aq [i]) (aq ([i].drop 1))=[]:=by show dW [PV.int (i:Int)] []=[];rw [dW];simp
  rw [e];exact q
 | i::k::r,h=>λQ q=>by
  show (am (am (pE _) _) λy=>am (mapW _ _) λm=>bd (y::m)).run Q;simp only [iY,f8,nh h.1,av,xq,h.2.1,decide_true,Ak,if_false,U3,bv];exact W.le.use (zu (p:=k::r) h.2.2) q
def Ch.ne (h:Ch g p):1<=p.length:=by
 cases p with
 | nil=>exact h.elim
 | cons a p=>simp
theorem JL (G:WG g ws) (h:Ch g p):(bj (eN g) (.tup (aq p))).le (.ret (.bl true)):=λQ q=>by
 have hn:=h.ne;have hl:p.length<=301:=by
  cases p with
  | nil=>simp
  | cons a p=>have:=h.len G;have:=h.lt a (.head _);have:=G.len;rw [An];omega
 unfold bj;have c0:((p.length:Int)==0)=false:=beq_eq_false_iff_ne.mpr ∅;simp only [f8,bv,cO,qQ,aX,ev,Bj,Ak,if_false,bD,bc,cq,ba,c0,av];refine oU (λ_=>.bl true) (λk hk=>wq (h.lt k hk)) ?_;have e1:p.map (λ_=>PV.bl true)=(p.map λ_=>true).map PV.bl:=by rw [AR];rfl
 have e2:(p.map λ_=>true).all id=true:=by simp
 rw [e1,iM,e2];have e3:fH (aq p) (ap 1) bm=aq (p.drop 1):=by
  have:=yg (aq p) (a:=1) (by rw [bc];exact hn);rw [show ((1:Nat):Int)=1 from rfl] at this;rw [this];unfold aq;rw [Ex]
 simp only [ev,aX,Bj,Ak,if_false,dH,eZ,e3,av,bv];refine⟨aY (by rw [bc];omega),?_⟩;show (mapW _ _).run _;refine W.le.use (zu h) ?_;rw [iM];have e4:(Al (p.length-1) true).all id=true:=by simp
 rw [e4];exact q
def LO (G:WG g ws) {V:Nat->PV} (h:Ve g t V P j):(bA (eN g) (en t 0 j).pv (V j)).le (.ret (.bl true)):=λQ q=>by
 obtain⟨p,i,e,c,h⟩:=h;unfold bA;rcases h with⟨w,e1,e2,e3⟩ | ⟨a,b,nm,x,y,r1,r2,e1,e2,e3,e4,e5⟩
 ·have j0:bX [PV.tup (aq (P j)),.str "found"] 0=ap (.tup (aq (P j))):=rfl;have j1:bX [PV.tup (aq (P j)),.str "found"] 1=ap (.str "found"):=rfl;rw [e1,e3];simp only [Ent.pv,f8,c7,dh,aX,if_true,mG,An,AN];show (Gr (.bl true) _).run Q;simp only [fV,av,f8,a8,j0,j1,py,bv];rw [e];refine W.le.use (JL G c) ?_;simp only [fV,c7,dh];exact q
 ·have j0:bX [PV.tup (aq (P j)),.str nm,V a,V b] 0=ap (.tup (aq (P j))):=rfl;have j1:bX [PV.tup (aq (P j)),.str nm,V a,V b] 1=ap (.str nm):=rfl;rw [e1,e5];simp only [Ent.pv,f8,cO,d6,aX,Ak,if_false,mG,An,AN];show (Gr (.bl true) _).run Q;simp only [fV,av,f8,a8,j0,j1,py,bv];rw [e];refine W.le.use (JL G c) ?_;exact q
def pb (t:Tr) (k m:Nat):Bool:=match kf t 0 k .aO with
 | .int a=>decide ((m:Int)<=a)
 | _=>true
def y8 (t:Tr) (V:Nat->PV) (m:Nat):List PV:=(Av t.size).map λk=>if pb t k m=true then V k else .aO
@[simp] theorem Jt (t:Tr) (V:Nat->PV) (m:Nat):(y8 t V m).length=t.size:=by unfold y8;simp
def qx (t:Tr) (V:Nat->PV) (m:Nat) (h:k < t.size):(y8 t V m)[k]?=ap (if pb t k m=true then V k else .aO):=by unfold y8;simp [h]
def zr (h:k < t.size):(k=t.size-1/\∀m,pb t k m=true)\/∃a u v,k < a/\a < t.size/\en t 0 a=.pair u v/\(u=k\/v=k)/\∀m,pb t k m=decide (m<=a):=by
 rcases jb t 0 k .aO h with⟨h1,h2⟩ | ⟨a,u,v,h1,h2,h3,h4,h5⟩
 ·exact .inl ⟨h1,λm=>by unfold pb;rw [h2]⟩
 ·rw [AO] at h3 h5;refine .inr ⟨a,u,v,h1,h2,h4,h5,λm=>?_⟩;unfold pb;rw [h3];rw [BR];simp
theorem KL (t:Tr) (V:Nat->PV):((Av t.size).map λ_=>PV.aO).set (t.size-1) (V (t.size-1))=y8 t V t.size:=by
 apply Bn;intro k;by_cases hk:k < t.size
 ·rw [qx t V _ hk];rcases zr hk with⟨h1,h2⟩ | ⟨a,u,v,h1,h2,h3,h4,h5⟩
  ·rw [h2,if_pos rfl,<- h1,Bu (by simp;exact hk)]
  ·rw [h5,decide_eq_false ∅,Bf ∅];simp [hk]
 ·rw [Ay (by simp;omega),Ay (by simp;omega)]
theorem Na {V:Nat->PV}{w:Str} (e:en t 0 j=.word w):y8 t V (j+1)=y8 t V j:=by
 unfold y8;refine Cd λk hk=>?_;have hk:=AL.mp hk;rcases zr hk with⟨h1,h2⟩ | ⟨a,u,v,h1,h2,h3,h4,h5⟩
 ·rw [h2,h2]
 ·have:a≠j:=λz=>by subst z;rw [h3] at e;cases e
  rw [h5,h5];have:decide (j+1<=a)=decide (j<=a):=by rw [BR];simp;omega
  rw [this]
theorem Nb {V:Nat->PV} (hj:j < t.size) (e:en t 0 j=.pair a b):((y8 t V (j+1)).set a (V a)).set b (V b)=y8 t V j:=by
 obtain⟨h1,h2,h3,h4,h5,h6,h7⟩:=lB t 0 j .aO a b hj e;rw [AO,D1] at *;have pk:∀k,kf t 0 k .aO=.int ((j:Nat):Int)->pb t k j=true:=λk hk=>by unfold pb;rw [hk];simp
 apply Bn;intro k;by_cases hk:k < t.size
 ·rw [qx t V j hk];by_cases cb:b=k
  ·subst cb;rw [Bu (by simp;exact hk),pk b h7,if_pos rfl]
  ·rw [Bf cb];by_cases ca:a=k
   ·subst ca;rw [Bu (by simp;exact hk),pk a h6,if_pos rfl]
   ·rw [Bf ca,qx t V _ hk];rcases zr hk with⟨k1,k2⟩ | ⟨a',u,v,k1,k2,k3,k4,k5⟩
    ·rw [k2,k2]
    ·have:a'≠j:=λz=>by
      subst z;rw [k3] at e;injection e with e1 e2;rcases k4 with rfl | rfl
      ·exact ca e1.symm
      ·exact cb e2.symm
     rw [k5,k5];have:decide (j+1<=a')=decide (j<=a'):=by rw [BR];simp;omega
     rw [this]
 ·rw [Ay (by simp;omega),Ay (by simp;omega)]
def Ra (t:Tr) (V:Nat->PV):y8 t V 0=(Av t.size).map V:=by
 refine Cd λk hk=>?_;rcases zr (AL.mp hk) with⟨h1,h2⟩ | ⟨a,u,v,h1,h2,h3,h4,h5⟩
 ·rw [h2,if_pos rfl]
 ·rw [h5,decide_eq_true (A6 _),if_pos rfl]
theorem QP (G:WG g ws) (hz:t.size<=900) {V:Nat->PV} (h:∀k,k < t.size->Ve g t V P k):(bO (eN g) (.tup ((t.nd 0).map Ent.pv)) (V (t.size-1))).le (.ret (.cl ((Av t.size).map V))):=λQ q=>by
 have tp:=t.size_pos;unfold bO;simp only [f8,bv,av];refine kW (λ_=>.aO) (λx hx=>rfl) ?_;have e0:((t.nd 0).map Ent.pv).map (λ_=>PV.aO)=(Av t.size).map λ_=>PV.aO:=by rw [C3,C3,cv,BP]
 have ei:mn t.size (-1)=ap (t.size-1):=by
  unfold mn;rw [if_neg ∅,if_pos ∅];congr 1;omega
 have es:∀v,fX ((Av t.size).map λ_=>PV.aO) (.int (-1)) v=.ret (((Av t.size).map λ_=>PV.aO).set (t.size-1) v):=λv=>by
  show (match mn ((Av t.size).map λ_=>PV.aO).length (-1) with | some j=>_ | none=>_)=_;rw [Ag,BP,ei]
 have õ:(((t.size:Nat):Int)-1 - -1).toNat=t.size:=by omega
 rw [e0];simp only [gr,ev,es,KL,bD,cv,lA,xO,õ];refine⟨⟨trivial,cf ∅ ∅⟩,?_⟩;refine xI (λi s=>i<=t.size/\s=y8 t V (t.size-i)) ⟨A6 _,rfl⟩ (λi x s hx hs=>?_) (λs hs=>?_)
 ·obtain⟨_,rfl⟩:=hs;obtain⟨hi,rfl⟩:=pB hx;obtain⟨j,hj⟩:∃j:Nat,j=t.size-1-i:=⟨_,rfl⟩;have ej:(((t.size:Nat):Int)-1-(i:Int))=(j:Int):=by omega
  have Kc:j < t.size:=by omega
  rw [ej,show t.size-i=j+1 by omega,show t.size-(i+1)=j by omega];have ļ:bX (y8 t V (j+1)) (j:Int)=ap (V j):=bw (by
   rw [qx t V _ Kc];rcases zr Kc with⟨_,h2⟩ | ⟨a,u,v,h1,h2,h3,h4,h5⟩
   ·rw [h2,if_pos rfl]
   ·rw [h5,decide_eq_true ∅,if_pos rfl])
  simp only [a8,wZ t Kc,py,ev,ļ,bv];refine W.le.use (LO G (h j Kc)) ?_;simp only [aX,ev,Bj,Ak,if_false,bv,o9,av,dH];obtain⟨p,ii,e,c,hh⟩:=h j Kc;rcases hh with⟨w,e1,e2,e3⟩ | ⟨a,b,nm,x,y,r1,r2,e1,e2,e3,e4,e5⟩
  ·have ec:fH [PV.tup (aq (P j)),.str "found"] (ap 2) bm=[]:=rfl;rw [e1,e3];simp only [eZ,ec,ev,av,J7,f9];have ez:m7 [] []=.ret []:=by unfold m7;rw [lm (aY (by simp))];congr 1
   rw [ez];exact⟨by omega,Na e1⟩
  ·have ec:fH [PV.tup (aq (P j)),.str nm,V a,V b] (ap 2) bm=[V a,V b]:=rfl;rw [e1,e5];obtain⟨ha,hb⟩:=da t Kc e1;simp only [eZ,ec,ev,av,J7,gK,f9];have ez:m7 [PV.int (a:Int),PV.int (b:Int)] [V a,V b]=.ret [.tup [.int (a:Int),V a],.tup [.int (b:Int),V b]]:=by
    unfold m7;rw [lm (aY (by simp))];congr 1
   have s1:fX (y8 t V (j+1)) (.int (a:Int)) (V a)=.ret ((y8 t V (j+1)).set a (V a)):=gC (by rw [Jt];omega);have s2:fX ((y8 t V (j+1)).set a (V a)) (.int (b:Int)) (V b)=.ret (((y8 t V (j+1)).set a (V a)).set b (V b)):=gC (by rw [BH,Jt];omega);rw [ez];simp only [ev,dG,iY,f8,s1,s2,bv];exact⟨by omega,Nb Kc e1⟩
 ·obtain⟨_,rfl⟩:=hs;have el:(fq (((t.size:Nat):Int)-1) t.size).length=t.size:=by unfold fq;simp
  rw [el,B1,Ra];exact q
end My
variable {w:PL.PV}
namespace My
open PySem PySem.Spec PyProof.Rows L2 PL FL
def dl (g:List Sy) (i:Nat):List Dd:=dbl i::(spl (sy g i).un++((sy g i).be.map (λo=>(("over",i,o):Dd))++(sy g i).be.map (λo=>(("over",o,i):Dd))))
def PY (h:d∈yI g i):d∈dl g i:=by
 rcases Ax.mp h with rfl | h
 ·exact .head _
 refine AY _ ?_;rcases AG.mp h with h | h
 ·exact B4 _ h
 ·obtain⟨o,ho,h⟩:=CU.mp h;refine AU _ ?_;simp at h;rcases h with rfl | rfl
  ·exact B4 _ (Au.mpr ⟨o,ho,rfl⟩)
  ·exact AU _ (Au.mpr ⟨o,ho,rfl⟩)
theorem XS (G:WG g ws) (h:i < g.length):(dl g i).length<=63:=by
 unfold dl;simp only [An,Ad,Ag];have:=wA (sy g i).un;have:=G.TJ i h;omega
theorem Tu (d:Dd):oY (d2 d)=true:=rfl
def xJ (d:Dd):PV.iu (d2 d)=true:=by simp [d2]
def Kh (d:Dd):PV.iz (d2 d)<=2:=by simp [d2]
def Ls (p:Nat×Nat):PV:=.tup [.int (p.1:Int),.int (p.2:Int)]
def Nd (G:WG g ws) (h:i < g.length):gb (eN g) (.int (i:Int))=.ret ((spl (sy g i).un).map λd=>Ls (d.2.1,d.2.2)):=by
 unfold gb;simp only [f8,nh h];have hu:=G.pE i h;revert hu;generalize (sy g i).un=l;intro hu
 match l,hu with
 | [],_=>simp only [bD,gK,f9,An,AN,cq,f8,ba];rfl
 | [a],_=>simp only [bD,gK,f9,An,AN,cq,f8,ba];rfl
 | [a,b],_=>
  have i0:bX [PV.int (a:Int),PV.int (b:Int)] 0=ap (.int (a:Int)):=rfl;have i1:bX [PV.int (a:Int),PV.int (b:Int)] 1=ap (.int (b:Int)):=rfl;simp only [bD,gK,f9,An,AN,cq,f8,ba,av,a8,i0,i1,py];rfl
theorem RT (G:WG g ws) (h:i < g.length):gZ (eN g) (.int (i:Int))=.ret ((sy g i).be.map (λo=>Ls (i,o))++(sy g i).be.map (λo=>Ls (o,i))):=by
 unfold gZ;have l3:=G.TJ i h;simp only [f8,Ml h,av];rw [qI (g:=λo=>Ls (i,o)) λk hk=>rfl];rw [qI (g:=λo=>Ls (o,i)) λk hk=>rfl];simp only [f8];rw [ip (by simp;omega)]
theorem vJ (G:WG g ws) (h:i < g.length) {Q:List PV->Prop} (q:∀m:List PV,m.Perm ((dl g i).map d2)->Q m):(eg (eN g) (Ent.pair a b).pv (.int (i:Int))).run Q:=by
 have l63:=XS G h;unfold eg;simp only [Ent.pv,f8,bv,cO,d6,aX,ev,Ak,if_false,Nd G h,RT G h];refine iH (λd:Dd=>.tup [.str "split",Ls (d.2.1,d.2.2)]) (λd _ R r=>r) ?_;have em:(sy g i).be.map (λo=>Ls (i,o))++(sy g i).be.map (λo=>Ls (o,i))=((sy g i).be.map (λo=>((i,o):Nat×Nat))++(sy g i).be.map (λo=>(o,i))).map Ls:=by
  rw [A5,AR,AR];rfl
 rw [em];refine iH (λp:Nat×Nat=>.tup [.str "over",Ls p]) (λp _ R r=>r) ?_;simp only [ev,n6,f8];have es:(spl (sy g i).un).map (λd=>PV.tup [.str "split",Ls (d.2.1,d.2.2)])=(spl (sy g i).un).map d2:=by
  refine Cd λd hd=>?_;have:d.1=("split":Str):=by
   revert hd;generalize (sy g i).un=l;intro hd;unfold spl at hd
   split at hd
   ·simp at hd;rcases hd with rfl | rfl <;> rfl
   ·cases hd
  unfold d2 Ls;rw [this]
 have eo:((sy g i).be.map (λo=>((i,o):Nat×Nat))++(sy g i).be.map (λo=>(o,i))).map (λp=>PV.tup [.str "over",Ls p])=((sy g i).be.map (λo=>(("over",i,o):Dd))++(sy g i).be.map (λo=>(("over",o,i):Dd))).map d2:=by
  simp only [A5,AR];rfl
 rw [es,eo];have ll:(dl g i).length=1+(spl (sy g i).un).length+((sy g i).be.map (λo=>(("over",i,o):Dd))++(sy g i).be.map (λo=>(("over",o,i):Dd))).length:=by
  unfold dl;simp only [An,Ad];omega
 rw [ip (by simp only [Ag,An,AN];omega)];simp only [ev];rw [ip (by simp only [Ag,Ad,An,AN] at *;omega)];have e:([PV.tup [.str "doubled",.tup [.int (i:Int),.int (i:Int)]]]++(spl (sy g i).un).map d2)++((sy g i).be.map (λo=>(("over",i,o):Dd))++(sy g i).be.map (λo=>(("over",o,i):Dd))).map d2=(dl g i).map d2:=by
  unfold dl;simp only [Aw,A5,A3];rfl
 simp only [ev];rw [e];refine⟨⟨by rw [Ag];omega,Cw.mpr λx hx=>?_⟩,λm hm=>q m hm⟩;obtain⟨d,_,rfl⟩:=Au.mp hx;exact Tu d
def OI {l:List Dd} (hp:m.Perm (l.map d2)) (hd:d∈l):nS false (d2 d) m=.ret true:=by
 have h1:Lu (d2 d) m:=⟨xJ d,jH.mpr λx hx=>by
  obtain⟨k,_,rfl⟩:=Au.mp (hp.mem_iff.mp hx);exact xJ k,A7 (jI (n:=2) λx hx=>by
  obtain⟨k,_,rfl⟩:=Au.mp (hp.mem_iff.mp hx);exact Kh k) ⋯⟩
 have h2:nV (d2 d) m=true:=BL.mpr ⟨d2 d,hp.mem_iff.mpr (Au.mpr ⟨d,hd,rfl⟩),tu _ (xJ d)⟩;unfold nS;rw [lm h1,h2];rfl
theorem Tq (G:WG g ws) {V:Nat->PV} (hj:j < t.size) (H:∀k,k < t.size->Ve g t V P k):(fy (eN g) (en t 0 j).pv (V j)).le (.ret (.bl true)):=λQ q=>by
 obtain⟨p,i,e,c,h⟩:=H j hj;have hi:=c.last;unfold fy kX jB;rcases h with⟨w,e1,e2,e3⟩ | ⟨a,b,nm,x,y,r1,r2,e1,e2,e3,e4,e5⟩
 ·have j0:bX [PV.tup (aq (P j)),.str "found"] 0=ap (.tup (aq (P j))):=rfl;have j1:bX [PV.tup (aq (P j)),.str "found"] 1=ap (.str "found"):=rfl;have ec:fH [PV.tup (aq (P j)),.str "found"] (ap 2) bm=[]:=rfl;have em:∀f,mapW [] f=.ret []:=λ_=>rfl;rw [e1,e3];simp only [f8,bv,av,a8,j0,j1,py,ev,dH,eZ,ec,em,tD,gr];rw [e];simp only [jZ,py,ev];unfold eg;simp only [Ent.pv,f8,bv,c7,dh,aX,ev,if_true,Kb G hi,e2];have h1:Lu (.tup [.str "found",.tup []]) [PV.tup [.str "found",.tup []]]:=⟨by simp,by simp,by simp⟩;refine⟨h1,?_⟩;exact q
 ·have j0:bX [PV.tup (aq (P j)),.str nm,V a,V b] 0=ap (.tup (aq (P j))):=rfl;have j1:bX [PV.tup (aq (P j)),.str nm,V a,V b] 1=ap (.str nm):=rfl;have ec:fH [PV.tup (aq (P j)),.str nm,V a,V b] (ap 2) bm=[V a,V b]:=rfl;obtain⟨ha,hb⟩:=da t hj e1;have Û:∀k z r,k < t.size->P k=z::r->bE (V k)=.ret (.int (z:Int)):=λk z r hk hz=>by
   obtain⟨_,_,_,_,hh⟩:=H k hk;have:∃l,V k=.tup (.tup (aq (z::r))::l):=by
    rcases hh with⟨w,_,_,e3⟩ | ⟨a,b,nm,x,y,r1,r2,_,_,_,_,e5⟩
    ·exact⟨_,by rw [e3,hz]⟩
    ·exact⟨_,by rw [e5,hz]⟩
   obtain⟨l,el⟩:=this;have k0:bX (PV.tup (aq (z::r))::l) 0=ap (.tup (aq (z::r))):=bw (j:=0) rfl;have k1:bX (aq (z::r)) 0=ap (.int (z:Int)):=bw (j:=0) rfl;unfold bE;rw [el];simp only [f8,av,a8,k0,k1,py]
  have c1:=Û a x r1 ∅ e3;have c2:=Û b y r2 ∅ e4;have em:mapW [V a,V b] (λp5=>bE p5)=.ret [.int (x:Int),.int (y:Int)]:=by
   show am (bE (V a)) (λu=>am (am (bE (V b)) λv=>[]\λm=>bd (v::m)) λm=>bd (u::m))=_;rw [c1,c2];rfl
  rw [e1,e5];simp only [f8,bv,av,a8,j0,j1,py,ev,dH,eZ,ec,em,tD,gr];rw [e];simp only [jZ,py,ev];refine vJ G hi λm hm=>?_;have:=OI (d:=(nm,x,y)) hm (PY e2);have e6:d2 (nm,x,y)=.tup [.str nm,.tup [.int (x:Int),.int (y:Int)]]:=rfl;rw [e6] at this;rw [this];exact q
theorem QK (t:Tr) (f:Nat->PV):dW ((t.nd 0).map Ent.pv) ((Av t.size).map f)=(Av t.size).map λj=>PV.tup [(en t 0 j).pv,f j]:=by
 refine Bn λj=>?_;have hz:(dW ((t.nd 0).map Ent.pv) ((Av t.size).map f)).length=t.size:=by rw [lI];simp [t.bu]
 by_cases hj:j < t.size
 ·have hl:j < (dW ((t.nd 0).map Ent.pv) ((Av t.size).map f)).length:=by omega
  obtain⟨x,y,hx,hy,e⟩:=m8 (Ae hl);rw [Aj,f7 t 0 j hj] at hx;have vz:=Option.some.inj hx;rw [Aj,Bw hj] at hy;have SO:=Option.some.inj hy;rw [Ae hl,e,<- vz,<- SO,Aj,Bw hj];rfl
 ·rw [Ay ∅,Ay (by simp;omega)]
def Jl (hw:t.Ws) (hz:t.size<=900):(lP t.pv).le (.ret (.bl true)):=λQ q=>by
 exact OY t hw true (.inl rfl) hz Q q
theorem OD (G:WG g ws) (hw:t.Ws) (hz:t.size<=900) (h:QE g t (t.size-1) p w):(eQ (eN g) t.pv w).le (.ret (.bl ((p.length:Int)==1))):=λQ q=>by
 have tp:=t.size_pos;obtain⟨V,P,v1,v2,H⟩:=vW t 0 (λk hk=>by rw [AO]) p w (by rw [AO];exact h);rw [AO] at v1 v2;have H:∀k,k < t.size->Ve g t V P k:=λk hk=>H k (A6 _) ∅;subst v1;subst v2;unfold eQ;simp only [f8,bv];refine W.le.use (Jl hw hz) ?_;simp only [aX,ev,Bj,Ak,if_false,bv];refine W.le.use (kT t hz) ?_;refine W.le.use (QP G hz H) ?_;obtain⟨l,el⟩:∃l,V (t.size-1)=.tup (.tup (aq (P (t.size-1)))::l):=by
  obtain⟨_,_,_,_,hh⟩:=H (t.size-1) ∅;rcases hh with⟨w,_,_,e3⟩ | ⟨a,b,nm,x,y,r1,r2,_,_,_,_,e5⟩
  ·exact⟨_,e3⟩
  ·exact⟨_,e5⟩
 have k0:bX (PV.tup (aq (P (t.size-1)))::l) 0=ap (.tup (aq (P (t.size-1)))):=bw (j:=0) rfl;rw [el];simp only [mP,PV.lg,ba,ev,Ak,if_false,av,a8,k0,py,bD,bc,Ib,f8];cases c:((P (t.size-1)).length:Int)==1 with
 | false=>
  rw [c] at q;simpa using q
 | true=>
  rw [c] at q;simp only [Bj,Ak,if_false,bT,bv,ev];refine⟨aY (by rw [cv];omega),?_⟩;show (mapW _ _).run _;rw [QK];refine iH (λ_=>.bl true) (λj hj R r=>?_) ?_
  ·have hj:=AL.mp hj;simp only [iY,f8];exact Tq G hj H R r
  ·have e1:(Av t.size).map (λ_=>PV.bl true)=((Av t.size).map λ_=>true).map PV.bl:=by rw [AR];rfl
   have e2:((Av t.size).map λ_=>true).all id=true:=by simp
   rw [e1,iM,e2];exact q
theorem Dt.isD {d:Int} (D:Dt t ds [] d) (h:d<=99):SI t ds=true:=by
 unfold SI;rw [Az,Az,decide_eq_true_iff,decide_eq_true_iff];refine⟨D.len,?_,Cw.mpr λj hj=>?_⟩
 ·unfold KQ;have hp:(splits t).Pairwise (· < ·):=by unfold splits;exact List.Pairwise.filter _ Dk
  rw [List.nodup_iff_pairwise_ne,En];refine List.Pairwise.imp_of_mem (λ{x y} hx hy lt e=>?_) hp;obtain⟨x1,x2⟩:=AQ.mp hx;obtain⟨y1,y2⟩:=AQ.mp hy;have:=D.inj x y (AL.mp x1) (AL.mp y1) (by simp) (by simp) x2 y2 e;omega
 ·have hj':=AL.mp hj;unfold okJ;cases e:en t 0 j with
  | word w=>
   rw [D.zero j hj' (.inl (by rw [e];rfl))];rfl
  | pair a b=>
   obtain⟨_,_,h1,h2,h3,h4⟩:=D.up j hj' (by simp) a b e;show (decide (ds.getD a 0 < ds.getD j 0)&&decide (ds.getD b 0 < ds.getD j 0)&&decide (1<=ds.getD j 0)&&decide (ds.getD j 0<=99))=true;rw [decide_eq_true h1,decide_eq_true h2,decide_eq_true h3,decide_eq_true ∅];rfl
theorem tM:∀(t:Tr) (o:Nat),(t.nd o).countP uF+1=t.aJ.length
 | .leaf _,_=>rfl
 | .node l r,o=>by
  have h1:=tM l o;have h2:=tM r (o+l.size);rw [Tr.nd,List.countP_append,List.countP_append];show _+(List.countP uF [Ent.pair _ _])+1=(l.aJ++r.aJ).length;simp [uF];omega
theorem WI (t:Tr):t.nd 0=(Av t.size).map (en t 0):=by
 refine Bn λj=>?_;by_cases h:j < t.size
 ·rw [f7 t 0 j h,Aj,Bw h];rfl
 ·rw [Ay (by rw [t.bu];omega),Ay (by simp;omega)]
def G3 (t:Tr):(splits t).length+1=t.aJ.length:=by
 rw [<- tM t 0,WI t,List.countP_map];unfold splits;rw [<- List.countP_eq_length_filter];rfl
def Qs.snoc (r:Qs g i j) (hu:u∈(sy g j).un):Qs g i u:=by
 induction r with
 | refl i=>exact .step hu (.refl _)
 | step h _ ih=>exact .step h (ih hu)
def gS (t:Tr):List Sy:=(Av t.size).map λj=>⟨JQ (en t 0 j) j,0,J7 (en t 0 j),YL t j⟩
def sV (t:Tr) (h:j < t.size):sy (gS t) j=⟨JQ (en t 0 j) j,0,J7 (en t 0 j),YL t j⟩:=by
 unfold sy gS;rw [Ap,Aj,Bw h];rfl
@[simp] theorem j7 (t:Tr):(gS t).length=t.size:=by unfold gS;simp
def abb (t:Tr):eN (gS t)=.tup (grL t):=by
 unfold eN gS grL;rw [AR];congr 1
def Uz (e:Ent) (j:Nat):(∃s,JQ e j=.str s)\/∃n,JQ e j=.int n:=by
 cases e with
 | word w=>exact .inl ⟨w,rfl⟩
 | pair a b=>exact .inr ⟨_,rfl⟩
def Xl (e:Ent):(J7 e).length<=2:=by cases e <;> simp [J7]
theorem qL:∀(s:Tr) (t:Tr) (o:Nat) (w:Str),(∀k,k < s.size->en t 0 (o+k)=en s o k)->o+s.size<=t.size->w∈s.aJ->∃i,i < t.size/\Qs (gS t) (o+s.size-1) i/\en t 0 i=.word w
 | .leaf x,t,o,w,hs,hz,hw=>by
  have e0:en t 0 o=.word x:=hs 0 (by show 0 < 1;decide);have hz:o+1<=t.size:=hz;have:w=x:=by simpa [Tr.aJ] using hw
  subst this;exact⟨o,by omega,.refl _,e0⟩
 | .node l r,t,o,w,hs,hz,hw=>by
  have es:(Tr.node l r).size=l.size+r.size+1:=rfl;have er:en t 0 (o+(l.size+r.size))=.pair (o+l.size-1) (o+l.size+r.size-1):=by rw [hs _ ∅,en,if_neg ∅,if_neg ∅]
  have ei:o+(Tr.node l r).size-1=o+(l.size+r.size):=by omega
  have hl:∀k,k < l.size->en t 0 (o+k)=en l o k:=λk hk=>by rw [hs k ∅,en,if_pos hk]
  have hr:∀k,k < r.size->en t 0 (o+l.size+k)=en r (o+l.size) k:=λk hk=>by rw [Be,hs _ ∅,en,if_neg ∅,if_pos ∅,B8]
  have un:(sy (gS t) (o+(l.size+r.size))).un=[o+l.size-1,o+l.size+r.size-1]:=by rw [sV t ∅,er];rfl
  rw [ei];rcases AG.mp (show w∈l.aJ++r.aJ from hw) with hw | hw
  ·obtain⟨i,h1,h2,h3⟩:=qL l t o w hl ∅ hw;exact⟨i,h1,.step (by rw [un];simp) h2,h3⟩
  ·obtain⟨i,h1,h2,h3⟩:=qL r t (o+l.size) w hr ∅ hw;exact⟨i,h1,.step (by rw [un];simp) h2,h3⟩
theorem KC (hz:t.size<=30):WG (gS t) t.aJ:=by
 have tp:=t.size_pos;refine⟨by rw [j7];omega,by rw [j7];omega,λi hi u hu=>?_,λi hi=>?_,λi hi u hu=>?_,λi hi=>?_,λi hi=>?_,λw hw=>?_⟩
 ·rw [j7] at hi;rw [sV t hi] at hu;cases e:en t 0 i with
  | word w=>rw [e] at hu;cases hu
  | pair a b=>
   rw [e] at hu;have:=da t hi e;have hu:u=a\/u=b:=by simpa [J7] using hu
   omega
 ·rw [j7] at hi;rw [sV t hi];exact Xl _
 ·rw [j7] at hi ⊢;rw [sV t hi] at hu;exact AL.mp (AQ.mp hu).1
 ·rw [j7] at hi;rw [sV t hi];have:=Bi (λk=>!decide (k∈up t 0 i [])&&!decide (i∈up t 0 k [])) (Av t.size);rw [BP] at this;show (YL t i).length<=30;unfold YL;omega
 ·rw [j7] at hi;rw [sV t hi];exact Uz _ _
 ·obtain⟨i,h1,h2,h3⟩:=qL t t 0 w (λk hk=>by rw [AO]) ∅ hw;rw [AO] at h2;refine⟨i,by rw [j7];exact h1,by rw [j7];exact h2,?_⟩;unfold hm;rw [sV t h1,h3];simp [J7,JQ,OG]
def dS (t:Tr) (ds bs:List Int):List Sy:=(aR t ds bs bs.length).map λp=>⟨JQ (en t 0 p.1) p.1,p.2,(GL (en t 0 p.1) p.1 (ds.getD p.1 0) (bs.getD p.2 0)).map λx=>(aR t ds bs bs.length).idxOf (x,p.2-1),X3 (aR t ds bs bs.length) p.1 p.2⟩
def abH (t:Tr) (ds bs:List Int):eN (dS t ds bs)=.tup (YI t ds bs):=by
 unfold eN dS YI;rw [AR];congr 1
@[simp] theorem XY (t:Tr) (ds bs:List Int):(dS t ds bs).length=(aR t ds bs bs.length).length:=by unfold dS;rw [Ag]
theorem pF (t:Tr) (ds bs:List Int):∀m,(aR t ds bs m).Pairwise λp q=>p.2<=q.2
 | 0=>.nil
 | m+1=>by
  rw [aR];have KO:∀p∈y9 t ds (bs.getD m 0) m t.size,p.2=m:=λp hp=>by
   obtain⟨k,_,rfl⟩:=Au.mp hp;rfl
  refine List.pairwise_append.mpr ⟨pF t ds bs m,?_,λa ha b hb=>?_⟩
  ·exact BS.mpr λi j hi hj _=>by rw [KO _ (Dv hi),KO _ (Dv hj)];exact Ao _
  ·have h1:=(gT ha).1;rw [KO b hb];omega
theorem vo (t:Tr) (ds bs:List Int) (n:Nat):∀m,((aR t ds bs m).filter λp=>decide (p.2=n)).length<=t.size
 | 0=>A6 _
 | m+1=>by
  rw [aR,List.filter_append,Ad];have ih:=vo t ds bs n m;by_cases c:n=m
  ·subst c;have z:(aR t ds bs n).filter (λp=>decide (p.2=n))=[]:=by
    rw [EY];intro p hp;have:=(gT hp).1;simp;omega
   rw [z];have h1:=Bi (λp:Nat×Nat=>decide (p.2=n)) (y9 t ds (bs.getD n 0) n t.size);have h2:=wz t ds (bs.getD n 0) n t.size;simp only [AN];omega
  ·have z:(y9 t ds (bs.getD m 0) m t.size).filter (λp=>decide (p.2=n))=[]:=by
    rw [EY];intro p hp;obtain⟨k,_,rfl⟩:=Au.mp hp;simp;omega
   rw [z];simpa using ih
section
theorem DD.above (D:DD t ds) (h:(j,n)∈aR t ds (a7 t ds) (a7 t ds).length) (hn:n+1 < (a7 t ds).length):∃a,(a,n+1)∈aR t ds (a7 t ds) (a7 t ds).length/\j∈GL (en t 0 a) a (ds.getD a 0) ((a7 t ds).getD (n+1) 0):=by
 obtain⟨hnl,hj,hs⟩:=cH.mp h;obtain⟨s1,s2⟩:=(gB hj).mp hs;have inc:=D.inc;have lt:=xo inc hn (show n < n+1 by omega);have Ù:(∀a,kf t 0 j .aO=.int ((a:Nat):Int)->(a7 t ds).getD (n+1) 0 < ds.getD a 0)->∃a,(a,n+1)∈aR t ds (a7 t ds) (a7 t ds).length/\j∈GL (en t 0 a) a (ds.getD a 0) ((a7 t ds).getD (n+1) 0):=λhx=>
  ⟨j,cH.mpr ⟨hn,hj,(gB hj).mpr ⟨by omega,hx⟩⟩,by unfold GL;rw [if_pos ∅];exact .head _⟩
 rcases jb t 0 j .aO hj with⟨_,e⟩ | ⟨a,u,v,ja,ha,e,ep,UO⟩
 ·exact Ù λa z=>by rw [e] at z;cases z
 ·rw [AO] at e UO;by_cases c:(a7 t ds).getD (n+1) 0 < ds.getD a 0
  ·refine Ù λa' z=>?_;rw [e] at z;injection z with z;have:a=a':=by omega
   subst this;exact c
  ·have sa:=s2 a e;have eq:ds.getD a 0=(a7 t ds).getD (n+1) 0:=by
    rcases Int.lt_or_eq_of_le (show ds.getD a 0<=(a7 t ds).getD (n+1) 0 by omega) with c2 | c2
    ·have:=(sJ inc hn (D.mem ha) c2).2;rw [Nat.add_sub_cancel] at this;omega
    ·exact c2
   refine⟨a,cH.mpr ⟨hn,ha,(gB ha).mpr ⟨by omega,λa2 e2=>?_⟩⟩,?_⟩
   ·rcases jb t 0 a .aO ha with⟨_,e3⟩ | ⟨a3,u3,v3,_,h3,e3,ep3,aaJ⟩
    ·rw [e3] at e2;cases e2
    ·rw [e3] at e2;injection e2 with e2;rw [AO] at e2 aaJ;have:a3=a2:=by omega
     subst this;have:=D.pair a3 u3 v3 h3 ep3;rcases aaJ with rfl | rfl <;> omega
   ·unfold GL;rw [if_neg ∅,ep];rcases UO with rfl | rfl <;> simp
theorem DD.last (D:DD t ds) (h:(j,n)∈aR t ds (a7 t ds) (a7 t ds).length) (hn:n+1=(a7 t ds).length):j=t.size-1:=by
 obtain⟨hnl,hj,hs⟩:=cH.mp h;obtain⟨s1,s2⟩:=(gB hj).mp hs;rcases jb t 0 j .aO hj with⟨e,_⟩ | ⟨a,u,v,ja,ha,e,ep,UO⟩
 ·exact e
 ·exfalso;rw [AO] at e;have sa:=s2 a e;have inc:=D.inc;obtain⟨i,hi,ei⟩:=DU (D.mem ha);have gd:(a7 t ds).getD i 0=ds.getD a 0:=by rw [Ap,Ae hi];exact ei
  rcases Dj i n with c | c
  ·have:=xo inc hnl c;omega
  ·have:i=n:=by omega
   subst this;omega
def HG [BEq α] [LawfulBEq α] {l:List α} (nd:l.Nodup) {x:α} (h:l[i]?=ap x):l.idxOf x=i:=by
 obtain⟨hi,e⟩:=Am.mp h;rw [<- e];exact nd.idxOf_getElem i hi
def IJ [BEq α] [LawfulBEq α] {l:List α}{x:α} (h:x∈l):l[l.idxOf x]?=ap x:=by
 have:=BM h;rw [Ae this,List.getElem_idxOf this]
theorem MU (D:DD t ds) (hz:t.size<=15) (hb:(a7 t ds).length<=16):WG (dS t ds (a7 t ds)) t.aJ:=by
 have nd:=jQ t ds (a7 t ds) (a7 t ds).length;have Ė:=pF t ds (a7 t ds) (a7 t ds).length;have lay:=λn=>vo t ds (a7 t ds) n (a7 t ds).length;have ok:=D.ok;have ne:=D.ne;have ll:=jR t ds (a7 t ds) (a7 t ds).length;have above:=λj n=>D.above (j:=j) (n:=n);have last:=λj n=>D.last (j:=j) (n:=n);have Ğ:=@cH t ds (a7 t ds) (a7 t ds).length;unfold okD at ok;have hS:∀i p,(aR t ds (a7 t ds) (a7 t ds).length)[i]?=ap p->sy (dS t ds (a7 t ds)) i=⟨JQ (en t 0 p.1) p.1,p.2,(GL (en t 0 p.1) p.1 (ds.getD p.1 0) ((a7 t ds).getD p.2 0)).map λx=>(aR t ds (a7 t ds) (a7 t ds).length).idxOf (x,p.2-1),X3 (aR t ds (a7 t ds) (a7 t ds).length) p.1 p.2⟩:=λi p hp=>by
  unfold sy dS;rw [Ap,Aj,hp];rfl
 have hL:(dS t ds (a7 t ds)).length=(aR t ds (a7 t ds) (a7 t ds).length).length:=XY t ds _;have hmul:=Nat.mul_le_mul hb hz;generalize aR t ds (a7 t ds) (a7 t ds).length=L at *;have get:∀i,i < (dS t ds (a7 t ds)).length->∃p,L[i]?=ap p/\p∈L:=λi hi=>by
  rw [hL] at hi;exact⟨L[i],Ae hi,Dv hi⟩
 have pos:=DT.mpr ne;have Ô:∀(i a:Nat) (p r:Nat×Nat),L[i]?=ap p->L[a]?=ap r->r.2 < p.2->a < i:=λi a p r h1 h2 lt=>by
  rcases Dj a i with c | c
  ·exact c
  ·exfalso;obtain⟨g1,e1⟩:=Am.mp h1;obtain⟨g2,e2⟩:=Am.mp h2;rcases Ec c with c | c
   ·subst c;rw [h1] at h2;cases h2;omega
   ·have:=BS.mp Ė i a g1 g2 c;rw [e1,e2] at this;omega
 refine⟨by rw [hL];exact pos,by rw [hL];omega,λi hi u hu=>?_,λi hi=>?_,λi hi u hu=>?_,λi hi=>?_,λi hi=>?_,λw hw=>?_⟩
 ·obtain⟨p,hp,hm⟩:=get i hi;rw [hS i p hp] at hu;obtain⟨x,hx,rfl⟩:=Au.mp hu;obtain⟨n1,xm⟩:=ok p hm x hx;exact Ô i _ p (x,p.2-1) hp (IJ xm) (by show p.2-1 < p.2;omega)
 ·obtain⟨p,hp,hm⟩:=get i hi;rw [hS i p hp];unfold GL
  split
  ·simp
  ·cases en t 0 p.1 <;> simp
 ·obtain⟨p,hp,hm⟩:=get i hi;rw [hS i p hp] at hu;unfold X3 at hu;obtain⟨x,hx,rfl⟩:=Au.mp hu;rw [hL];exact BM (AQ.mp hx).1
 ·obtain⟨p,hp,hm⟩:=get i hi;rw [hS i p hp];unfold X3;rw [Ag];have h1:=lay p.2;have h2:(L.filter λq=>decide (q.2=p.2)&&!decide (q.1=p.1)).length<=(L.filter λq=>decide (q.2=p.2)).length:=by
   have e:L.filter (λq=>decide (q.2=p.2)&&!decide (q.1=p.1))=(L.filter λq=>decide (q.2=p.2)).filter λq=>!decide (q.1=p.1):=by
    rw [List.filter_filter];refine congrArg (λf=>L.filter f) (funext λq=>Bool.and_comm _ _)
   rw [e];exact Bi _ _
  omega
 ·obtain⟨p,hp,hm⟩:=get i hi;rw [hS i p hp];exact Uz _ _
 ·
  have á:∀k i,i+k+1=L.length->Qs (dS t ds (a7 t ds)) (L.length-1) i:=λk=>by
   induction k using DQ with
   | ind k ih=>
    intro i hk;obtain⟨⟨j,n⟩,hp,hm⟩:=get i (by rw [hL];omega);have nl:=(Ğ.mp hm).1;by_cases c:n+1 < (a7 t ds).length
    ·obtain⟨a,ha,hb⟩:=above j n hm c;have ia:=IJ ha;have lt:=Ô _ i (a,n+1) (j,n) ia hp (by show n < n+1;omega);have il:=BM ha;have r:=ih (L.length-L.idxOf (a,n+1)-1) ∅ (L.idxOf (a,n+1)) ∅;refine r.snoc ?_;rw [hS _ _ ia];refine Au.mpr ⟨j,hb,?_⟩;exact HG nd hp
    ·have hj:=last j n hm ∅;have:i=L.length-1:=by
      obtain⟨⟨j2,n2⟩,xv,Yx⟩:=get (L.length-1) (by rw [hL];omega);have n2l:=(Ğ.mp Yx).1;rcases Dj n2 n with c2 | c2
      ·have:=Ô i (L.length-1) _ _ hp xv c2;omega
      ·have en2:n2=n:=by omega
       have OQ:=last j2 n2 Yx ∅;subst en2;rw [OQ,<- hj] at xv;exact (HG nd hp).symm.trans (HG nd xv)
     rw [this];exact .refl _
  obtain⟨j,hj,_,ej⟩:=qL t t 0 w (λk hk=>by rw [AO]) ∅ hw;have b0:(a7 t ds).getD 0 0=0:=rfl;have mem:(j,0)∈L:=Ğ.mpr ⟨by simp [a7],hj,(gB hj).mpr ⟨by rw [D.leaf j w hj ej,b0];exact DG _,λa ea=>by
   rcases jb t 0 j .aO hj with⟨_,e⟩ | ⟨a',u,v,_,ha,e,ep,_⟩
   ·rw [e] at ea;cases ea
   ·rw [e,AO] at ea;injection ea with ea;have:a'=a:=by omega
    subst this;have:=(D.pair a' u v ha ep).2.2;rw [b0];omega⟩⟩
  have il:=BM mem;refine⟨L.idxOf (j,0),by rw [hL];exact il,by rw [hL];exact á (L.length-L.idxOf (j,0)-1) _ ∅,?_⟩;unfold hm;rw [hS _ _ (IJ mem)];unfold GL;rw [b0,D.leaf j w hj ej,if_neg ∅,ej];simp [JQ,OG]
end
def HM (q:∀t:Tr,pS t->Q t.pv):eU.run Q:=LC q
theorem TV (g:pS t) (q:∀s,WG s t.aJ->Q (eN s)):(cC t.pv).run Q:=by
 have hz:=g.size;have hdp:=g.depth;unfold cC;simp only [f8,bv,cm 2 ⋯ ⋯];refine bo λd _ _=>?_;simp only [cq,ba,ev];cases c:d==0 with
 | true=>
  simp only [if_true];refine LB t ∅ Q ?_;rw [<- abb];exact q _ (KC ∅)
 | false=>
  simp only [Ak,if_false,bv];refine W.le.use (jC 12 t ∅ ∅) ?_;refine L6 t ∅ λds d D ajs=>?_;have SR:(splits t).length<=7:=by have:=G3 t;have:=g.few;omega
  have DDt:=DD.of (D.isD ∅);have hb:(a7 t ds).length<=16:=by unfold a7;rw [An,oI];have:=Jz t ds;omega
  refine PZ DDt ∅ Q ?_;rw [<- abH];exact q _ (MU DDt hz hb)
theorem zG {f:PV->W PV}{S:PV->Prop}:∀{l:List PV},(∀x∈l,∀R:PV->Prop,(∀v,S v->R v)->(f x).run R)->∀{Q:List PV->Prop},(∀m,m.length=l.length->(∀v∈m,S v)->Q m)->(mapW l f).run Q
 | [],_,Q,q=>q [] rfl (λ_ h=>nomatch h)
 | x::l,h,Q,q=>by
  show (am (f x) λy=>am (mapW l f) λm=>bd (y::m)).run Q;simp only [bv];refine h x (.head _) _ λv hv=>?_;refine zG (λy hy=>h y (.tail _ hy)) λm hm hs=>?_;exact q (v::m) (by simp [hm]) λu hu=>by
   rcases Ax.mp hu with rfl | hu
   ·exact hv
   ·exact hs u hu
theorem Jr:∀{m:List PV}{ls:List Str},(∀v∈m,∃w∈ls,v=PV.str w)->∃ws:List Str,m=ws.map PV.str/\∀w∈ws,w∈ls
 | [],_,_=>⟨[],rfl,λ_ h=>nomatch h⟩
 | v::m,ls,h=>by
  obtain⟨w,hw,rfl⟩:=h v (.head _);obtain⟨ws,rfl,h2⟩:=Jr (m:=m) (ls:=ls) λu hu=>h u (.tail _ hu);exact⟨w::ws,rfl,λx hx=>by
   rcases Ax.mp hx with rfl | hx
   ·exact hw
   ·exact h2 x hx⟩
theorem KR (g:pS t) (q:∀s:Tr,(∀w∈s.aJ,w∈t.aJ)->s.aJ.length<=10->Q s.pv):(eT t.pv).run Q:=by
 have hz:=g.size;have hdp:=g.depth;unfold eT;simp only [f8,bv];refine W.le.use (jC 12 t ∅ ∅) ?_
 let f:PV->Option PV:=λx=>match x with | .str w=>ap (.str w) | _=>bm
 have el:(t.nd 0).map Ent.pv=(Av t.size).map λj=>(en t 0 j).pv:=by
  apply Bn;intro i;by_cases hi:i < t.size
  ·rw [Aj,f7 t 0 i hi,Aj,Bw hi];rfl
  ·rw [Ay (by rw [cv];omega),Ay (by simp;omega)]
 rw [el];refine xg (λj=>match en t 0 j with | .word w=>ap (PV.str w) | .pair _ _=>bm) (λj hj R r=>?_) ?_
 ·cases e:en t 0 j with
  | word w=>rw [e] at r;simpa [Ent.pv] using r
  | pair a b=>rw [e] at r;simpa [Ent.pv] using r
 generalize hL:(Av t.size).filterMap (λj=>match en t 0 j with | .word w=>ap (PV.str w) | .pair _ _=>bm)=L;have Lm:∀v∈L,∃w∈t.aJ,v=PV.str w:=λv hv=>by
  rw [<- hL] at hv;obtain⟨j,hj,e⟩:=C7.mp hv;have hj:=AL.mp hj;cases e2:en t 0 j with
  | word w=>
   rw [e2] at e;exact⟨w,qT t 0 j w hj e2,(Option.some.inj e).symm⟩
  | pair a b=>rw [e2] at e;cases e
 have Ll:L.length<=1000:=by
  rw [<- hL];have:=List.length_filterMap_le (λj=>match en t 0 j with | .word w=>ap (PV.str w) | .pair _ _=>bm) (Av t.size);rw [BP] at this;omega
 have Ln:L≠[]:=λz=>by
  obtain⟨w,e⟩:=xS t 0;have:PV.str w∈L:=by
   rw [<- hL];exact C7.mpr ⟨0,AL.mpr t.size_pos,by rw [e]⟩
  rw [z] at this;cases this
 simp only [cm 8 ⋯ ⋯];refine bo λd d0 d1=>?_;obtain⟨n,hn,n0,n1⟩:∃n:Int,bX [PV.int 6,PV.int 10] (if (d==0)=true then 1 else 0)=ap (.int n)/\0 < n/\n<=10:=by
  by_cases h:d=0
  ·subst h;exact⟨10,rfl,by decide,by decide⟩
  ·have e:(d==0)=false:=by simpa using h
   rw [e];exact⟨6,rfl,by decide,by decide⟩
 simp only [cq,ev,n8,a8,hn,py,cm n n0 ∅];refine bo λk k0 k1=>?_;obtain⟨m,hm⟩:∃m:Nat,1+k=(m:Int):=⟨(1+k).toNat,by omega⟩;simp only [gH,ev,hm,fU,lm (cf (i:=0) (j:=(m:Int)) ∅ ∅),A4];refine zG (S:=λv=>∃w∈t.aJ,v=PV.str w) (λx _ R r=>pick_run Ln Ll λv hv=>r v (Lm v hv)) λms hl hs=>?_;obtain⟨ws,rfl,hw⟩:=Jr hs;rw [jF,Ag] at hl;refine yU (λz=>by rw [z] at hl;simp at hl;omega) ∅ λs hp=>q s (λw h=>hw w (hp.mem_iff.mp h)) (by rw [hp.length_eq];omega)
inductive WT where
 | lf (p:List Nat) (i:Nat)
 | nd (p:List Nat) (i:Nat) (nm:Str) (a b:WT)
namespace WT
def path:WT->List Nat
 | .lf p i=>p++[i]
 | .nd p i _ _ _=>p++[i]
def at':WT->Nat
 | .lf _ i=>i
 | .nd _ i _ _ _=>i
def deed:WT->Str
 | .lf _ _=>"found"
 | .nd _ _ nm _ _=>nm
def kids:WT->List WT
 | .lf _ _=>[]
 | .nd _ _ _ a b=>[a,b]
def pv:WT->PV
 | .lf p i=>.tup [.tup (aq (p++[i])),.str "found"]
 | .nd p i nm a b=>.tup [.tup (aq (p++[i])),.str nm,a.pv,b.pv]
def size:WT->Nat
 | .lf _ _=>1
 | .nd _ _ _ a b=>a.size+b.size+1
def depth:WT->Nat
 | .lf _ _=>0
 | .nd _ _ _ a b=>max a.depth b.depth+1
def Ok (g:List Sy):WT->Tr->Prop
 | .lf p i,.leaf w=>Ch g (p++[i])/\hm g i w=true
 | .nd p i nm a b,.node l r=>Ch g (p++[i])/\(∃x y r1 r2,(nm,x,y)∈yI g i/\a.path=x::r1/\b.path=y::r2)/\a.Ok g l/\b.Ok g r
 | _,_=>False
def pv_eq (u:WT):u.pv=.tup (.tup (aq u.path)::.str u.deed::u.kids.map pv):=by cases u <;> rfl
def path_eq (u:WT):∃p,u.path=p++[u.at']:=by cases u <;> exact⟨_,rfl⟩
def kids_len (u:WT):u.kids.length<=2:=by cases u <;> simp [kids]
def cut2 (u:WT):fH (.tup (aq u.path)::.str u.deed::u.kids.map pv) (ap 2) bm=u.kids.map pv:=by
 have:=yg (.tup (aq u.path)::.str u.deed::u.kids.map pv) (a:=2) (by simp);rw [show ((2:Nat):Int)=2 from rfl] at this;rw [this];rfl
end WT
theorem wok_wt:∀(s:Tr) (o:Nat),(∀k,k < s.size->en t 0 (o+k)=en s o k)->∀p w,QE g t (o+s.size-1) p w->∃u:WT,u.pv=w/\u.path=p/\u.Ok g s
 | .leaf x,o,hs,p,w,h=>by
  have e0:en t 0 o=.word x:=hs 0 (by show 0 < 1;decide);have ei:o+(Tr.leaf x).size-1=o:=by show o+1-1=o;omega
  rw [ei] at h;cases h with
  | @leaf _ q i w e c hh=>
   rw [e0] at e;cases e;exact⟨.lf q i,rfl,rfl,c,hh⟩
  | node e _ _ _ _=>rw [e0] at e;cases e
 | .node l r,o,hs,p,w,h=>by
  have es:(Tr.node l r).size=l.size+r.size+1:=rfl;have er:en t 0 (o+(l.size+r.size))=.pair (o+l.size-1) (o+l.size+r.size-1):=by rw [hs _ ∅,en,if_neg ∅,if_neg ∅]
  have ei:o+(Tr.node l r).size-1=o+(l.size+r.size):=by omega
  rw [ei] at h;have hl:∀k,k < l.size->en t 0 (o+k)=en l o k:=λk hk=>by rw [hs k ∅,en,if_pos hk]
  have hr:∀k,k < r.size->en t 0 (o+l.size+k)=en r (o+l.size) k:=λk hk=>by rw [Be,hs _ ∅,en,if_neg ∅,if_pos ∅,B8]
  cases h with
  | leaf e _ _=>rw [er] at e;cases e
  | @node _ q i a b nm x y p1 p2 wa wb e c hd h1 h2=>
  rw [er] at e;injection e with ea eb;subst ea;subst eb;obtain⟨u1,a1,a2,a3⟩:=wok_wt l o hl _ _ h1;obtain⟨u2,b1,b2,b3⟩:=wok_wt r (o+l.size) hr _ _ h2;exact⟨.nd q i nm u1 u2,by rw [WT.pv,a1,b1],rfl,c,⟨x,y,p1,p2,hd,a2,b2⟩,a3,b3⟩
def wok_root (h:QE g t (t.size-1) p w):∃u:WT,u.pv=w/\u.path=p/\u.Ok g t:=
 wok_wt t 0 (λk _=>by rw [AO]) p w (by rw [AO];exact h)
def WT.Ok.size:∀{u:WT}{s:Tr},u.Ok g s->u.size=s.size
 | .lf _ _,.leaf _,_=>rfl
 | .nd _ _ _ a b,.node l r,h=>by
  show a.size+b.size+1=l.size+r.size+1;rw [h.2.2.1.size,h.2.2.2.size]
def WT.Ok.depth:∀{u:WT}{s:Tr},u.Ok g s->u.depth=s.depth
 | .lf _ _,.leaf _,_=>rfl
 | .nd _ _ _ a b,.node l r,h=>by
  show max a.depth b.depth+1=max l.depth r.depth+1;rw [h.2.2.1.depth,h.2.2.2.depth]
end My
variable {s:My.Tr}
namespace My
open PySem PySem.Spec PyProof.Rows L2 PL FL
inductive XT where
 | lf (p:List Nat) (d:Str)
 | nd (p:List Nat) (d:Str) (a b:XT)
 | no (v:PV)
namespace XT
def path:XT->List Nat
 | .lf p _=>p
 | .nd p _ _ _=>p
 | .no _=>[]
def pv:XT->PV
 | .lf p d=>.tup [.tup (aq p),.str d]
 | .nd p d a b=>.tup [.tup (aq p),.str d,a.pv,b.pv]
 | .no v=>v
def post:XT->List XT
 | .lf p d=>[.lf p d]
 | .nd p d a b=>a.post++(b.post++[.nd p d a b])
 | .no v=>[.no v]
def pI (g:List Sy) (p:List Nat):Prop:=(∀x∈p,x < g.length)/\p.length<=900
def Uy (g:List Sy) (v:PV):Prop:=∀e:Ent,(bA (eN g) e.pv v).le (.ret (.bl false))
def In (g:List Sy):XT->Prop
 | .lf p _=>pI g p
 | .nd p _ a b=>pI g p/\a.In g/\b.In g
 | .no v=>Uy g v
def lk (g:List Sy):List Nat->Bool
 | i::k::r=>decide (k∈(sy g i).un)&&lk g (k::r)
 | _=>true
def pk (g:List Sy) (p:List Nat):Bool:=!p.isEmpty&&lk g p
def hd (u:XT):Nat:=u.path.headD 0
def sh (g:List Sy):XT->Ent->Bool
 | .lf p _,.word _=>pk g p
 | .nd p _ _ _,.pair _ _=>pk g p
 | _,_=>false
def dk (g:List Sy):XT->Ent->Bool
 | .lf p d,.word w=>d=="found"&&hm g (p.getLastD 0) w
 | .nd p d a b,_=>decide ((d,a.hd,b.hd)∈yI g (p.getLastD 0))
 | _,_=>false
def fm (g:List Sy):XT->Tr->Bool
 | .lf p _,.leaf _=>pk g p
 | .nd p _ a b,.node l r=>pk g p&&(fm g b r&&fm g a l)
 | _,_=>false
def dn (g:List Sy):XT->Tr->Bool
 | .lf p d,.leaf w=>d=="found"&&hm g (p.getLastD 0) w
 | .nd p d a b,.node l r=>dn g a l&&(dn g b r&&decide ((d,a.hd,b.hd)∈yI g (p.getLastD 0)))
 | _,_=>false
def pv_eq {u:XT} (h:u.path≠[]):∃l,u.pv=.tup (.tup (aq u.path)::l):=by
 cases u with
 | no=>exact absurd rfl h
 | _=>exact⟨_,rfl⟩
def NJ (h:pk g p=true):∃q i,p=q++[i]:=qA λz=>by subst z;cases h
end XT
open XT
theorem vi:∀{p:List Nat},(∀x∈p,x < g.length)->∃bs:List Bool,bs.all id=lk g p/\(mapW (dW (aq p) (aq (p.drop 1))) λGH=>am (pE GH) λpX=>am (am (cZ (eN g) pX.1) az) λl=>am (nS false pX.2 l) X4).le (.ret (bs.map PV.bl))
 | [],h=>⟨[],rfl,λQ q=>by
  have e:dW (aq []) (aq (([]:List Nat).drop 1))=[]:=rfl;rw [e];exact q⟩
 | [i],h=>⟨[],rfl,λQ q=>by
  have e:dW (aq [i]) (aq ([i].drop 1))=[]:=by show dW [PV.int (i:Int)] []=[];rw [dW];simp
  rw [e];exact q⟩
 | i::k::r,h=>by
  obtain⟨bs,h1,h2⟩:=vi (p:=k::r) λx hx=>h x (.tail _ hx);refine⟨decide (k∈(sy g i).un)::bs,by rw [List.all_cons,h1];rfl,λQ q=>?_⟩;have e:dW (aq (i::k::r)) (aq ((i::k::r).drop 1))=.tup [.int (i:Int),.int (k:Int)]::dW (aq (k::r)) (aq ((k::r).drop 1)):=by show dW (_::_) (_::_)=_;rw [dW];rfl
  rw [e];show (am (am (pE _) _) λy=>am (mapW _ _) λm=>bd (y::m)).run Q;simp only [iY,f8,nh (h i (.head _)),av,xq,Ak,if_false,U3,bv];exact W.le.use h2 q
theorem nB (h:pI g p):(bj (eN g) (.tup (aq p))).le (.ret (.bl (pk g p))):=λQ q=>by
 obtain⟨h,hl⟩:=h;unfold bj;cases p with
 | nil=>
  have q:Q (.bl false):=q;simpa [f9] using q
 | cons a p=>
 have c0:(((a::p).length:Int)==0)=false:=beq_eq_false_iff_ne.mpr (by simp;omega);simp only [f8,bv,cO,qQ,aX,ev,Bj,Ak,if_false,bD,bc,cq,ba,c0,av];refine oU (λ_=>.bl true) (λk hk=>wq (h k hk)) ?_;have e1:(a::p).map (λ_=>PV.bl true)=((a::p).map λ_=>true).map PV.bl:=by rw [AR];rfl
 have e2:((a::p).map λ_=>true).all id=true:=by simp
 rw [e1,iM,e2];have e3:fH (aq (a::p)) (ap 1) bm=aq ((a::p).drop 1):=by
  have:=yg (aq (a::p)) (a:=1) (by rw [bc];simp);rw [show ((1:Nat):Int)=1 from rfl] at this;rw [this];unfold aq;rw [Ex]
 simp only [ev,aX,Bj,Ak,if_false,dH,eZ,e3,av,bv];refine⟨aY (by rw [bc];omega),?_⟩;show (mapW _ _).run _;obtain⟨bs,b1,b2⟩:=vi h;refine W.le.use b2 ?_;rw [iM,b1];exact q
def LP {u:XT} (hu:u.In g) (e:Ent):(bA (eN g) e.pv u.pv).le (.ret (.bl (sh g u e))):=λQ q=>by
 have i0:∀(a:PV) (l:List PV),bX (a::l) 0=ap a:=λ_ _=>bw (j:=0) rfl;have i1:∀(a b:PV) (l:List PV),bX (a::b::l) 1=ap b:=λ_ _ _=>bw (j:=1) rfl;cases u with
 | no v=>cases e <;> exact hu _ Q q
 | lf p d=>
  unfold bA;cases e <;> simp only [XT.pv,Ent.pv,f8,c7,cO,dh,d6,aX,if_true,Ak,if_false,mG,An,AN]
  ·show (Gr (.bl true) _).run Q;simp only [fV,av,f8,a8,i0,i1,py,bv,c7,dh];refine W.le.use (nB hu) ?_;revert q;simp only [sh];cases pk g _ <;> exact id
  ·exact q
 | nd p d a b=>
  unfold bA;cases e <;> simp only [XT.pv,Ent.pv,f8,c7,cO,dh,d6,aX,if_true,Ak,if_false,mG,An,AN]
  ·exact q
  ·show (Gr (.bl true) _).run Q;simp only [fV,av,f8,a8,i0,i1,py,bv,c7,dh];refine W.le.use (nB hu.1) ?_;revert q;simp only [sh];cases pk g _ <;> exact id
theorem F0 {S T:Type} (f:PV->S->W (Lp S T)):∀(a b:List PV) (s:S),iy (a++b) s f=.bind (iy a s f) λo=>match o with | .go s'=>iy b s' f | .out t=>.ret (.out t)
 | [],b,s=>rfl
 | x::a,b,s=>by
  show am (f x s) (λo=>match o with | .go s'=>iy (a++b) s' f | .out t=>.ret (.out t))=am (f x s) λo=>am (match o with | .go s'=>iy a s' f | .out t=>.ret (.out t)) _;congr 1;funext o;cases o with
  | go s'=>exact F0 f a b s'
  | out t=>rfl
theorem j9 (lz:Int) (n:Nat):fq lz (n+1)=.int lz::fq (lz-1) n:=by
 unfold fq;rw [ET,Aw,AR];refine congr (congrArg _ (by simp)) (Cd λi _=>?_);show PV.int (lz-((i+1:Nat):Int))=_;congr 1;push_cast;omega
theorem vI (m:Nat):∀(lz:Int) (n:Nat),fq lz (n+m)=fq lz n++fq (lz-n) m
 | lz,0=>by simp [fq]
 | lz,n+1=>by
  rw [show n+1+m=(n+m)+1 by omega,j9,j9,vI m (lz-1) n,List.cons_append];congr 3;push_cast;omega
def Uo (g:List Sy) (S:List PV):XT->Ent->Lp (List PV) PV
 | .lf p _,.word _=>if pk g p=true then .go S else .out .aO
 | .nd p _ a b,.pair x y=>if pk g p=true then .go ((S.set x a.pv).set y b.pv) else .out .aO
 | _,_=>.out .aO
theorem tm:∀{u:XT}{s:Tr},fm g u s=true->u.post.length=s.size
 | .lf _ _,.leaf _,_=>rfl
 | .nd _ _ a b,.node l r,h=>by
  rw [fm,Az,Az] at h;show (a.post++(b.post++[_])).length=l.size+r.size+1;rw [Ad,Ad,tm h.2.1,tm h.2.2];rfl
def wD {A R:List α}{x v:α} (h:n=A.length):(A++x::R).set n v=A++v::R:=by subst h;simp
theorem TC:∀{M:List α}{n:Nat},n < M.length->∃A x R,M=A++x::R/\A.length=n
 | M,n,h=>⟨M.take n,M[n],M.drop (n+1),by simp,by simp;omega⟩
theorem w6 {f:PV->List PV->W (Lp (List PV) PV)} (hf:∀(j:Nat) (S:List PV) (u:XT),j < t.size->S.length=t.size->S[j]?=ap u.pv->u.In g->(f (.int (j:Int)) S).le (.ret (Uo g S u (en t 0 j)))) :
  ∀(s:Tr) (o:Nat),(∀k,k < s.size->en t 0 (o+k)=en s o k)->∀(u:XT),u.In g->∀A M B:List PV,A.length=o->M.length+1=s.size->A.length+(M.length+1+B.length)=t.size->
  (iy (fq (((o+M.length:Nat):Int)) s.size) (A++(M++u.pv::B)) f).le (.ret (if fm g u s=true then .go (A++(u.post.map XT.pv++B)) else .out .aO))
 | .leaf w,o,hs,u,hu,A,M,B,ha,hm,hz=>λQ q=>by
  have e1:(Tr.leaf w).size=0+1:=rfl;have e0:M=[]:=CA ∅;subst e0;have en0:en t 0 o=.word w:=hs 0 ∅;rw [e1,j9];show (am (f _ _) _).run Q;simp only [bv,AN,Nat.add_zero,Fb] at *;refine W.le.use (hf o _ u ∅ (by simp;omega) (by rw [AA ∅,ha,B1];rfl) hu) ?_;rw [en0];cases u with
  | lf p d=>
   have q:Q (if pk g p=true then _ else _):=q;cases c:pk g p <;> rw [c] at q <;> simp only [Uo,c] <;> exact q
  | nd=>exact q
  | no=>exact q
 | .node l r,o,hs,u,hu,A,M,B,ha,hm,hz=>λQ q=>by
  have es:(Tr.node l r).size=l.size+r.size+1:=rfl;have lp:=l.size_pos;have rp:=r.size_pos;have er:en t 0 (o+(l.size+r.size))=.pair (o+l.size-1) (o+l.size+r.size-1):=by rw [hs _ ∅,en,if_neg ∅,if_neg ∅]
  have hl:∀k,k < l.size->en t 0 (o+k)=en l o k:=λk hk=>by rw [hs k ∅,en,if_pos hk]
  have hr:∀k,k < r.size->en t 0 (o+l.size+k)=en r (o+l.size) k:=λk hk=>by rw [Be,hs _ ∅,en,if_neg ∅,if_pos ∅,B8]
  rw [es,j9];show (am (f _ _) _).run Q;rw [bv,show o+M.length=o+(l.size+r.size) by omega];refine W.le.use (hf (o+(l.size+r.size)) _ u ∅ (by simp;omega) (by rw [<- A3,AA (by simp;omega)];simp [show o+(l.size+r.size)-(A.length+M.length)=0 by omega]) hu) ?_;rw [er];cases u with
  | lf p d=>exact q
  | no=>exact q
  | nd p d a b=>
  have q:Q (if (pk g p&&(fm g b r&&fm g a l))=true then _ else _):=q;cases c:pk g p with
  | false=>
   rw [c] at q;simp only [Uo,c];exact q
  | true=>
  rw [c,CD] at q;simp only [Uo,c,if_true];obtain⟨M1,x,M2,rfl,h1⟩:=TC (M:=M) (n:=l.size-1) ∅;have h2:M1.length+(M2.length+1)=l.size+r.size:=by simp at hm;omega
  obtain⟨M3,y,rfl⟩:=qA (l:=M2) λz=>by subst z;simp at h2;omega
  simp at h2;have e1:((A++((M1++x::(M3++[y]))++(XT.nd p d a b).pv::B)).set (o+l.size-1) a.pv).set (o+l.size+r.size-1) b.pv=(A++(M1++[a.pv]))++(M3++b.pv::((XT.nd p d a b).pv::B)):=by
   rw [show A++((M1++x::(M3++[y]))++(XT.nd p d a b).pv::B)=(A++M1)++x::(M3++y::(XT.nd p d a b).pv::B) by simp,wD (by simp;omega),
    show (A++M1)++a.pv::(M3++y::(XT.nd p d a b).pv::B)=(A++(M1++a.pv::M3))++y::(XT.nd p d a b).pv::B by simp,wD (by simp;omega)]
   simp
  rw [e1,Nat.add_comm l.size r.size,vI,F0,bv,show (((o+(r.size+l.size):Nat):Int)-1)=((o+l.size+M3.length:Nat):Int) by omega];refine W.le.use (w6 hf r (o+l.size) hr b hu.2.2 (A++(M1++[a.pv])) M3 ((XT.nd p d a b).pv::B) (by simp;omega) ∅ (by simp;simp at hz;omega)) ?_;cases cb:fm g b r with
  | false=>
   rw [cb] at q;exact q
  | true=>
  rw [cb,CD] at q;have e2:(A++(M1++[a.pv]))++(b.post.map XT.pv++(XT.nd p d a b).pv::B)=A++(M1++a.pv::(b.post.map XT.pv++(XT.nd p d a b).pv::B)):=by simp
  simp only [if_true];rw [e2,show ((o+l.size+M3.length:Nat):Int)-(r.size:Int)=((o+M1.length:Nat):Int) by omega];have e3:A++(a.post.map XT.pv++(b.post.map XT.pv++(XT.nd p d a b).pv::B))=A++((XT.nd p d a b).post.map XT.pv++B):=by simp [XT.post]
  have bl:(b.post.map XT.pv).length=r.size:=by rw [Ag];exact tm cb
  refine w6 hf l o hl a hu.2.1 A M1 (b.post.map XT.pv++(XT.nd p d a b).pv::B) ha ∅ (by rw [Ad,bl];simp;simp at hz;omega) Q ?_;rw [e3];exact q
theorem QQ (hz:t.size<=900) {u:XT} (hu:u.In g):(bO (eN g) (.tup ((t.nd 0).map Ent.pv)) u.pv).le (.ret (if fm g u t=true then .cl (u.post.map XT.pv) else .aO)):=λQ q=>by
 have tp:=t.size_pos;unfold bO;simp only [f8,bv,av];refine kW (λ_=>.aO) (λx hx=>rfl) ?_;have e0:((t.nd 0).map Ent.pv).map (λ_=>PV.aO)=Al (t.size-1) PV.aO++[PV.aO]:=by
  rw [C3,cv,<- List.replicate_succ',Nat.sub_add_cancel tp]
 have ei:mn t.size (-1)=ap (t.size-1):=by
  unfold mn;rw [if_neg ∅,if_pos ∅];congr 1;omega
 have es:∀v,fX (Al (t.size-1) PV.aO++[.aO]) (.int (-1)) v=.ret (Al (t.size-1) PV.aO++[v]):=λv=>by
  show (match mn (Al (t.size-1) PV.aO++[PV.aO]).length (-1) with | some j=>_ | none=>_)=_;rw [Ad,A9,Dm,Nat.sub_add_cancel tp,ei];show bd _=_;rw [wD (by simp)]
 have õ:(((t.size:Nat):Int)-1 - -1).toNat=t.size:=by omega
 rw [e0];simp only [gr,ev,es,bD,cv,lA,xO,õ];refine⟨⟨trivial,cf ∅ ∅⟩,?_⟩;show (iy _ _ _).run _;rw [show (((t.size:Nat):Int)-1)=((0+(Al (t.size-1) PV.aO).length:Nat):Int) by simp;omega];refine w6 (g:=g) (t:=t) (λj S v hj hS hv hi R r=>?_) t 0 (λk _=>by rw [AO]) u hu [] _ [] rfl (by simp;omega) (by simp;omega) _ ?_
 ·have ļ:bX S (j:Int)=ap v.pv:=bw hv;simp only [a8,wZ t hj,py,ev,ļ,bv,av,f8];refine W.le.use (LP hi _) ?_;cases c:sh g v (en t 0 j) with
  | false=>
   have:Uo g S v (en t 0 j)=.out PV.aO:=by
    revert c;cases v <;> cases en t 0 j <;> simp [sh,Uo]
   rw [this] at r;exact r
  | true=>
   simp only [aX,ev,Bj,Ak,if_false,bv,o9,av,dH];cases e:en t 0 j with
   | word w=>
    cases v with
    | nd=>rw [e] at c;cases c
    | no=>cases c
    | lf p d=>
     have ec:fH [PV.tup (aq p),.str d] (ap 2) bm=[]:=rfl;have ez:m7 [] []=.ret []:=by unfold m7;rw [lm (aY (by simp))];congr 1
     rw [e] at c r;have c:pk g p=true:=c;simp only [Uo,c] at r;simp only [XT.pv,eZ,ec,ev,av,J7,f9,ez];exact r
   | pair x y=>
    cases v with
    | lf=>rw [e] at c;cases c
    | no=>cases c
    | nd p d a b=>
     have ec:fH [PV.tup (aq p),.str d,a.pv,b.pv] (ap 2) bm=[a.pv,b.pv]:=rfl;obtain⟨ha,hb⟩:=da t hj e;have ez:m7 [PV.int (x:Int),PV.int (y:Int)] [a.pv,b.pv]=.ret [.tup [.int (x:Int),a.pv],.tup [.int (y:Int),b.pv]]:=by
      unfold m7;rw [lm (aY (by simp))];congr 1
     rw [e] at c r;have c:pk g p=true:=c;simp only [Uo,c] at r;simp only [XT.pv,eZ,ec,ev,av,J7,gK,f9,ez,dG,iY,f8,bv,gC (show x < S.length by omega),gC (l:=S.set x a.pv) (show y < (S.set x a.pv).length by rw [BH];omega)];exact r
 ·cases c:fm g u t with
  | false=>rw [c] at q;exact q
  | true=>rw [c] at q;simpa using q
def XU (h:d∈dl g i):d∈yI g i:=by
 unfold dl at h;unfold yI;rcases Ax.mp h with rfl | h
 ·exact .head _
 refine AY _ ?_;rcases AG.mp h with h | h
 ·exact B4 _ h
 ·refine AU _ (CU.mpr ?_);rcases AG.mp h with h | h <;> obtain⟨o,ho,rfl⟩:=Au.mp h <;> exact⟨o,ho,by simp⟩
theorem XA (d e:Dd):kC (d2 d) (d2 e)=decide (d=e):=by
 obtain⟨n,x,y⟩:=d;obtain⟨m,u,v⟩:=e;rw [BR];simp [d2];intro _;omega
def LA (d f:Str):nV (.tup [.str d,.tup []]) [PV.tup [.str f,.tup []]]=(d==f):=by
 unfold nV;rw [Ck,List.any_nil,Bool.or_false,UY,Pb,Pc,Pb,UY,Xz,Ez,Ez,BR,beq_iff_eq,beq_iff_eq];exact eq_comm
def Xq {c:Dd->PV} (fk:∀d,PV.iu (c d)=true) (fd:∀d,PV.iz (c d)<=2) (fe:∀d e,kC (c d) (c e)=decide (d=e)) {l:List Dd} (d:Dd) (hp:m.Perm (l.map c)):nS false (c d) m=.ret (decide (d∈l)):=by
 have hm:∀x∈m,∃k∈l,c k=x:=λx hx=>Au.mp (hp.mem_iff.mp hx);have h1:Lu (c d) m:=⟨fk d,jH.mpr λx hx=>by
  obtain⟨k,_,rfl⟩:=hm x hx;exact fk k,A7 (jI (n:=2) λx hx=>by
  obtain⟨k,_,rfl⟩:=hm x hx;exact fd k) ⋯⟩
 have h2:nV (c d) m=decide (d∈l):=by
  unfold nV;rw [BR,BL];refine⟨λ⟨y,hy,e⟩=>?_,λh=>⟨c d,hp.mem_iff.mpr (Au.mpr ⟨d,by simpa using h,rfl⟩),tu _ (fk d)⟩⟩;obtain⟨k,hk,rfl⟩:=hm y hy;rw [fe] at e;have e:k=d:=by simpa using e
  simpa [<- e] using hk
 unfold nS;rw [lm h1,h2];rfl
def Gm {u:XT}{x:Nat}{r:List Nat} (h:u.path=x::r):bE u.pv=.ret (.int (x:Int)):=by
 obtain⟨l,e⟩:=XT.pv_eq (u:=u) (by rw [h];simp);have k0:∀(x:PV) (l:List PV),bX (x::l) 0=ap x:=λ_ _=>bw (j:=0) rfl;unfold bE;rw [e,h];simp only [f8,av,a8,gK,k0,py]
def Ke {u:XT} (h:u.path≠[]):∃r,u.path=u.hd::r:=by
 unfold XT.hd;cases e:u.path with
 | nil=>exact absurd e h
 | cons a r=>exact⟨r,rfl⟩
def gd (g:List Sy):XT->Prop
 | .lf _ _=>True
 | .nd _ _ a b=>a.path≠[]/\b.path≠[]
 | .no _=>True
def done_ev (G:WG g ws) {u:XT} (hu:pI g u.path) (hs:sh g u e=true) (hg:gd g u):(fy (eN g) e.pv u.pv).le (.ret (.bl (dk g u e))):=λQ q=>by
 have i0:∀(a:PV) (l:List PV),bX (a::l) 0=ap a:=λ_ _=>bw (j:=0) rfl;have i1:∀(a b:PV) (l:List PV),bX (a::b::l) 1=ap b:=λ_ _ _=>bw (j:=1) rfl;have hl:∃p i,u.path=p++[i]:=by cases u <;> cases e <;> first | cases hs;done | exact NJ hs
 obtain⟨p,i,e0⟩:=hl;have hi:i < g.length:=hu.1 i (by rw [e0];simp);unfold fy kX jB;cases u with
 | lf p' d=>
  cases e with
  | pair=>cases hs
  | word w=>
   have e0:p'=p++[i]:=e0;subst e0;have ec:fH [PV.tup (aq (p++[i])),.str d] (ap 2) bm=[]:=rfl;have em:∀f,mapW [] f=.ret []:=λ_=>rfl;have q:Q (.bl (d=="found"&&hm g ((p++[i]).getLastD 0) w)):=q;rw [show (p++[i]).getLastD 0=i by simp] at q;simp only [XT.pv,f8,bv,av,a8,i0,i1,py,ev,dH,eZ,ec,em,tD,gr,jZ];unfold eg;simp only [Ent.pv,f8,bv,c7,dh,aX,ev,if_true,Kb G hi];cases c:hm g i w with
   | false=>
    rw [c,B6] at q;exact⟨⟨by simp,by simp,by simp⟩,q⟩
   | true=>
    rw [c] at q;refine⟨⟨by simp,by simp,by simp⟩,?_⟩;show (X4 (nV _ _)).run Q;rw [LA];rw [Ez] at q;exact q
 | no=>cases hs
 | nd p' d a b=>
  cases e with
  | word=>cases hs
  | pair x y=>
   have e0:p'=p++[i]:=e0;subst e0;obtain⟨r1,h1⟩:=Ke hg.1;obtain⟨r2,h2⟩:=Ke hg.2;have ec:fH [PV.tup (aq (p++[i])),.str d,a.pv,b.pv] (ap 2) bm=[a.pv,b.pv]:=rfl;have em:mapW [a.pv,b.pv] (λp5=>bE p5)=.ret [.int (a.hd:Int),.int (b.hd:Int)]:=by
    show am (bE a.pv) (λu=>am (am (bE b.pv) λv=>[]\λm=>bd (v::m)) λm=>bd (u::m))=_;rw [Gm h1,Gm h2];rfl
   have q:Q (.bl (decide ((d,a.hd,b.hd)∈yI g ((p++[i]).getLastD 0)))):=q;rw [show (p++[i]).getLastD 0=i by simp] at q;simp only [XT.pv,f8,bv,av,a8,i0,i1,py,ev,dH,eZ,ec,em,tD,gr,jZ];refine vJ G hi λm hm=>?_;have:=Xq xJ Kh XA (d,a.hd,b.hd) hm;have e6:d2 (d,a.hd,b.hd)=.tup [.str d,.tup [.int (a.hd:Int),.int (b.hd:Int)]]:=rfl;rw [e6] at this;rw [this];have e7:decide ((d,a.hd,b.hd)∈dl g i)=decide ((d,a.hd,b.hd)∈yI g i):=by
    rw [BR];simp only [decide_eq_true_eq];exact⟨XU,PY⟩
   rw [e7];exact q
theorem yM (a:α->PV) (b:β->PV):∀(l:List α) (m:List β),dW (l.map a) (m.map b)=(l.zip m).map λp=>.tup [a p.1,b p.2]
 | [],m=>by cases m <;> rfl
 | x::l,[]=>by simp [dW]
 | x::l,y::m=>by rw [Aw,Aw,dW,yM a b l m];rfl
def xK {u:XT} (h:fm g u s=true):u.path≠[]:=by
 cases u <;> cases s <;> first | cases h;done | skip
 ·obtain⟨q,i,e⟩:=NJ h;show _≠_;rw [XT.path,e];simp
 ·rw [fm,Az] at h;obtain⟨q,i,e⟩:=NJ h.1;rw [XT.path,e];simp
theorem H9:∀{u:XT}{s:Tr} (o:Nat),u.In g->fm g u s=true->(∀p∈(s.nd o).zip u.post,pI g p.2.path/\sh g p.2 p.1=true/\gd g p.2)/\(((s.nd o).zip u.post).map λp=>dk g p.2 p.1).all id=dn g u s
 | .lf p d,.leaf w,o,hi,h=>⟨λx hx=>by
   have:x=(.word w,.lf p d):=by simpa [Tr.nd,XT.post] using hx
   subst this;exact⟨hi,h,trivial⟩,by simp [Tr.nd,XT.post,dk,dn]⟩
 | .nd p d a b,.node l r,o,hi,h=>by
  rw [fm,Az,Az] at h;obtain⟨a1,a2⟩:=H9 o hi.2.1 h.2.2;obtain⟨b1,b2⟩:=H9 (o+l.size) hi.2.2 h.2.1;have e:((Tr.node l r).nd o).zip (XT.nd p d a b).post=(l.nd o).zip a.post++((r.nd (o+l.size)).zip b.post++[(.pair (o+l.size-1) (o+l.size+r.size-1),.nd p d a b)]):=by
   show (l.nd o++r.nd (o+l.size)++[_]).zip (a.post++(b.post++[_]))=_;rw [A3,List.zip_append (by rw [l.bu,tm h.2.2]),List.zip_append (by rw [r.bu,tm h.2.1])];rfl
  rw [e];refine⟨λx hx=>?_,?_⟩
  ·simp only [AG,Bh] at hx;rcases hx with hx | hx | rfl
   ·exact a1 x hx
   ·exact b1 x hx
   ·exact⟨hi.1,h.1,xK h.2.2,xK h.2.1⟩
  ·rw [A5,A5,List.all_append,List.all_append,a2,b2];simp [dn,dk]
def wy (g:List Sy) (u:XT) (t:Tr):Bool:=fm g u t&&((u.path.length:Int)==1&&dn g u t)
theorem OE (G:WG g ws) (hw:t.Ws) (hz:t.size<=900) {u:XT} (hu:u.In g):(eQ (eN g) t.pv u.pv).le (.ret (.bl (wy g u t))):=λQ q=>by
 unfold eQ;simp only [f8,bv];refine W.le.use (Jl hw hz) ?_;simp only [aX,ev,Bj,Ak,if_false,bv];refine W.le.use (kT t hz) ?_;refine W.le.use (QQ hz hu) ?_;unfold wy at q;cases c:fm g u t with
 | false=>
  rw [c] at q;simp only [Ak,if_false,mP,PV.lg,ba,ev,if_true];exact q
 | true=>
 rw [c,CD] at q;obtain⟨l,el⟩:=XT.pv_eq (xK c);have k0:bX (PV.tup (aq u.path)::l) 0=ap (.tup (aq u.path)):=bw (j:=0) rfl;rw [el];simp only [if_true,mP,PV.lg,ba,ev,Ak,if_false,av,a8,k0,py,bD,bc,Ib,f8,bv];cases c1:(u.path.length:Int)==1 with
 | false=>
  rw [c1] at q;simpa using q
 | true=>
  rw [c1,CD] at q;obtain⟨f1,f2⟩:=H9 0 hu c;simp only [Bj,Ak,if_false,bT,bv,ev];refine⟨aY (by rw [cv];omega),?_⟩;show (mapW _ _).run _;rw [yM];refine iH (λp=>.bl (dk g p.2 p.1)) (λp hp R r=>?_) ?_
  ·obtain⟨h1,h2,h3⟩:=f1 p hp;simp only [iY,f8];exact done_ev G h1 h2 h3 R r
  ·rw [show ((t.nd 0).zip u.post).map (λp=>PV.bl (dk g p.2 p.1))=(((t.nd 0).zip u.post).map λp=>dk g p.2 p.1).map PV.bl by rw [AR];rfl,iM,f2];exact q
end My
variable {u:My.WT}{Q:List PL.PV->Prop}
namespace My
open PySem PySem.Spec PyProof.Rows L2 PL FL
open XT
def MC:PV->Bool
 | .ref _=>false
 | .ty _=>false
 | _=>true
def xn (h:MC x=true) (k:Kd):fF k x=.ret (.bl (k.is x)):=by cases x <;> first | rfl | cases h
theorem y6 (h:MC x=true) (hi:∀i,x=.int i->i < 0\/(g.length:Int)<=i):dD (eN g) x=.ret (.bl false):=by
 have e1:qa dQ [eN g]=.ret (.int (g.length:Int)):=by unfold eN;rw [bD,Ag]
 unfold dD;cases x with
 | int i=>
  simp only [f8,yP,fV,Kj,e1,tE];rcases hi i rfl with c | c
  ·rw [decide_eq_false ∅];rfl
  ·by_cases c0:0<=i
   ·rw [decide_eq_true c0,pw,decide_eq_false ∅]
   ·rw [decide_eq_false c0];rfl
 | _=>
  unfold fx;simp only [f8,xn h];rfl
def ny (h:MC x=true) (ht:Kd.is .tup x=false):bj (eN g) x=.ret (.bl false):=by
 unfold bj;simp only [f8,xn h,ht,aX,Ee,if_true]
def fS (g:List Sy):PV->Bool
 | .int i=>decide (0<=i/\i < (g.length:Int))
 | _=>false
theorem Q9 (h:MC x=true):dD (eN g) x=.ret (.bl (fS g x)):=by
 cases x with
 | int i=>
  by_cases c:0<=i/\i < (g.length:Int)
  ·obtain⟨n,rfl⟩:∃n:Nat,i=(n:Int):=⟨i.toNat,by omega⟩;rw [wq ∅];show _=bd (PV.bl (decide _));rw [decide_eq_true c]
  ·rw [y6 rfl λj hj=>by cases hj;omega];show _=bd (PV.bl (decide _));rw [decide_eq_false c]
 | _=>exact y6 h λj hj=>by cases hj
theorem zv (h:∀x∈l,MC x=true) (hx:x∈l) (hf:fS g x=false):bj (eN g) (.tup l)=.ret (.bl false):=by
 have hp:0 < l.length:=DT.mpr λz=>by subst z;cases hx
 have c0:((l.length:Int)==0)=false:=beq_eq_false_iff_ne.mpr ∅;have m2:mapW l (λp2=>dD (eN g) p2)=.ret ((l.map (fS g)).map PV.bl):=by
  rw [qJ (g:=λy=>.bl (fS g y)) λy hy=>Q9 (h y hy),AR];rfl
 have e3:(l.map (fS g)).all id=false:=by
  rw [List.all_eq_false];exact⟨_,Au.mpr ⟨x,hx,rfl⟩,by rw [hf];simp⟩
 unfold bj;simp only [f8,cO,qQ,aX,Bj,Ak,if_false,bD,cq,ba,c0,av,m2,iM,e3,Ee,if_true]
def eP (h:MC x=true) (ht:Kd.is .tup x=false):Uy g x:=λe Q q=>by
 unfold bA eR;cases e <;> simp only [Ent.pv,f8,c7,cO,dh,d6,aX,if_true,Ak,if_false,xn h,ht,qR] <;> exact q
theorem iU (h:l.length≠2) (h4:l.length≠4):Uy g (.tup l):=λe Q q=>by
 have a2:((l.length:Int)==2)=false:=beq_eq_false_iff_ne.mpr ∅;have a4:((l.length:Int)==4)=false:=beq_eq_false_iff_ne.mpr ∅;unfold bA;cases e <;> simp only [Ent.pv,f8,c7,cO,dh,d6,aX,if_true,Ak,if_false,mG,a2,a4,qR] <;> exact q
def wY {a b:PV}{r:List PV}{c:Bool} (ha:(bj (eN g) a).le (.ret (.bl c))) (hb:MC b=true) (h:c=false\/Kd.is .str b=false):Uy g (.tup (a::b::r)):=λe Q q=>by
 have i0:∀(a:PV) (l:List PV),bX (a::l) 0=ap a:=λ_ _=>bw (j:=0) rfl;have i1:∀(a b:PV) (l:List PV),bX (a::b::l) 1=ap b:=λ_ _ _=>bw (j:=1) rfl;have fin:(Gs (a\λx3=>bj (eN g) x3) (fF .str b)).run Q:=by
  simp only [f8,bv];refine W.le.use ha ?_;rw [xn hb];rcases h with h | h
  ·rw [h];exact q
  ·rw [h];cases c <;> exact q
 unfold bA;cases e <;> simp only [Ent.pv,f8,c7,cO,dh,d6,aX,if_true,Ak,if_false,mG,av,a8,i0,i1,py]
 ·cases (((a::b::r).length:Int)==2)
  ·exact q
  ·exact fin
 ·cases (((a::b::r).length:Int)==4)
  ·exact q
  ·exact fin
def Jf (g:List Sy) (s:Tr) (v:PV):Prop:=∃x:XT,x.pv=v/\x.In g/\(fm g x s&&dn g x s)=false
def i9 (h:Uy g v):Jf g s v:=⟨.no v,rfl,h,by cases s <;> rfl⟩
def TK (G:WG g ws) (hw:t.Ws) (hz:t.size<=900) (h:Jf g t v):(eQ (eN g) t.pv v).le (.ret (.bl false)):=by
 obtain⟨x,rfl,hi,hb⟩:=h;have:=OE G hw hz hi;have e:wy g x t=false:=by
  unfold wy;revert hb;cases fm g x t <;> cases dn g x t <;> simp
 rw [e] at this;exact this
def afw:yF 10 30:=by unfold yF;decide +kernel
def afx:yF 10 20:=by unfold yF;decide +kernel
theorem rD (q:∀l:List PV,l.length<=30->(∀v∈l,Uy g v)->Q l):cx.run Q:=by
 unfold cx;simp only [f8,bv,fU,lm (cf (i:=0) (j:=(45:Int)) ∅ ∅),ev];refine ly (n:=45) (λi s=>∃l,s=.tup l/\l.length<=1) ⟨[],rfl,by simp⟩ (λi s _ _=>⟨[s],rfl,by simp⟩) (λs hs=>?_);obtain⟨dl,rfl,hdl⟩:=hs;have p0:(bj (eN g) (.tup [])).le (.ret (.bl false)):=nB (g:=g) (p:=[]) ⟨λ_ h=>(A8 h).elim,A6 _⟩;have n1:∀a:PV,Uy g (.tup [a]):=λa=>iU (by simp) (by simp);simp only [ev,bv,gr,n6,Ia,lm afw];have ek:uB (.int 0)=.ret (.inl 0):=rfl;have ss:∀n:Nat,n<=30->n<=sizeLine:=λn h=>aY ∅;simp only [ek,ev];rw [ip (by simp)];simp only [ev];refine q _ (by simp) λv hv=>?_;simp only [AG,Ax,A8,or_false] at hv;rcases hv with (rfl | rfl | rfl | rfl | rfl | rfl | rfl | rfl | rfl | rfl | rfl | rfl | rfl) | rfl | rfl | rfl | rfl | rfl | rfl
 ·exact eP rfl rfl
 ·exact eP rfl rfl
 ·exact eP rfl rfl
 ·exact eP rfl rfl
 ·exact eP rfl rfl
 ·exact eP rfl rfl
 ·exact eP rfl rfl
 ·exact eP rfl rfl
 ·exact iU (by simp) (by simp)
 ·exact iU ∅ ∅
 ·exact eP rfl rfl
 ·exact eP rfl rfl
 ·exact eP rfl rfl
 ·exact n1 _
 ·exact n1 _
 ·exact iU (by simp) (by simp)
 ·exact eP rfl rfl
 ·exact wY p0 rfl (.inl rfl)
 ·exact eP rfl rfl
def xt:WT->XT
 | .lf p i=>.lf (p++[i]) "found"
 | .nd p i nm a b=>.nd (p++[i]) nm (xt a) (xt b)
theorem uX:∀u:WT,(xt u).pv=u.pv
 | .lf _ _=>rfl
 | .nd _ _ _ a b=>by rw [xt,XT.pv,uX a,uX b];rfl
theorem tN (G:WG g ws) (h:Ch g p):pI g p:=by
 refine⟨h.lt,?_⟩;cases p with
 | nil=>simp
 | cons a p=>have:=h.len G;have:=h.lt a (.head _);have:=G.len;rw [An];omega
theorem uY (G:WG g ws):∀{u:WT}{s:Tr},u.Ok g s->(xt u).In g
 | .lf p i,.leaf w,h=>tN G h.1
 | .nd p i nm a b,.node l r,h=>⟨tN G h.1,uY G h.2.2.1,uY G h.2.2.2⟩
def DN (d:Str):Prop:=d="split"\/d="doubled"\/d="over"\/d="found"
def PX (h:d∈yI g i):DN d.1:=by
 unfold yI at h;rcases Ax.mp h with rfl | h
 ·exact .inr (.inl rfl)
 ·rcases AG.mp h with h | h
  ·revert h;generalize (sy g i).un=l;intro h;unfold spl at h
   split at h
   ·simp at h;rcases h with rfl | rfl <;> exact .inl rfl
   ·cases h
  ·obtain⟨o,_,h⟩:=CU.mp h;simp at h;rcases h with rfl | rfl <;> exact .inr (.inr (.inl rfl))
def aaa:∀{u:WT}{s:Tr},u.Ok g s->DN u.deed
 | .lf p i,.leaf w,h=>.inr (.inr (.inr rfl))
 | .nd p i nm a b,.node l r,h=>by
  obtain⟨_,⟨x,y,r1,r2,hd,_⟩,_⟩:=h;exact PX hd
def oy (G:WG g ws) (h:u.Ok g s) {d:Str} (hd:¬DN d):Jf g s (.tup (.tup (aq u.path)::.str d::u.kids.map WT.pv)):=by
 match u,s,h with
 | .lf p i,.leaf w,h=>
  refine⟨.lf (p++[i]) d,rfl,tN G h.1,?_⟩;have:(d==("found":Str))=false:=beq_eq_false_iff_ne.mpr λz=>hd (.inr (.inr (.inr z)));rw [dn,this,Ef,B6]
 | .nd p i nm a b,.node l r,h=>
  refine⟨.nd (p++[i]) d (xt a) (xt b),?_,⟨tN G h.1,uY G h.2.2.1,uY G h.2.2.2⟩,?_⟩
  ·rw [XT.pv,uX,uX];rfl
  ·rw [dn,decide_eq_false λz=>hd (PX z),B6,B6,B6]
def abE:∀d:Str,DN d->QW d/\¬DN (KD d)/\¬DN (d++" ")/\d.length<=7/\¬DN (EA d bm (ap (-1))):=by
 intro d h;unfold DN QW;rcases h with rfl | rfl | rfl | rfl <;> refine⟨⟨by decide +kernel,aY (by decide +kernel)⟩,by decide +kernel,by decide +kernel,by decide +kernel,by decide +kernel⟩
def XR:¬DN "":=by unfold DN;decide +kernel
theorem Ri (h1:i < 300):KS (.int (i:Int)):=by
 have l2:∀n,n < 300->((toString ((n:Nat):Int):String):Str).length<=3:=by decide +kernel
 refine⟨by simp,?_,?_,?_⟩
 ·simp only [PV.pd,PyData.showable,decide_eq_true_iff];have:∀n:Nat,n < 300->((n:Nat):Int).natAbs.log2 < 1920:=by decide +kernel
  exact this i h1
 ·simp [PV.pd,PyData.depth]
 ·rw [PV.pd];simp only [PyData.shown];exact aY (by have:=l2 i h1;omega)
def JU {H:List Nat} (h:k < H.length):bX (aq H) (k:Int)=ap (.int ((H.getD k 0:Nat):Int)):=bw (by
 unfold aq;rw [Aj,Ap,Ae h];rfl)
def Ma (p:List Nat) (i j:Option Int):List Nat:=(p.drop (HT.dX p.length 0 i)).take (HT.dX p.length p.length j-HT.dX p.length 0 i)
def Ks (p:List Nat) (i j:Option Int):fH (aq p) i j=aq (Ma p i j):=by
 unfold fH Ma aq;rw [Ag,List.map_take,Ex]
theorem Gk (p:List Nat) (i j:Option Int):(Ma p i j).length<=p.length:=by
 unfold Ma;rw [Cm,CV];omega
theorem R6 (G:WG g ws) (h:u.Ok g s) (q:∀l:List PV,l.length<=60->(∀v∈l,Jf g s v)->Q l):(fC u.pv).run Q:=by
 have gl:=G.len;obtain⟨p,ep⟩:=u.path_eq;have hc:Ch g u.path:=by cases u <;> cases s <;> first | exact h.1 | cases h
 have hI:=tN G hc;have Á:u.path.length<=400:=by
  revert hc;cases e:u.path with
  | nil=>simp
  | cons a r=>intro hc;have:=hc.len G;have:=hc.lt a (.head _);rw [An];omega
 have hn:0 < u.path.length:=by rw [ep];simp
 have hkl:=u.kids_len;have dnd:=aaa h;obtain⟨u1,u2,u3,u4,u5⟩:=abE _ dnd;have k0:∀(x:PV) (l:List PV),bX (x::l) 0=ap x:=λ_ _=>bw (j:=0) rfl;have k1:∀(a b:PV) (l:List PV),bX (a::b::l) 1=ap b:=λ_ _ _=>bw (j:=1) rfl;have okd:=MC;rw [u.pv_eq];have c1:fH (.tup (aq u.path)::.str u.deed::u.kids.map WT.pv) (ap 1) bm=.str u.deed::u.kids.map WT.pv:=by
  have:=yg (.tup (aq u.path)::.str u.deed::u.kids.map WT.pv) (a:=1) (by simp);rw [show ((1:Nat):Int)=1 from rfl] at this;rw [this];rfl
 have c2:=u.cut2;have c3:fH (.tup (aq u.path)::.str u.deed::u.kids.map WT.pv) bm (ap 1)=[.tup (aq u.path)]:=by
  unfold fH;rw [HT.za,show (1:Int)=((1:Nat):Int) from rfl,HT.JB,Nat.min_eq_left (by simp)];rfl
 have Ç:∀{a b:PV}{r:List PV}{c:Bool},(bj (eN g) a).le (.ret (.bl c))->MC b=true->c=false\/Kd.is .str b=false->Jf g s (.tup (a::b::r)):=λh1 h2 h3=>i9 (wY h1 h2 h3);have pe:=nB hI;unfold fC;simp only [f8,bv,av,a8,k0,k1,py,ev,bD,bc,cm (u.path.length:Int) ∅ ∅,c1,c2,c3,dH,eZ];refine bo λat' a0 a1=>?_;obtain⟨k,rfl⟩:∃k:Nat,at'=(k:Int):=⟨at'.toNat,by omega⟩;have hk:k < u.path.length:=by omega
 have hx:u.path.getD k 0 < g.length:=hI.1 _ (by rw [Ap,Ae hk];exact Dv _);simp only [a8,JU hk,py,ev,iY,bv];generalize u.path.getD k 0=st at hx ⊢;have e1:VB (.int (st:Int))=.ret (.str (PV.pd (.int (st:Int))).shown):=lm (Ri ∅);simp only [e1,ev,gr,lA,Ia,lm afx,gH,tE,ba,cq,Ks,bT,n6,av,dH];refine W.mono _ (Q:=λol:List PV=>ol.length<=8/\∀x∈ol,MC x=true/\fS g x=false) (λol ć=>?_) ?_
 ·obtain⟨ol8,ć⟩:=ć;have Uq:∀n:Nat,n<=900->n<=sizeLine:=λn hn=>aY ∅;have hA:=Gk u.path bm (ap (k:Int));have hB:=Gk u.path (ap ((k:Int)+1)) bm;generalize hAe:Ma u.path bm (ap (k:Int))=A at hA ⊢;generalize hBe:Ma u.path (ap ((k:Int)+1)) bm=B at hB ⊢;have okn:∀(C:List Nat),∀y∈aq C,MC y=true:=λC y hy=>by
   obtain⟨n,_,rfl⟩:=Au.mp hy;rfl
  have kl:(u.kids.map WT.pv).length<=2:=by rw [Ag];exact hkl
  refine kW (λx=>.tup (.tup (aq A++[x]++aq B)::.str u.deed::u.kids.map WT.pv)) (λx hx=>?_) ?_
  ·simp only [f8,dH,eZ,Ks,hAe,hBe,qS,lm (Uq ((aq A).length+[x].length) (by rw [bc];simp;omega)),lm (Uq ((aq A++[x]).length+(aq B).length) (by rw [Ad,bc,bc];simp;omega))];rw [lm (Uq _ (by simp at kl ⊢;omega))];rfl
  have Yu:∀{a:PV},bj (eN g) a=.ret (.bl false)->(bj (eN g) a).le (.ret (.bl false)):=λe Q q=>by rw [e];exact q
  have ad:∀(a b:List PV),a.length+b.length<=900->addW (.tup a) (.tup b)=.ret (.tup (a++b)):=λa b SY=>by rw [qS,lm (Uq _ SY)]
  have adR:∀x:PV,addW (.tup [x]) (.tup (.str u.deed::u.kids.map WT.pv))=.ret (.tup (x::.str u.deed::u.kids.map WT.pv)):=λx=>ad [x] _ (by simp at kl ⊢;omega);have h0:bX (aq u.path) 0=ap (.int ((u.path.getD 0 0:Nat):Int)):=JU hn;have eu:upW (.str u.deed)=.ret (.str (KD u.deed)):=lm u1;have es:addW (.str u.deed) (.str " ")=.ret (.str (u.deed++" ")):=by
   rw [Kk];exact lm (Uq _ (by have:(" ":Str).length=1:=rfl;omega))
  have el:VH (.str u.deed) bm (ap (-1))=.ret (.str (EA u.deed bm (ap (-1)))):=lm (Uq _ ∅);simp only [adR,h0,py,ev,eu,es,el];rw [ip (by simp;omega)];simp only [ev];refine kW (λx=>.tup (.tup (aq u.path)::x::u.kids.map WT.pv)) (λx _=>?_) ?_
  ·rw [ad [.tup (aq u.path)] [x] (by simp)];simp only [f8];exact ad _ _ (by simp at kl ⊢;omega)
  rw [ip (by simp;omega)];simp only [ev];rw [ad _ _ (by simp at kl ⊢;omega)];simp only [ev];rw [ad _ _ (by simp at kl ⊢;omega)];simp only [ev,S9];rw [ip (by simp;omega)];refine q _ (by simp;omega) λv hv=>?_;have p0:(bj (eN g) (.tup [])).le (.ret (.bl false)):=nB (g:=g) (p:=[]) ⟨λ_ h=>(A8 h).elim,A6 _⟩;have aip:(u.kids.map WT.pv).length=0\/(u.kids.map WT.pv).length=2:=by cases u <;> simp [WT.kids]
  simp only [AG,Ax,A8,or_false,Au] at hv;rcases hv with ((⟨x,hx,rfl⟩ | rfl | rfl | rfl | rfl | rfl) | ⟨x,hx,rfl⟩) | rfl | rfl | rfl | rfl | rfl | rfl
  ·exact Ç (Yu (zv (x:=x) (λy hy=>by
    rcases AG.mp hy with hy | hy
    ·rcases AG.mp hy with hy | hy
     ·exact okn A y hy
     ·rw [Bh.mp hy];exact (ć x hx).1
    ·exact okn B y hy) (by simp) (ć x hx).2)) rfl (.inl rfl)
  ·exact Ç (Yu (ny rfl rfl)) rfl (.inl rfl)
  ·exact Ç p0 rfl (.inl rfl)
  ·exact Ç (Yu (ny rfl rfl)) rfl (.inl rfl)
  ·exact Ç (Yu (ny rfl rfl)) rfl (.inl rfl)
  ·exact i9 (eP rfl rfl)
  ·rcases hx with rfl | rfl | rfl | rfl | rfl | rfl | rfl | rfl | rfl
   ·exact Ç pe rfl (.inr rfl)
   ·exact oy G h u2
   ·exact Ç pe rfl (.inr rfl)
   ·exact Ç pe rfl (.inr rfl)
   ·exact Ç pe rfl (.inr rfl)
   ·exact Ç pe rfl (.inr rfl)
   ·exact oy G h u3
   ·exact oy G h u5
   ·exact oy G h XR
  ·exact i9 (iU (by rw [Ad];simp only [An,AN];omega) (by rw [Ad];simp only [An,AN];omega))
  ·exact i9 (iU (by simp) (by simp))
  ·refine i9 ?_;cases u with
   | lf p i=>exact iU (l:=[_]) (by simp) (by simp)
   | nd p i nm a b=>exact iU (l:=[_,_,_]) (by simp) (by simp)
  ·exact i9 (iU (by rw [Ad];simp only [An,AN];omega) (by rw [Ad];simp only [An,AN];omega))
  ·refine i9 ?_;cases u with
   | lf p i=>exact wY (a:=.str "found") (Yu (ny rfl rfl)) rfl (.inl rfl)
   | nd p i nm a b=>
    have ea:=a.pv_eq;refine wY (a:=b.pv) (b:=a.pv) (c:=false) ?_ (by rw [ea];rfl) (.inl rfl);rw [b.pv_eq];refine Yu (zv (x:=.tup (aq b.path)) (λy hy=>?_) (.head _) rfl);rcases Ax.mp hy with rfl | hy
    ·rfl
    ·rcases Ax.mp hy with rfl | hy
     ·rfl
     ·obtain⟨c,_,rfl⟩:=Au.mp hy;rw [c.pv_eq];rfl
  ·exact i9 (iU (by simp) (by simp))
 ·have fb:fS g (.int (-1-(st:Int)))=false:=decide_eq_false ∅;have fc:fS g (.int ((st:Int)+10 ^ Int.toNat 20))=false:=decide_eq_false (by
   have:(10:Int) ^ Int.toNat 20=100000000000000000000:=by decide +kernel
   omega)
  have base:∀x∈[PV.str (PV.pd (.int (st:Int))).shown,.tup [.int (st:Int)],.cl [.int (st:Int)],.aO,.int (-1-(st:Int)),.int ((st:Int)+10 ^ Int.toNat 20),Tp []],MC x=true/\fS g x=false:=λx hx=>by
   simp only [Ax,A8,or_false] at hx;rcases hx with rfl | rfl | rfl | rfl | rfl | rfl | rfl
   ·exact⟨rfl,rfl⟩
   ·exact⟨rfl,rfl⟩
   ·exact⟨rfl,rfl⟩
   ·exact⟨rfl,rfl⟩
   ·exact⟨rfl,fb⟩
   ·exact⟨rfl,fc⟩
   ·exact⟨rfl,rfl⟩
  cases decide ((st:Int) < 2) with
  | false=>exact⟨by simp,base⟩
  | true=>
   simp only [if_true,bv,ev];rw [iq (by simp)];refine⟨by simp,λx hx=>?_⟩;rcases AG.mp hx with hx | hx
   ·exact base x hx
   ·rw [Bh.mp hx];exact⟨rfl,rfl⟩
theorem oO (G:WG g ws) {T:List PV} (hT:T.length<=30) (hn:∀v∈T,Uy g v):∀(n:Nat) {u:WT}{s:Tr},u.Ok g s->u.depth < n->∀{Q:List PV->Prop},(∀l:List PV,l.length<=100->(∀v∈l,Jf g s v)->Q l)->(bG n u.pv (.cl T)).run Q
 | 0,_,_,_,h,_,_=>absurd h (Nat.not_lt_zero _)
 | n+1,u,s,h,hd,Q,q=>by
  have fin:(T\λl3=>am (fC u.pv) λl4=>mS l3 l4).run Q:=by
   simp only [f8,bv];refine R6 G h λl hl hb=>?_;rw [ip ∅];exact q _ (by rw [Ad];omega) λv hv=>(AG.mp hv).elim (λz=>i9 (hn v z)) (hb v)
  have Uq:∀n:Nat,n<=900->n<=sizeLine:=λn hn=>aY ∅;unfold bG
  match u,s,h,hd,q,fin with
  | .lf p i,.leaf w,h,hd,q,fin=>
   simp only [f8,n6];rw [WT.pv] at fin ⊢;simp only [bD,An,AN,cq,f8,ba];exact fin
  | .nd p i nm a b,.node l r,h,hd,q,fin=>
   have SX:max a.depth b.depth+1 < n+1:=hd;have e2:fH [PV.tup (aq (p++[i])),.str nm,a.pv,b.pv] bm (ap 2)=[.tup (aq (p++[i])),.str nm]:=rfl;have e3:fH [PV.tup (aq (p++[i])),.str nm,a.pv,b.pv] bm (ap 3)=[.tup (aq (p++[i])),.str nm,a.pv]:=rfl;have i2:bX [PV.tup (aq (p++[i])),.str nm,a.pv,b.pv] 2=ap a.pv:=rfl;have i3:bX [PV.tup (aq (p++[i])),.str nm,a.pv,b.pv] 3=ap b.pv:=rfl;have ez:((((0+1+1+1+1:Nat):Int)==2))=false:=by decide
   simp only [f8,n6];rw [WT.pv] at fin ⊢;simp only [bD,An,AN,cq,f8,ba,ez,Ak,if_false,bv,ev,cm 3 ⋯ ⋯];refine bo λd _ _=>?_;simp only [cq,ev,ba];cases d==0 with
   | true=>simp only [bv,f8] at fin ⊢;exact fin
   | false=>
    simp only [Ak,if_false,bv,ev,cm 2 ⋯ ⋯];refine bo λd2 _ _=>?_;simp only [cq,ev,ba];have ad:∀(a b:List PV),a.length+b.length<=900->addW (.tup a) (.tup b)=.ret (.tup (a++b)):=λa b SY=>by rw [qS,lm (Uq _ SY)]
    have ia:=uY G h.2.2.1;have ib:=uY G h.2.2.2;cases d2==0 with
    | true=>
     simp only [if_true,av,a8,i2,i3,py,ev,bv,f8,dH,eZ,e2];refine oO G hT hn n h.2.2.1 ∅ λz hl hb=>?_;refine kW (λx=>.tup [.tup (aq (p++[i])),.str nm,x,b.pv]) (λx _=>ad _ _ (by simp)) ?_;refine q _ (by rw [Ag];exact hl) λv hv=>?_;obtain⟨x,hx,rfl⟩:=Au.mp hv;obtain⟨y,rfl,hy,hf⟩:=hb x hx;refine⟨.nd (p++[i]) nm y (xt b),by rw [XT.pv,uX],⟨tN G h.1,hy,ib⟩,?_⟩;rw [fm,dn];revert hf;cases fm g y l <;> cases dn g y l <;> simp
    | false=>
     simp only [Ak,if_false,av,a8,i2,i3,py,ev,bv,f8,dH,eZ,e3];refine oO G hT hn n h.2.2.2 ∅ λz hl hb=>?_;refine kW (λx=>.tup [.tup (aq (p++[i])),.str nm,a.pv,x]) (λx _=>ad _ _ (by simp)) ?_;refine q _ (by rw [Ag];exact hl) λv hv=>?_;obtain⟨x,hx,rfl⟩:=Au.mp hv;obtain⟨y,rfl,hy,hf⟩:=hb x hx;refine⟨.nd (p++[i]) nm (xt a) y,by rw [XT.pv,uX],⟨tN G h.1,ia,hy⟩,?_⟩;rw [fm,dn];revert hf;cases fm g y r <;> cases dn g y r <;> simp
theorem law18_ok:∀ns:List Int,ns.length<=63->(nI (.cl (ns.map PV.int))).run (·=.bl true):=λns hn=>by
 unfold nI;simp only [f8,bv,iJ,Ag,XF,XG,ev];obtain⟨k,hk,k1⟩:∃k:Nat,(if (if (6:Int) < (ns.length:Int) then (6:Int) else (ns.length:Int)) > 1 then (if (6:Int) < (ns.length:Int) then (6:Int) else (ns.length:Int)) else 1)=(k:Int)/\k<=6:=by
  refine⟨(if (if (6:Int) < (ns.length:Int) then (6:Int) else (ns.length:Int)) > 1 then (if (6:Int) < (ns.length:Int) then (6:Int) else (ns.length:Int)) else 1).toNat,?_,?_⟩ <;> split <;> split <;> omega
 rw [hk];simp only [fU,lm (cf (i:=0) (j:=(k:Int)) ∅ ∅),ev,A4];refine O4 (λ_ _=>True) trivial (λi _ hi _=>?_) (λ_ _=>rfl);simp only [bv];refine RD ∅ λl hl=>⟨hl,?_⟩;unfold gE;simp only [bv,f8];refine HM λt g=>?_;refine TV g λs G=>?_;refine KR g λu hu hul=>?_;have hz:u.size<=900:=by have:=u.size_eq;omega
 have hd:u.depth < 12:=by have:=u.oh;omega
 have uw:u.Ws:=λw hw=>g.ws w (hu w hw);refine whole_run G hu hd hz λi0 w0 W0=>?_;obtain⟨v,rfl,vp,ok⟩:=wok_root W0;have vd:=ok.depth;simp only [ev,Pf];refine rD (g:=s) λT hT hnT=>?_;refine oO G hT hnT 12 ok ∅ λl1 h1 b1=>?_;refine rD (g:=s) λT2 hT2 ī=>?_;rw [ip ∅];simp only [ev];have bad:∀x∈l1++T2,Jf s u x:=λx hx=>(AG.mp hx).elim (b1 x) λz=>i9 (ī x z);refine xI (λ_ _=>True) trivial (λj x _ hx _=>?_) (λ_ _=>?_)
 ·simp only [bv];refine W.le.use (TK G uw hz (bad x (Bm hx))) ?_;simp only [vD,beq_self_eq_true,Bj,ba,ev,Ak,if_false]
 ·simp only [Xu,bv];refine W.le.use (OD G uw hz W0) ?_;have e1:((([i0]:List Nat).length:Int)==1)=true:=rfl;simp only [e1,vD,beq_self_eq_true,Bj,ba,ev,Ak,if_false]
end My
variable {kO u7 Jo yW M7 Jq Jp M6 u9:PySem.Tok}
namespace My
section
open PySem PySem.Spec PyProof.Rows L2 PL FL
def top (i:Nat):sK:=PySem.Challenge.pw_treewithin_k18_ways_of_anything.main.body.getD i (.Pass ⟨0,0,0,0⟩)
def sc_is_whole:ar ["thing"] ["thing"] (ai (top 1)):=gk
def sc_is_row:ar ["thing","many"] ["thing","many"] (ai (top 2)):=gk
abbrev N_is_word:List Str:=["thing"]
def sc_is_word:ar N_is_word ["thing"] (ai (top 6)):=gk
abbrev lsc_is_word_0:nw:=mh [("sign",lo),("LETTERS",gi)]
def lc_is_word_0:aG (ai (top 6)) N_is_word lsc_is_word_0 ["sign"] [bm]:=lcs
def sc_is_grown:ar ["thing","is_leaf","often","seen","waiting","part"] ["thing","is_leaf","often"] (ai (top 7)):=gk
def sc_is_tree:ar ["thing"] ["thing"] (ai (top 8)):=gk
def sc_parts_of:ar ["tree","backward","waiting","part"] ["tree"] (ai (top 9)):=gk
def sc_nodes:ar ["tree","told","loose","part","other","one"] ["tree"] (ai (top 10)):=gk
def sc_halves:ar ["node"] ["node"] (ai (top 11)):=gk
abbrev N_ahead_of:List Str:=["tree","told","node","ahead","number","half"]
def sc_ahead_of:ar N_ahead_of ["tree"] (ai (top 12)):=gk
abbrev lsc_ahead_of_0:nw:=mh [("node",lo)]
def lc_ahead_of_0:aG (ai (top 12)) N_ahead_of lsc_ahead_of_0 ["node"] [bm]:=lcs
def sc_under_at:ar ["stays","stay"] ["stays","stay"] (ai (top 17)):=gk
def sc_beside_at:ar ["stays","stay"] ["stays","stay"] (ai (top 18)):=gk
def sc_is_home:ar ["stays","stay","word"] ["stays","stay","word"] (ai (top 19)):=gk
def sc_name_of:ar ["houses","house"] ["houses","house"] (ai (top 20)):=gk
abbrev N_lines_up:List Str:=["great","ahead","house","lines","above"]
def sc_lines_up:ar N_lines_up ["great"] (ai (top 21)):=gk
abbrev lsc_lines_up_0:nw:=mh [("house",lo)]
def lc_lines_up_0:aG (ai (top 21)) N_lines_up lsc_lines_up_0 ["house"] [bm]:=lcs
abbrev N_apart_from:List Str:=["lines","house"]
def sc_apart_from:ar N_apart_from ["lines","house"] (ai (top 22)):=gk
abbrev lsc_apart_from_0:nw:=mh [("far",lo),("house",fr),("lines",fr)]
def lc_apart_from_0:aG (ai (top 22)) N_apart_from lsc_apart_from_0 ["far","house","lines"] [bm,ap 1,ap 0]:=lcs
abbrev N_ground:List Str:=["great","houses","lines"]
def sc_ground:ar N_ground ["great"] (ai (top 23)):=gk
abbrev lsc_ground_0:nw:=mh [("house",lo),("name_of",gi),("halves",gi),("apart_from",gi),("houses",fr),("lines",fr)]
def lc_ground_0:aG (ai (top 23)) N_ground lsc_ground_0 ["house","houses","lines"] [bm,ap 1,ap 2]:=lcs
def sc_comes_in:ar ["way"] ["way"] (ai (top 29)):=gk
def sc_done_at:ar ["way"] ["way"] (ai (top 30)):=gk
abbrev N_ins_of:List Str:=["way"]
def sc_ins_of:ar N_ins_of ["way"] (ai (top 31)):=gk
abbrev lsc_ins_of_0:nw:=mh [("half",lo),("comes_in",gi)]
def lc_ins_of_0:aG (ai (top 31)) N_ins_of lsc_ins_of_0 ["half"] [bm]:=lcs
def sc_split_ins:ar ["ground","stay","under"] ["ground","stay"] (ai (top 32)):=gk
abbrev N_over_ins:List Str:=["ground","stay","beside"]
def sc_over_ins:ar N_over_ins ["ground","stay"] (ai (top 33)):=gk
abbrev lsc_over_ins_0:nw:=mh [("far",lo),("stay",fr)]
abbrev lsc_over_ins_1:nw:=mh [("far",lo),("stay",fr)]
def lc_over_ins_0:aG (ai (top 33)) N_over_ins lsc_over_ins_0 ["far","stay"] [bm,ap 1]:=lcs
def lc_over_ins_1:aG (ai (top 33)) N_over_ins lsc_over_ins_1 ["far","stay"] [bm,ap 1]:=lcs
abbrev N_deeds_at:List Str:=["ground","node","stay","split","over"]
def sc_deeds_at:ar N_deeds_at ["ground","node","stay"] (ai (top 34)):=gk
abbrev lsc_deeds_at_0:nw:=mh [("ins",lo),("SPLIT",gi)]
abbrev lsc_deeds_at_1:nw:=mh [("ins",lo),("OVER",gi)]
def lc_deeds_at_0:aG (ai (top 34)) N_deeds_at lsc_deeds_at_0 ["ins"] [bm]:=lcs
def lc_deeds_at_1:aG (ai (top 34)) N_deeds_at lsc_deeds_at_1 ["ins"] [bm]:=lcs
def sc_is_stay:ar ["ground","thing"] ["ground","thing"] (ai (top 35)):=gk
abbrev N_is_path:List Str:=["ground","thing"]
def sc_is_path:ar N_is_path ["ground","thing"] (ai (top 36)):=gk
abbrev lsc_is_path_0:nw:=mh [("stay",lo),("is_stay",gi),("ground",fr)]
abbrev lsc_is_path_1:nw:=mh [("stay",lo),("below",lo),("under_at",gi),("ground",fr)]
def lc_is_path_0:aG (ai (top 36)) N_is_path lsc_is_path_0 ["stay","ground"] [bm,ap 0]:=lcs
def lc_is_path_1:aG (ai (top 36)) N_is_path lsc_is_path_1 ["stay","below","ground"] [bm,bm,ap 0]:=lcs
def sc_is_formed:ar ["ground","node","thing","many"] ["ground","node","thing"] (ai (top 37)):=gk
abbrev N_ways_of_nodes:List Str:=["ground","told","thing","node","ways","number","way","half","part"]
def sc_ways_of_nodes:ar N_ways_of_nodes ["ground","told","thing"] (ai (top 38)):=gk
abbrev lsc_ways_of_nodes_0:nw:=mh [("node",lo)]
def lc_ways_of_nodes_0:aG (ai (top 38)) N_ways_of_nodes lsc_ways_of_nodes_0 ["node"] [bm]:=lcs
def sc_is_done:ar ["ground","node","way"] ["ground","node","way"] (ai (top 39)):=gk
abbrev N_is_way:List Str:=["ground","small","thing","told","ways"]
def sc_is_way:ar N_is_way ["ground","small","thing"] (ai (top 40)):=gk
abbrev lsc_is_way_0:nw:=mh [("node",lo),("way",lo),("is_done",gi),("ground",fr)]
def lc_is_way_0:aG (ai (top 40)) N_is_way lsc_is_way_0 ["node","way","ground"] [bm,bm,ap 0]:=lcs
abbrev N_split_dates:List Str:=["houses","dates"]
def sc_split_dates:ar N_split_dates ["houses","dates"] (ai (top 42)):=gk
abbrev lsc_split_dates_0:nw:=mh [("house",lo),("date",lo),("isinstance",gi),("str",gi)]
def lc_split_dates_0:aG (ai (top 42)) N_split_dates lsc_split_dates_0 ["house","date"] [bm,bm]:=lcs
def sc_standing:ar ["great","dates","begins","ahead","pairs","number","begin","house","date"] ["great","dates","begins"] (ai (top 43)):=gk
abbrev N_stay_of:List Str:=["houses","dates","begins","numbers","pair","house","layer","goes_on","below","under","beside"]
def sc_stay_of:ar N_stay_of ["houses","dates","begins","numbers","pair"] (ai (top 44)):=gk
abbrev lsc_stay_of_0:nw:=mh [("each",lo),("layer",fr),("numbers",fr)]
abbrev lsc_stay_of_1:nw:=mh [("far",lo),("house",fr),("layer",fr),("numbers",fr)]
def lc_stay_of_0:aG (ai (top 44)) N_stay_of lsc_stay_of_0 ["each","layer","numbers"] [bm,ap 6,ap 3]:=lcs
def lc_stay_of_1:aG (ai (top 44)) N_stay_of lsc_stay_of_1 ["far","house","layer","numbers"] [bm,ap 5,ap 6,ap 3]:=lcs
abbrev N_dated:List Str:=["great","dates","houses","begins","pairs","numbers"]
def sc_dated:ar N_dated ["great","dates"] (ai (top 45)):=gk
abbrev lsc_dated_0:nw:=mh [("number",lo),("pair",lo)]
abbrev lsc_dated_1:nw:=mh [("pair",lo),("stay_of",gi),("begins",fr),("dates",fr),("houses",fr),("numbers",fr)]
def lc_dated_0:aG (ai (top 45)) N_dated lsc_dated_0 ["number","pair"] [bm,bm]:=lcs
def lc_dated_1:aG (ai (top 45)) N_dated lsc_dated_1 ["pair","begins","dates","houses","numbers"] [bm,ap 3,ap 1,ap 2,ap 5]:=lcs
def sc__law_pot:ar ["_law_script","_law_k","_law_cell","_law_digits"] ["_law_script","_law_k"] (ai (top 47)):=gk
def sc__law_take:ar ["_law_pot_here","_law_many","_law_digit","_law_mixed"] ["_law_pot_here","_law_many"] (ai (top 48)):=gk
def sc__law_pick:ar ["_law_pot_here","_law_some"] ["_law_pot_here","_law_some"] (ai (top 49)):=gk
def sc__law_words:ar ["_law_pot_here","_law_many","_law_letters","_law_first","_law_turn","_law_stem","_law_ends","_law_found","_law_k","_law_letter"] ["_law_pot_here","_law_many"] (ai (top 50)):=gk
def sc__law_tree:ar ["_law_pot_here","_law_words_here","_law_some","_law_way_here","_law_at","_law_pair"] ["_law_pot_here","_law_words_here"] (ai (top 51)):=gk
def sc__law_great:ar ["_law_pot_here"] ["_law_pot_here"] (ai (top 52)):=gk
def sc__law_nodes:ar ["_law_tree_here","_law_rows","_law_many","_law_row"] ["_law_tree_here"] (ai (top 53)):=gk
abbrev N__law_dates:List Str:=["_law_pot_here","_law_rows","_law_dates_here","_law_house","_law_left","_law_date","_law_ready"]
def sc__law_dates:ar N__law_dates ["_law_pot_here","_law_rows"] (ai (top 54)):=gk
abbrev lsc__law_dates_0:nw:=mh [("_law_house",lo),("_law_row",lo),("isinstance",gi),("str",gi)]
abbrev lsc__law_dates_1:nw:=mh [("_law_house",lo),("_law_left",fr),("_law_rows",fr)]
def lc__law_dates_0:aG (ai (top 54)) N__law_dates lsc__law_dates_0 ["_law_house","_law_row"] [bm,bm]:=lcs
def lc__law_dates_1:aG (ai (top 54)) N__law_dates lsc__law_dates_1 ["_law_house","_law_left","_law_rows"] [bm,ap 4,ap 1]:=lcs
abbrev N__law_small:List Str:=["_law_pot_here","_law_great_here","_law_words_here","_law_many"]
def sc__law_small:ar N__law_small ["_law_pot_here","_law_great_here"] (ai (top 55)):=gk
abbrev lsc__law_small_0:nw:=mh [("_law_row",lo),("isinstance",gi),("str",gi)]
abbrev lsc__law_small_1:nw:=mh [("_law_k",lo),("_law_pick",gi),("_law_pot_here",fr),("_law_words_here",fr)]
def lc__law_small_0:aG (ai (top 55)) N__law_small lsc__law_small_0 ["_law_row"] [bm]:=lcs
def lc__law_small_1:aG (ai (top 55)) N__law_small lsc__law_small_1 ["_law_k","_law_pot_here","_law_words_here"] [bm,ap 0,ap 2]:=lcs
def sc__law_any_ground:ar ["_law_pot_here","_law_great_here"] ["_law_pot_here","_law_great_here"] (ai (top 56)):=gk
def sc__law_deeds:ar ["_law_stays","_law_stay","_law_name","_law_level","_law_under","_law_beside","_law_found","_law_other"] ["_law_stays","_law_stay"] (ai (top 57)):=gk
abbrev N__law_done:List Str:=["_law_stays","_law_rows","_law_can_here","_law_node","_law_stay","_law_row"]
def sc__law_done:ar N__law_done ["_law_stays","_law_rows","_law_can_here","_law_node","_law_stay"] (ai (top 58)):=gk
abbrev lsc__law_done_0:nw:=mh [("_law_one",lo),("_law_can_here",fr),("_law_row",fr)]
def lc__law_done_0:aG (ai (top 58)) N__law_done lsc__law_done_0 ["_law_one","_law_can_here","_law_row"] [bm,ap 2,ap 5]:=lcs
abbrev N__law_can:List Str:=["_law_stays","_law_rows","_law_found","_law_node","_law_stay","_law_on"]
def sc__law_can:ar N__law_can ["_law_stays","_law_rows"] (ai (top 59)):=gk
abbrev lsc__law_can_0:nw:=mh [("_law_low",lo),("_law_found",fr),("_law_node",fr)]
def lc__law_can_0:aG (ai (top 59)) N__law_can lsc__law_can_0 ["_law_low","_law_found","_law_node"] [bm,ap 2,ap 3]:=lcs
abbrev N__law_path:List Str:=["_law_pot_here","_law_stays","_law_rows","_law_can_here","_law_node","_law_stay","_law_path_here","_law_turn","_law_on","_law_ends"]
def sc__law_path:ar N__law_path ["_law_pot_here","_law_stays","_law_rows","_law_can_here","_law_node","_law_stay"] (ai (top 60)):=gk
abbrev lsc__law_path_0:nw:=mh [("_law_low",lo),("_law_can_here",fr),("_law_node",fr)]
abbrev lsc__law_path_1:nw:=mh [("_law_low",lo),("_law_can_here",fr),("_law_node",fr)]
def lc__law_path_0:aG (ai (top 60)) N__law_path lsc__law_path_0 ["_law_low","_law_can_here","_law_node"] [bm,ap 3,ap 4]:=lcs
def lc__law_path_1:aG (ai (top 60)) N__law_path lsc__law_path_1 ["_law_low","_law_can_here","_law_node"] [bm,ap 3,ap 4]:=lcs
def sc__law_way:ar ["_law_pot_here","_law_stays","_law_rows","_law_can_here","_law_node","_law_path_here","_law_deed","_law_one","_law_other","_law_row","_law_first"] ["_law_pot_here","_law_stays","_law_rows","_law_can_here","_law_node","_law_path_here"] (ai (top 61)):=gk
abbrev N__law_whole_way:List Str:=["_law_pot_here","_law_stays","_law_small_here","_law_rows","_law_can_here","_law_last","_law_some"]
def sc__law_whole_way:ar N__law_whole_way ["_law_pot_here","_law_stays","_law_small_here"] (ai (top 62)):=gk
abbrev lsc__law_whole_way_0:nw:=mh [("_law_stay",lo),("_law_done",gi),("_law_can_here",fr),("_law_last",fr),("_law_rows",fr),("_law_stays",fr)]
def lc__law_whole_way_0:aG (ai (top 62)) N__law_whole_way lsc__law_whole_way_0 ["_law_stay","_law_can_here","_law_last","_law_rows","_law_stays"] [bm,ap 4,ap 5,ap 3,ap 1]:=lcs
def sc__law_scene:ar ["_law_pot_here","_law_great_here","_law_stays","_law_small_here"] ["_law_pot_here"] (ai (top 63)):=gk
def dm:ar ["_law_deep","_law_turn","_law_some"] [] (ai (top 64)):=gk
abbrev mY:List Str:=["_law_pot_here","_law_way_here","_law_at","_law_path_here","_law_stay","_law_odd_here","_law_found","_law_deeds_here"]
def cz:ar mY ["_law_pot_here","_law_way_here"] (ai (top 65)):=gk
abbrev sC:nw:=mh [("_law_one",lo),("_law_at",fr),("_law_path_here",fr),("_law_way_here",fr)]
abbrev sA:nw:=mh [("_law_one",lo),("_law_way_here",fr)]
def ml:aG (ai (top 65)) mY sC ["_law_one","_law_at","_law_path_here","_law_way_here"] [bm,ap 2,ap 3,ap 1]:=lcs
def mj:aG (ai (top 65)) mY sA ["_law_one","_law_way_here"] [bm,ap 1]:=lcs
abbrev je:List Str:=["_law_pot_here","_law_way_here","_law_things_here"]
def rL:ar je ["_law_pot_here","_law_way_here","_law_things_here"] (ai (top 66)):=gk
abbrev nM:nw:=mh [("_law_one",lo),("_law_way_here",fr)]
abbrev nK:nw:=mh [("_law_one",lo),("_law_way_here",fr)]
def jE:aG (ai (top 66)) je nM ["_law_one","_law_way_here"] [bm,ap 1]:=lcs
def jD:aG (ai (top 66)) je nK ["_law_one","_law_way_here"] [bm,ap 1]:=lcs
def sc_law:ar ["_law_script","_law_k","_law_pot_here","_law_great_here","_law_stays","_law_small_here","_law_way_here","_law_thing"] ["_law_script"] (ai (top 67)):=gk
structure NB (v:EV):Prop where
 isinstance:v.mg "isinstance"=bm
 bool:v.mg "bool"=bm
 int:v.mg "int"=bm
 len:v.mg "len"=bm
 tuple:v.mg "tuple"=bm
 str:v.mg "str"=bm
 all:v.mg "all"=bm
 list:v.mg "list"=bm
 reversed:v.mg "reversed"=bm
 enumerate:v.mg "enumerate"=bm
 range:v.mg "range"=bm
 sorted:v.mg "sorted"=bm
 zip:v.mg "zip"=bm
 dict:v.mg "dict"=bm
 abs:v.mg "abs"=bm
 any:v.mg "any"=bm
 min:v.mg "min"=bm
 max:v.mg "max"=bm
variable {v:EV}
abbrev d_is_whole:DF:=⟨"is_whole",top 1,["thing"],1,λK=>fJ K [.v] (cy 1 fx)⟩
def k_is_whole (D:DI v d_is_whole) (q:NB v):D.O:=
 lZ (m:=fx) D sc_is_whole λaQ _ _ _ _ _ _ hr=>
 (SF.cI (tJ (fo rfl .int rfl q.isinstance (af 0) rfl q.int boot_int) (pM (abu (fo rfl .bool rfl q.isinstance (af 0) rfl q.bool boot_bool)))) λ_=>rfl)
abbrev d_is_row:DF:=⟨"is_row",top 2,["thing","many"],1,λK=>fJ K [.v,.v] (cy 2 eR)⟩
def k_is_row (D:DI v d_is_row) (q:NB v):D.O:=
 ux (m:=eR) D sc_is_row λaQ jx _ _ _ _ _ _ hr=>
 (SF.cI (tJ (fo rfl .tup rfl q.isinstance (af 0) rfl q.tuple boot_tuple) (pM (kq (eF rfl (aU hr)) (dz rfl rfl q.len (af 0)) (af 1)))) λ_=>rfl)
abbrev d_is_word:DF:=⟨"is_word",top 6,["thing"],1,λK=>fJ K [.v] (cy 1 jz)⟩
def k_is_word (D:DI v d_is_word) (q:NB v) (cS:v.mg "LONGEST_WORD"=ap (.int 8 kO)) (gM:v.mg "LETTERS"=ap (.str "abcdefghijklmnopqrstuvwxyz" u7)):D.O:=
 lZ (m:=jz) D sc_is_word λaQ _ _ _ _ _ _ hr=>
 (SF.J6 (uc.t (uZ (kN (cP rfl (fo rfl .str rfl q.isinstance (af 0) rfl q.str sB) (λ_=>rfl))) (oG (kN (Q3 JZ JZ ao (dz rfl rfl q.len (af 0)) (xT cS rfl))))))
 (SF.cI kD λ_=>rfl)
 (SF.cI (Ko rfl rfl rfl q.all (bI (fD rfl lc_is_word_0 (Xf (af 0)) (λ_ _ _ _ _=>(dq 0 lc_is_word_0.nd)) (λ_ _ _ _ _ p2=>(kq (Xb rfl) (af 0) (tI gM rfl))) rfl))) λ_=>rfl))
abbrev d_is_grown (ik:ci):DF:=⟨"is_grown",top 7,["thing","is_leaf","often"],2,λK=>fJ K [.v,.f ik,.v] (cy 2 g9)⟩
theorem k_is_grown {ik:ci} (D:DI v (d_is_grown ik)) (HN:Yk v.P v.w v.K v.mg v.base ik d_is_word.k d_is_word.ps (d_is_word.sp v.K)) (sT:d_is_row.C v):D.O:=
 ux (m:=g9) D sc_is_grown λaQ Hd _ _ _ _ _ _ hr=>
 (SF.adN (i:=3) sc_is_grown.nd rfl (CH rfl)
 (sl 4 sc_is_grown.nd (aV (n:=1) (ae (af 0) ak) rfl) λft=>
 (SF.rq (hd:=(λ(s4:List (Key×PV)×List PV)=>([ap (.val aQ),ap (.adr ik),ap (.val Hd),ap (.od s4.1),ap (.ol bm s4.2),bm]:bF))) (s0:=([],ft)) (inj:=id) AM (.refl _) (λs4=>(Ui rfl (cn 4) (λ_=>rfl))) (λ_=>trivial) (λs4=>
 (SF.wL 4 5 rfl ⋯ rfl rfl (.inl rfl) sc_is_grown.nd rfl (CH rfl) λt7=>
 (SF.Xh (cP rfl (eC sT hr (ae (af 5) (ae ao ak))) (λ_=>rfl))
 (SF.extend 4 rfl rfl rfl (.inl rfl) (ax (af 5)) λgQ=>
 (SF.f6 rfl (.keep (.keep (.keep (.keep (.keep (.drop (.refl _)))))))))
 (SF.Xh (uc.t (uZ (kN (cP rfl (Tn 1 HN hr (by first | exact CI rfl | omega) rfl (ae (af 5) ak) rfl) (λ_=>rfl))) (oG (uc.t (kM (Za 3 rfl (aU hr) (af 5)) (iC (kN (cP rfl (af 2) (λ_=>rfl)))))))))
 (SF.ret (k:=λkr=>(Lp.out kr)) kD λ_=>rfl)
 (SF.putD 3 rfl (aU hr) rfl (.inl rfl) kD (af 5) λJA=>
 (SF.f6 rfl (.keep (.keep (.keep (.keep (.keep (.drop (.refl _))))))))))))) λs4=>
 (SF.cI kD λ_=>rfl))))
abbrev d_is_tree:DF:=⟨"is_tree",top 8,["thing"],3,λK=>fJ K [.v] (cy 1 lP)⟩
def k_is_tree (D:DI v d_is_tree) {tw:ci} (Mm:v.mg "is_word"=ap (.ref tw)) (HW:(d_is_grown tw).C v):D.O:=
 lZ (m:=lP) D sc_is_tree λaQ _ _ _ _ _ _ hr=>
 (SF.cI (eC HW hr (ae (af 0) (afC rfl Mm (ae kD ak)))) λ_=>rfl)
abbrev d_parts_of:DF:=⟨"parts_of",top 9,["tree"],1,λK=>eK K [.v] (cy 1 jX)⟩
def k_parts_of (D:DI v d_parts_of) (q:NB v):D.O:=
 Si (m:=jX) D sc_parts_of λjm _ _ _ _ _ _ hr=>
 (sl 1 sc_parts_of.nd (aV (n:=0) ak rfl) λmV=>
 (sl 2 sc_parts_of.nd (aV (n:=1) (ae (af 0) ak) rfl) λft=>
 (SF.Jg (hd:=(λ(s4:List PV×List PV)=>([ap (.val jm),ap (.ol bm s4.1),ap (.ol bm s4.2),bm]:bF))) (s0:=(mV,ft)) AM (.refl _) (λs4=>(Ui rfl (cn 2) (λ_=>rfl))) (λs4=>
 (SF.wL 2 3 rfl ⋯ rfl rfl (.inl rfl) sc_parts_of.nd rfl (CH rfl) λt7=>
 (SF.append 1 rfl rfl rfl (.inl rfl) (af 3) λmU=>
 (SF.Xh (kN (cP rfl (fo rfl .str rfl q.isinstance (af 3) rfl q.str sB) (λ_=>rfl)))
 (SF.extend 2 rfl rfl rfl (.inl rfl) (ax (af 3)) λgQ=>
 (SF.f6 rfl (.keep (.keep (.keep (.drop (.refl _)))))))
 (SF.f6 rfl (.keep (.keep (.keep (.drop (.refl _)))))))))) λs4=>
 (SF.gs (aap rfl rfl rfl q.list rfl q.reversed (G8 1)) λ_=>rfl))))
abbrev d_nodes:DF:=⟨"nodes",top 10,["tree"],2,λK=>fJ K [.v] (cy 1 iI)⟩
def k_nodes (D:DI v d_nodes) (q:NB v) (HQ:d_parts_of.C v):D.O:=
 lZ (m:=iI) D sc_nodes λjm _ _ _ _ _ _ hr=>
 (sl 1 sc_nodes.nd (aV (n:=0) ak rfl) λjP=>
 (sl 2 sc_nodes.nd (aV (n:=0) ak rfl) λw5=>
 (SF.uK (hd:=(λ(s4:List PV×List PV)=>([ap (.val jm),ap (.ol bm s4.1),ap (.ol bm s4.2),bm,bm,bm]:bF))) (s0:=(jP,w5)) AM rfl (bK rfl (nT (lC HQ hr (ae (af 0) ak)))) (.refl _) (dq 3 sc_nodes.nd) (λs4 wO=>
 (SF.ifS (out1:=λ(VM:List PV×List PV)=>.nx ([ap (.val jm),ap (.ol bm VM.1),ap (.ol bm VM.2),ap (.val wO),bm,bm]:bF)) (cP rfl (fo rfl .str rfl q.isinstance (af 3) rfl q.str sB) (λ_=>rfl))
 (SF.append 1 rfl rfl rfl (.inl rfl) (af 3) λJn=>
 (SF.nil rfl (.refl _)))
 (SF.wL 2 4 rfl ⋯ rfl rfl (.inl rfl) sc_nodes.nd rfl (CH rfl) λt20=>
 (SF.wL 2 5 rfl ⋯ rfl rfl (.inl rfl) sc_nodes.nd rfl (CH rfl) λt22=>
 (SF.append 1 rfl rfl rfl (.inl rfl) (aF (n:=2) (ae (af 5) (ae (af 4) ak)) rfl) λJm=>
 (SF.nil rfl (.keep (.keep (.keep (.keep (.drop (.drop (.refl _)))))))))))
 λVM=>(SF.append 2 rfl rfl rfl (.inl rfl) (mw (pz rfl rfl q.len (cn 1)) ao) λzH=>
 (SF.f6 rfl (.keep (.keep (.keep (.drop (.refl _))))))))) λs4=>
 (SF.cI (fW rfl rfl q.tuple (cn 1)) λ_=>rfl))))
abbrev d_halves:DF:=⟨"halves",top 11,["node"],1,λK=>fJ K [.v] (cy 1 du)⟩
def k_halves (D:DI v d_halves) (q:NB v):D.O:=
 lZ (m:=du) D sc_halves λcj _ _ _ _ _ _ hr=>
 (SF.cI (L1 (cP rfl (fo rfl .str rfl q.isinstance (af 0) rfl q.str sB) (λ_=>rfl)) (aF (n:=0) ak rfl) (af 0)) λ_=>rfl)
abbrev d_ahead_of:DF:=⟨"ahead_of",top 12,["tree"],3,λK=>fJ K [.v] (cy 1 fB)⟩
def k_ahead_of (D:DI v d_ahead_of) (q:NB v) (j3:d_nodes.C v) (ig:d_halves.C v):D.O:=
 lZ (m:=fB) D sc_ahead_of λjm _ _ _ _ _ _ hr=>
 (sv 1 sc_ahead_of.nd (eC j3 hr (ae (af 0) ak)) λjP=>
 (SF.lM (i:=3) rfl sc_ahead_of.nd rfl rfl lc_ahead_of_0 (bK rfl (bV (af 1))) (λ_ _ _ _ _=>(dq 0 lc_ahead_of_0.nd)) (λ_ _ _ _ _ p5=>lE) rfl λyo=>
 (SF.S6 (hd:=(λ(s7:List PV)=>([ap (.val jm),ap (.val jP),bm,ap (.ol bm s7),bm,bm]:bF))) (s0:=yo) AM rfl (nP rfl rfl q.enumerate (bV (af 1))) (.refl _) (λ_=>(QC rfl (fv rfl (aN (dq 4 sc_ahead_of.nd) (aN (dq 2 sc_ahead_of.nd) dB))))) (λs7 t9=>
 (SF.uK (hd:=(λ(pY:List PV)=>([ap (.val jm),ap (.val jP),ap (.val t9.2),ap (.ol bm pY),ap (.val t9.1),bm]:bF))) (s0:=s7) AM rfl (bK rfl (bV (eC ig hr (ae (af 2) ak)))) (.refl _) (dq 5 sc_ahead_of.nd) (λpY Kf=>
 (SF.G6 3 rfl rfl (.inl rfl) (af 4) (af 5) λGw=>
 (SF.f6 rfl (.keep (.keep (.keep (.keep (.keep (.drop (.refl _)))))))))) λpY=>
 (SF.f6 rfl (.keep (.keep (.drop (.keep (.drop (.refl _))))))))) λs7=>
 (SF.cI (fW rfl rfl q.tuple (cn 3)) λ_=>rfl))))
abbrev d_under_at:DF:=⟨"under_at",top 17,["stays","stay"],1,λK=>fJ K [.v,.v] (cy 2 cZ)⟩
def k_under_at (D:DI v d_under_at) (oj:v.mg "UNDER"=ap (.int 2 Jo)):D.O:=
 ux (m:=cZ) D sc_under_at λaK bb _ _ _ _ _ _ hr=>
 (SF.cI (aH rfl (ax (aH rfl (ax (af 0)) (af 1))) (xT oj rfl)) λ_=>rfl)
abbrev d_beside_at:DF:=⟨"beside_at",top 18,["stays","stay"],1,λK=>fJ K [.v,.v] (cy 2 gc)⟩
def k_beside_at (D:DI v d_beside_at) (lG:v.mg "BESIDE"=ap (.int 3 yW)):D.O:=
 ux (m:=gc) D sc_beside_at λaK bb _ _ _ _ _ _ hr=>
 (SF.cI (aH rfl (ax (aH rfl (ax (af 0)) (af 1))) (xT lG rfl)) λ_=>rfl)
abbrev d_is_home:DF:=⟨"is_home",top 19,["stays","stay","word"],2,λK=>fJ K [.v,.v,.v] (cy 3 jA)⟩
def k_is_home (D:DI v d_is_home) (tR:v.mg "NAME"=ap (.int 0 M7)) (ic:d_under_at.C v):D.O:=
 Oc (m:=jA) D sc_is_home λaK bb Ue _ _ _ _ _ _ hr=>
 (SF.cI (tJ (kq (eF rfl (aU hr)) (eC ic hr (ae (af 0) (ae (af 1) ak))) (aF (n:=0) ak rfl)) (pM (kq (eF rfl (aU hr)) (aH rfl (ax (aH rfl (ax (af 0)) (af 1))) (xT tR rfl)) (af 2)))) λ_=>rfl)
abbrev d_name_of:DF:=⟨"name_of",top 20,["houses","house"],1,λK=>fJ K [.v,.v] (cy 2 eD)⟩
def k_name_of (D:DI v d_name_of) (q:NB v):D.O:=
 ux (m:=eD) D sc_name_of λfP lq _ _ _ _ _ _ hr=>
 (SF.cI (L1 (cP rfl (fo rfl .str rfl q.isinstance (aH rfl (ax (af 0)) (af 1)) rfl q.str sB) (λ_=>rfl)) (aH rfl (ax (af 0)) (af 1)) (af 1)) λ_=>rfl)
abbrev d_lines_up:DF:=⟨"lines_up",top 21,["great"],4,λK=>eK K [.v] (cy 1 g8)⟩
def k_lines_up (D:DI v d_lines_up) (q:NB v) (mO:d_ahead_of.C v):D.O:=
 Si (m:=g8) D sc_lines_up λdN _ _ _ _ _ _ hr=>
 (sv 1 sc_lines_up.nd (eC mO hr (ae (af 0) ak)) λd7=>
 (SF.lM (i:=3) rfl sc_lines_up.nd rfl rfl lc_lines_up_0 (bK rfl (bV (af 1))) (λ_ _ _ _ _=>(dq 0 lc_lines_up_0.nd)) (λ_ _ _ _ _ p5=>(aF (n:=0) ak rfl)) rfl λlR=>
 (SF.uK (hd:=(λ(s9:List PV)=>([ap (.val dN),ap (.val d7),bm,ap (.ol bm s9),bm]:bF))) (s0:=lR) AM rfl (J4 rfl q.range (mw (dz rfl rfl q.len (af 1)) ao) (gz ao) (gz ao)) (.refl _) (dq 2 sc_lines_up.nd) (λs9 lj=>
 (sv 4 sc_lines_up.nd (L1 (dg HC (aH rfl (ax (af 1)) (af 2)) lE) (aF (n:=0) ak rfl) (aH rfl (cn 3) (aH rfl (ax (af 1)) (af 2)))) λGx=>
 (SF.G6 3 rfl rfl (.inl rfl) (a9 rfl (aF (n:=1) (ae (af 2) ak) rfl) (af 4)) (af 2) λzJ=>
 (SF.f6 rfl (.keep (.keep (.drop (.keep (.drop (.refl _)))))))))) λs9=>
 (SF.Nr 3 rfl rfl))))
abbrev d_apart_from:DF:=⟨"apart_from",top 22,["lines","house"],1,λK=>fJ K [.v,.v] (cy 2 eS)⟩
def k_apart_from (D:DI v d_apart_from) (q:NB v):D.O:=
 ux (m:=eS) D sc_apart_from λxa lq _ _ _ _ _ _ hr=>
 (SF.cI (fW rfl rfl q.tuple (gW (zK rfl lc_apart_from_0 (fN rfl q.range (dz rfl rfl q.len (af 0))) (λ_ _ _ _ _=>(dq 0 lc_apart_from_0.nd)) (λ_ _ _ _ _ p3=>(uc.t (kM (wg rfl (aU hr) (af 0) (ax (aH rfl (ax (af 2)) (af 1)))) (iC (wg rfl (aU hr) (af 1) (ax (aH rfl (ax (af 2)) (af 0)))))))) (λ_ _ _ _ _ p3=>(af 0)) rfl))) λ_=>rfl)
abbrev d_ground:DF:=⟨"ground",top 23,["great"],5,λK=>fJ K [.v] (cy 1 kY)⟩
def k_ground (D:DI v d_ground) (q:NB v) (j3:d_nodes.C v) (HU:d_lines_up.C v) (ph:d_name_of.C v) (ig:d_halves.C v) (xy:d_apart_from.C v):D.O:=
 lZ (m:=kY) D sc_ground λdN _ _ _ _ _ _ hr=>
 (sv 1 sc_ground.nd (eC j3 hr (ae (af 0) ak)) λgj=>
 (sl 2 sc_ground.nd (lC HU hr (ae (af 0) ak)) λlR=>
 SF.cM 2 rfl (SF.cI (fW rfl rfl q.tuple (gW (fD rfl lc_ground_0 (fN rfl q.range (dz rfl rfl q.len (af 1))) (λ_ _ _ _ _=>(dq 0 lc_ground_0.nd)) (λ_ _ _ _ _ p7=>(aF (n:=4) (ae (eC ph hr (ae (af 1) (ae (af 0) ak))) (ae ao (ae (eC ig hr (ae (aH rfl (ax (af 1)) (af 0)) ak)) (ae (eC xy hr (ae (af 2) (ae (af 0) ak))) ak)))) rfl)) rfl))) λ_=>rfl)))
abbrev d_comes_in:DF:=⟨"comes_in",top 29,["way"],1,λK=>fJ K [.v] (cy 1 bE)⟩
def k_comes_in (D:DI v d_comes_in):D.O:=
 lZ (m:=bE) D sc_comes_in λoD _ _ _ _ _ _ hr=>
 (SF.cI (aH rfl (ax (aH rfl (ax (af 0)) ao)) ao) λ_=>rfl)
abbrev d_done_at:DF:=⟨"done_at",top 30,["way"],1,λK=>fJ K [.v] (cy 1 jB)⟩
def k_done_at (D:DI v d_done_at):D.O:=
 lZ (m:=jB) D sc_done_at λoD _ _ _ _ _ _ hr=>
 (SF.cI (aH rfl (ax (aH rfl (ax (af 0)) ao)) (gz ao)) λ_=>rfl)
abbrev d_ins_of:DF:=⟨"ins_of",top 31,["way"],2,λK=>fJ K [.v] (cy 1 kX)⟩
def k_ins_of (D:DI v d_ins_of) (q:NB v) (HY:d_comes_in.C v):D.O:=
 lZ (m:=kX) D sc_ins_of λoD _ _ _ _ _ _ hr=>
 (SF.cI (fW rfl rfl q.tuple (gW (fD rfl lc_ins_of_0 (bK rfl (bV (gw rfl (af 0) (de ao) cY))) (λ_ _ _ _ _=>(dq 0 lc_ins_of_0.nd)) (λ_ _ _ _ _ p5=>(eC HY hr (ae (af 0) ak))) rfl))) λ_=>rfl)
abbrev d_split_ins:DF:=⟨"split_ins",top 32,["ground","stay"],2,λK=>eK K [.v,.v] (cy 2 gb)⟩
def k_split_ins (D:DI v d_split_ins) (q:NB v) (ic:d_under_at.C v):D.O:=
 Lb (m:=gb) D sc_split_ins λaW bb _ _ _ _ _ _ hr=>
 (sv 2 sc_split_ins.nd (eC ic hr (ae (af 0) (ae (af 1) ak))) λnj=>
 (SF.gs (aaq (dg (eF rfl (aU hr)) (dz rfl rfl q.len (af 2)) ao) (aV (n:=2) (ae (af 2) (ae (aF (n:=2) (ae (aH rfl (ax (af 2)) ao) (ae (aH rfl (ax (af 2)) ao) ak)) rfl) ak)) rfl) (aV (n:=0) ak rfl)) λ_=>rfl))
abbrev d_over_ins:DF:=⟨"over_ins",top 33,["ground","stay"],2,λK=>eK K [.v,.v] (cy 2 gZ)⟩
def k_over_ins (D:DI v d_over_ins) (zU:d_beside_at.C v):D.O:=
 Lb (m:=gZ) D sc_over_ins λaW bb _ _ _ _ _ _ hr=>
 (sv 2 sc_over_ins.nd (eC zU hr (ae (af 0) (ae (af 1) ak))) λtS=>
 (SF.gs (k8 rfl (bI (fD rfl lc_over_ins_0 (bK rfl (bV (af 2))) (λ_ _ _ _ _=>(dq 0 lc_over_ins_0.nd)) (λ_ _ _ _ _ p5=>(aF (n:=2) (ae (af 1) (ae (af 0) ak)) rfl)) rfl)) (bI (fD rfl lc_over_ins_1 (bK rfl (bV (af 2))) (λ_ _ _ _ _=>(dq 0 lc_over_ins_1.nd)) (λ_ _ _ _ _ p9=>(aF (n:=2) (ae (af 0) (ae (af 1) ak)) rfl)) rfl))) λ_=>rfl))
abbrev d_deeds_at:DF:=⟨"deeds_at",top 34,["ground","node","stay"],3,λK=>eK K [.v,.v,.v] (cy 3 eg)⟩
def k_deeds_at (D:DI v d_deeds_at) (q:NB v) (oo:v.mg "FOUND"=ap (.str "found" Jq)) (om:v.mg "SPLIT"=ap (.str "split" Jp)) (tQ:v.mg "OVER"=ap (.str "over" M6)) (jK:v.mg "DOUBLED"=ap (.str "doubled" u9)) (LL:d_is_home.C v) (zR:d_split_ins.C v) (HS:d_over_ins.C v):D.O:=
 aal (m:=eg) D sc_deeds_at λaW cj bb _ _ _ _ _ _ hr=>
 (SF.J6 (cP rfl (fo rfl .str rfl q.isinstance (af 1) rfl q.str sB) (λ_=>rfl))
 (SF.gs (aaq (cP rfl (eC LL hr (ae (af 0) (ae (af 2) (ae (af 1) ak)))) (λ_=>rfl)) (aV (n:=1) (ae (aF (n:=2) (ae (tI oo rfl) (ae (aF (n:=0) ak rfl) ak)) rfl) ak) rfl) (aV (n:=0) ak rfl)) λ_=>rfl)
 (SF.lM (i:=3) rfl sc_deeds_at.nd rfl rfl lc_deeds_at_0 (bK rfl (nT (lC zR hr (ae (af 0) (ae (af 2) ak))))) (λ_ _ _ _ _=>(dq 0 lc_deeds_at_0.nd)) (λ_ _ _ _ _ GH=>(aF (n:=2) (ae (tI om rfl) (ae (af 0) ak)) rfl)) rfl λJw=>
 SF.cM 3 rfl (SF.lM (i:=4) rfl sc_deeds_at.nd rfl rfl lc_deeds_at_1 (bK rfl (nT (lC HS hr (ae (af 0) (ae (af 2) ak))))) (λ_ _ _ _ _=>(dq 0 lc_deeds_at_1.nd)) (λ_ _ _ _ _ Z1=>(aF (n:=2) (ae (tI tQ rfl) (ae (af 0) ak)) rfl)) rfl λJN=>
 SF.cM 4 rfl (SF.gs (Sr rfl (aU hr) rfl q.sorted (bI (k8 rfl (bI (k8 rfl (bI (aV (n:=1) (ae (aF (n:=2) (ae (tI jK rfl) (ae (aF (n:=2) (ae (af 2) (ae (af 2) ak)) rfl) ak)) rfl) ak) rfl)) (kQ (af 3)))) (kQ (af 4))))) λ_=>rfl))))
abbrev d_is_stay:DF:=⟨"is_stay",top 35,["ground","thing"],2,λK=>fJ K [.v,.v] (cy 2 dD)⟩
def k_is_stay (D:DI v d_is_stay) (q:NB v) (HV:d_is_whole.C v):D.O:=
 ux (m:=dD) D sc_is_stay λaW aQ _ _ _ _ _ _ hr=>
 (SF.cI (tJ (eC HV hr (ae (af 1) ak)) (pM (Ti JZ zO ao (af 1) (dz rfl rfl q.len (af 0))))) λ_=>rfl)
abbrev d_is_path:DF:=⟨"is_path",top 36,["ground","thing"],3,λK=>fJ K [.v,.v] (cy 2 bj)⟩
def k_is_path (D:DI v d_is_path) (q:NB v) (LJ:d_is_stay.C v) (ic:d_under_at.C v):D.O:=
 ux (m:=bj) D sc_is_path λaW aQ _ _ _ _ _ _ hr=>
 (SF.J6 (uc.t (uZ (kN (cP rfl (fo rfl .tup rfl q.isinstance (af 1) rfl q.tuple boot_tuple) (λ_=>rfl))) (oG (dg (eF rfl (aU hr)) (dz rfl rfl q.len (af 1)) ao))))
 (SF.cI kD λ_=>rfl)
 (SF.J6 (kN (cP rfl (Ko rfl rfl rfl q.all (bI (fD rfl lc_is_path_0 (bK rfl (bV (af 1))) (λ_ _ _ _ _=>(dq 0 lc_is_path_0.nd)) (λ_ _ _ _ _ p2=>(eC LJ hr (ae (af 1) (ae (af 0) ak)))) rfl))) (λ_=>rfl)))
 (SF.cI kD λ_=>rfl)
 (SF.cI (Ko rfl rfl rfl q.all (bI (Hz rfl lc_is_path_1 (xl rfl rfl q.zip (bV (af 1)) (bV (gw rfl (af 1) (de ao) cY))) (λ_ _ _ _ _=>(QC rfl (fv rfl (aN (dq 0 lc_is_path_1.nd) (aN (dq 1 lc_is_path_1.nd) dB))))) (λ_ _ _ _ _ pX=>(U5 rfl (aU hr) (af 1) (ax (eC ic hr (ae (af 2) (ae (af 0) ak)))))) (Ol rfl rfl ⋯) ⋯))) λ_=>rfl)))
abbrev d_is_formed:DF:=⟨"is_formed",top 37,["ground","node","thing"],4,λK=>fJ K [.v,.v,.v] (cy 3 bA)⟩
def k_is_formed (D:DI v d_is_formed) (q:NB v) (LK:d_is_path.C v) (sT:d_is_row.C v):D.O:=
 Oc (m:=bA) D sc_is_formed λaW cj aQ _ _ _ _ _ _ hr=>
 (sv 3 sc_is_formed.nd (L1 (cP rfl (fo rfl .str rfl q.isinstance (af 1) rfl q.str sB) (λ_=>rfl)) ao ao) λOg=>
 (SF.cI (tJ (eC sT hr (ae (af 2) (ae (af 3) ak))) (tJ (eC LK hr (ae (af 0) (ae (aH rfl (ax (af 2)) ao) ak))) (pM (fo rfl .str rfl q.isinstance (aH rfl (ax (af 2)) ao) rfl q.str sB)))) λ_=>rfl))
abbrev d_ways_of_nodes:DF:=⟨"ways_of_nodes",top 38,["ground","told","thing"],5,λK=>fJ K [.v,.v,.v] (cy 3 bO)⟩
def k_ways_of_nodes (D:DI v d_ways_of_nodes) (q:NB v) (zT:d_is_formed.C v) (ig:d_halves.C v):D.O:=
 Oc (m:=bO) D sc_ways_of_nodes λaW u0 aQ _ _ _ _ _ _ hr=>
 (SF.lM (i:=4) rfl sc_ways_of_nodes.nd rfl rfl lc_ways_of_nodes_0 (bK rfl (bV (af 1))) (λ_ _ _ _ _=>(dq 0 lc_ways_of_nodes_0.nd)) (λ_ _ _ _ _ p3=>lE) rfl λMV=>
 (SF.G6 4 rfl rfl (.inl rfl) (af 2) (gz ao) λmF=>
 (SF.O5 (hd:=(λ(Rm:List PV)=>([ap (.val aW),ap (.val u0),ap (.val aQ),bm,ap (.ol bm Rm),bm,bm,bm,bm]:bF))) (s0:=mF) (inj:=id) AM rfl (J4 rfl q.range (mw (dz rfl rfl q.len (af 1)) ao) (gz ao) (gz ao)) (.refl _) (dq 5 sc_ways_of_nodes.nd) (λ_=>trivial) (λRm lN=>
 (sv 3 sc_ways_of_nodes.nd (aH rfl (ax (af 1)) (af 5)) λqH=>
 (sv 6 sc_ways_of_nodes.nd (aH rfl (cn 4) (af 5)) λvX=>
 (SF.J6 (kN (cP rfl (eC zT hr (ae (af 0) (ae (af 3) (ae (af 6) ak)))) (λ_=>rfl)))
 (SF.ret (k:=λvV=>(Lp.out vV)) lE λ_=>rfl)
 (SF.S6 (hd:=(λ(VJ:List PV)=>([ap (.val aW),ap (.val u0),ap (.val aQ),ap (.val qH),ap (.ol bm VJ),ap (.val lN),ap (.val vX),bm,bm]:bF))) (s0:=Rm) AM rfl (xl rfl rfl q.zip (bV (eC ig hr (ae (af 3) ak))) (bV (gw rfl (af 6) (de ao) cY))) (.refl _) (λ_=>(QC rfl (fv rfl (aN (dq 7 sc_ways_of_nodes.nd) (aN (dq 8 sc_ways_of_nodes.nd) dB))))) (λVJ ē=>
 (SF.G6 4 rfl rfl (.inl rfl) (af 8) (af 7) λJh=>
 (SF.f6 rfl (.keep (.keep (.keep (.keep (.keep (.keep (.keep (.drop (.drop (.refl _))))))))))))) λVJ=>
 (SF.f6 rfl (.keep (.keep (.keep (.drop (.keep (.drop (.drop (.refl _)))))))))))))) λRm=>
 (SF.cM 4 rfl (SF.cI (af 4) λ_=>rfl)))))
abbrev d_is_done:DF:=⟨"is_done",top 39,["ground","node","way"],4,λK=>fJ K [.v,.v,.v] (cy 3 fy)⟩
def k_is_done (D:DI v d_is_done) (O1:d_ins_of.C v) (HX:d_deeds_at.C v) (LN:d_done_at.C v):D.O:=
 Oc (m:=fy) D sc_is_done λaW cj oD _ _ _ _ _ _ hr=>
 (SF.cI (U5 rfl (aU hr) (aF (n:=2) (ae (aH rfl (ax (af 2)) ao) (ae (eC O1 hr (ae (af 2) ak)) ak)) rfl) (gW (lC HX hr (ae (af 0) (ae (af 1) (ae (eC LN hr (ae (af 2) ak)) ak)))))) λ_=>rfl)
abbrev d_is_way:DF:=⟨"is_way",top 40,["ground","small","thing"],6,λK=>fJ K [.v,.v,.v] (cy 3 eQ)⟩
def k_is_way (D:DI v d_is_way) (q:NB v) (LI:d_is_tree.C v) (j3:d_nodes.C v) (qj:d_ways_of_nodes.C v) (LM:d_is_done.C v):D.O:=
 Oc (m:=eQ) D sc_is_way λaW G4 aQ _ _ _ _ _ _ hr=>
 (SF.J6 (kN (cP rfl (eC LI hr (ae (af 1) ak)) (λ_=>rfl)))
 (SF.cI kD λ_=>rfl)
 (sv 3 sc_is_way.nd (eC j3 hr (ae (af 1) ak)) λGX=>
 (sv 4 sc_is_way.nd (eC qj hr (ae (af 0) (ae (af 3) (ae (af 2) ak)))) λmF=>
 (SF.J6 (uc.t (uZ (dg HC (af 4) lE) (oG (dg (UK rfl (aU hr)) (dz rfl rfl q.len (aH rfl (ax (af 2)) ao)) ao))))
 (SF.cI kD λ_=>rfl)
 (SF.cI (Ko rfl rfl rfl q.all (bI (Hz rfl lc_is_way_0 (xl rfl rfl q.zip (bV (af 3)) (bV (af 4))) (λ_ _ _ _ _=>(QC rfl (fv rfl (aN (dq 0 lc_is_way_0.nd) (aN (dq 1 lc_is_way_0.nd) dB))))) (λ_ _ _ _ _ pX=>(eC LM hr (ae (af 2) (ae (af 0) (ae (af 1) ak))))) (Ol rfl rfl ⋯) ⋯))) λ_=>rfl)))))
abbrev d_split_dates:DF:=⟨"split_dates",top 42,["houses","dates"],1,λK=>eK K [.v,.v] (cy 2 dY)⟩
def k_split_dates (D:DI v d_split_dates) (q:NB v):D.O:=
 Lb (m:=dY) D sc_split_dates λfP dP _ _ _ _ _ _ hr=>
 (SF.gs (UH rfl lc_split_dates_0 (xl rfl rfl q.zip (bV (af 0)) (bV (af 1))) (λ_ _ _ _ _=>(QC rfl (fv rfl (aN (dq 0 lc_split_dates_0.nd) (aN (dq 1 lc_split_dates_0.nd) dB))))) (λ_ _ _ _ _ t5=>(kN (cP rfl (fo rfl .str rfl q.isinstance (af 0) rfl q.str sB) (λ_=>rfl)))) (λ_ _ _ _ _ t5=>(af 1)) (Ol rfl rfl ⋯) ⋯) λ_=>rfl)
abbrev d_standing:DF:=⟨"standing",top 43,["great","dates","begins"],4,λK=>eK K [.v,.v,.v] (cy 3 gY)⟩
def k_standing (D:DI v d_standing) (q:NB v) (mO:d_ahead_of.C v):D.O:=
 aal (m:=gY) D sc_standing λdN dP kd _ _ _ _ _ _ hr=>
 (sv 3 sc_standing.nd (eC mO hr (ae (af 0) ak)) λd7=>
 (sl 4 sc_standing.nd (aV (n:=0) ak rfl) λwR=>
 (SF.S6 (hd:=(λ(s5:List PV)=>([ap (.val dN),ap (.val dP),ap (.val kd),ap (.val d7),ap (.ol bm s5),bm,bm,bm,bm]:bF))) (s0:=wR) AM rfl (nP rfl rfl q.enumerate (bV (af 2))) (.refl _) (λ_=>(QC rfl (fv rfl (aN (dq 5 sc_standing.nd) (aN (dq 6 sc_standing.nd) dB))))) (λs5 t7=>
 (SF.S6 (hd:=(λ(s9:List PV)=>([ap (.val dN),ap (.val dP),ap (.val kd),ap (.val d7),ap (.ol bm s9),ap (.val t7.1),ap (.val t7.2),bm,bm]:bF))) (s0:=s5) AM rfl (nP rfl rfl q.enumerate (bV (af 1))) (.refl _) (λ_=>(QC rfl (fv rfl (aN (dq 7 sc_standing.nd) (aN (dq 8 sc_standing.nd) dB))))) (λs9 Zt=>
 (SF.Xh (uc.t (kM (dg JZ (af 8) (af 6)) (iC (uc.t (uZ (dg HC (aH rfl (ax (af 3)) (af 7)) lE) (oG (dg zO (af 6) (aH rfl (ax (af 1)) (aH rfl (ax (af 3)) (af 7))))))))))
 (SF.append 4 rfl rfl rfl (.inl rfl) (aF (n:=2) (ae (af 7) (ae (af 5) ak)) rfl) λzx=>
 (SF.f6 rfl (.keep (.keep (.keep (.keep (.keep (.keep (.keep (.drop (.drop (.refl _))))))))))))
 (SF.f6 rfl (.keep (.keep (.keep (.keep (.keep (.keep (.keep (.drop (.drop (.refl _))))))))))))) λs9=>
 (SF.f6 rfl (.keep (.keep (.keep (.keep (.keep (.drop (.drop (.refl _))))))))))) λs5=>
 (SF.Nr 4 rfl rfl))))
abbrev d_stay_of:DF:=⟨"stay_of",top 44,["houses","dates","begins","numbers","pair"],2,λK=>fJ K [.v,.v,.v,.v,.v] (cy 5 jy)⟩
def k_stay_of (D:DI v d_stay_of) (q:NB v) (ig:d_halves.C v) (ph:d_name_of.C v):D.O:=
 aai (m:=jy) D sc_stay_of λfP dP kd nG NY _ _ _ _ _ _ hr=>
 (sv 5 sc_stay_of.nd (aH rfl (ax (af 4)) ao) λlS=>
 (sv 6 sc_stay_of.nd (aH rfl (ax (af 4)) ao) λnN=>
 (sv 7 sc_stay_of.nd (kq zO (aH rfl (ax (af 1)) (af 5)) (aH rfl (ax (af 2)) (af 6))) λvB=>
 (sv 8 sc_stay_of.nd (L1 (cP rfl (af 7) (λ_=>rfl)) (aF (n:=1) (ae (af 5) ak) rfl) (eC ig hr (ae (aH rfl (ax (af 0)) (af 5)) ak))) λbelow_4=>
 (sv 9 sc_stay_of.nd (fW rfl rfl q.tuple (gW (fD rfl lc_stay_of_0 (bK rfl (bV (af 8))) (λ_ _ _ _ _=>(dq 0 lc_stay_of_0.nd)) (λ_ _ _ _ _ p9=>(PK (aU hr) (af 2) (aF (n:=2) (ae (af 0) (ae (mw (af 1) ao) ak)) rfl) (λ_ _=>rfl))) rfl))) λJk=>
 (sv 10 sc_stay_of.nd (fW rfl rfl q.tuple (gW (zK rfl lc_stay_of_1 (SH (af 3)) (λ_ _ _ _ _=>(dq 0 lc_stay_of_1.nd)) (λ_ _ _ _ _ Z3=>(uc.t (kM (dg (eF rfl (aU hr)) (aH rfl (ax (af 0)) ao) (af 2)) (iC (dg (UK rfl (aU hr)) (aH rfl (ax (af 0)) ao) (af 1)))))) (λ_ _ _ _ _ Z3=>(PK (aU hr) (af 3) (af 0) (λ_ _=>rfl))) rfl))) λvP=>
 (SF.cI (aF (n:=4) (ae (eC ph hr (ae (af 0) (ae (af 5) ak))) (ae (af 6) (ae (af 9) (ae (af 10) ak)))) rfl) λ_=>rfl)))))))
abbrev d_dated:DF:=⟨"dated",top 45,["great","dates"],5,λK=>fJ K [.v,.v] (cy 2 lQ)⟩
def k_dated (D:DI v d_dated) (q:NB v) (j3:d_nodes.C v) (uJ:d_split_dates.C v) (HP:d_standing.C v) (LG:d_stay_of.C v):D.O:=
 ux (m:=lQ) D sc_dated λdN dP _ _ _ _ _ _ hr=>
 (sv 2 sc_dated.nd (eC j3 hr (ae (af 0) ak)) λgj=>
 (sl 3 sc_dated.nd (k8 rfl (bI (aV (n:=1) (ae ao ak) rfl)) (bI (Ss rfl rfl q.sorted (bI (lC uJ hr (ae (af 2) (ae (af 1) ak))))))) λtT=>
 SF.cM 3 rfl (sl 4 sc_dated.nd (lC HP hr (ae (af 0) (ae (af 1) (ae (af 3) ak)))) λwQ=>
 SF.cM 4 rfl (sv 5 sc_dated.nd (Tg (Tz rfl rfl (aU hr) rfl q.dict (bI (Hz rfl lc_dated_0 (nP rfl rfl q.enumerate (bV (af 4))) (λ_ _ _ _ _=>(QC rfl (fv rfl (aN (dq 0 lc_dated_0.nd) (aN (dq 1 lc_dated_0.nd) dB))))) (λ_ _ _ _ _ Ĕ=>(aF (n:=2) (ae (af 1) (ae (af 0) ak)) rfl)) (Ol rfl rfl ⋯) ⋯)))) λrX=>
 (SF.cI (fW rfl rfl q.tuple (gW (fD rfl lc_dated_1 (bK rfl (bV (af 4))) (λ_ _ _ _ _=>(dq 0 lc_dated_1.nd)) (λ_ _ _ _ _ p21=>(eC LG hr (ae (af 3) (ae (af 2) (ae (af 1) (ae (af 4) (ae (af 0) ak))))))) rfl))) λ_=>rfl)))))
abbrev d__law_pot:DF:=⟨"_law_pot",top 47,["_law_script","_law_k"],1,λK=>eK K [.v,.v] (cy 2 hE)⟩
def k__law_pot (D:DI v d__law_pot) (q:NB v):D.O:=
 Lb (m:=hE) D sc__law_pot λfK k_ _ _ _ _ _ _ hr=>
 (sv 2 sc__law_pot.nd ao λP8=>
 (SF.ifS (out1:=λ(s3:PV)=>.nx ([ap (.val fK),ap (.val k_),ap (.val s3),bm]:bF)) (dg zO (af 1) (dz rfl rfl q.len (af 0)))
 (sv 2 sc__law_pot.nd (abC rfl q.abs (aH rfl (ax (af 0)) (af 1))) λP7=>
 (SF.nil rfl (.refl _)))
 (SF.nil rfl (.refl _))
 λs3=>(sv 3 sc__law_pot.nd (pN (n9 (af 2) (pN (F6 ao ao) (F6 ao ao))) (qU rfl q.int (kq aax (af 2) (F6 ao ao)))) λog=>
 (SF.gs (aV (n:=3) (ae (af 3) (ae (n9 (a9 rfl (a9 rfl (af 2) (pN ao (af 1))) ao) ao) (ae ao ak))) rfl) λ_=>rfl))))
abbrev d__law_take:DF:=⟨"_law_take",top 48,["_law_pot_here","_law_many"],1,λK=>fJ K [.p (fh eL),.v] (cy 1 bh)⟩
def k__law_take (D:DI v d__law_take):D.O:=
 Wc (n:=1) (fnO (n:=1) (m:=gh) D.fn sc__law_take rfl λad dA l hl=>match l,hl with | [jx],_=>λ_ _ _ _ _ _ hr=>show SF _ _ _ [ap (.ol (ap ad) dA),ap (.val jx),bm,bm] _ (gh dA jx) _ from
 (SF.J6 (dg UL (aH rfl (cn 0) ao) ao)
 (sv 2 sc__law_take.nd (n9 (aH rfl (cn 0) ao) (af 1)) λKq=>
 (SF.G6 0 rfl rfl (.inl rfl) (U6 (aH rfl (cn 0) ao) (af 1)) ao λmH=>
 (SF.ZF 0 (k:=λx5=>(x5,mH)) rfl (af 2) λ_=>rfl)))
 (SF.afz 0 rfl rfl rfl (.inl rfl) ao ao Xg aaz λgX=>
 (sv 3 sc__law_take.nd (n9 (a9 rfl (a9 rfl (pN (aH rfl (cn 0) ao) ao) (pN ao (aH rfl (cn 0) ao))) ao) ao) λsi=>
 (SF.G6 0 rfl rfl (.inl rfl) (n9 (pN (af 3) (a9 rfl (a9 rfl (n9 (af 3) ao) (pN ao (aH rfl (cn 0) ao))) ao)) ao) ao λiD=>
 (SF.ZF 0 (k:=λkr=>(kr,iD)) rfl (n9 (U6 (aH rfl (cn 0) ao) ao) (af 1)) λ_=>rfl)))))) Q1
abbrev d__law_pick:DF:=⟨"_law_pick",top 49,["_law_pot_here","_law_some"],2,λK=>fJ K [.p (fh eL),.v] (cy 1 bJ)⟩
def k__law_pick (D:DI v d__law_pick) (q:NB v) (aE:d__law_take.C v):D.O:=
 lZ (m:=bJ) D sc__law_pick λNi _ _ _ _ _ _ hr=>
 (SF.cI (aH rfl (ax (af 1)) (eC aE hr (bt 0 (ae (dz rfl rfl q.len (af 1)) ak)))) λ_=>rfl)
abbrev d__law_words:DF:=⟨"_law_words",top 50,["_law_pot_here","_law_many"],2,λK=>eK K [.p (fh eL),.v] (cy 1 dE)⟩
def k__law_words (D:DI v d__law_words) (q:NB v) (aE:d__law_take.C v):D.O:=
 Si (m:=dE) D sc__law_words λjx _ _ _ _ _ _ hr=>
 (sv 2 sc__law_words.nd c8 λoW=>
 (sv 3 sc__law_words.nd (eC aE hr (bt 0 (ae ao ak))) λqP=>
 (sv 4 sc__law_words.nd (aH rfl (gW (aV (n:=6) (ae ao (ae ao (ae ao (ae ao (ae ao (ae ao ak)))))) rfl)) (eC aE hr (bt 0 (ae ao ak)))) λrA=>
 (sv 5 sc__law_words.nd (aH rfl (gW (aV (n:=2) (ae c8 (ae c8 ak)) rfl)) (eC aE hr (bt 0 (ae ao ak)))) λwj=>
 (sl 6 sc__law_words.nd (aV (n:=4) (ae c8 (ae c8 (ae c8 (ae c8 ak)))) rfl) λxR=>
 SF.cM 6 rfl (sl 7 sc__law_words.nd (aV (n:=0) ak rfl) λsX=>
 (SF.uK (hd:=(λ(VL:List PV)=>([ap (.kj (fh eL)),ap (.val jx),ap (.val oW),ap (.val qP),ap (.val rA),ap (.val wj),ap (.val (.cl xR)),ap (.ol bm VL),bm,bm]:bF))) (s0:=sX) AM rfl (fN rfl q.range (af 1)) (.refl _) (dq 8 sc__law_words.nd) (λVL W9=>
 (sv 9 sc__law_words.nd (abz (af 2) (n9 (a9 rfl (af 3) (pN (af 4) (af 8))) ao) (λ_ _=>rfl)) λvn=>
 (SF.append 7 rfl rfl rfl (.inl rfl) (a9 rfl (a9 rfl (af 5) (af 9)) (aH rfl (ax (af 6)) (n9 (a9 rfl (af 3) (af 8)) ao))) λzZ=>
 (SF.f6 rfl (.keep (.keep (.keep (.keep (.keep (.keep (.keep (.keep (.drop (.drop (.refl _))))))))))))))) λVL=>
 (SF.Nr 7 rfl rfl))))))))
abbrev d__law_tree:DF:=⟨"_law_tree",top 51,["_law_pot_here","_law_words_here"],2,λK=>fJ K [.p (fh eL),.v] (cy 1 fM)⟩
def k__law_tree (D:DI v d__law_tree) (q:NB v) (aE:d__law_take.C v):D.O:=
 lZ (m:=fM) D sc__law_tree λeB _ _ _ _ _ _ hr=>
 (sl 2 sc__law_tree.nd (HA rfl rfl q.list (ax (af 1))) λrH=>
 (sv 3 sc__law_tree.nd (eC aE hr (bt 0 (ae ao ak))) λgP=>
 (SF.Jg (hd:=(λ(s4:List PV)=>([ap (.kj (fh eL)),ap (.val eB),ap (.ol bm s4),ap (.val gP),bm,bm]:bF))) (s0:=rH) AM (.refl _) (λs4=>(dg UL (pz rfl rfl q.len (cn 2)) ao)) (λs4=>
 (sv 4 sc__law_tree.nd (aH rfl (gW (aV (n:=4) (ae (eC aE hr (bt 0 (ae (mw (pz rfl rfl q.len (cn 2)) ao) ak))) (ae (mw (pz rfl rfl q.len (cn 2)) ao) (ae ao (ae ao ak)))) rfl)) (af 3)) λmW=>
 (sv 5 sc__law_tree.nd (aF (n:=2) (ae (aH rfl (cn 2) (af 4)) (ae (aH rfl (cn 2) (a9 rfl (af 4) ao)) ak)) rfl) λqE=>
 (SF.ifS (out1:=λ(Yo:PV)=>.nx ([ap (.kj (fh eL)),ap (.val eB),ap (.ol bm s4),ap (.val gP),ap (.val mW),ap (.val Yo)]:bF)) (uc.t (kM (dg (eF rfl (aU hr)) (af 3) ao) (iC (dg (eF rfl (aU hr)) (eC aE hr (bt 0 (ae ao ak))) ao))))
 (sv 5 sc__law_tree.nd (aF (n:=2) (ae (aH rfl (cn 2) (a9 rfl (af 4) ao)) (ae (aH rfl (cn 2) (af 4)) ak)) rfl) λqD=>
 (SF.nil rfl (.refl _)))
 (SF.nil rfl (.refl _))
 λYo=>(SF.Zx 2 rfl rfl (.inl rfl) (aV (n:=1) (ae (af 5) ak) rfl) (af 4) (a9 rfl (af 4) ao) λqz=>
 (SF.f6 rfl (.keep (.keep (.keep (.keep (.drop (.drop (.refl _))))))))))))) λs4=>
 (SF.cI (aH rfl (cn 2) ao) λ_=>rfl))))
abbrev d__law_great:DF:=⟨"_law_great",top 52,["_law_pot_here"],3,λK=>fJ K [.p (fh eL)] (cy 0 eU)⟩
def k__law_great (D:DI v d__law_great) (q:NB v) (lu:d__law_tree.C v) (xA:d__law_words.C v) (aE:d__law_take.C v):D.O:=
 aaj (m:=eU) D sc__law_great λ_ _ _ _ _ _ hr=>
 (SF.cI (eC lu hr (bt 0 (ae (jJ (lC xA hr (bt 0 (ae (a9 rfl ao (eC aE hr (bt 0 (ae (aH rfl (gW (aV (n:=2) (ae ao (ae ao ak)) rfl)) (qU rfl q.int (kq (eF rfl (aU hr)) (eC aE hr (bt 0 (ae ao ak))) ao))) ak)))) ak)))) ak))) λ_=>rfl)
abbrev d__law_nodes:DF:=⟨"_law_nodes",top 53,["_law_tree_here"],12,λK=>eK K [.v] (cy 1 (bp 12))⟩
theorem k__law_nodes (D:DI v d__law_nodes) (q:NB v):∀n,gJ v.P v.w v.K v.mg v.base lY (n+0) D.f D.fd ["_law_tree_here"] (eK v.K [.v] (cy 1 (bp n)))
 | 0=>O6 (Jy λl Q hl=>match l,hl with | [cV],_=>λh=>h.elim)
 | n+1=>have cF:=D.cN (k__law_nodes D q n)
  fnL (k:=n+0) (n:=1) (m:=bp (n+1)) D.fn sc__law_nodes rfl (ju dC) λl hl=>match l,hl with | [cV],_=>λ_ _ _ _ _ _ hr=>show SF _ _ _ [ap (.val cV),bm,bm,bm] _ (bp (n+1) cV) _ from
 (SF.J6 (cP rfl (fo rfl .str rfl q.isinstance (af 0) rfl q.str sB) (λ_=>rfl))
 (SF.gs (aV (n:=1) (ae (af 0) ak) rfl) λ_=>rfl)
 (sl 1 sc__law_nodes.nd (lC cF hr (ae (aH rfl (ax (af 0)) ao) ak)) λwG=>
 (sv 2 sc__law_nodes.nd (pz rfl rfl q.len (cn 1)) λsk=>
 (SF.uK (hd:=(λ(s6:List PV)=>([ap (.val cV),ap (.ol bm s6),ap (.val sk),bm]:bF))) (s0:=wG) AM rfl (bK rfl (nT (lC cF hr (ae (aH rfl (ax (af 0)) ao) ak)))) (.refl _) (dq 3 sc__law_nodes.nd) (λs6 zb=>
 (SF.append 1 rfl rfl rfl (.inl rfl) (L1 (cP rfl (fo rfl .str rfl q.isinstance (af 3) rfl q.str sB) (λ_=>rfl)) (af 3) (aF (n:=2) (ae (a9 rfl (aH rfl (ax (af 3)) ao) (af 2)) (ae (a9 rfl (aH rfl (ax (af 3)) ao) (af 2)) ak)) rfl)) λNq=>
 (SF.f6 rfl (.keep (.keep (.keep (.drop (.refl _)))))))) λs6=>
 (SF.gs (k8 rfl (G8 1) (bI (aV (n:=1) (ae (aF (n:=2) (ae (mw (af 2) ao) (ae (mw (pz rfl rfl q.len (cn 1)) ao) ak)) rfl) ak) rfl))) λ_=>rfl)))))
abbrev d__law_dates:DF:=⟨"_law_dates",top 54,["_law_pot_here","_law_rows"],3,λK=>fJ K [.p (fh eL),.v] (cy 1 eW)⟩
def k__law_dates (D:DI v d__law_dates) (q:NB v) (bL:d__law_pick.C v) (aE:d__law_take.C v):D.O:=
 lZ (m:=eW) D sc__law_dates λbU _ _ _ _ _ _ hr=>
 (sl 2 sc__law_dates.nd (Oq (aV (n:=1) (ae ao ak) rfl) (dz rfl rfl q.len (af 1))) λka=>
 (sl 4 sc__law_dates.nd (UH rfl lc__law_dates_0 (nP rfl rfl q.enumerate (bV (af 1))) (λ_ _ _ _ _=>(QC rfl (fv rfl (aN (dq 0 lc__law_dates_0.nd) (aN (dq 1 lc__law_dates_0.nd) dB))))) (λ_ _ _ _ _ t9=>(kN (cP rfl (fo rfl .str rfl q.isinstance (af 1) rfl q.str sB) (λ_=>rfl)))) (λ_ _ _ _ _ t9=>(af 0)) (Ol rfl rfl ⋯) ⋯) λHv=>
 (sv 5 sc__law_dates.nd ao λye=>
 (SF.Jg (hd:=(λ(pY:List PV×List PV×PV)=>([ap (.kj (fh eL)),ap (.val bU),ap (.ol bm pY.1),bm,ap (.ol bm pY.2.1),ap (.val pY.2.2),bm]:bF))) (s0:=(ka,Hv,ye)) AM (.refl _) (λpY=>(M5 rfl (aU hr) (G8 4))) (λpY=>
 (SF.as (X8 4 rfl (X7 (i:=6) rfl sc__law_dates.nd rfl rfl lc__law_dates_1 (bK rfl (bV (af 4))) (λ_ _ _ _ _=>(dq 0 lc__law_dates_1.nd)) (λ_ _ _ _ _ Z2=>(uc.t (kM (wg rfl (aU hr) (aH rfl (ax (aH rfl (ax (af 2)) (af 0))) ao) (ax (af 1))) (iC (wg rfl (aU hr) (aH rfl (ax (aH rfl (ax (af 2)) (af 0))) ao) (ax (af 1))))))) (λ_ _ _ _ _ Z2=>(af 0)) rfl)) λzf=>
 SF.cM 6 rfl (sv 3 sc__law_dates.nd (eC bL hr (bt 0 (ae (af 6) ak))) λsM=>
 (sv 5 sc__law_dates.nd (a9 rfl (a9 rfl (af 5) ao) (eC aE hr (bt 0 (ae (aH rfl (gW (aV (n:=3) (ae ao (ae ao (ae ao ak))) rfl)) (eC aE hr (bt 0 (ae ao ak)))) ak)))) λyd=>
 (SF.G6 2 rfl rfl (.inl rfl) (af 5) (af 3) λmy=>
 (SF.remove 4 rfl rfl rfl (.inr (.inl rfl)) (af 3) λJV=>
 (SF.f6 rfl (.keep (.keep (.keep (.drop (.keep (.keep (.drop (.refl _))))))))))))))) λpY=>
 (SF.cI (fW rfl rfl q.tuple (cn 2)) λ_=>rfl)))))
abbrev d__law_small:DF:=⟨"_law_small",top 55,["_law_pot_here","_law_great_here"],13,λK=>fJ K [.p (fh eL),.v] (cy 1 eT)⟩
def k__law_small (D:DI v d__law_small) (q:NB v) (cF:d__law_nodes.C v) (aE:d__law_take.C v) (lu:d__law_tree.C v) (bL:d__law_pick.C v):D.O:=
 lZ (m:=eT) D sc__law_small λdw _ _ _ _ _ _ hr=>
 (sl 2 sc__law_small.nd (zK rfl lc__law_small_0 (bK rfl (nT (lC cF hr (ae (af 1) ak)))) (λ_ _ _ _ _=>(dq 0 lc__law_small_0.nd)) (λ_ _ _ _ _ p4=>(cP rfl (fo rfl .str rfl q.isinstance (af 0) rfl q.str sB) (λ_=>rfl))) (λ_ _ _ _ _ p4=>(af 0)) rfl) λm9=>
 SF.cM 2 rfl (sv 3 sc__law_small.nd (a9 rfl ao (eC aE hr (bt 0 (ae (aH rfl (gW (aV (n:=2) (ae ao (ae ao ak)) rfl)) (qU rfl q.int (kq (eF rfl (aU hr)) (eC aE hr (bt 0 (ae ao ak))) ao))) ak)))) λOe=>
 (SF.cI (eC lu hr (bt 0 (ae (jJ (fD rfl lc__law_small_1 (fN rfl q.range (af 3)) (λ_ _ _ _ _=>(dq 0 lc__law_small_1.nd)) (λ_ _ _ _ _ p12=>(eC bL hr (bt 1 (ae (af 2) ak)))) rfl)) ak))) λ_=>rfl)))
abbrev d__law_any_ground:DF:=⟨"_law_any_ground",top 56,["_law_pot_here","_law_great_here"],13,λK=>fJ K [.p (fh eL),.v] (cy 1 cC)⟩
def k__law_any_ground (D:DI v d__law_any_ground) (aE:d__law_take.C v) (O2:d_ground.C v) (S1:d_dated.C v) (xF:d__law_dates.C v) (cF:d__law_nodes.C v):D.O:=
 lZ (m:=cC) D sc__law_any_ground λdw _ _ _ _ _ _ hr=>
 (SF.J6 (dg (eF rfl (aU hr)) (eC aE hr (bt 0 (ae ao ak))) ao)
 (SF.cI (eC O2 hr (ae (af 1) ak)) λ_=>rfl)
 (SF.cI (eC S1 hr (ae (af 1) (ae (eC xF hr (bt 0 (ae (jJ (lC cF hr (ae (af 1) ak))) ak))) ak))) λ_=>rfl))
abbrev d__law_deeds:DF:=⟨"_law_deeds",top 57,["_law_stays","_law_stay"],1,λK=>eK K [.v,.v] (cy 2 eV)⟩
def k__law_deeds (D:DI v d__law_deeds) (q:NB v):D.O:=
 Lb (m:=eV) D sc__law_deeds λaK bb _ _ _ _ _ _ hr=>
 (SF.Rk (aH rfl (ax (af 0)) (af 1)) (g_4 rfl (fv rfl (aN (dq 2 sc__law_deeds.nd) (aN (dq 3 sc__law_deeds.nd) (aN (dq 4 sc__law_deeds.nd) (aN (dq 5 sc__law_deeds.nd) dB)))))) λt3=>
 (sl 6 sc__law_deeds.nd (aV (n:=1) (ae (aF (n:=3) (ae c8 (ae (af 1) (ae (af 1) ak))) rfl) ak) rfl) λxH=>
 (SF.ifS (out1:=λ(Qy:List PV)=>.nx ([ap (.val aK),ap (.val bb),ap (.val t3.1),ap (.val t3.2.1),ap (.val t3.2.2.1),ap (.val t3.2.2.2),ap (.ol bm Qy),bm]:bF)) (dg (eF rfl (aU hr)) (dz rfl rfl q.len (af 4)) ao)
 (SF.extend 6 rfl rfl rfl (.inl rfl) (gW (aV (n:=2) (ae (aF (n:=3) (ae c8 (ae (aH rfl (ax (af 4)) ao) (ae (aH rfl (ax (af 4)) ao) ak))) rfl) (ae (aF (n:=3) (ae c8 (ae (aH rfl (ax (af 4)) ao) (ae (aH rfl (ax (af 4)) ao) ak))) rfl) ak)) rfl)) λFl=>
 (SF.nil rfl (.refl _)))
 (SF.nil rfl (.refl _))
 λQy=>(SF.uK (hd:=(λ(Rl:List PV)=>([ap (.val aK),ap (.val bb),ap (.val t3.1),ap (.val t3.2.1),ap (.val t3.2.2.1),ap (.val t3.2.2.2),ap (.ol bm Rl),bm]:bF))) (s0:=Qy) AM rfl (bK rfl (bV (af 5))) (.refl _) (dq 7 sc__law_deeds.nd) (λRl jt=>
 (SF.extend 6 rfl rfl rfl (.inl rfl) (gW (aV (n:=2) (ae (aF (n:=3) (ae c8 (ae (af 1) (ae (af 7) ak))) rfl) (ae (aF (n:=3) (ae c8 (ae (af 7) (ae (af 1) ak))) rfl) ak)) rfl)) λnY=>
 (SF.f6 rfl (.keep (.keep (.keep (.keep (.keep (.keep (.keep (.drop (.refl _)))))))))))) λRl=>
 (SF.Nr 6 rfl rfl)))))
abbrev d__law_done:DF:=⟨"_law_done",top 58,["_law_stays","_law_rows","_law_can_here","_law_node","_law_stay"],2,λK=>eK K [.v,.v,.v,.v,.v] (cy 5 cB)⟩
def k__law_done (D:DI v d__law_done) (q:NB v) (xE:d__law_deeds.C v):D.O:=
 ad5 (m:=cB) D sc__law_done λaK bU a6 cj bb _ _ _ _ _ _ hr=>
 (sv 5 sc__law_done.nd (aH rfl (ax (af 1)) (af 3)) λzc=>
 (SF.J6 (cP rfl (fo rfl .str rfl q.isinstance (af 5) rfl q.str sB) (λ_=>rfl))
 (SF.gs (Oq (aV (n:=1) (ae (aF (n:=3) (ae c8 (ae (af 4) (ae (af 4) ak))) rfl) ak) rfl) (qU rfl q.int (tJ (kq (eF rfl (aU hr)) (aH rfl (ax (aH rfl (ax (af 0)) (af 4))) ao) (aF (n:=0) ak rfl)) (pM (kq (eF rfl (aU hr)) (aH rfl (ax (aH rfl (ax (af 0)) (af 4))) ao) (af 5)))))) λ_=>rfl)
 (SF.gs (zK rfl lc__law_done_0 (bK rfl (nT (lC xE hr (ae (af 0) (ae (af 4) ak))))) (λ_ _ _ _ _=>(dq 0 lc__law_done_0.nd)) (λ_ _ _ _ _ GH=>(uc.t (kM (cP rfl (aH rfl (ax (aH rfl (ax (af 1)) (aH rfl (ax (af 2)) ao))) (aH rfl (ax (af 0)) ao)) (λ_=>rfl)) (iC (cP rfl (aH rfl (ax (aH rfl (ax (af 1)) (aH rfl (ax (af 2)) ao))) (aH rfl (ax (af 0)) ao)) (λ_=>rfl)))))) (λ_ _ _ _ _ GH=>(af 0)) rfl) λ_=>rfl)))
abbrev d__law_can:DF:=⟨"_law_can",top 59,["_law_stays","_law_rows"],3,λK=>eK K [.v,.v] (cy 2 hJ)⟩
def k__law_can (D:DI v d__law_can) (q:NB v) (cG:d__law_done.C v):D.O:=
 Lb (m:=hJ) D sc__law_can λaK bU _ _ _ _ _ _ hr=>
 (SF.Zy (i:=2) sc__law_can.nd rfl (Ct rfl)
 (SF.uK (hd:=(λ(s3:(List ci×List (List PV)))=>([ap (.val aK),ap (.val bU),ap (.qF s3.1 s3.2),bm,bm,bm]:bF))) (s0:=(([]:List ci),([]:List (List PV)))) AM rfl (fN rfl q.range (dz rfl rfl q.len (af 1))) (.refl _) (dq 3 sc__law_can.nd) (λs3 sd=>
 (SF.Qj 2 rfl rfl rfl (.inr (.inl rfl)) (Oq (aV (n:=1) (ae kD ak) rfl) (dz rfl rfl q.len (af 0))) λb9 sY=>
 (SF.uK (hd:=(λ(Mx:(List ci×List (List PV)))=>([ap (.val aK),ap (.val bU),ap (.qF Mx.1 Mx.2),ap (.val sd),bm,bm]:bF))) (s0:=(b9,sY)) AM rfl (fN rfl q.range (dz rfl rfl q.len (af 0))) (.refl _) (dq 4 sc__law_can.nd) (λMx qu=>
 (sv 5 sc__law_can.nd (Km 2 rfl (U7 2 rfl (abB rfl rfl rfl q.any (bI (fD rfl lc__law_can_0 (bK rfl (bV (aH rfl (ax (aH rfl (ax (af 0)) (af 4))) ao))) (λ_ _ _ _ _=>(dq 0 lc__law_can_0.nd)) (λ_ _ _ _ _ þ=>(aH rfl (ax (aH rfl (ax (af 1)) (af 2))) (af 0))) rfl))))) λUx=>
 (SF.Zz 2 rfl rfl rfl (.inr (.inl rfl)) (Km 2 rfl (U7 2 rfl (abt (af 5) (pM (abv rfl (aU hr) (bI (lC cG hr (ae (af 0) (ae (af 1) (ae (af 2) (ae (af 3) (ae (af 4) ak)))))))))))) (af 3) (af 4) (λ_ _=>rfl) λzY=>
 (SF.f6 rfl (.keep (.keep (.keep (.keep (.drop (.drop (.refl _))))))))))) λMx=>
 (SF.f6 rfl (.keep (.keep (.keep (.drop (.refl _))))))))) λs3=>
 (SF.abc 2 rfl (SF.Nr 2 rfl rfl))))
abbrev d__law_path:DF:=⟨"_law_path",top 60,["_law_pot_here","_law_stays","_law_rows","_law_can_here","_law_node","_law_stay"],3,λK=>fJ K [.p (fh eL),.v,.v,.v,.v,.v] (cy 5 eE)⟩
def k__law_path (D:DI v d__law_path) (q:NB v) (aE:d__law_take.C v) (cG:d__law_done.C v) (bL:d__law_pick.C v):D.O:=
 aai (m:=eE) D sc__law_path λaK bU a6 cj bb _ _ _ _ _ _ hr=>
 (sl 6 sc__law_path.nd (aV (n:=1) (ae (af 5) ak) rfl) λkR=>
 (SF.uK (hd:=(λ(s4:List PV)=>([ap (.kj (fh eL)),ap (.val aK),ap (.val bU),ap (.val a6),ap (.val cj),ap (.val bb),ap (.ol bm s4),bm,bm,bm]:bF))) (s0:=kR) AM rfl (fN rfl q.range (dz rfl rfl q.len (af 1))) (.refl _) (dq 7 sc__law_path.nd) (λs4 Vr=>
 (SF.Nm (i:=8) rfl sc__law_path.nd rfl rfl lc__law_path_0 (bK rfl (bV (aH rfl (ax (aH rfl (ax (af 1)) (aH rfl (cn 6) (gz ao)))) ao))) (λ_ _ _ _ _=>(dq 0 lc__law_path_0.nd)) (λ_ _ _ _ _ p8=>(cP rfl (aH rfl (ax (aH rfl (ax (af 1)) (af 2))) (af 0)) (λ_=>rfl))) (λ_ _ _ _ _ p8=>(af 0)) rfl λWz=>
 SF.cM 8 rfl (sv 9 sc__law_path.nd (abt (abA rfl (aU hr) (bI (lC cG hr (ae (af 1) (ae (af 2) (ae (af 3) (ae (af 4) (ae (aH rfl (cn 6) (gz ao)) ak)))))))) (pM (kq (eF rfl (aU hr)) (eC aE hr (bt 0 (ae ao ak))) ao))) λPt=>
 (SF.Xh (uc.t (kM (M5 rfl (aU hr) (kQ (af 8))) (iC (cP rfl (af 9) (λ_=>rfl)))))
 (SF.append 6 rfl rfl rfl (.inl rfl) (eC bL hr (bt 0 (ae (af 8) ak))) λgD=>
 (SF.f6 rfl (.keep (.keep (.keep (.keep (.keep (.keep (.keep (.drop (.drop (.drop (.refl _)))))))))))))
 (SF.f6 rfl (.keep (.keep (.keep (.keep (.keep (.keep (.keep (.drop (.drop (.drop (.refl _)))))))))))))))) λs4=>
 (SF.Jg (hd:=(λ(Np:List PV)=>([ap (.kj (fh eL)),ap (.val aK),ap (.val bU),ap (.val a6),ap (.val cj),ap (.val bb),ap (.ol bm Np),bm,bm,bm]:bF))) (s0:=s4) AM (.refl _) (λNp=>(Zb rfl (aU hr) (bI (lC cG hr (ae (af 1) (ae (af 2) (ae (af 3) (ae (af 4) (ae (aH rfl (cn 6) (gz ao)) ak))))))))) (λNp=>
 (SF.append 6 rfl rfl rfl (.inl rfl) (eC bL hr (bt 0 (ae (jJ (zK rfl lc__law_path_1 (bK rfl (bV (aH rfl (ax (aH rfl (ax (af 1)) (aH rfl (cn 6) (gz ao)))) ao))) (λ_ _ _ _ _=>(dq 0 lc__law_path_1.nd)) (λ_ _ _ _ _ ý=>(cP rfl (aH rfl (ax (aH rfl (ax (af 1)) (af 2))) (af 0)) (λ_=>rfl))) (λ_ _ _ _ _ ý=>(af 0)) rfl)) ak))) λnA=>
 (SF.f6 rfl (.refl _)))) λNp=>
 (SF.cI (fW rfl rfl q.tuple (cn 6)) λ_=>rfl))))
abbrev d__law_way:DF:=⟨"_law_way",top 61,["_law_pot_here","_law_stays","_law_rows","_law_can_here","_law_node","_law_path_here"],15,λK=>fJ K [.p (fh eL),.v,.v,.v,.v,.v] (cy 5 (c6 12))⟩
theorem k__law_way (D:DI v d__law_way) (bL:d__law_pick.C v) (cG:d__law_done.C v) (lx:d__law_path.C v):∀n,gJ v.P v.w v.K v.mg v.base lY (n+3) D.f D.fd ["_law_pot_here","_law_stays","_law_rows","_law_can_here","_law_node","_law_path_here"] (fJ v.K [.p (fh eL),.v,.v,.v,.v,.v] (cy 5 (c6 n)))
 | 0=>O6 (VE λl Q hl=>match l,hl with | [aK,bU,a6,cj,d8],_=>λh=>h.elim)
 | n+1=>have j5:=D.cN (k__law_way D bL cG lx n)
  fnV (k:=n+3) (n:=5) (m:=c6 (n+1)) D.fn sc__law_way rfl (aD (n:=5)) λl hl=>match l,hl with | [aK,bU,a6,cj,d8],_=>λ_ _ _ _ _ _ hr=>show SF _ _ _ [ap (.kj (fh eL)),ap (.val aK),ap (.val bU),ap (.val a6),ap (.val cj),ap (.val d8),bm,bm,bm,bm,bm] _ (c6 (n+1) aK bU a6 cj d8) _ from
 (SF.Rk (eC bL hr (bt 0 (ae (jJ (lC cG hr (ae (af 1) (ae (af 2) (ae (af 3) (ae (af 4) (ae (aH rfl (ax (af 5)) (gz ao)) ak))))))) ak))) (g_3 rfl (fv rfl (aN (dq 6 sc__law_way.nd) (aN (dq 7 sc__law_way.nd) (aN (dq 8 sc__law_way.nd) dB))))) λt8=>
 (SF.J6 (dg (eF rfl (aU hr)) (af 6) c8)
 (SF.cI (aF (n:=2) (ae (af 5) (ae (af 6) ak)) rfl) λ_=>rfl)
 (sv 9 sc__law_way.nd (aH rfl (ax (af 2)) (af 4)) λrO=>
 (sv 10 sc__law_way.nd (eC j5 hr (bt 0 (ae (af 1) (ae (af 2) (ae (af 3) (ae (aH rfl (ax (af 9)) ao) (ae (eC lx hr (bt 0 (ae (af 1) (ae (af 2) (ae (af 3) (ae (aH rfl (ax (af 9)) ao) (ae (af 7) ak))))))) ak))))))) λF1=>
 (SF.cI (aF (n:=4) (ae (af 5) (ae (af 6) (ae (af 10) (ae (eC j5 hr (bt 0 (ae (af 1) (ae (af 2) (ae (af 3) (ae (aH rfl (ax (af 9)) ao) (ae (eC lx hr (bt 0 (ae (af 1) (ae (af 2) (ae (af 3) (ae (aH rfl (ax (af 9)) ao) (ae (af 8) ak))))))) ak))))))) ak)))) rfl) λ_=>rfl)))))
abbrev d__law_whole_way:DF:=⟨"_law_whole_way",top 62,["_law_pot_here","_law_stays","_law_small_here"],16,λK=>fJ K [.p (fh eL),.v,.v] (cy 2 cQ)⟩
def k__law_whole_way (D:DI v d__law_whole_way) (q:NB v) (cF:d__law_nodes.C v) (H0:d__law_can.C v) (cG:d__law_done.C v) (j5:d__law_way.C v) (bL:d__law_pick.C v):D.O:=
 ux (m:=cQ) D sc__law_whole_way λaK pG _ _ _ _ _ _ hr=>
 (sl 3 sc__law_whole_way.nd (lC cF hr (ae (af 2) ak)) λrN=>
 SF.cM 3 rfl (sl 4 sc__law_whole_way.nd (lC H0 hr (ae (af 1) (ae (af 3) ak))) λmT=>
 SF.cM 4 rfl (sv 5 sc__law_whole_way.nd (mw (dz rfl rfl q.len (af 3)) ao) λHy=>
 (SF.Nm (i:=6) rfl sc__law_whole_way.nd rfl rfl lc__law_whole_way_0 (fN rfl q.range (dz rfl rfl q.len (af 1))) (λ_ _ _ _ _=>(dq 0 lc__law_whole_way_0.nd)) (λ_ _ _ _ _ Yp=>(M5 rfl (aU hr) (bI (lC cG hr (ae (af 4) (ae (af 3) (ae (af 1) (ae (af 2) (ae (af 0) ak))))))))) (λ_ _ _ _ _ Yp=>(af 0)) rfl λrG=>
 SF.cM 6 rfl (SF.cI (eC j5 hr (bt 0 (ae (af 1) (ae (af 3) (ae (af 4) (ae (af 5) (ae (aF (n:=1) (ae (eC bL hr (bt 0 (ae (af 6) ak))) ak) rfl) ak))))))) λ_=>rfl)))))
abbrev d__law_scene:DF:=⟨"_law_scene",top 63,["_law_pot_here"],17,λK=>fJ K [.p (fh eL)] (cy 0 gE)⟩
def k__law_scene (D:DI v d__law_scene) (xD:d__law_great.C v) (nX:d__law_any_ground.C v) (xB:d__law_small.C v) (pj:d__law_whole_way.C v):D.O:=
 aaj (m:=gE) D sc__law_scene λ_ _ _ _ _ _ hr=>
 (sv 1 sc__law_scene.nd (eC xD hr (bt 0 ak)) λgF=>
 (sv 2 sc__law_scene.nd (eC nX hr (bt 0 (ae (af 1) ak))) λwo=>
 (sv 3 sc__law_scene.nd (eC xB hr (bt 0 (ae (af 1) ak))) λjS=>
 (SF.cI (aF (n:=4) (ae (af 1) (ae (af 2) (ae (af 3) (ae (eC pj hr (bt 0 (ae (af 2) (ae (af 3) ak)))) ak)))) rfl) λ_=>rfl))))
abbrev iZ:DF:=⟨"_law_things",top 64,[],1,λK=>eK K [] (cy 0 cx)⟩
def uC (D:DI v iZ) (q:NB v):D.O:=
 ad6 (m:=cx) D dm λ_ _ _ _ _ _ hr=>
 (sv 0 dm.nd (aF (n:=0) ak rfl) λIy=>
 (SF.uK (hd:=(λ(s3:PV)=>([ap (.val s3),bm,bm]:bF))) (s0:=Iy) AM rfl (fN rfl q.range ao) (.refl _) (dq 1 dm.nd) (λs3 rA=>
 (sv 0 dm.nd (aF (n:=1) (ae (af 0) ak) rfl) λPR=>
 (SF.f6 rfl (.keep (.drop (.refl _)))))) λs3=>
 (sl 2 dm.nd (aV (n:=13) (ae lE (ae kD (ae kD (ae c8 (ae c8 (ae c8 (ae (jJ (aV (n:=0) ak rfl)) (ae (Tg Va) (ae (aF (n:=0) ak rfl) (ae (af 0) (ae (F6 ao ao) (ae (gz ao) (ae ao ak))))))))))))) rfl) λrG=>
 SF.cM 2 rfl (SF.gs (k8 rfl (kQ (af 2)) (bI (aV (n:=6) (ae (aF (n:=1) (ae c8 ak) rfl) (ae (aF (n:=1) (ae (aF (n:=1) (ae ao ak) rfl) ak) rfl) (ae (aF (n:=3) (ae (aF (n:=1) (ae ao ak) rfl) (ae c8 (ae c8 ak))) rfl) (ae (jJ (aV (n:=2) (ae (aF (n:=1) (ae ao ak) rfl) (ae c8 ak)) rfl)) (ae (aF (n:=2) (ae (aF (n:=0) ak rfl) (ae c8 ak)) rfl) (ae (Tg (abG ao c8)) ak)))))) rfl))) λ_=>rfl))))
abbrev mQ:DF:=⟨"_law_odd",top 65,["_law_pot_here","_law_way_here"],2,λK=>eK K [.p (fh eL),.v] (cy 1 fC)⟩
def HB (D:DI v mQ) (q:NB v) (aE:d__law_take.C v):D.O:=
 Si (m:=fC) D cz λaB _ _ _ _ _ _ hr=>
 (sv 2 cz.nd (eC aE hr (bt 0 (ae (dz rfl rfl q.len (aH rfl (ax (af 1)) ao)) ak))) λQg=>
 (SF.Rk (aF (n:=2) (ae (aH rfl (ax (af 1)) ao) (ae (aH rfl (ax (aH rfl (ax (af 1)) ao)) (af 2)) ak)) rfl) (QC rfl (fv rfl (aN (dq 3 cz.nd) (aN (dq 4 cz.nd) dB)))) λt6=>
 (sl 5 cz.nd (aV (n:=7) (ae (XM rfl hr rfl q.str (af 4)) (ae (aF (n:=1) (ae (af 4) ak) rfl) (ae (jJ (aV (n:=1) (ae (af 4) ak) rfl)) (ae lE (ae (mw (gz ao) (af 4)) (ae (a9 rfl (af 4) (F6 ao ao)) (ae (Tg Va) ak))))))) rfl) λmK=>
 (SF.ifS (out1:=λ(Qy:List PV)=>.nx ([ap (.kj (fh eL)),ap (.val aB),ap (.val Qg),ap (.val t6.1),ap (.val t6.2),ap (.ol bm Qy),bm,bm]:bF)) (dg zO (af 4) ao)
 (SF.append 5 rfl rfl rfl (.inl rfl) (kq (eF rfl (aU hr)) (af 4) ao) λpJ=>
 (SF.nil rfl (.refl _)))
 (SF.nil rfl (.refl _))
 λQy=>(SF.cM 5 rfl (SF.lM (i:=6) rfl cz.nd rfl rfl ml (bK rfl (bV (af 5))) (λ_ _ _ _ _=>(dq 0 ml.nd)) (λ_ _ _ _ _ p24=>(a9 rfl (aF (n:=1) (ae (a9 rfl (a9 rfl (gw rfl (af 2) cY (de (af 1))) (aF (n:=1) (ae (af 0) ak) rfl)) (gw rfl (af 2) (de (a9 rfl (af 1) ao)) cY)) ak) rfl) (gw rfl (af 3) (de ao) cY))) rfl λz9=>
 SF.cM 6 rfl (sl 6 cz.nd (k8 rfl (kQ (af 6)) (bI (aV (n:=5) (ae (a9 rfl (aF (n:=1) (ae (jJ (HA rfl rfl q.list (ax (af 3)))) ak) rfl) (gw rfl (af 1) (de ao) cY)) (ae (a9 rfl (aF (n:=1) (ae (aF (n:=0) ak rfl) ak) rfl) (gw rfl (af 1) (de ao) cY)) (ae (a9 rfl (aF (n:=1) (ae lE ak) rfl) (gw rfl (af 1) (de ao) cY)) (ae (a9 rfl (aF (n:=1) (ae (aH rfl (ax (af 3)) ao) ak) rfl) (gw rfl (af 1) (de ao) cY)) (ae (jJ (HA rfl rfl q.list (ax (af 1)))) ak))))) rfl))) λzX=>
 SF.cM 6 rfl (sl 7 cz.nd (aV (n:=9) (ae lE (ae (Te rfl (aH rfl (ax (af 1)) ao)) (ae (aF (n:=1) (ae (aH rfl (ax (af 1)) ao) ak) rfl) (ae (jJ (aV (n:=1) (ae (aH rfl (ax (af 1)) ao) ak) rfl)) (ae kD (ae ao (ae (a9 rfl (aH rfl (ax (af 1)) ao) c8) (ae (abr (aH rfl (ax (af 1)) ao) cY (de (gz ao))) (ae c8 ak))))))))) rfl) λmx=>
 SF.cM 7 rfl (sl 6 cz.nd (k8 rfl (kQ (af 6)) (bI (fD rfl mj (bK rfl (bV (af 7))) (λ_ _ _ _ _=>(dq 0 mj.nd)) (λ_ _ _ _ _ p77=>(a9 rfl (a9 rfl (gw rfl (af 1) cY (de ao)) (aF (n:=1) (ae (af 0) ak) rfl)) (gw rfl (af 1) (de ao) cY))) rfl))) λzW=>
 SF.cM 6 rfl (SF.gs (k8 rfl (kQ (af 6)) (bI (aV (n:=6) (ae (a9 rfl (af 1) (aF (n:=1) (ae (af 1) ak) rfl)) (ae (gw rfl (af 1) cY (de ao)) (ae (gw rfl (af 1) cY (de (gz ao))) (ae (a9 rfl (af 1) (aF (n:=1) (ae lE ak) rfl)) (ae (XN rfl (af 1) cY cY (de (gz ao))) (ae (aF (n:=1) (ae (af 1) ak) rfl) ak)))))) rfl))) λ_=>rfl))))))))))
abbrev i6:DF:=⟨"_law_put_in",top 66,["_law_pot_here","_law_way_here","_law_things_here"],14,λK=>eK K [.p (fh eL),.v,.v] (cy 2 (bG 12))⟩
theorem mm (D:DI v i6) (q:NB v) (aE:d__law_take.C v) (sU:mQ.C v):∀n,gJ v.P v.w v.K v.mg v.base lY (n+2) D.f D.fd ["_law_pot_here","_law_way_here","_law_things_here"] (eK v.K [.p (fh eL),.v,.v] (cy 2 (bG n)))
 | 0=>O6 (Jy λl Q hl=>match l,hl with | [aB,cW],_=>λh=>h.elim)
 | n+1=>have fR:=D.cN (mm D q aE sU n)
  fnL (k:=n+2) (n:=2) (m:=bG (n+1)) D.fn rL rfl (aD (n:=2)) λl hl=>match l,hl with | [aB,cW],_=>λ_ _ _ _ _ _ hr=>show SF _ _ _ [ap (.kj (fh eL)),ap (.val aB),ap (.val cW)] _ (bG (n+1) aB cW) _ from
 (SF.J6 (uc.t (uZ (dg (eF rfl (aU hr)) (dz rfl rfl q.len (af 1)) ao) (oG (dg (eF rfl (aU hr)) (eC aE hr (bt 0 (ae ao ak))) ao))))
 (SF.gs (k8 rfl (kQ (af 2)) (bI (lC sU hr (bt 0 (ae (af 1) ak))))) λ_=>rfl)
 (SF.J6 (dg (eF rfl (aU hr)) (eC aE hr (bt 0 (ae ao ak))) ao)
 (SF.gs (fD rfl jE (bK rfl (nT (lC fR hr (bt 0 (ae (aH rfl (ax (af 1)) ao) (ae (af 2) ak)))))) (λ_ _ _ _ _=>(dq 0 jE.nd)) (λ_ _ _ _ _ p9=>(a9 rfl (gw rfl (af 1) cY (de ao)) (aF (n:=2) (ae (af 0) (ae (aH rfl (ax (af 1)) ao) ak)) rfl))) rfl) λ_=>rfl)
 (SF.gs (fD rfl jD (bK rfl (nT (lC fR hr (bt 0 (ae (aH rfl (ax (af 1)) ao) (ae (af 2) ak)))))) (λ_ _ _ _ _=>(dq 0 jD.nd)) (λ_ _ _ _ _ Z1=>(a9 rfl (gw rfl (af 1) cY (de ao)) (aF (n:=1) (ae (af 0) ak) rfl))) rfl) λ_=>rfl)))
abbrev d_law:DF:=⟨"law",top 67,["_law_script"],18,λK=>fJ K [.v] (cy 1 nI)⟩
def k_law (D:DI v d_law) (q:NB v) (HZ:d__law_pot.C v) (xC:d__law_scene.C v) (fR:i6.C v) (mq:iZ.C v) (zS:d_is_way.C v):D.O:=
 lZ (m:=nI) D sc_law λfK _ _ _ _ _ _ hr=>
 (SF.O5 (hd:=(λ(s6:Unit)=>([ap (.val fK),bm,bm,bm,bm,bm,bm,bm]:bF))) (s0:=()) (inj:=id) AM rfl (fN rfl q.range (abx rfl rfl q.max ao (abw rfl rfl q.min (dz rfl rfl q.len (af 0)) ao))) (.refl _) (dq 1 sc_law.nd) (λ_=>trivial) (λs6 Ě=>
 (sl 2 sc_law.nd (lC HZ hr (ae (af 0) (ae (af 1) ak))) λrS=>SF.kj 2 rfl
 (SF.Rk (eC xC hr (bt 2 ak)) (g_4 rfl (fv rfl (aN (dq 3 sc_law.nd) (aN (dq 4 sc_law.nd) (aN (dq 5 sc_law.nd) (aN (dq 6 sc_law.nd) dB)))))) λpX=>
 (SF.O5 (hd:=(λ(ü:Unit)=>([ap (.val fK),ap (.val Ě),ap (.kj (fh eL)),ap (.val pX.1),ap (.val pX.2.1),ap (.val pX.2.2.1),ap (.val pX.2.2.2),bm]:bF))) (s0:=()) (inj:=Lp.out) AM rfl (bK rfl (nT (k8 rfl (bI (lC fR hr (bt 2 (ae (af 6) (ae (jJ (lC0 mq hr)) ak))))) (bI (lC0 mq hr))))) (.refl _) (dq 7 sc_law.nd) (λ_=>trivial) (λü yV=>
 (SF.Xh (dg vt (eC zS hr (ae (af 4) (ae (af 5) (ae (af 7) ak)))) kD)
 (SF.ret (k:=λuf=>(Lp.out uf)) kD λ_=>rfl)
 (SF.f6 rfl (.keep (.keep (.keep (.keep (.keep (.keep (.keep (.drop (.refl _)))))))))))) λü=>
 (SF.Xh (dg vt (eC zS hr (ae (af 4) (ae (af 5) (ae (af 6) ak)))) kD)
 (SF.ret (k:=λq9=>(Lp.out q9)) kD λ_=>rfl)
 (SF.f6 rfl (.keep (.drop (.drop (.drop (.drop (.drop (.drop (.refl _)))))))))))))) λs6=>
 (SF.cI kD λ_=>rfl))
end
open PySem PySem.Spec PyProof.Rows L2 PL FL
def all_d {K:Ab} (X:K.In h) (G:h.Ns d4 mg) (Ik:DX K "is_whole" (top 1)) (Py:DX K "is_row" (top 2)) (LV:DX K "is_word" (top 6)) (Il:DX K "is_grown" (top 7)) (LW:DX K "is_tree" (top 8)) (Ih:DX K "parts_of" (top 9)) (Tf:DX K "nodes" (top 10)) (PF:DX K "halves" (top 11)) (Ip:DX K "ahead_of" (top 12)) (Ie:DX K "under_at" (top 17)) (F8:DX K "beside_at" (top 18)) (LZ:DX K "is_home" (top 19)) (LU:DX K "name_of" (top 20)) (Ij:DX K "lines_up" (top 21)) (xU:DX K "apart_from" (top 22)) (PJ:DX K "ground" (top 23)) (Io:DX K "comes_in" (top 29)) (L3:DX K "done_at" (top 30)) (PB:DX K "ins_of" (top 31)) (F5:DX K "split_ins" (top 32)) (Ii:DX K "over_ins" (top 33)) (Im:DX K "deeds_at" (top 34)) (LX:DX K "is_stay" (top 35)) (LY:DX K "is_path" (top 36)) (F7:DX K "is_formed" (top 37)) (qp:DX K "ways_of_nodes" (top 38)) (L0:DX K "is_done" (top 39)) (Px:DX K "is_way" (top 40)) (uL:DX K "split_dates" (top 42)) (Ig:DX K "standing" (top 43)) (LS:DX K "stay_of" (top 44)) (Th:DX K "dated" (top 45)) (Ir:DX K "_law_pot" (top 47)) (Ga:DX K "_law_take" (top 48)) (Gb:DX K "_law_pick" (top 49)) (xV:DX K "_law_words" (top 50)) (F9:DX K "_law_tree" (top 51)) (xZ:DX K "_law_great" (top 52)) (xY:DX K "_law_nodes" (top 53)) (yb:DX K "_law_dates" (top 54)) (xW:DX K "_law_small" (top 55)) (oe:DX K "_law_any_ground" (top 56)) (ya:DX K "_law_deeds" (top 57)) (Gg:DX K "_law_done" (top 58)) (Iv:DX K "_law_can" (top 59)) (Gd:DX K "_law_path" (top 60)) (Iq:DX K "_law_way" (top 61)) (pA:DX K "_law_whole_way" (top 62)) (xX:DX K "_law_scene" (top 63)) (uM:DX K "_law_things" (top 64)) (Iu:DX K "_law_odd" (top 65)) (uN:DX K "_law_put_in" (top 66)) (cS:AH K d4 "LONGEST_WORD"=ap (ap (.int 8 kO))) (gM:AH K d4 "LETTERS"=ap (ap (.str "abcdefghijklmnopqrstuvwxyz" u7))) (oj:AH K d4 "UNDER"=ap (ap (.int 2 Jo))) (lG:AH K d4 "BESIDE"=ap (ap (.int 3 yW))) (tR:AH K d4 "NAME"=ap (ap (.int 0 M7))) (oo:AH K d4 "FOUND"=ap (ap (.str "found" Jq))) (om:AH K d4 "SPLIT"=ap (ap (.str "split" Jp))) (tQ:AH K d4 "OVER"=ap (ap (.str "over" M6))) (jK:AH K d4 "DOUBLED"=ap (ap (.str "doubled" u9))) (vT:AH K d4 "isinstance"=ap bm) (Vj:AH K d4 "bool"=ap bm) (YW:AH K d4 "int"=ap bm) (YV:AH K d4 "len"=ap bm) (QL:AH K d4 "tuple"=ap bm) (YS:AH K d4 "str"=ap bm) (YY:AH K d4 "all"=ap bm) (Vh:AH K d4 "list"=ap bm) (GO:AH K d4 "reversed"=ap bm) (yN:AH K d4 "enumerate"=ap bm) (QM:AH K d4 "range"=ap bm) (MP:AH K d4 "sorted"=ap bm) (YR:AH K d4 "zip"=ap bm) (Vi:AH K d4 "dict"=ap bm) (YZ:AH K d4 "abs"=ap bm) (YX:AH K d4 "any"=ap bm) (YT:AH K d4 "min"=ap bm) (YU:AH K d4 "max"=ap bm):ab0 K mg d_law:=by
 constructor
 rintro v rfl rfl D;have q:NB v:=⟨AJ X G vT,AJ X G Vj,AJ X G YW,AJ X G YV,AJ X G QL,AJ X G YS,AJ X G YY,AJ X G Vh,AJ X G GO,AJ X G yN,AJ X G QM,AJ X G MP,AJ X G YR,AJ X G Vi,AJ X G YZ,AJ X G YX,AJ X G YT,AJ X G YU⟩;replace cS:=BN X G cS;replace gM:=BN X G gM;replace oj:=BN X G oj;replace lG:=BN X G lG;replace tR:=BN X G tR;replace oo:=BN X G oo;replace om:=BN X G om;replace tQ:=BN X G tQ;replace jK:=BN X G jK;obtain⟨gN⟩:=LV.mk2 (d:=d_is_word) X G;refine Ik.go (d:=d_is_whole) X G (λD=>k_is_whole D q) λIV=>?_;refine Py.go (d:=d_is_row) X G (λD=>k_is_row D q) λGA=>?_;have Mv:=gN.cA (k_is_word gN q cS gM);have YN:=gN.c (k_is_word gN q cS gM);obtain⟨tY⟩:=Il.mk2 (d:=(d_is_grown gN.f)) X G;have IW:=tY.c (k_is_grown tY Mv GA);refine LW.go (d:=d_is_tree) X G (λD=>k_is_tree D gN.at' IW) λMo=>?_;refine Ih.go (d:=d_parts_of) X G (λD=>k_parts_of D q) λIQ=>?_;refine Tf.go (d:=d_nodes) X G (λD=>k_nodes D q IQ) λqW=>?_;refine PF.go (d:=d_halves) X G (λD=>k_halves D q) λoz=>?_;refine Ip.go (d:=d_ahead_of) X G (λD=>k_ahead_of D q qW oz) λtV=>?_;refine Ie.go (d:=d_under_at) X G (λD=>k_under_at D oj) λmX=>?_;refine F8.go (d:=d_beside_at) X G (λD=>k_beside_at D lG) λGC=>?_;refine LZ.go (d:=d_is_home) X G (λD=>k_is_home D tR mX) λMr=>?_;refine LU.go (d:=d_name_of) X G (λD=>k_name_of D q) λvQ=>?_;refine Ij.go (d:=d_lines_up) X G (λD=>k_lines_up D q tV) λIU=>?_;refine xU.go (d:=d_apart_from) X G (λD=>k_apart_from D q) λyt=>?_;refine PJ.go (d:=d_ground) X G (λD=>k_ground D q qW IU vQ oz yt) λQr=>?_;refine Io.go (d:=d_comes_in) X G (λD=>k_comes_in D) λIZ=>?_;refine L3.go (d:=d_done_at) X G (λD=>k_done_at D) λMt=>?_;refine PB.go (d:=d_ins_of) X G (λD=>k_ins_of D q IZ) λQq=>?_;refine F5.go (d:=d_split_ins) X G (λD=>k_split_ins D q mX) λGz=>?_;refine Ii.go (d:=d_over_ins) X G (λD=>k_over_ins D GC) λIT=>?_;refine Im.go (d:=d_deeds_at) X G (λD=>k_deeds_at D q oo om tQ jK Mr Gz IT) λIX=>?_;refine LX.go (d:=d_is_stay) X G (λD=>k_is_stay D q IV) λMp=>?_;refine LY.go (d:=d_is_path) X G (λD=>k_is_path D q Mp mX) λMq=>?_;refine F7.go (d:=d_is_formed) X G (λD=>k_is_formed D q Mq GA) λGB=>?_;refine qp.go (d:=d_ways_of_nodes) X G (λD=>k_ways_of_nodes D q GB oz) λqr=>?_;refine L0.go (d:=d_is_done) X G (λD=>k_is_done D Qq IX Mt) λMs=>?_;refine Px.go (d:=d_is_way) X G (λD=>k_is_way D q Mo qW qr Ms) λQp=>?_;refine uL.go (d:=d_split_dates) X G (λD=>k_split_dates D q) λuR=>?_;refine Ig.go (d:=d_standing) X G (λD=>k_standing D q tV) λIP=>?_;refine LS.go (d:=d_stay_of) X G (λD=>k_stay_of D q oz vQ) λMn=>?_;refine Th.go (d:=d_dated) X G (λD=>k_dated D q qW uR IP Mn) λT3=>?_;refine Ir.go (d:=d__law_pot) X G (λD=>k__law_pot D q) λJa=>?_;refine Ga.go (d:=d__law_take) X G (λD=>k__law_take D) λbZ=>?_;refine Gb.go (d:=d__law_pick) X G (λD=>k__law_pick D q bZ) λgm=>?_;refine xV.go (d:=d__law_words) X G (λD=>k__law_words D q bZ) λyu=>?_;refine F9.go (d:=d__law_tree) X G (λD=>k__law_tree D q bZ) λpR=>?_;refine xZ.go (d:=d__law_great) X G (λD=>k__law_great D q pR yu bZ) λyz=>?_;refine xY.go (d:=d__law_nodes) X G (λD=>k__law_nodes D q 12) λkh=>?_;refine yb.go (d:=d__law_dates) X G (λD=>k__law_dates D q gm bZ) λyB=>?_;refine xW.go (d:=d__law_small) X G (λD=>k__law_small D q kh bZ pR gm) λyw=>?_;refine oe.go (d:=d__law_any_ground) X G (λD=>k__law_any_ground D bZ Qr T3 yB kh) λoA=>?_;refine ya.go (d:=d__law_deeds) X G (λD=>k__law_deeds D q) λyA=>?_;refine Gg.go (d:=d__law_done) X G (λD=>k__law_done D q yA) λiO=>?_;refine Iv.go (d:=d__law_can) X G (λD=>k__law_can D q iO) λJc=>?_;refine Gd.go (d:=d__law_path) X G (λD=>k__law_path D q bZ iO gm) λGD=>?_;refine Iq.go (d:=d__law_way) X G (λD=>k__law_way D gm iO GD 12) λI0=>?_;refine pA.go (d:=d__law_whole_way) X G (λD=>k__law_whole_way D q kh Jc iO I0 gm) λpD=>?_;refine xX.go (d:=d__law_scene) X G (λD=>k__law_scene D yz oA yw pD) λyx=>?_;refine uM.go (d:=iZ) X G (λD=>uC D q) (hb:=λ_ _ _ _ _ _ us h=>by cases us with | nil=>rfl | cons a l=>exact absurd (show l.length+1=0 from h) (Nat.succ_ne_zero _)) λuS=>?_;refine Iu.go (d:=mQ) X G (λD=>HB D q bZ) λJb=>?_;refine uN.go (d:=i6) X G (λD=>mm D q bZ Jb 12) λuT=>?_;exact k_law D q Ja yx uT uS Qp
def walk {l:E5}{q:sw}{d:DefRec}{K:Params->Ab} (hn:l.most=ap 63) (ñ:d.params.defaults=[])
  (hY:∀(w:t0) (h:mo),YP w h->(K w.params).In h)
  (F:∀(w:t0) (mg:Str->Option ce) (fa:ci) (h:mo),(K w.params).In h->h.Ns d4 mg->mg d.name=ap (.ref fa)->
   ∃fd:Da,(∀(s:cr) (u:ce),BindsTo s fd ⟨[u],[]⟩ [("_law_script",u)])/\∀base:mo,(K w.params).In base->base.Ns d4 mg->gJ l.prog w (K w.params) mg base lY 18 fa fd ["_law_script"] (Jx (K w.params))) :
  PySem.W.WalkO q Ó XP YP l.row.toRowW d [] (λf vs=>FY f vs):=
 L2.QR (n:=63) (k:=18) (x:="_law_script") (CX:=λ_=>lY) (sp:=λw=>Jx (K w.params)) hn ⋯ ñ ⟨rfl,by decide,by decide,rfl⟩ hY F (λ_ _ a ns hl hO hS=>⟨a,ns,rfl,hO,hS,hl,λ_=>rfl⟩) λ_ _ _ _ _ z=>z
end My
end
open PySem PySem.W PyProof.Rows
inductive PySem.W.Fast:Prop|tw4060619880532468382|tw1654218127741839690|tw9657813223437073891|tw9110259915381667569|tw13758593481279577127|tw8763449504876469248|tw3240398942344755354|tw5574598410544287923|tw7203648282601778498|tw12842462979005287737|tw8376451770631661136|tw8745642113372156340|tw4679345823570919135|tw5995114074864983747|tw13681935523879860064|tw15699123326884727528|tw587957742945428603|tw17864595145569484931|tw1856811238324236642|tw2810290501228516292|tw5909339062611517150|tw11574781118020636182|tw7073392176036089474|tw10289482523037847455|tw12512254821637184680|tw262388590065184817|tw15472556971374176242|tw4385219623854057842|tw12939698081695295656|tw4053752488514382200|tw13559083330982834403|tw6208513130885996809|tw9456422330675175593|tw5241957013483548954|tw15467676660450948403|tw8816141318989934623|tw4024099724733686866|tw6821351191443937332|tw6993508511626406662|tw3618428256179623470|tw12373705379945605785|tw16555636412359871317|tw11500189889597773121|tw9085014514595336042|tw2629476300415024154|tw15688040201558017419|tw1444080711652603699|tw10658534657612951071|tw6260042329473261289|tw14848965705914838449|tw5405495084809586399|tw12275873399780796068|tw4017580698255621212|tw5098232376722748415|tw2147553138561081292|tw7125284856003045498|tw2216894799399391595|tw6218949682747936342|tw1759599889473496639|tw7137445079778162853|tw9460165695970022835|tw1816333614823365637|tw16950155432730913017|tw14636433593353202177|tw1678213419747656609|tw9118461256235491962|tw10802797865398091554|tw11852781669599343730|tw17250255117298743855|tw2825668238527098438|tw4051574723857941848|tw1404749796533813823|tw12057582686544179659|tw12767541246038122048|tw5638621684279730291|tw7811735295640553647|tw7172598796962909182|tw3684613778138186756|tw18016054621410724202|tw17088645361202325590|tw3281370902302897689|tw15798429927163866805|tw12159510950353380243|tw4911551798687270272|tw10568073578798638362|tw17765069804042601846|tw4592169717225874264|tw8776082659922186658|tw4783966201940882616|tw7477884364594843840|tw13824952911053483219|tw5465909874774203023|tw3691893432735812349|tw6230343810958315204|tw17461355063647042444|tw9702515911434453742|tw10021639617281080493|tw5267641197660870308|tw9600776818489720365|tw4410808044185215941
def PySem.W.Fast.tw9856501613680391:=PySem.Challenge.pw_treewithin_k18_ways_of_anything
theorem PySem.W.Fast.te9856501613680391:PySem.Challenge.pw_treewithin_k18_ways_of_anything=PySem.W.Fast.tw9856501613680391:=rfl
set_option maxRecDepth 100000 in
set_option maxHeartbeats 0 in
theorem PySem.Challenge.cw_treewithin_k18_ways_of_anything_holds : PySem.Challenge.rw_treewithin_k18_ways_of_anything.Holds := by
 w_on;o_law;k_head;(case hw=>w_witness2)
 k_fill
 refine My.walk (l:=PySem.Challenge.rw_treewithin_k18_ways_of_anything) rfl rfl (fun w h Y=>PySem.W.kIn_of Y) ?F
 case F=>
  intro w mg fa h KX G hmg;refine' FL.mkAll (st:=My.top 67) (k:=18) My.law18_ok KX G hmg ?e (fun _ _ _ _ _ _=>FL.us1 fun _=>rfl) (My.all_d KX G ..)
  all_goals try first | (refine' FL.dx ?a ?l ?c ?k;(case a=>k_is);(case l=>k_is);(case c=>k_is);(case k=>k_is)) | k_is
#print axioms PySem.Challenge.cw_treewithin_k18_ways_of_anything_holds
