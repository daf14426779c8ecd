import PyProof.Rows.All
import Wide.All
import OpenK.AllK
import Wide.FinOn
import Lean
import PyProof.EqAt
import PyProof.EqKinds
import PyProof.TupleCall
import PyProof.NeKinds
import PyProof.FactsAll.tuple_2
import PyProof.FactsAll.str_0
import PyProof.FactsAll.str_1
import PyProof.FactsAll.str_2
import PyProof.FactsAll.str_3
import PyProof.Rows.MinMaxN
import PyProof.Rows.SumAny
import PyProof.Rows.SetFrom
import PyProof.ReprRoads
import PyProof.Rows.StrKeys3
import PyProof.CallFns
import KE.KSortTup
import KE.KDictSum
import PyProof.Rows.CallKwBuiltin
import KE.KMinBuiltin
import PySem.Challenge.RW_treewithin_k26_tables_by_sums
local macro_rules | `(tactic| omega) => `(tactic| lia)
open PySem renaming wpAny_bind -> Aa, wpAny_pure -> Ae, wpAny_setField_rec -> AV, Value -> AZ, wpAny_newObj_type -> A1, wpAny_field -> A4, wpAny_callSpecial?_slot -> A5, wpAny_holding -> Bl, wpAny_call_entry -> Bm, wpAny_seqItems -> Br, Addr -> BB, wpAny_Call_Name_kw -> BC, wpAny_mono -> BH, mem_of_lookup -> BI, wpAny_typeNameOfWhole_keyiter -> BS, Str -> BX, Expr -> B2, Pos -> B7, wpAny_passesOwn -> Cd, wpAny_typeNameOf_keyiter -> Cf, wpAny_of_eq -> Co, wpAny_letGo -> Cp, wpAny_updateSeq -> Cr, wpAny_truthy_bool -> CB, wpAny_pyIter_list -> CC, wpAny_newTuple -> CI, wpAny_attempt -> CU, wpAny_rule -> CY, wpAny_pyIter_enum -> C2, wpAny_isInstance -> Dg, wpAny_eqBool_str -> Dh, wpAny_updateSeq_pair -> Dq, wpAny_execs_nil -> Dz, Shared -> DJ, wpAny_tryCatch -> DU, wpAny_setField -> DV, wpAny_pyIter_tuple -> DW, wpAny_letOwnedTupleGo_enum -> DY, wpAny_dictEntries -> Ea, wpAny_standAt -> Ed, wpAny_onRaise -> Ee, wpAny_comprehension_free -> Ef, wpAny_typeOf -> Et, wpAny_specialOf -> EJ, wpAny_dictEpoch -> EK, Heap -> Fh, Obj -> Ft, call -> Fy
open PySem.W renaming Frag -> Ab, nsIn -> AA, mg_none_of -> AD, kia_one -> A7, kitOne -> Bq, mg_of -> BF, fnOf -> BR, KasT -> DG, keepIn -> DN, codeIn -> DP, methodObj -> D6, kitx_list -> D7, kitx_dict -> D8, cellsFrom_some -> Eo, kas_rev -> EE, instObj -> EG, OpenLaw -> EH, lookIn -> EX, kitx_tuple -> Fe, plainGet -> Fo, kat_cons -> Fp, kas_sort -> Fq
open List renaming getElem?_eq_getElem -> Ad, length_map -> Af, length_append -> Ah, size_toArray -> Ai, getElem?_map -> Aj, getElem?_eq_some_iff -> Ak, getD_eq_getElem?_getD -> Al, replicate -> Am, length_cons -> Ap, map_cons -> Ar, mem_map -> Av, mem_cons -> Aw, append_assoc -> Ay, map_map -> AB, range -> AI, map_append -> AJ, getElem?_append_left -> AL, getElem?_eq_none -> AO, mem_cons_of_mem -> AR, getElem?_append_right -> AU, mem_singleton -> AW, mem_range -> AY, mem_append_right -> A3, filterMap_cons -> A6, mem_filter -> A8, mem_append -> A9, find?_cons -> Be, lookup_cons -> Bf, mem_of_getElem? -> Bh, drop_eq_getElem_cons -> Bi, length_nil -> Bk, length_replicate -> Bn, getElem?_replicate -> Bp, mem_cons_self -> Bs, not_mem_nil -> Bt, replicate_succ -> Bu, length_filter_le -> Bv, any_cons -> Bw, idxOf_lt_length_of_mem -> BE, getElem?_range -> BJ, length_set -> BK, length -> BL, forIn_cons -> BM, pairwise_iff_getElem -> BN, getElem?_set_ne -> BU, eq_nil_of_length_eq_zero -> BV, flatten_cons -> BZ, ext_getElem? -> B1, length_reverse -> B3, cons_append -> B8, map_congr_left -> Ci, length_pos_iff -> Cj, eraseIdx_cons_succ -> Cn, getElem?_set_self -> Cq, append_nil -> Ct, perm_append_comm -> Cz, reverse_cons -> CD, length_range -> CF, flatMap_cons -> CG, take_succ -> CJ, take_length -> CK, all_eq_true -> CM, mergeSort_perm -> CP, foldl_cons -> CV, pairwise_lt_range -> C5, replicate_append_replicate -> C6, eraseIdxIfInBounds_toArray -> C7, length_singleton -> C8, filter_cons -> Di, drop_length -> Dj, sum_cons -> Dk, getElem_toArray -> Ds, getElem?_of_mem -> Du, nodup_cons -> DA, length_take_le -> DC, getElem_of_mem -> DE, map_nil -> DL, pairwise_cons -> D1, nodup_nil -> D2, filter_append -> D3, pairwise_map -> Eb, length_erase_of_mem -> Eg, pairwise_mergeSort -> El, length_take -> Em, getElem_mem -> En, take_of_length_le -> Ex, map_set -> Ey, length_pos_of_mem -> Ez, filter_eq_nil_iff -> EA, drop_eq_nil_of_le -> EB, of_mem_zip -> EM, nil_append -> EN, getElem?_toArray -> EW, mem_append_left -> E3, length_eraseIdx -> E4, reverse_append -> Fb, any_map -> Fm, map -> FA
open PySem.Heap renaming get?_push_of_some -> Ag, get?_push_size -> Ao, lt_size -> Aq, get?_update_other -> BG, get?_update_self -> BO, SameBut -> B6, size_push -> Ck, size_update -> Eh, get?_update_ne -> E9, ExtBut -> Fv
open Nat renaming le_refl -> An, ne_of_lt -> Az, lt_of_lt_of_le -> AE, zero_add -> AG, lt_irrefl -> AQ, zero_le -> Ba, add_assoc -> Bg, le_trans -> BA, le_add_right -> BD, sub_self -> C3, lt_or_ge -> C4, le_succ -> Dr, le_of_lt -> DK, eq_or_lt_of_le -> DZ, lt_succ_self -> Ej, add_sub_cancel_left -> Ek, succ_mul -> Ew, strongRecOn -> EL, le_of_ble_eq_true -> EU, mul_le_mul_right -> E2, sub_zero -> Fj, succ -> Fz
open Bool renaming false_eq_true -> Au, and_eq_true -> AN, false_ne_true -> AX, not_true -> Cv, and_false -> D4, not_false -> E5, false_and -> E6, true_and -> Fd
open PySem.Value renaming ref -> Ax, none -> AM, str -> Bc, type -> BP, bool -> CH, int -> DM
open PySem.PassesOwn renaming never -> AH
open Int renaming toNat_natCast -> A2, emod_lt_of_pos -> Cc, emod_nonneg -> Cu, le_refl -> Dv, zero_add -> EC, le_antisymm -> EO
open PySem.NameKind renaming free -> Bb, cell -> Fc
open PyProof.Rows renaming callWith_type1 -> Bd, slot_tuple_getitem -> Cg
open PySem.Obj renaming mapSeq -> Bj, data_mapFields -> CW, isFreed_of_fields -> ER
open False renaming elim -> Bo
open PySem.F renaming slot_dict_keyiterator_next -> Bx, plainAttrs_list -> BW, slot_tuple_iterator_next -> Ca, plain_min_loop -> Cm, slot_enumerate_next -> Cw, args_tuple_add_2 -> CS, slot_list_getattribute -> CT, entry_tuple_add -> C0, slot_tuple_add -> C1, args_dict_keyiterator_next_1 -> De, entry_dict_keyiterator_next -> Dl, args_list_extend_2 -> Dm, slot_zip_next -> Dw, args_tuple_iterator_next_1 -> Dx, entry_list_extend -> DB, entry_tuple_iterator_next -> DH, slot_list_extend -> DS, args_enumerate_next_1 -> Ei, entry_enumerate_next -> Ep, type_list_pop -> ES, slot_list_pop -> ET
open Ne renaming symm -> Bz
open PySem.AutoSeq1 renaming wpAny_loadPart' -> BQ, sub_tuple_tuple -> Df, sub_tuple_list -> Dn, sub_list_tuple -> Dp, sub_list_list -> Dy, idx_int -> Es
open Array renaming length_toList -> B4, getElem?_eq_getElem -> CO, getElem?_toList -> C9, perm_iff_toList_perm -> D5, getElem?_eq_none -> ED
open PySem.Str renaming ofString -> B5
open True renaming intro -> B9
open PySem.Calls renaming spliced_cons -> Cb, spliced_nil -> CA, Name_function_global -> DT, callWith_builtin -> Er
open ForInStep renaming yield -> Ce
open Option renaming map_some -> Cs, map_eq_none_iff -> Eu
open Or renaming inr -> Cy, inl -> CZ
open And renaming right -> CN
open PySem.SeqAt renaming EqAt -> Dc
open PySem.SeqAt.RcNeAt renaming lists_lengths -> DQ, lists -> Ff
open PySem.SeqAt.EqAt renaming int_int -> DR, of_refs -> Fg, same -> Fw
open PySem.EqBoolInt renaming of_rcne -> D9, of_rc -> EI
open PySem.SeqAt.RcAt renaming lists_lengths -> Ec, tuples -> Fi, lists -> Fs
open PySem.Fin renaming done -> EY
open PySem.Data renaming seq -> EZ
open PySem.Around renaming under_plainId -> E1
open Sum renaming inr -> E7, inl -> E8
open PyProof.Rows.IsTup renaming new -> Fu
open PySem.Flow renaming ret -> Fx
set_option compiler.extract_closed false
set_option Elab.async false
set_option linter.all false
set_option maxRecDepth 100000
set_option maxHeartbeats 1000000
open Option renaming some→am,none→bm
open PyProof.Rows renaming envOfC→re,seqObj→sw,IntsAre→tt,boot_str→wS,AllBare→EQ
open PySem renaming Value→bn,Addr→ce,Shared→ci,wpAny→db,model→dL,mainGlobals→ev,starEach→f8,Expr→ii,swapsWith→im,eval→kw,bootBuiltins→lc,Heap→lf,tupleKind→lm,compareOp→lw,Around→nn,attributeBase→nw,cLine→o0,behindInMarks→pc,Scope→pr,binaryOp→r9,Stmt→sn,sysModules→ss,call_meets→sB,Program→sK,World→tz,rawInt→t0,plainId_quiet→ul,Builtin→ut,backTo→u8,PassesOwn→v4,setField→wf,NameKind→wn,IntMulOk→wv,assignEach→wE,sliceBounds→wP,storedH→xz,holding→xL,codeAny→zn,swapsWithSole→BT,swappedStores→Ch,assign→Da,FuncData→Db,typeLookup→Ev,letOwnedTupleGo→Fa,codeAny_builtin→Fk
local macro_rules | `(∅)=>`(by omega)
local macro_rules | `(⋯)=>`(by decide)
namespace L2
open PySem PySem.Spec PyProof.Rows
abbrev Key:=Sum Int Str
def uN:Key->bn->Bool
 | .inl k,v=>Value.isInt k v
 | .inr x,v=>Value.isStrOf x v
def acY (w:tz):Key->Int
 | .inl k=>hashInt k
 | .inr x=>hashStr w x
def bN:∀{k:Key}{v:bn},uN k v=true->(∃i t,k=E8 i/\v=DM i t)\/(∃x t,k=E7 x/\v=Bc x t)
 | .inl i,v,h=>by
  obtain⟨t,e⟩:=Value.isInt_shape (k:=i) (v:=v) h;exact .inl ⟨i,t,rfl,e⟩
 | .inr x,v,h=>by
  obtain⟨t,e⟩:=Value.isStrOf_shape (x:=x) (v:=v) h;exact .inr ⟨x,t,rfl,e⟩
def KU (i:Int) (t:Tok):uN (.inl i) (.int i t)=true:=by simp [uN,Value.isInt]
def KS (x:Str) (t:Tok):uN (.inr x) (.str x t)=true:=by simp [uN,Value.isStrOf]
def VH (a b:Int):decide ((E8 a:Key)=E8 b)=(a==b):=by
 by_cases e:a=b
 ·subst e;simp
 ·have h:¬(E8 a:Key)=E8 b:=λq=>e (E8.inj q);rw [decide_eq_false h];exact (beq_eq_false_iff_ne.mpr e).symm
def VE (a b:Str):decide ((E7 a:Key)=E7 b)=decide (a=b):=by
 by_cases e:a=b
 ·subst e;simp
 ·have h:¬(E7 a:Key)=E7 b:=λq=>e (E7.inj q);rw [decide_eq_false h,decide_eq_false e]
def VG (a:Int) (b:Str):decide ((E8 a:Key)=E7 b)=false:=decide_eq_false (λq=>nomatch q)
def VF (a:Str) (b:Int):decide ((E7 a:Key)=E8 b)=false:=decide_eq_false (λq=>nomatch q)
def bF (prog:sK) (w:tz):PySem.KeyKind prog w Key where
 is:=uN
 hash:=acY w
 inj:=λv a b ha hb=>by
  rcases bN ha with⟨i,t,rfl,rfl⟩ | ⟨x,t,rfl,rfl⟩
  ·rcases bN hb with⟨j,u,rfl,e⟩ | ⟨y,u,rfl,e⟩
   ·injection e with e1 _;rw [e1]
   ·exact nomatch e
  ·rcases bN hb with⟨j,u,rfl,e⟩ | ⟨y,u,rfl,e⟩
   ·exact nomatch e
   ·injection e with e1 _;rw [e1]
 byValue:=λk v h=>by
  rcases bN h with⟨i,t,rfl,rfl⟩ | ⟨x,t,rfl,rfl⟩ <;> rfl
 pyHash:=λhv h=>by
  rcases bN hv with⟨i,t,rfl,rfl⟩ | ⟨x,t,rfl,rfl⟩
  ·exact wpAny_pyHash_int h
  ·exact wpAny_pyHash_str h
 eqBool:=λhu hv h=>by
  rcases bN hu with⟨i,t,rfl,rfl⟩ | ⟨x,t,rfl,rfl⟩
  ·rcases bN hv with⟨j,u,rfl,rfl⟩ | ⟨y,u,rfl,rfl⟩
   ·rw [VH] at h;exact wpAny_eqBool_int h
   ·rw [VG] at h;exact Dc.int_str i t y u _ _ _ _ h
  ·rcases bN hv with⟨j,u,rfl,rfl⟩ | ⟨y,u,rfl,rfl⟩
   ·rw [VF] at h;exact Dc.str_int x t j u _ _ _ _ h
   ·rw [VE] at h;exact Dh h
 «strs»:=λk x t v h=>by
  rcases bN h with⟨i,u,rfl,e⟩ | ⟨y,u,rfl,e⟩
  ·exact nomatch e
  ·injection e with e1 _;subst e1;cases v <;> rfl
def zp (prog:sK) (w:tz) (i:Int) (t:Tok):(bF prog w).is (.inl i) (.int i t)=true:=KU i t
def zm (prog:sK) (w:tz) (x:Str) (t:Tok):(bF prog w).is (.inr x) (.str x t)=true:=KS x t
end L2
variable {us:List AZ}{u:AZ}{κ α β:Type}{a b e:BB}{P:PySem.Program}{w:PySem.World}{h h':Fh}{ob:Ft}
namespace L2
open PySem PySem.Spec PyProof.Rows
inductive V where
 | aE | bl (b:Bool) | int (i:Int) | str (x:Str) | WE (b:Array UInt8) | Xl (b:UInt64) | ref (a:ce) | ty (n:String)
 deriving DecidableEq
def RelV:V->bn->Prop
 | .aE,u=>u=AM
 | .bl b,u=>u=CH b
 | .int i,u=>∃t,u=DM i t
 | .str x,u=>∃t,u=Bc x t
 | .WE b,u=>∃t,u=Value.bytes b t
 | .Xl b,u=>∃t,u=Value.float b t
 | .ref a,u=>u=Ax a
 | .ty n,u=>u=BP n
abbrev Vals:List V->List bn->Prop:=Paired RelV
def Vals.length {xs:List V} (r:Vals xs us):xs.length=us.length:=Paired.length r
theorem Vals.get:∀{xs:List V}{us:List bn}{i:Nat}{x:V},Vals xs us->xs[i]?=am x->∃u,us[i]?=am u/\RelV x u
 | _,_,_,_,.nil,e=>by simp at e
 | _,_,0,_,.cons r _,e=>by simp at e;subst e;exact⟨_,rfl,r⟩
 | _,_,i+1,x,.cons _ t,e=>by
  obtain⟨u,h1,h2⟩:=Vals.get (i:=i) (x:=x) t (by simpa using e);exact⟨u,by simpa using h1,h2⟩
theorem Vals.set {x:V} (r:RelV x u):∀{xs:List V}{us:List bn} (i:Nat),Vals xs us->Vals (xs.set i x) (us.set i u)
 | _,_,_,.nil=>.nil
 | _,_,0,.cons _ t=>.cons r t
 | _,_,i+1,.cons q t=>.cons q (Vals.set r i t)
theorem Vals.append:∀{xs ys:List V}{us ws:List bn},Vals xs us->Vals ys ws->Vals (xs++ys) (us++ws)
 | _,_,_,_,.nil,s=>s
 | _,_,_,_,.cons r t,s=>.cons r (Vals.append t s)
theorem Vals.take:∀{xs:List V}{us:List bn} (n:Nat),Vals xs us->Vals (xs.take n) (us.take n)
 | _,_,0,_=>.nil
 | _,_,_+1,.nil=>.nil
 | _,_,n+1,.cons r t=>.cons r (Vals.take n t)
theorem Vals.drop:∀{xs:List V}{us:List bn} (n:Nat),Vals xs us->Vals (xs.drop n) (us.drop n)
 | _,_,0,r=>r
 | _,_,_+1,.nil=>.nil
 | _,_,n+1,.cons _ t=>Vals.drop n t
def tF:Option V->Option bn->Prop
 | some v,am u=>RelV v u
 | none,bm=>True
 | _,_=>False
def KV:List (κ×V)->List (κ×bn)->Prop:=Paired λ(p:κ×V) (q:κ×bn)=>p.1=q.1/\RelV p.2 q.2
def kV:Key->V
 | .inl i=>.int i
 | .inr x=>.str x
inductive HO where
 | lst (xs:List V)
 | tup (xs:List V)
 | dK (kvs:List (Key×V)) | dT (kvs:List (List Key×V))
 | set (S:Int->Bool) (n:Nat)
 | ins (C dx:ce) (fs:List (Str×V))
 | own (x:ce)
 | xd (fs:List (Str×V))
 | met (f x:ce)
 | rng (lo hi:Int)
 | cx (o:Obj) (u:HO)
 | Uh (ps:Array bn)
 | ext (φ:lf->Prop)
abbrev Hp:=ce->Option HO
def upd (H:Hp) (a:ce) (o:HO):Hp:=λb=>if b=a then am o else H b
def aK {H:Hp}{o:HO}:upd H a o a=am o:=by unfold upd;rw [if_pos rfl]
def av {H:Hp}{o:HO} (h:b≠a):upd H a o b=H b:=by unfold upd;rw [if_neg h]
def Js {H:Hp}{o u:HO} (h:H a=am o) (h':H b=am u) (d:o≠u):a≠b:=by
 intro e;subst e;rw [h] at h';exact d (Option.some.inj h')
def bj {H:Hp}{o:HO} (h:H a=am o) (h':H b=bm):a≠b:=by
 intro e;subst e;rw [h] at h';cases h'
section
variable (P:sK) (w:tz)
def aY (H:Hp) (h:lf) (a:ce):HO->Prop
 | .lst xs=>xs.length<=sizeLine/\∃(aq:List bn) (n:Nat),Vals xs aq/\h.get? a=am {cls:=.type "list",data:=.seq aq.toArray n}
 | .tup xs=>xs.length<=sizeLine/\∃aq:List bn,Vals xs aq/\IsTup h a aq.toArray
 | .dK kvs=>kvs.length<=sizeLine/\(a==ss)=false/\∃vs,KV kvs vs/\h.DictOf (bF P w) a vs
 | .dT kvs=>kvs.length<=sizeLine/\(a==ss)=false/\∃xs:List (List Key×ce×bn),
   Paired (λ(p:List Key×V) (q:List Key×ce×bn)=>p.1=q.1/\H q.2.1=am (.tup (p.1.map kV))/\RelV p.2 q.2.2) kvs xs/\
   ∃o es ep,h.get? a=am o/\o.ExactDict/\o.data=.dict es ep/\es.toList=xs.map (entryOfKey (lm (bF P w)))/\(xs.map (·.1)).Nodup
 | .set S n=>h.SetOf (intKind P w) a S n
 | .ins C dx fs=>H dx=am (.own a)/\fs.length<=1000/\dx≠a/\h.get? a=am (EG C dx)/\
   ∃mA,h.Ns1 dx mA/\(∀f,tF (fs.lookup f) (mA f))/\PySem.Within mA (fs.map (·.1))
 | .own _=>∃o,h.get? a=am o
 | .xd fs=>∃mA,h.Ns1 a mA/\∀f,tF (fs.lookup f) (mA f)
 | .rng lo hi=>∃t u v,h.get? a=am {cls:=.type "range",data:=.fields #[.int lo t,.int hi u,.int 1 v]}
 | .cx o u=>h.get? a=am o/\aY H h a u
 | .Uh ps=>h.get? a=am {cls:=.none,data:=.fields ps}
 | .met f x=>h.get? a=am (D6 (.ref f) (.ref x))
 | .ext φ=>φ h/\(∃o,h.get? a=am o)/\∀h1 h2:lf,φ h1->(∀o,h1.get? a=am o->h2.get? a=am o)->φ h2
def lG (H:Hp) (h:lf):Prop:=∀a o,H a=am o->aY P w H h a o
end
section
variable {H H':Hp}{o:HO}
def aY.lt (x:aY P w H h a o):a < h.objs.size:=by
 cases o with
 | lst xs=>obtain⟨_,_,_,_,e⟩:=x;exact Aq e
 | tup xs=>obtain⟨_,_,_,p⟩:=x;exact p.lt
 | dK kvs=>obtain⟨_,_,_,_,o,_,_,e,_⟩:=x;exact Aq e
 | dT kvs=>obtain⟨_,_,_,_,o,_,_,e,_⟩:=x;exact Aq e
 | set S n=>obtain⟨o,_,_,_,e,_⟩:=x;exact Aq e
 | ins C dx fs=>obtain⟨_,_,_,e,_⟩:=x;exact Aq e
 | own y=>obtain⟨_,e⟩:=x;exact Aq e
 | xd fs=>obtain⟨_,⟨_,_,_,e,_⟩,_⟩:=x;exact Aq e
 | rng lo hi=>obtain⟨_,_,_,e⟩:=x;exact Aq e
 | cx ob u=>obtain⟨e,_⟩:=x;exact Aq e
 | Uh ps=>exact Aq (show h.get? a=am _ from x)
 | met f y=>exact Aq (show h.get? a=am _ from x)
 | ext φ=>obtain⟨_,⟨_,e⟩,_⟩:=x;exact Aq e
theorem Paired.Vq {F G:α->β->Prop}:∀{l₁:List α}{l₂:List β},Paired F l₁ l₂->(∀a b,F a b->G a b)->Paired G l₁ l₂
 | _,_,.nil,_=>.nil
 | _,_,.cons r t,f=>.cons (f _ _ r) (Paired.Vq t f)
def aY.vD (x:aY P w H h a o) (k:∀b u,(b=a\/H b=am (.own a))->h.get? b=am u->h'.get? b=am u)
  (ho:∀b,H b=am (.own a)->H' b=am (.own a)) (ht:∀b xs,H b=am (.tup xs)->H' b=am (.tup xs)):aY P w H' h' a o:=by
 induction o with
 | lst xs=>obtain⟨z,aq,n,r,e⟩:=x;exact⟨z,aq,n,r,k _ _ (.inl rfl) e⟩
 | tup xs=>obtain⟨z,aq,r,ob,e,c⟩:=x;exact⟨z,aq,r,ob,k _ _ (.inl rfl) e,c⟩
 | dK kvs=>obtain⟨z,y,vs,r,ob,es,ep,e,c⟩:=x;exact⟨z,y,vs,r,ob,es,ep,k _ _ (.inl rfl) e,c⟩
 | dT kvs=>
  obtain⟨z,y,xs,r,ob,es,ep,e,c⟩:=x;exact⟨z,y,xs,Paired.Vq r λp q z=>⟨z.1,ht _ _ z.2.1,z.2.2⟩,ob,es,ep,k _ _ (.inl rfl) e,c⟩
 | set S n=>obtain⟨ob,es,ep,t,e,c⟩:=x;exact⟨ob,es,ep,t,k _ _ (.inl rfl) e,c⟩
 | ins C dx fs=>
  obtain⟨d,z,ne,e,mA,⟨od,es,ep,e2,c⟩,r⟩:=x;exact⟨ho _ d,z,ne,k _ _ (.inl rfl) e,mA,⟨od,es,ep,k _ _ (.inr d) e2,c⟩,r⟩
 | own y=>obtain⟨ob,e⟩:=x;exact⟨ob,k _ _ (.inl rfl) e⟩
 | xd fs=>obtain⟨mA,⟨od,es,ep,e,c⟩,r⟩:=x;exact⟨mA,⟨od,es,ep,k _ _ (.inl rfl) e,c⟩,r⟩
 | rng lo hi=>obtain⟨t,u,v,e⟩:=x;exact⟨t,u,v,k _ _ (.inl rfl) e⟩
 | cx ob u ih=>obtain⟨e,q⟩:=x;exact⟨k _ _ (.inl rfl) e,ih q⟩
 | Uh ps=>
  have e:h.get? a=am {cls:=.none,data:=.fields ps}:=x;show h'.get? a=am {cls:=.none,data:=.fields ps};exact k a _ (.inl rfl) e
 | met f y=>
  have e:h.get? a=am (D6 (.ref f) (.ref y)):=x;show h'.get? a=am (D6 (.ref f) (.ref y));exact k a _ (.inl rfl) e
 | ext φ=>obtain⟨p,⟨o,e⟩,st⟩:=x;exact⟨st _ _ p λo q=>k _ _ (.inl rfl) q,⟨o,k _ _ (.inl rfl) e⟩,st⟩
def lG.lt (x:lG P w H h) (e:H a=am o):a < h.objs.size:=(x a o e).lt
def lG.fresh (x:lG P w H h) (e:h.objs.size<=a):H a=bm:=by
 cases q:H a with
 | none=>rfl
 | some u=>exact absurd (AE (x.lt q) e) (AQ _)
def lG.kept (x:lG P w H h) (k:∀b u,h.get? b=am u->h'.get? b=am u):lG P w H h':=λa o e=>
 (x a o e).vD (λb u _ q=>k b u q) (λ_ q=>q) λ_ _ q=>q
def lG.laid (x:lG P w H h) (k:∀b u,h.get? b=am u->h'.get? b=am u) (hp:h.objs.size<=a) (new:aY P w (upd H a o) h' a o):lG P w (upd H a o) h':=λb u e=>by
 have hn:=x.fresh hp;by_cases hb:b=a
 ·subst hb;rw [aK] at e;cases e;exact new
 ·rw [av hb] at e;exact (x b u e).vD (λc v _ q=>k c v q) (λc q=>by rw [av (bj q hn)];exact q) λc xs q=>by rw [av (bj q hn)];exact q
end
def Rd (H:Hp) (a:ce) (u:HO):Prop:=H a=am u\/∃o,H a=am (.cx o u)
def Rd.ok {H:Hp}{u:HO} (r:Rd H a u) (x:lG P w H h):aY P w H h a u:=by
 rcases r with r | ⟨o,r⟩
 ·exact x a u r
 ·obtain⟨_,q⟩:=x a _ r;exact q
def Mut:Option HO->Prop
 | some (.lst _)=>True
 | some (.dK _)=>True
 | some (.dT _)=>True
 | some (.set _ _)=>True
 | some (.ins _ _ _)=>True
 | some (.ext _)=>True
 | _=>False
section
variable {H:Hp}{x:ce}{o':HO}
def lG.write (ok:lG P w H h) (mu:Mut (H x)) (he:e=x\/H e=am (.own x)) (k:∀b u,b≠e->h.get? b=am u->h'.get? b=am u) (Xg:∃u,h'.get? e=am u)
  (new:aY P w (upd H x o') h' x o'):lG P w (upd H x o') h':=λb u q=>by
 have YT:∀c y,H c=am (.own y)->c≠x:=λc y r z=>by subst z;rw [r] at mu;exact mu
 have acF:∀c xs,H c=am (.tup xs)->c≠x:=λc xs r z=>by subst z;rw [r] at mu;exact mu
 by_cases hb:b=x
 ·subst hb;rw [aK] at q;cases q;exact new
 ·rw [av hb] at q;by_cases V3:b=e
  ·have q':H b=am (.own x):=by
    rcases he with z | z
    ·exact absurd (V3.trans z) hb
    ·rw [V3];exact z
   rw [q] at q';cases q';obtain⟨v,hv⟩:=Xg;exact⟨v,by rw [V3];exact hv⟩
  ·refine (ok b u q).vD (λc v hc r=>k c v ?_ r) (λc r=>by rw [av (YT c b r)];exact r) λc xs r=>by rw [av (acF c xs r)];exact r
   rcases hc with rfl | hc
   ·exact V3
   ·rintro rfl;rcases he with z | z
    ·exact YT c b hc z
    ·rw [hc] at z;cases z;exact hb rfl
end
structure Un (fs ex:List ce) (H H':Hp) (h h':lf):Prop where
 keep:∀b o,h.get? b=am o->H b=bm->b∉fs->b∉ex->h'.get? b=am o
 slot:∀b o,h.get? b=am o->H b=bm->b∈fs->b∉ex->∃sl,h'.get? b=am {o with slots:=sl}
 free:∀b o,h.get? b=am o->H b=bm->b∉ex->H' b=bm
 there:∀b o,h.get? b=am o->b∉ex->∃o',h'.get? b=am o'
 d5:∀b xs,H b=am (.tup xs)->H' b=am (.tup xs)
 sJ:∀b o u,H b=am (.cx o u)->H' b=am (.cx o u)
 vB:∀b ps,H b=am (.Uh ps)->∃more,H' b=am (.Uh (ps++more))
section
variable {fs ex:List ce}{H H1:Hp}{h1:lf}{x:ce}{o:HO}
def Un.any (u:Un fs ex H H1 h h1) (q:h.get? b=am ob) (n:H b=bm) (hx:b∉ex):∃sl,h1.get? b=am {ob with slots:=sl}:=by
 by_cases hb:b∈fs
 ·exact u.slot b ob q n hb hx
 ·exact⟨ob.slots,u.keep b ob q n hb hx⟩
def Un.kept (k:∀b u,h.get? b=am u->h'.get? b=am u):Un fs ex H H h h':=
 ⟨λb ob q _ _ _=>k b ob q,λb ob q _ _ _=>⟨ob.slots,k b ob q⟩,λ_ _ _ n _=>n,λb ob q _=>⟨ob,k b ob q⟩,λ_ _ q=>q,λ_ _ _ q=>q,λ_ ps q=>⟨#[],by rw [q];simp⟩⟩
def Un.refl:Un fs ex H H h h:=Un.kept λ_ _ q=>q
def Un.laid (k:∀b u,h.get? b=am u->h'.get? b=am u) (hp:h.objs.size<=a) (hn:H a=bm):Un fs ex H (upd H a o) h h' where
 keep:=λb u q _ _ _=>k b u q
 slot:=λb u q _ _ _=>⟨u.slots,k b u q⟩
 free:=λb u q n _=>by rw [av (Az (AE (Aq q) hp))];exact n
 there:=λb u q _=>⟨u,k b u q⟩
 d5:=λb xs q=>by rw [av (bj q hn)];exact q
 sJ:=λb u xs q=>by rw [av (bj q hn)];exact q
 vB:=λb ps q=>⟨#[],by rw [av (bj q hn),q];simp⟩
def Un.write (mu:Mut (H x)) (he:e=x\/H e=am (.own x)) (k:∀b u,b≠e->h.get? b=am u->h'.get? b=am u) (Xg:∃u,h'.get? e=am u):Un fs ex H (upd H x o) h h':=by
 have hx:∀b,H b=bm->b≠x:=λb n z=>by subst z;rw [n] at mu;exact mu
 have hb:∀b,H b=bm->b≠e:=λb n z=>by
  subst z;rcases he with r | r
  ·exact hx b n r
  ·rw [n] at r;cases r
 have hm:∀b u,H b=am u->¬Mut (am u)->b≠x:=λb u q nm z=>by subst z;rw [q] at mu;exact nm mu
 refine⟨λb u q n _ _=>k b u (hb b n) q,λb u q n _ _=>⟨u.slots,k b u (hb b n) q⟩,λb u q n _=>by rw [av (hx b n)];exact n,λb u q _=>?_,
  λb xs q=>by rw [av (hm b _ q λz=>z)];exact q,λb u xs q=>by rw [av (hm b _ q λz=>z)];exact q,λb ps q=>⟨#[],by rw [av (hm b _ q λz=>z),q];simp⟩⟩
 by_cases V3:b=e
 ·subst V3;exact Xg
 ·exact⟨u,k b u V3 q⟩
end
def trk (h:lf) (H:Hp):List ce:=(AI h.objs.size).filter λa=>(H a).isSome
def wY (h:lf) (H:Hp):lf:=PySem.W.hideAll h (trk h H)
def K8 (h:lf) (H:Hp):(wY h H).objs.size=h.objs.size:=PySem.W.hideAll_size _ _
def N4 {H:Hp}{o:Obj} (e:h.get? b=am o) (n:H b=bm):(wY h H).get? b=am o:=
 PySem.W.hideAll_get _ e λhm=>by
  have q:=(A8.mp hm).2;rw [n] at q;simp at q
def QU {H:Hp}{o:Obj} (e:(wY h H).get? b=am o):h.get? b=am o/\H b=bm:=by
 have e':=PySem.W.of_hideAll (trk h H) e;refine⟨e',?_⟩;cases q:H b with
 | none=>rfl
 | some x=>
  have hm:b∈trk h H:=A8.mpr ⟨AY.mpr (Aq e'),by simp [q]⟩;have z:(wY h H).get? b=bm:=PySem.W.hideAll_none (trk h H) hm;rw [z] at e;cases e
def So (g h:lf) (L:ce):List (ce×Obj):=(AI h.objs.size).filterMap λa=>if a=L\/(g.get? a).isSome=true then bm else (h.get? a).map λo=>(a,o)
def rest (g h:lf) (L d:ce):List (ce×Obj):=(So g h L).filter λp=>decide (p.1≠d)
end L2
variable {H H':L2.Hp}{o:Ft}{Z:List (BB×Ft)}{s s':DJ}{g':Array PySem.GenState}{ch:List BB}{it:BB}{i j:Nat}{M:PySem.Model}{A:PySem.Around}{E:AZ->DJ->Prop}{v:L2.V}{Q:Unit->DJ->Prop}
namespace L2
open PySem PySem.Spec PyProof.Rows
structure Mod (K:Ab) (mg:Str->Option bn) (base:lf):Prop where
 kin:K.In base
 glob:base.Ns ev mg
 blt:∃mb,base.Ns builtinsNs mb/\∀x:Str,x≠"__name__"->mb x=lc x
 nolimit:base.NoLimit
structure Cx where
 prog:sK
 w:tz
 K:Ab
 mg:Str->Option bn
 base:lf
 A:nn
 N:List Str
 s₀:ci
 H₀:Hp
 env:Env
 outer:List Env
 stack:List Env
 ex:List ce
 fn:Str->Bool
 calm:Bool
 pn:List (ce×Obj)
 xe:bn->ci->Prop
abbrev iW (x:Str):Prop:=(x==("__debug__":Str))=false
abbrev Gp (x:Str):Prop:=(x==("__classdict__":Str))=false
abbrev gK (X:Cx) (e:ii) (es:List ii):Prop:=f8 (e::es) X.env=(false,kw e X.env)::f8 es X.env
abbrev lH (X:Cx) (p:Pos) (es:List ii):Prop:=(u8 p (f8 es X.env)).any (·.1)=false
abbrev tJ (X:Cx) (e:ii):Prop:=∀x,foldedSetIterable e X.env x=pure x
abbrev WY (X:Cx) (p:Pos) (l:List ii):Prop:=((u8 p (f8 l X.env)).all (λx=>!x.1)&&(backToKw p (keywordEach [] X.env)).all (λx=>x.1.isSome)&&decide (l.length+([]:List Keyword).length+(if ([]:List Keyword).isEmpty then 0 else 1) < 30))=true
abbrev PM (p q:Pos):Prop:=(p.endLine==q.line)=true
abbrev LQ (X:Cx) (y:Str):Prop:=X.fn y=true\/X.env.scope.names.lookup y=am .local
def LO (l:List Env):List ce:=l.filterMap (·.frame)
abbrev Cx.fs (X:Cx):List ce:=LO X.outer
def F5 (sc:pr) (x:Str):Prop:=sc.names.lookup x=am .local\/sc.names.lookup x=am .cell\/sc.names.lookup x=am .free
def Loc (sc:pr) (x:Str):Prop:=sc.names.lookup x=am .local\/sc.names.lookup x=am .cell
def Look (env:Env) (h:lf) (m:Str->Option bn) (x:Str) (u:bn):Prop:=
 (env.kindOf x=am .local/\m x=am u)\/((env.kindOf x=am .cell\/env.kindOf x=am .free)/\∃c,env.cells.lookup x=am c/\h.IsCell c (am u))
structure Cx.Ok (X:Cx):Prop where
 mod:Mod X.K X.mg X.base
 kind:X.env.scope.kind=.function
 glob:X.env.globals=ev
 blt:X.env.builtins=builtinsNs
 above:X.s₀.heap.objs.size<=X.env.locals
 inj:∀x y c,X.env.cells.lookup x=am c->X.env.cells.lookup y=am c->x=y
 has:∀x,(X.env.kindOf x=am .cell\/X.env.kindOf x=am .free)->∃c,X.env.cells.lookup x=am c
 cab:∀x c,X.fn x=true->X.env.cells.lookup x=am c->X.s₀.heap.objs.size<=c
 hd:X.calm=true->X.A.handled=bm
 frames:X.A.frames=am X.stack
 stk:X.stack=X.outer\/(X.stack=X.env::X.outer/\X.env.frame=am X.env.locals)
 exf:∀b∈X.ex,b≠X.env.locals/\∀x c,X.env.cells.lookup x=am c->c≠b
 bs:∀b o,X.base.get? b=am o->X.s₀.heap.get? b=am o/\X.H₀ b=bm
 TZ:X.base.objs.size<=X.s₀.heap.objs.size
 Ng:∀b o,X.base.get? b=am o->b∉X.ex
 Ox:∀b∈X.ex,b∉X.fs
 sI:X.s₀.heap.FunFrames X.base X.outer
 Xi:∀b∈X.fs,X.H₀ b=bm
structure Inv (X:Cx) (Z:List (ce×Obj)) (σ:List (Option V)) (H:Hp) (s:ci):Prop where
 ok:X.Ok
 os:s.os=X.s₀.os
 bare:EQ s.gens
 base:Un X.fs X.ex X.H₀ H X.s₀.heap s.heap
 loc:∃m,s.heap.Ns X.env.locals m/\∀(i:Nat) (x:Str) (v:V),X.N[i]?=am x->σ[i]?=am (am v)->F5 X.env.scope x->∃u,RelV v u/\Look X.env s.heap m x u
 cell:∀x c,X.env.cells.lookup x=am c->∃v,s.heap.IsCell c v
 free:H X.env.locals=bm
 j5:∀x c,X.env.cells.lookup x=am c->H c=bm
 pin:∀p∈X.pn++Z,s.heap.get? p.1=am p.2/\H p.1=bm/\p.1≠X.env.locals/\p.1∉X.fs/\∀v,p.2.data≠.cell v
 bp:lG X.prog X.w H s.heap
 len:σ.length=X.N.length
section
variable {X:Cx}{σ:List (Option V)}
def Cx.Ok.acH (ok:X.Ok) (e:X.base.get? b=am o):b∉X.fs:=λhb=>by
 have:=(ok.sI.mem hb).1;rw [e] at this;cases this
def Inv.bs (I:Inv X Z σ H s):∀b o,X.base.get? b=am o->s.heap.get? b=am o/\H b=bm:=λb o e=>
 ⟨I.base.keep b o (I.ok.bs b o e).1 (I.ok.bs b o e).2 (I.ok.acH e) (I.ok.Ng b o e),I.base.free b o (I.ok.bs b o e).1 (I.ok.bs b o e).2 (I.ok.Ng b o e)⟩
def Inv.bk (I:Inv X Z σ H s):∀b o,X.base.get? b=am o->s.heap.get? b=am o:=λb o e=>(I.bs b o e).1
def Inv.mod (I:Inv X Z σ H s):Mod X.K X.mg X.base:=I.ok.mod
def Inv.uP (I:Inv X Z σ H s):X.K.In s.heap:=I.ok.mod.kin.keeps I.bk
def Inv.lt (I:Inv X Z σ H s):X.env.locals < s.heap.objs.size:=let ⟨_,hn,_⟩:=I.loc;hn.lt
def Inv.sz (I:Inv X Z σ H s):X.s₀.heap.objs.size<=s.heap.objs.size:=BA I.ok.above (DK I.lt)
def Inv.acG (I:Inv X Z σ H s) (h:s.heap.objs.size<=a):a∉X.fs:=λhb=>by
 obtain⟨_,o,ho,_⟩:=I.ok.sI.mem hb;exact absurd (AE (Aq ho) (BA I.sz h)) (AQ _)
def Inv.WB (I:Inv X Z σ H s):∀x c,X.env.cells.lookup x=am c->c≠X.env.locals:=λx c e z=>by
 obtain⟨v,o,ho,hd⟩:=I.cell x c e;obtain⟨m,⟨o',es,ep,VY,ĝ,_⟩,_⟩:=I.loc;rw [z,VY] at ho;cases ho;rw [ĝ] at hd;cases hd
def Inv.sI (I:Inv X Z σ H s):s.heap.FunFrames X.base X.outer:=by
 have all:∀(l:List Env),(∀b∈LO l,b∈X.fs)->X.s₀.heap.FunFrames X.base l->s.heap.FunFrames X.base l:=by
  intro l
  induction l with
  | nil=>intro _ _;trivial
  | cons env r ih=>
   intro hs hl;obtain⟨hk,⟨L,o,hf,hn,ho,hd⟩,hr⟩:=hl;have hL:=hs L (by unfold LO;rw [A6,hf];exact Bs);obtain⟨sl,e⟩:=I.base.slot L o ho (I.ok.Xi L hL) hL λz=>I.ok.Ox L z hL;exact⟨hk,⟨L,_,hf,hn,e,hd⟩,ih (λb hb=>hs b (by unfold LO;rw [A6,hf];exact AR _ hb)) hr⟩
 exact all X.outer (λ_ hb=>hb) I.ok.sI
def Inv.stack (I:Inv X Z σ H s):s.heap.FunFrames X.base X.stack:=by
 rcases I.ok.stk with e | ⟨e,hf⟩
 ·rw [e];exact I.sI
 ·rw [e];obtain⟨m,hn,_⟩:=I.loc;refine .cons (by rw [I.ok.kind];decide) hf hn ?_ I.sI;exact Heap.get?_none_of_le (BA I.ok.TZ I.ok.above)
def Inv.GB (I:Inv X Z σ H s):∀b∈LO X.stack,b∈X.env.locals::X.fs:=λb hb=>by
 rcases I.ok.stk with e | ⟨e,hf⟩
 ·rw [e] at hb;exact AR _ hb
 ·rw [e] at hb;unfold LO at hb;rw [A6,hf] at hb;exact hb
def Inv.IM (I:Inv X Z σ H s):∀b∈LO X.stack,H b=bm:=λb hb=>by
 rcases Aw.mp (I.GB b hb) with e | hb
 ·rw [e];exact I.free
 ·obtain⟨_,o,ho,_⟩:=I.ok.sI.mem hb;exact I.base.free b o ho (I.ok.Xi b hb) λz=>I.ok.Ox b z hb
def Inv.step {t':Nat}{d':Drawn} (I:Inv X Z σ H s)
  (PB:∀b∈ch,(b∈X.ex\/X.s₀.heap.objs.size<=b)/\b≠X.env.locals/\(∀x c,X.env.cells.lookup x=am c->c≠b)/\∀p∈X.pn++Z,p.1≠b)
  (keep:∀b o,b≠X.env.locals->b∉X.fs->b∉ch->s.heap.get? b=am o->H b=bm->h'.get? b=am o)
  (slot:∀b o,b≠X.env.locals->b∈X.fs->b∉ch->s.heap.get? b=am o->H b=bm->∃sl,h'.get? b=am {o with slots:=sl}) (free:∀b o,b∉ch->s.heap.get? b=am o->H b=bm->H' b=bm)
  (there:∀b o,b∉ch->s.heap.get? b=am o->∃o',h'.get? b=am o')
  (d5:∀b xs,H b=am (.tup xs)->H' b=am (.tup xs)) (sJ:∀b o u,H b=am (.cx o u)->H' b=am (.cx o u)) (vB:∀b ps,H b=am (.Uh ps)->∃more,H' b=am (.Uh (ps++more)))
  (ns:∀m,s.heap.Ns X.env.locals m->h'.Ns X.env.locals m) (bp:lG X.prog X.w H' h') (hg:EQ g') :
  Inv X Z σ H' {s with heap:=h',gens:=g',drawn:=d',toks:=t'}:=by
 have neL:∀b o,X.s₀.heap.get? b=am o->b≠X.env.locals:=λb o e=>Az (AE (Aq e) I.ok.above);have í:∀b o,X.s₀.heap.get? b=am o->b∉X.ex->b∉ch:=λb o e hx hb=>by
  rcases (PB b hb).1 with z | z
  ·exact hx z
  ·exact absurd (AE (Aq e) z) (AQ _)
 have Ü:∀x c,X.env.cells.lookup x=am c->∀v,s.heap.IsCell c v->h'.IsCell c v:=λx c e v ⟨o,ho,hd⟩=>by
  have YV:c∉ch:=λz=>(PB c z).2.2.1 x c e rfl;by_cases hc:c∈X.fs
  ·obtain⟨sl,q⟩:=slot c o (I.WB x c e) hc YV ho (I.j5 x c e);exact⟨_,q,hd⟩
  ·exact⟨o,keep c o (I.WB x c e) hc YV ho (I.j5 x c e),hd⟩
 refine⟨I.ok,I.os,hg,⟨λb o e n hb hx=>?_,λb o e n hb hx=>?_,λb o e n hx=>?_,λb o e hx=>?_,λb xs e=>d5 b xs (I.base.d5 b xs e),λb o xs e=>sJ b o xs (I.base.sJ b o xs e),λb ps e=>?_⟩,?_,λx c e=>?_,?_,λx c e=>?_,λp hp=>?_,bp,I.len⟩
 ·exact keep b o (neL b o e) hb (í b o e hx) (I.base.keep b o e n hb hx) (I.base.free b o e n hx)
 ·obtain⟨sl,e1⟩:=I.base.slot b o e n hb hx;obtain⟨sl',e2⟩:=slot b _ (neL b o e) hb (í b o e hx) e1 (I.base.free b o e n hx);exact⟨sl',e2⟩
 ·obtain⟨o',e1⟩:=I.base.there b o e hx;exact free b o' (í b o e hx) e1 (I.base.free b o e n hx)
 ·obtain⟨o',e1⟩:=I.base.there b o e hx;exact there b o' (í b o e hx) e1
 ·obtain⟨m1,e1⟩:=I.base.vB b ps e;obtain⟨m2,e2⟩:=vB b _ e1;exact⟨m1++m2,by rw [e2,Array.append_assoc]⟩
 ·obtain⟨m,hn,hl⟩:=I.loc;refine⟨m,ns m hn,λi x v e1 e2 e3=>?_⟩;obtain⟨u,r,l⟩:=hl i x v e1 e2 e3;refine⟨u,r,?_⟩;rcases l with l | ⟨k,c,e,z⟩
  ·exact .inl l
  ·exact .inr ⟨k,c,e,Ü x c e _ z⟩
 ·obtain⟨v,z⟩:=I.cell x c e;exact⟨v,Ü x c e v z⟩
 ·obtain⟨m,⟨o,_,_,ho,_⟩,_⟩:=I.loc;exact free _ o (λz=>(PB _ z).2.1 rfl) ho I.free
 ·obtain⟨v,o,ho,hd⟩:=I.cell x c e;exact free c o (λz=>(PB c z).2.2.1 x c e rfl) ho (I.j5 x c e)
 ·obtain⟨e,n,ne,nf,d⟩:=I.pin p hp;have YV:p.1∉ch:=λz=>(PB p.1 z).2.2.2 p hp rfl;exact⟨keep p.1 p.2 ne nf YV e n,free p.1 p.2 YV e n,ne,nf,d⟩
def Inv.un {t':Nat} (I:Inv X Z σ H s) (u:Un X.fs [] H H' s.heap h') (bp:lG X.prog X.w H' h'):Inv X Z σ H' {s with heap:=h',toks:=t'}:=by
 obtain⟨m,⟨o,es,ep,ho,r⟩,_⟩:=id I.loc;obtain⟨sl,hL⟩:=u.any ho I.free (by simp);exact I.step (g':=s.gens) (d':=s.drawn) (ch:=[]) (λ_ z=>nomatch z) (λb o _ hb _ e n=>u.keep b o e n hb (by simp)) (λb o _ hb _ e n=>u.slot b o e n hb (by simp)) (λb o _ e n=>u.free b o e n (by simp)) (λb o _ e=>u.there b o e (by simp)) u.d5 u.sJ u.vB (λm' hm=>by
  obtain⟨o',ü,ý,VY,r'⟩:=hm;rw [ho] at VY;cases VY;exact⟨_,ü,ý,hL,r'⟩) bp I.bare
def Inv.call {t':Nat}{d':Drawn} (I:Inv X Z σ H s) (u:Un (LO X.stack) ch H H' s.heap h') (bp:lG X.prog X.w H' h') (hg:EQ g')
  (PB:∀b∈ch,(b∈X.ex\/X.s₀.heap.objs.size<=b)/\b≠X.env.locals/\(∀x c,X.env.cells.lookup x=am c->c≠b)/\∀p∈X.pn++Z,p.1≠b) :
  Inv X Z σ H' {s with heap:=h',gens:=g',drawn:=d',toks:=t'}:=by
 obtain⟨m,⟨o,es,ep,ho,r⟩,_⟩:=id I.loc;obtain⟨sl,hL⟩:=u.any ho I.free λz=>(PB _ z).2.1 rfl;exact I.step (ch:=ch) PB (λb o hL hb hc e n=>u.keep b o e n (λz=>(Aw.mp (I.GB b z)).elim hL hb) hc) (λb o _ _ hc e n=>u.any e n hc) (λb o hc e n=>u.free b o e n hc) (λb o hc e=>u.there b o e hc) u.d5 u.sJ u.vB (λm' hm=>by
  obtain⟨o',ü,ý,VY,r'⟩:=hm;rw [ho] at VY;cases VY;exact⟨_,ü,ý,hL,r'⟩) bp hg
def Inv.turned {t':Nat} (I:Inv X Z σ H s) (k:∀b o,b≠it->s.heap.get? b=am o->h'.get? b=am o) (hn:H it=bm) (hL:it≠X.env.locals)
  (h1:it∈X.ex\/X.s₀.heap.objs.size<=it) (h2:∀x c,X.env.cells.lookup x=am c->c≠it) (h3:∀p∈X.pn++Z,p.1≠it):Inv X Z σ H {s with heap:=h',toks:=t'}:=by
 have S4:∀b u,H b=am u->b≠it:=λb u e z=>by rw [z,hn] at e;cases e
 refine I.step (g':=s.gens) (d':=s.drawn) (ch:=[it]) (λb hb=>?_) (λb o _ _ hc e _=>k b o (λz=>hc (by simp [z])) e) (λb o _ _ hc e _=>⟨o.slots,k b o (λz=>hc (by simp [z])) e⟩) (λ_ _ _ _ n=>n)
  (λb o hc e=>⟨o,k b o (λz=>hc (by simp [z])) e⟩) (λ_ _ e=>e) (λ_ _ _ e=>e) (λb ps e=>⟨#[],by rw [e];simp⟩) (λm hm=>?_) (λb u e=>?_) I.bare
 ·have e:b=it:=by simpa using hb
  subst e;exact⟨h1,hL,h2,h3⟩
 ·obtain⟨o,es,ep,ho,r⟩:=hm;exact⟨o,es,ep,k _ o (Bz hL) ho,r⟩
 ·refine (I.bp b u e).vD (λc v hc q=>k c v ?_ q) (λ_ q=>q) λ_ _ q=>q;rcases hc with z | z
  ·rw [z];exact S4 b u e
  ·exact S4 c _ z
def Inv.tok (I:Inv X Z σ H s) (t:Nat):Inv X Z σ H {s with toks:=t}:=I.un (h':=s.heap) (t':=t) Un.refl I.bp
def Inv.kept {t':Nat} (I:Inv X Z σ H s) (k:∀b u,s.heap.get? b=am u->h'.get? b=am u):Inv X Z σ H {s with heap:=h',toks:=t'}:=I.un (Un.kept k) (I.bp.kept k)
def Inv.laid {o:HO}{t':Nat} (I:Inv X Z σ H s) (k:∀b u,s.heap.get? b=am u->h'.get? b=am u) (hp:s.heap.objs.size<=a) (new:aY X.prog X.w (upd H a o) h' a o) :
  Inv X Z σ (upd H a o) {s with heap:=h',toks:=t'}:=I.un (Un.laid k hp (I.bp.fresh hp)) (I.bp.laid k hp new)
def Inv.write {x:ce}{o:HO}{t':Nat} (I:Inv X Z σ H s) (mu:Mut (H x)) (he:e=x\/H e=am (.own x)) (k:∀b u,b≠e->s.heap.get? b=am u->h'.get? b=am u) (Xg:∃u,h'.get? e=am u)
  (new:aY X.prog X.w (upd H x o) h' x o):Inv X Z σ (upd H x o) {s with heap:=h',toks:=t'}:=I.un (Un.write mu he k Xg) (I.bp.write mu he k Xg new)
def Inv.Jf {yY:List (ce×Obj)} (I:Inv X Z σ H s) (h:∀p∈yY,s.heap.get? p.1=am p.2/\H p.1=bm/\p.1≠X.env.locals/\p.1∉X.fs/\∀v,p.2.data≠.cell v):Inv X yY σ H s:=
 ⟨I.ok,I.os,I.bare,I.base,I.loc,I.cell,I.free,I.j5,λp hp=>(A9.mp hp).elim (λz=>I.pin p (E3 _ z)) (h p),I.bp,I.len⟩
def zi {N:List Str} (hN:N.Nodup) {x:Str} (a:N[i]?=am x) (b:N[j]?=am x):i=j:=by
 obtain⟨h1,e1⟩:=Ak.mp a;obtain⟨h2,e2⟩:=Ak.mp b;exact (List.getElem_inj hN).mp (e1.trans e2.symm)
def uy {x:Str} (I:Inv X Z σ H s) (hN:X.N.Nodup) (hi:X.N[i]?=am x) (hx:Loc X.env.scope x) (r:RelV v u)
  (h:∀s',Inv X Z (σ.set i (am v)) H s'->(∃a,B6 a s.heap s'.heap/\(a=X.env.locals\/X.env.cells.lookup x=am a))->Q () s') (hf:LQ X x:=by first | exact .inl rfl | exact .inr rfl | assumption):db M A (storeName X.env x u) Q E s:=by
 obtain⟨m,hn,hl⟩:=id I.loc;have adF:(X.env.scope.kind==.class||(X.env.scope.kind==.module&&X.env.locals != X.env.globals))=false:=by rw [I.ok.kind];rfl
 have Zz:i < σ.length:=by rw [I.len];exact (Ak.mp hi).1
 have WB:=I.WB;have Ï:∀{a:ce}{h':lf},(∃o,s.heap.get? a=am o/\H a=bm)->B6 a s.heap h'->lG X.prog X.w H h':=λ{a h'} ha hs b ob e=>by
  obtain⟨_,_,Ts⟩:=ha;refine (I.bp b ob e).vD (λc w' hc q=>(hs.2 c ?_).trans q) (λ_ q=>q) λ_ _ q=>q;rintro rfl;rcases hc with rfl | hc
  ·rw [Ts] at e;cases e
  ·rw [Ts] at hc;cases hc
 rcases hx with hk | hk
 ·refine wpAny_storeName_local hk hn (λh' hn' hs=>?_) adF;obtain⟨oL,_,_,ö,_⟩:=id hn;refine h _ ⟨I.ok,I.os,I.bare,⟨λb o e n hb hx=>?_,λb o e n hb hx=>?_,I.base.free,λb o e hx=>?_,I.base.d5,I.base.sJ,I.base.vB⟩,⟨_,hn',λj y v' e1 e2 e3=>?_⟩,λy c e=>?_,I.free,I.j5,λp hp=>?_,Ï ⟨oL,ö,I.free⟩ hs,by simpa using I.len⟩ ⟨_,hs,.inl rfl⟩
  ·exact (hs.2 b (Az (AE (Aq e) I.ok.above))).trans (I.base.keep b o e n hb hx)
  ·obtain⟨sl,e1⟩:=I.base.slot b o e n hb hx;exact⟨sl,(hs.2 b (Az (AE (Aq e) I.ok.above))).trans e1⟩
  ·obtain⟨o',e1⟩:=I.base.there b o e hx;exact⟨o',(hs.2 b (Az (AE (Aq e) I.ok.above))).trans e1⟩
  ·by_cases hj:j=i
   ·subst hj;rw [hi] at e1;cases e1;rw [Cq Zz] at e2;cases e2;exact⟨u,r,.inl ⟨hk,by simp⟩⟩
   ·rw [BU (Bz hj)] at e2;obtain⟨u',r',q⟩:=hl j y v' e1 e2 e3;refine⟨u',r',?_⟩;rcases q with⟨k,e⟩ | ⟨k,c,e,z⟩
    ·refine .inl ⟨k,?_⟩;have:y≠x:=λe=>hj (zi hN e1 (e▸hi));simp [this,e]
    ·exact .inr ⟨k,c,e,z.sameBut hs (WB y c e)⟩
  ·obtain⟨w',z⟩:=I.cell y c e;exact⟨w',z.sameBut hs (WB y c e)⟩
  ·obtain⟨e,n,ne,nf,d⟩:=I.pin p hp;exact⟨(hs.2 p.1 ne).trans e,n,ne,nf,d⟩
 ·have ZG:X.fn x=true:=by
   rcases hf with z | z
   ·exact z
   ·rw [z] at hk;cases hk
  obtain⟨c,hc⟩:=I.ok.has x (.inl hk);obtain⟨w',z⟩:=I.cell x c hc;refine wpAny_storeName_cell I.ok.kind hk hc z (λh' Xh hs=>?_);obtain⟨oc,hoc,adq⟩:=id z;refine h {s with heap:=h'} ⟨I.ok,I.os,I.bare,⟨λb o e n hb hx=>?_,λb o e n hb hx=>?_,I.base.free,λb o e hx=>?_,I.base.d5,I.base.sJ,I.base.vB⟩,⟨m,hn.sameBut hs (Bz (WB x c hc)),λj y v' e1 e2 e3=>?_⟩,λy c' e=>?_,I.free,I.j5,λp hp=>?_,Ï ⟨oc,hoc,I.j5 x c hc⟩ hs,by simpa using I.len⟩ ⟨c,hs,.inr hc⟩
  ·exact (hs.2 b (Az (AE (Aq e) (I.ok.cab x c ZG hc)))).trans (I.base.keep b o e n hb hx)
  ·obtain⟨sl,e1⟩:=I.base.slot b o e n hb hx;exact⟨sl,(hs.2 b (Az (AE (Aq e) (I.ok.cab x c ZG hc)))).trans e1⟩
  ·obtain⟨o',e1⟩:=I.base.there b o e hx;exact⟨o',(hs.2 b (Az (AE (Aq e) (I.ok.cab x c ZG hc)))).trans e1⟩
  ·by_cases hj:j=i
   ·subst hj;rw [hi] at e1;cases e1;rw [Cq Zz] at e2;cases e2;exact⟨u,r,.inr ⟨.inl hk,c,hc,Xh⟩⟩
   ·rw [BU (Bz hj)] at e2;obtain⟨u',r',q⟩:=hl j y v' e1 e2 e3;refine⟨u',r',?_⟩;rcases q with q | ⟨k,c',e,z'⟩
    ·exact .inl q
    ·refine .inr ⟨k,c',e,z'.sameBut hs ?_⟩;rintro rfl;exact hj (zi hN e1 (I.ok.inj _ _ _ e hc▸hi))
  ·by_cases hcc:c'=c
   ·subst hcc;exact⟨_,Xh⟩
   ·obtain⟨w2,z2⟩:=I.cell y c' e;exact⟨w2,z2.sameBut hs hcc⟩
  ·obtain⟨e,n,ne,nf,d⟩:=I.pin p hp;refine⟨(hs.2 p.1 ?_).trans e,n,ne,nf,d⟩;intro q;rw [q,hoc] at e;have q':oc=p.2:=Option.some.inj e;exact d w' (by rw [<- q'];exact adq)
def mV {x:Str} (I:Inv X Z σ H s) (hN:X.N.Nodup) (hi:X.N[i]?=am x) (hx:Loc X.env.scope x) (r:RelV v u)
  (h:∀s',Inv X Z (σ.set i (am v)) H s'->Q () s') (hf:LQ X x:=by first | exact .inl rfl | exact .inr rfl | assumption):db M A (storeName X.env x u) Q E s:=
 uy I hN hi hx r (λs' I' _=>h s' I') hf
def Inv.aao (I:Inv X Z σ H s) (ho:s'.os=s.os) (u:Un (LO X.stack) ch H H' s.heap s'.heap) (bp:lG X.prog X.w H' s'.heap) (hg:EQ s'.gens)
  (PB:∀b∈ch,(b∈X.ex\/X.s₀.heap.objs.size<=b)/\b≠X.env.locals/\(∀x c,X.env.cells.lookup x=am c->c≠b)/\∀p∈X.pn++Z,p.1≠b):Inv X Z σ H' s':=by
 obtain⟨h',g',d',t',o'⟩:=s';have e:o'=s.os:=ho;subst e;exact I.call (g':=g') (t':=t') (d':=d') u bp hg PB
end
abbrev XK:=bn->Option ce->Hp->Prop
abbrev St:=List (Option V)
abbrev VK:=V->Hp->Prop
abbrev TE:=St->Hp->VK->Prop
abbrev TT:=St->Hp->(Bool->Hp->Prop)->Prop
abbrev TA:=St->Hp->(List V->Hp->Prop)->Prop
structure Ends where
 nx:St->Hp->Prop
 rt:VK
 bk:St->Hp->Prop:=λ_ _=>False
 ct:St->Hp->Prop:=λ_ _=>False
abbrev TS:=Ends->St->Hp->Prop
def EP (X:Cx) (Z:List (ce×Obj)) (σ:St) (Q:VK) (u:bn) (s':ci):Prop:=∃v H',Inv X Z σ H' s'/\RelV v u/\Q v H'
def TP (X:Cx) (Z:List (ce×Obj)) (σ:St) (Q:Bool->Hp->Prop) (b:Bool) (s':ci):Prop:=∃H',Inv X Z σ H' s'/\Q b H'
def AP (X:Cx) (Z:List (ce×Obj)) (σ:St) (Q:List V->Hp->Prop) (us:List bn) (s':ci):Prop:=∃vs H',Inv X Z σ H' s'/\Vals vs us/\Q vs H'
def SP (X:Cx) (Z:List (ce×Obj)) (D:Ends) (f:Flow) (s':ci):Prop:=
 match f with
 | .next=>∃σ' H',Inv X Z σ' H' s'/\D.nx σ' H'
 | .brk=>∃σ' H',Inv X Z σ' H' s'/\D.bk σ' H'
 | .cont=>∃σ' H',Inv X Z σ' H' s'/\D.ct σ' H'
 | .ret u=>∃v σ' H',Inv X Z σ' H' s'/\RelV v u/\D.rt v H'
def PE (X:Cx) (e:ii) (t:TE):Prop:=
 ∀(Z:List (ce×Obj)) (s:ci) (σ:St) (H:Hp) (Q:VK),Inv X Z σ H s->t σ H Q->db (dL X.prog X.w) X.A (kw e X.env) (EP X Z σ Q) X.xe s
def PT (X:Cx) (e:ii) (t:TT):Prop:=
 ∀(Z:List (ce×Obj)) (s:ci) (σ:St) (H:Hp) (Q:Bool->Hp->Prop),Inv X Z σ H s->t σ H Q->db (dL X.prog X.w) X.A (isTrue e X.env (kw e X.env)) (TP X Z σ Q) X.xe s
def PW (X:Cx) (e:ii) (t:TT):Prop:=
 ∀(Æ:Sem bn) (Z:List (ce×Obj)) (s:ci) (σ:St) (H:Hp) (Q:Bool->Hp->Prop),Inv X Z σ H s->t σ H Q->db (dL X.prog X.w) X.A (isTrue e X.env Æ) (TP X Z σ Q) X.xe s
def PW.pt {X:Cx}{e:ii}{t:TT} (h:PW X e t):PT X e t:=h _
def PA (X:Cx) (es:List ii) (t:TA):Prop:=
 ∀(pos:Pos) (Z:List (ce×Obj)) (s:ci) (σ:St) (H:Hp) (Q:List V->Hp->Prop),Inv X Z σ H s->t σ H Q->db (dL X.prog X.w) X.A (spliced (u8 pos (f8 es X.env))) (AP X Z σ Q) X.xe s
def PS (X:Cx) (st:sn) (t:TS):Prop:=
 ∀(Z:List (ce×Obj)) (s:ci) (σ:St) (H:Hp) (D:Ends),Inv X Z σ H s->t D σ H->db (dL X.prog X.w) X.A (exec st X.env) (SP X Z D) X.xe s
def qQ (X:Cx) (st:List sn) (t:TS):Prop:=
 ∀(Z:List (ce×Obj)) (s:ci) (σ:St) (H:Hp) (D:Ends),Inv X Z σ H s->t D σ H->db (dL X.prog X.w) X.A (execs st X.env) (SP X Z D) X.xe s
def bZ {t:Sem α}{Q Q':α->ci->Prop} (h:db M A t Q E s) (hQ:∀a s,Q a s->Q' a s):db M A t Q' E s:=BH h hQ λ_ _ x=>x
end L2
variable {x:BX}{a:B2}{X:L2.Cx}{σ:L2.St}{Q:AZ->DJ->Prop}{ta tb:L2.TE}{R:L2.V->L2.V->L2.Hp->Prop}{pos:B7}
namespace L2
open PySem PySem.Spec PyProof.Rows
section
def bin {b:ii} (ha:PE X a ta) (hb:PE X b tb) (I:Inv X Z σ H s) (h:ta σ H λx H1=>tb σ H1 λy H2=>R x y H2) {Q:α->ci->Prop}{f:bn->bn->Sem α}
  (hf:∀v u s2 x y H2,Inv X Z σ H2 s2->RelV x v->RelV y u->R x y H2->db (dL X.prog X.w) X.A (f v u) Q X.xe s2) :
  db (dL X.prog X.w) X.A (kw a X.env) (λv s₁=>db (dL X.prog X.w) X.A (kw b X.env) (λu s₂=>db (dL X.prog X.w) X.A (f v u) Q X.xe s₂) X.xe s₁) X.xe s:=by
 refine bZ (ha Z s σ H _ I h) λv s1 ⟨x,H1,I1,r1,q1⟩=>?_;refine bZ (hb Z s1 σ H1 _ I1 q1) λu s2 ⟨y,H2,I2,r2,q2⟩=>?_;exact hf v u s2 x y H2 I2 r1 r2 q2
def ab9 (i:Nat):TE:=λσ H Q=>∃v,σ[i]?=am (am v)/\Q v H
def tC (v:V):TE:=λ_ H Q=>Q v H
def d7 (hN:X.N[i]?=am x) (hv:F5 X.env.scope x) (hd:iW x:=by decide) (jq:Gp x:=by decide):PE X (.Name x pos) (ab9 i):=by
 intro Z s σ H Q I h;obtain⟨v,e,h⟩:=h;obtain⟨m,hn,hl⟩:=I.loc;obtain⟨u,r,l⟩:=hl i x v hN e hv;have fin:EP X Z σ Q u s:=⟨v,H,I,r,h⟩;rcases l with⟨hk,hm⟩ | ⟨hk,c,hc,Tv⟩
 ·exact wpAny_Name (wpAny_loadName_local I.ok.kind hk hn hm fin) hd
 ·rcases hk with hk | hk
  ·exact wpAny_Name (wpAny_loadName_cell I.ok.kind hk hc Tv fin) hd
  ·exact wpAny_Name (wpAny_loadName_free I.ok.kind hk hc Tv fin jq) hd
def UZ {i j pos}:PE X (.Constant (.int i) j pos) (tC (.int i)):=λ_ _ _ H _ I h=>wpAny_Constant_int ⟨.int i,H,I.tok _,⟨_,rfl⟩,h⟩
def YF {b j pos}:PE X (.Constant (.bool b) j pos) (tC (.bl b)):=λ_ _ _ H _ I h=>Constant_bool ⟨.bl b,H,I,rfl,h⟩
def M3 {j pos}:PE X (.Constant .none j pos) (tC .aE):=λ_ _ _ H _ I h=>Constant_none ⟨.aE,H,I,rfl,h⟩
def UX {x j pos}:PE X (.Constant (.str x) j pos) (tC (.str x)):=λ_ _ _ H _ I h=>Calls.Constant_str ⟨.str x,H,I.tok _,⟨_,rfl⟩,h⟩
def Gl (X:Cx) (x:Str):Prop:=X.env.kindOf x=am .globalImplicit
def Jy (I:Inv X Z σ H s) (hg:Gl X x) (hm:X.mg x=am u) (h:Q u s)
  (hd:iW x:=by decide):db (dL X.prog X.w) X.A (kw (.Name x pos) X.env) Q E s:=
 DT I.ok.kind hg (Calls.loadGlobal_global (by rw [I.ok.glob];exact I.mod.glob.keeps I.bk) hm h) hd
def ic (I:Inv X Z σ H s) (hg:Gl X x) (hm:X.mg x=bm) (hv:lc x=am u) (h:Q u s)
  (hn:x≠"__name__":=by decide) (hd:iW x:=by decide):db (dL X.prog X.w) X.A (kw (.Name x pos) X.env) Q E s:=by
 obtain⟨mb,h1,h2⟩:=I.mod.blt;exact DT I.ok.kind hg (Calls.loadGlobal_builtin (by rw [I.ok.glob];exact I.mod.glob.keeps I.bk) hm (by rw [I.ok.blt];exact h1.keeps I.bk) ((h2 x hn).trans hv) h) hd
def qC (hg:Gl X x) (hm:X.mg x=am u) (r:RelV v u) (hd:iW x:=by decide):PE X (.Name x pos) (tC v):=
 λ_ _ _ H _ I h=>Jy I hg hm ⟨v,H,I,r,h⟩ hd
def QH (hg:Gl X x) (hm:X.mg x=bm) (hv:lc x=am u) (r:RelV v u) (hn:x≠"__name__":=by decide) (hd:iW x:=by decide):PE X (.Name x pos) (tC v):=
 λ_ _ _ H _ I h=>ic I hg hm hv ⟨v,H,I,r,h⟩ hn hd
variable {b:ii}
variable {tA æ:TT}{rest:List ii}
def ack (t u:TT):TT:=λσ H Q=>t σ H λc H1=>if c=true then u σ H1 Q else Q false H1
def tOr (t u:TT):TT:=λσ H Q=>t σ H λc H1=>if c=true then Q true H1 else u σ H1 Q
def acf (t:TT):TT:=λσ H Q=>t σ H λc H1=>Q (!c) H1
def Qq (ha:PT X a tA):PW X (.BoolOp .And [a] pos) tA:=by
 intro wh Z s σ H Q I h;refine isTrue_and (bZ (ha Z s σ H Q I h) λc s1 e=>?_);cases c with
 | true=>exact isTrue_and_nil e
 | false=>exact e
def UO (ha:PT X a tA):PW X (.BoolOp .Or [a] pos) tA:=by
 intro wh Z s σ H Q I h;refine isTrue_or (bZ (ha Z s σ H Q I h) λc s1 e=>?_);cases c with
 | false=>exact isTrue_or_nil e
 | true=>exact e
def UP (ha:PT X a tA) (hb:PW X (.BoolOp .And (b::rest) pos) æ):PW X (.BoolOp .And (a::b::rest) pos) (ack tA æ):=by
 intro wh Z s σ H Q I h;refine isTrue_and (bZ (ha Z s σ H _ I h) λc s1 ⟨H1,I1,q1⟩=>?_);cases c with
 | true=>exact hb wh Z s1 σ H1 Q I1 q1
 | false=>exact⟨H1,I1,q1⟩
def Yz (ha:PT X a tA) (hb:PW X (.BoolOp .Or (b::rest) pos) æ):PW X (.BoolOp .Or (a::b::rest) pos) (tOr tA æ):=by
 intro wh Z s σ H Q I h;refine isTrue_or (bZ (ha Z s σ H _ I h) λc s1 ⟨H1,I1,q1⟩=>?_);cases c with
 | true=>exact⟨H1,I1,q1⟩
 | false=>exact hb wh Z s1 σ H1 Q I1 q1
def UQ (ha:PT X a tA):PT X (.UnaryOp .Not a pos) (acf tA):=by
 intro Z s σ H Q I h;exact isTrue_not (ha Z s σ H (λc H1=>Q (!c) H1) I h)
def X9 (ta tb:TE):TE:=λσ H Q=>ta σ H λx H1=>∃c,x=.bl c/\if c=true then tb σ H1 Q else Q (.bl false) H1
def UY {op}{t:TE} (h:PE X a t):PE X (.BoolOp op [a] pos) t:=λZ s σ H Q I hw=>BoolOp_one (h Z s σ H Q I hw)
def U1 (ha:PE X a ta) (hb:PE X (.BoolOp .And (b::rest) pos) tb):PE X (.BoolOp .And (a::b::rest) pos) (X9 ta tb):=by
 intro Z s σ H Q I h;refine BoolOp_and (bZ (ha Z s σ H _ I h) λv s1 ⟨x,H1,I1,r1,q1⟩=>?_);obtain⟨c,rfl,q1⟩:=q1;cases r1;refine CB ?_;cases c with
 | true=>exact hb Z s1 σ H1 Q I1 q1
 | false=>exact⟨.bl false,H1,I1,rfl,q1⟩
def tIf (t:TT) (ta tb:TE):TE:=λσ H Q=>t σ H λc H1=>if c=true then ta σ H1 Q else tb σ H1 Q
def y6 {c:ii} (hc:PT X c tA) (ha:PE X a ta) (hb:PE X b tb):PE X (.IfExp c a b pos) (tIf tA ta tb):=by
 intro Z s σ H Q I h;refine wpAny_IfExp (bZ (hc Z s σ H _ I h) λd s1 ⟨H1,I1,q1⟩=>?_);cases d with
 | true=>exact ha Z s1 σ H1 Q I1 q1
 | false=>exact hb Z s1 σ H1 Q I1 q1
end
end L2
variable {xs ys:List L2.V}{e tg:B2}{y:L2.V}{D:L2.Ends}{te:L2.TE}{es:List B2}{k n:Nat}{Ø px py pt:B7}{body:List PySem.Stmt}
namespace L2
open PySem PySem.Spec PyProof.Rows
def cR (K:Ab) (H:Hp) (a:ce) (xs:List V):Prop:=
 Rd H a (.lst xs)\/
  ∃(o:Obj) (aq:Array bn) (n:Nat),K.lookup a=am o/\o.cls=.type "list"/\o.dict=bm/\o.data=.seq aq n/\aq.size<=sizeLine/\Vals xs aq.toList
def d4 (K:Ab) (H:Hp) (a:ce) (xs:List V):Prop:=
 Rd H a (.tup xs)\/
  ∃(o:Obj) (aq:Array bn) (n:Nat),K.lookup a=am o/\o.cls=.type "tuple"/\o.data=.seq aq n/\aq.size<=sizeLine/\Vals xs aq.toList
def aeb:bn->Option V
 | .none=>am .aE
 | .bool b=>am (.bl b)
 | .int i _=>am (.int i)
 | .str x _=>am (.str x)
 | .bytes b _=>am (.WE b)
 | .float b _=>am (.Xl b)
 | .ref a=>am (.ref a)
 | .type n=>am (.ty n)
 | _=>bm
def RelV.abs {x:V} (r:RelV x u):aeb u=am x:=by
 cases x with
 | aE=>cases r;rfl
 | bl _=>cases r;rfl
 | int _=>obtain⟨t,rfl⟩:=r;rfl
 | str _=>obtain⟨t,rfl⟩:=r;rfl
 | WE _=>obtain⟨t,rfl⟩:=r;rfl
 | Xl _=>obtain⟨t,rfl⟩:=r;rfl
 | ref _=>cases r;rfl
 | ty _=>cases r;rfl
def RelV.inj {x:V} (r:RelV x u) (q:RelV y u):x=y:=Option.some.inj (r.abs.symm.trans q.abs)
theorem Vals.inj:∀{xs ys:List V}{us:List bn},Vals xs us->Vals ys us->xs=ys
 | _,_,_,.nil,.nil=>rfl
 | _,_,_,.cons r t,.cons r' t'=>by rw [r.inj r',Vals.inj t t']
section
variable {a:ce}
def cR.of {K:Ab} (h:H a=am (.lst xs)):cR K H a xs:=.inl (.inl h)
def d4.of {K:Ab} (h:H a=am (.tup xs)):d4 K H a xs:=.inl (.inl h)
theorem Inv.list (I:Inv X Z σ H s) (h:cR X.K H a xs):∃aq:List bn,Vals xs aq/\PlainL s.heap a aq.toArray/\xs.length<=sizeLine:=by
 rcases h with h | ⟨o,aq,n,hk,hc,hd,hs,hz,r⟩
 ·obtain⟨z,aq,n,r,e⟩:=h.ok I.bp;exact⟨aq,r,⟨_,n,e,rfl,rfl,rfl⟩,z⟩
 ·refine⟨aq.toList,r,⟨o,n,I.uP a o hk,hc,hd,by simpa using hs⟩,?_⟩;have e:=r.length;simp only [B4] at e;omega
theorem Inv.tuple (I:Inv X Z σ H s) (h:d4 X.K H a xs):∃aq:List bn,Vals xs aq/\IsTup s.heap a aq.toArray/\xs.length<=sizeLine:=by
 rcases h with h | ⟨o,aq,n,hk,hc,hs,hz,r⟩
 ·obtain⟨z,aq,r,p⟩:=h.ok I.bp;exact⟨aq,r,p,z⟩
 ·refine⟨aq.toList,r,⟨o,I.uP a o hk,hc,n,by simpa using hs⟩,?_⟩;have e:=r.length;simp only [B4] at e;omega
def Inv.zy (I:Inv X Z σ H s) (h:cR X.K H a xs) (h':cR X.K H a ys):xs=ys:=by
 obtain⟨aq,r,⟨o,n,e,_,_,d⟩,_⟩:=I.list h;obtain⟨its',r',⟨o',n',e',_,_,d'⟩,_⟩:=I.list h';rw [e] at e';cases e';rw [d] at d';injection d' with d1 _;have:aq=its':=by simpa using congrArg Array.toList d1
 subst this;exact r.inj r'
def Inv.kX (I:Inv X Z σ H s) (h:d4 X.K H a xs) (h':d4 X.K H a ys):xs=ys:=by
 obtain⟨aq,r,⟨o,e,_,n,d⟩,_⟩:=I.tuple h;obtain⟨its',r',⟨o',e',_,n',d'⟩,_⟩:=I.tuple h';rw [e] at e';cases e';rw [d] at d';injection d' with d1 _;have:aq=its':=by simpa using congrArg Array.toList d1
 subst this;exact r.inj r'
end
abbrev Cx.tM (X:Cx) (E:bn->ci->Prop):Cx:={X with xe:=E}
abbrev Cx.uE (X:Cx):Cx:=X.tM λ_ _=>False
def Cx.Ok.tM (ok:X.Ok) (E:bn->ci->Prop):(X.tM E).Ok:=
 ⟨ok.mod,ok.kind,ok.glob,ok.blt,ok.above,ok.inj,ok.has,ok.cab,ok.hd,ok.frames,ok.stk,ok.exf,ok.bs,ok.TZ,ok.Ng,ok.Ox,ok.sI,ok.Xi⟩
def Cx.Ok.ki (ok:(X.tM E).Ok):X.Ok:=
 ⟨ok.mod,ok.kind,ok.glob,ok.blt,ok.above,ok.inj,ok.has,ok.cab,ok.hd,ok.frames,ok.stk,ok.exf,ok.bs,ok.TZ,ok.Ng,ok.Ox,ok.sI,ok.Xi⟩
section
def Inv.tM (I:Inv X Z σ H s) (E:bn->ci->Prop):Inv (X.tM E) Z σ H s:=⟨I.ok.tM E,I.os,I.bare,I.base,I.loc,I.cell,I.free,I.j5,I.pin,I.bp,I.len⟩
def Inv.ki (I:Inv (X.tM E) Z σ H s):Inv X Z σ H s:=⟨I.ok.ki,I.os,I.bare,I.base,I.loc,I.cell,I.free,I.j5,I.pin,I.bp,I.len⟩
def SP.ki {f:Flow} (h:SP (X.tM E) Z D f s'):SP X Z D f s':=by
 cases f with
 | next=>obtain⟨σ',H',I,q⟩:=h;exact⟨σ',H',I.ki,q⟩
 | brk=>obtain⟨σ',H',I,q⟩:=h;exact⟨σ',H',I.ki,q⟩
 | cont=>obtain⟨σ',H',I,q⟩:=h;exact⟨σ',H',I.ki,q⟩
 | ret u=>obtain⟨v,σ',H',I,r,q⟩:=h;exact⟨v,σ',H',I.ki,r,q⟩
def qQ.uE {st:List sn}{t:TS} (h:qQ X.uE st t):qQ X st t:=λZ s σ H D I hw=>
 BH (h Z s σ H D (I.tM _) hw) (λ_ _ q=>q.ki) λ_ _ z=>Bo z
end
section
variable {st:sn}{rest:List sn}{t u:TS}
def X2:TS:=λD σ H=>D.nx σ H
def acb (t u:TS):TS:=λD σ H=>t {D with nx:=u D} σ H
def vN:qQ X [] X2:=λ_ _ σ H _ I h=>Dz ⟨σ,H,I,h⟩
def yT (h1:PS X st t) (h2:qQ X rest u):qQ X (st::rest) (acb t u):=by
 intro Z s σ H D I h;refine wpAny_execs_cons (bZ (h1 Z s σ H {D with nx:=u D} I h) λf s1 q=>?_);cases f with
 | next=>
  obtain⟨σ',H',I',q⟩:=q;exact h2 Z s1 σ' H' D I' q
 | ret v=>exact q
 | brk=>exact q
 | cont=>exact q
def Qs (h1:PS X st t):qQ X [st] t:=by
 intro Z s σ H D I h;refine wpAny_execs_cons (bZ (h1 Z s σ H D I h) λf s1 q=>?_);cases f with
 | next=>exact Dz q
 | ret v=>exact q
 | brk=>exact q
 | cont=>exact q
def X6:TS:=λD σ H=>D.ct σ H
def yV:PS X (.Continue pos) X6:=λ_ _ σ H _ I h=>wpAny_Continue ⟨σ,H,I,h⟩
def Inv.quiet (I:Inv X Z σ H s):interactive X.env=false:=by simp [interactive,I.ok.kind]
def X4 (te:TE):TS:=λD σ H=>te σ H λ_ H1=>D.nx σ H1
def qB (he:PE X e te) (hs:im e bm pos.line X.env=pure false:=by rfl):PS X (.Expr e pos) (X4 te):=by
 intro Z s σ H D I h;exact wpAny_Expr_any (bZ (he Z s σ H _ I h) λv s1 ⟨x,H1,I1,r1,q1⟩=>⟨σ,H1,I1,q1⟩) I.quiet hs
def acd (te:TE):TS:=λD σ H=>te σ H D.rt
def vO (he:PE X e te):PS X (.Return (am e) pos) (acd te):=by
 intro Z s σ H D I h;exact wpAny_Return_some (bZ (he Z s σ H _ I h) λv s1 ⟨x,H1,I1,r1,q1⟩=>⟨x,σ,H1,I1,r1,q1⟩)
def ach (c:TT) (t u:TS):TS:=λD σ H=>c σ H λb H1=>if b=true then t D σ H1 else u D σ H1
def MR {c:ii}{a b:List sn}{tc:TT} (hc:PT X c tc) (ha:qQ X a t) (hb:qQ X b u):PS X (.If c a b pos) (ach tc t u):=by
 intro Z s σ H D I h;refine wpAny_If (bZ (hc Z s σ H _ I h) λd s1 ⟨H1,I1,q1⟩=>?_);cases d with
 | true=>exact ha Z s1 σ H1 D I1 q1
 | false=>exact hb Z s1 σ H1 D I1 q1
def Uk:TS:=λ_ _ _=>False
end
abbrev TG:=V->St->Hp->(St->Hp->Prop)->Prop
abbrev WT:=List V->St->Hp->(St->Hp->Prop)->Prop
def PG (X:Cx) (É:ii) (t:TG):Prop:=
 ∀(Z:List (ce×Obj)) (s:ci) (σ:St) (H:Hp) (v:V) (u:bn) (Q:St->Hp->Prop),Inv X Z σ H s->RelV v u->t v σ H Q->
  db (dL X.prog X.w) X.A (Da É X.env u) (λ_ s'=>∃σ' H',Inv X Z σ' H' s'/\Q σ' H') X.xe s
def PGs (X:Cx) (ts:List ii) (t:WT):Prop:=
 ∀(Z:List (ce×Obj)) (s:ci) (σ:St) (H:Hp) (vs:List V) (us:List bn) (Q:St->Hp->Prop),Inv X Z σ H s->Vals vs us->t vs σ H Q->
  db (dL X.prog X.w) X.A (assignInOrder ((wE ts X.env).map (·.2)) us) (λ_ s'=>∃σ' H',Inv X Z σ' H' s'/\Q σ' H') X.xe s
abbrev Pl:=V->V->V->Hp->(Hp->Prop)->Prop
def LI (X:Cx) (t:Pl):Prop:=
 ∀(Z:List (ce×Obj)) (s:ci) (σ:St) (H:Hp) (o i v:V) (ov iv u:bn) (Q:Hp->Prop),Inv X Z σ H s->RelV o ov->RelV i iv->RelV v u->t o i v H Q->
  db (dL X.prog X.w) X.A (setItem ov iv u) (λ_ s'=>∃H',Inv X Z σ H' s'/\Q H') X.xe s
section
def dZ (i:Nat):TG:=λv σ H Q=>Q (σ.set i (am v)) H
def Qy (hN:X.N.Nodup) (hi:X.N[i]?=am x) (hx:Loc X.env.scope x) (hf:LQ X x:=by first | exact .inl rfl | exact .inr rfl | assumption):PG X (.Name x pos) (dZ i):=by
 intro Z s σ H v u Q I r h;exact wpAny_assign_Name (mV I hN hi hx r (λs' I'=>⟨_,H,I',h⟩) hf)
def V9:WT:=λvs σ H Q=>vs=[]/\Q σ H
def sH (t:TG) (u:WT):WT:=λvs σ H Q=>∃v r,vs=v::r/\t v σ H λσ' H'=>u r σ' H' Q
def dJ:PGs X [] V9:=by
 intro Z s σ H vs us Q I r h;obtain⟨e,h⟩:=h;subst e;cases r;exact assignInOrder_nil ⟨σ,H,I,h⟩
def aH {t:TG}{u:WT} (h1:PG X e t) (h2:PGs X es u)
  (hs:(wE (e::es) X.env).map (·.2)=Da e X.env::(wE es X.env).map (·.2):=by rfl):PGs X (e::es) (sH t u):=by
 intro Z s σ H vs us Q I r h;obtain⟨v,vr,e1,h⟩:=h;subst e1;cases r with
 | cons r rr=>
  rw [hs];refine assignInOrder_cons (bZ (h1 Z s σ H _ _ _ I r h) λ_ s1 ⟨σ1,H1,I1,q1⟩=>?_);exact h2 Z s1 σ1 H1 _ _ Q I1 rr q1
def V8 (K:Ab) (n:Nat) (t:WT):TG:=λv σ H Q=>∃a xs,v=.ref a/\d4 K H a xs/\xs.length=n/\t xs σ H Q
def fB {t:WT} (hc:X.calm=true) (h:PGs X es t)
  (hn:(wE es X.env).length=n:=by rfl) (qI:(wE es X.env).findIdx? (·.1)=bm:=by rfl):PG X (.Tuple es k pos) (V8 X.K n t):=by
 intro Z s σ H v u Q I r hw;obtain⟨a,xs,e1,hq,hl,hw⟩:=hw;subst e1;cases r;obtain⟨aq,rv,ht,hz⟩:=I.tuple hq;refine assign_Tuple_tuple (I.ok.hd hc) ht (by simp [hn,<- hl,rv.length]) qI λh' hx=>?_;have I1:Inv X Z σ H {s with heap:=h'}:=I.kept (t':=s.toks) λb o e=>hx b o (Az (Aq e)) e;exact h Z _ σ H xs _ Q I1 (by simpa using rv) hw
def adR (to ti:TE) (t:Pl):TG:=λv σ H Q=>to σ H λo H1=>ti σ H1 λi H2=>t o i v H2 λH3=>Q σ H3
def UW {o i:ii}{to ti:TE}{t:Pl} (ho:PE X o to) (hi:PE X i ti) (hs:LI X t)
  (ha:∀v,Da (.Subscript o i pos) X.env v=(do
   let ov <- xL [v] (kw o X.env)
   let iv <- xL [v,ov] (kw i X.env)
   standAt pos
   xL [v,ov,iv] (setItem ov iv v)
   release [v,ov,iv] []):=by intro _;rfl):PG X (.Subscript o i pos) (adR to ti t):=by
 intro Z s σ H v u Q I r h;refine Aa (Bl (bZ (ho Z s σ H _ I h) λov s1 ⟨x,H1,I1,r1,q1⟩=>?_));refine Aa (Bl (bZ (hi Z s1 σ H1 _ I1 q1) λiv s2 ⟨y,H2,I2,r2,q2⟩=>?_));refine Aa (Ed (Aa (Bl (bZ (hs Z s2 σ H2 x y v ov iv u _ I2 r1 r2 r q2) λ_ s3 ⟨H3,I3,q3⟩=>?_))));exact wpAny_release ⟨σ,H3,I3,q3⟩
def Um (te:TE) (g:TG):TS:=λD σ H=>te σ H λx H1=>g x σ H1 D.nx
def MU {g:TG} (he:PE X e te) (hg:PG X tg g) (hs:BT [tg] e pos.line X.env=pure false:=by rfl) (hw:Ch [tg] e X.env=pure bm:=by rfl)
  (h1:(wE [tg] X.env).map (·.2)=[Da tg X.env]:=by rfl):PS X (.Assign [tg] e pos) (Um te g):=by
 intro Z s σ H D I h;refine wpAny_Assign_stores (bZ (he Z s σ H _ I h) λv s1 ⟨x,H1,I1,r1,q1⟩=>?_) hs hw;rw [h1];exact bZ (hg Z s1 σ H1 x v _ I1 r1 q1) λ_ s2 q=>q
def rC (hN:X.N.Nodup) (hi:X.N[i]?=am x) (hx:Loc X.env.scope x) (he:PE X e te) (hs:im e (am (.Name x Ø)) pos.line X.env=pure false:=by rfl) (hf:LQ X x:=by first | exact .inl rfl | exact .inr rfl | assumption) :
  PS X (.Assign [.Name x Ø] e pos) (Um te (dZ i)):=by
 intro Z s σ H D I h;refine wpAny_Assign_Name (bZ (he Z s σ H _ I h) λv s1 ⟨y,H1,I1,r1,q1⟩=>?_) hs;exact mV I1 hN hi hx r1 (λs2 I2=>⟨_,H1,I2,q1⟩) hf
def ace (i j:Nat) (ta:TA):TS:=λD σ H=>ta σ H λvs H1=>∃v w,vs=[v,w]/\D.nx ((σ.set i (am v)).set j (am w)) H1
def US {y:Str}{b:ii}{ta:TA}{kt k2 UR} (hc:X.calm=true) (hN:X.N.Nodup) (hi:X.N[i]?=am x) (hj:X.N[j]?=am y) (ZC:i≠j)
  (hx:X.env.scope.names.lookup x=am .local) (hy:X.env.scope.names.lookup y=am .local) (ha:PA X [a,b] ta)
  (hw:Ch [.Tuple [.Name x px,.Name y py] kt pt] (.Tuple [a,b] k2 UR) X.env=pure (am [x,y]))
  (hs:BT [.Tuple [.Name x px,.Name y py] kt pt] (.Tuple [a,b] k2 UR) pos.line X.env=pure false:=by rfl) :
  PS X (.Assign [.Tuple [.Name x px,.Name y py] kt pt] (.Tuple [a,b] k2 UR) pos) (ace i j ta):=by
 intro Z s σ H D I h;refine Aa (Ed ?_);refine Aa (Ae ?_);rw [if_neg ⋯];refine Aa (Tuple_ (bZ (ha _ Z s σ H _ I h) λus s1 ⟨vs,H1,I1,r1,q1⟩=>?_));obtain⟨v,w,e1,q1⟩:=q1;subst e1;obtain⟨u1,u2,rfl,rv,vL⟩:∃u1 u2,us=[u1,u2]/\RelV v u1/\RelV w u2:=by
  cases r1 with
  | cons p q=>
   cases q with
   | cons p' q'=>
    cases q';exact⟨_,_,rfl,p,p'⟩
 refine A1 ?_ (by show 2<=sizeLine;decide);have I2:Inv X Z σ H1 {s1 with heap:=s1.heap.push {cls:=.type "tuple",data:=.seq [u1,u2].toArray}}:=I1.kept (t':=s1.toks) λb o e=>Ag _ e;rw [hw];refine Aa (Ae ?_);refine Aa (CY (Aa (unpackItems_tuple (items:=#[u1,u2]) (I.ok.hd hc) (Fu s1.heap _) λh' uU=>?_)));have I3:=I2.kept (h':=h') (t':=s1.toks) λb o e=>uU b o (Az (Aq e)) e;show db _ _ (assignInOrder [λv=>bindName X.env y v,λv=>bindName X.env x v] [u2,u1] >>= λ_=>pure Flow.next) _ _ _;refine Aa (assignInOrder_cons (wpAny_bindName (mV I3 hN hj (.inl hy) vL (λs2 I4=>?_) (.inr hy))));refine assignInOrder_cons (wpAny_bindName (mV I4 hN hi (.inl hx) rv (λs3 I5=>assignInOrder_nil (Ae ?_)) (.inr hx)));rw [List.set_comm _ _ (Bz ZC)] at I5;exact⟨_,H1,I5,q1⟩
end
section
def Ui (c:TT) (tb:TS):TS:=λD σ H=>∃W:Nat->St->Hp->Prop,(∃m,W m σ H)/\∀m σ H,W m σ H->
 c σ H λb H1=>if b=true then ∃N:St->Hp->Prop,(∀σ' H',N σ' H'->∃m',m' < m/\W m' σ' H')/\tb {D with nx:=N,ct:=N,bk:=D.nx} σ H1 else D.nx σ H1
def MP {c:ii}{tc:TT}{tb:TS} (hp:v4 (dL X.prog X.w) X.A X.env X.xe) (hc:PT X c tc) (hb:qQ X body tb):PS X (.While c body [] pos) (Ui tc tb):=by
 intro Z s σ H D I h;obtain⟨W,⟨m0,w0⟩,turn⟩:=h;refine wpAny_While (codeAny_whileLoop (λn s'=>∃σ' H',Inv X Z σ' H' s'/\W n σ' H') ?_ m0 ⟨σ,H,I,w0⟩);rintro n s1 ⟨σ1,H1,I1,w1⟩;refine Cd hp (bZ (hc Z s1 σ1 H1 _ I1 (turn n σ1 H1 w1)) λb s2 ⟨H2,I2,q2⟩=>?_);cases b with
 | true=>
  obtain⟨N,hN,q2⟩:=q2;refine Cd hp (bZ (hb Z s2 σ1 H2 _ I2 q2) λf s3 q3=>?_);cases f with
  | next=>
   obtain⟨σ3,H3,I3,n3⟩:=q3;obtain⟨m',hm,w3⟩:=hN σ3 H3 n3;exact⟨m',hm,σ3,H3,I3,w3⟩
  | cont=>
   obtain⟨σ3,H3,I3,n3⟩:=q3;obtain⟨m',hm,w3⟩:=hN σ3 H3 n3;exact⟨m',hm,σ3,H3,I3,w3⟩
  | brk=>exact q3
  | ret v=>exact q3
 | false=>
  exact Dz ⟨σ1,H2,I2,q2⟩
end
structure It where
 go:Nat->Hp->Prop
 SK:Nat->Hp->V->Hp->Prop
 stop:Nat->Hp->Prop
def uq (X:Cx) (Z:List (ce×Obj)) (H:Hp) (b:ce):Prop:=
 H b=bm/\b≠X.env.locals/\b∉X.fs/\(b∈X.ex\/X.s₀.heap.objs.size<=b)/\(∀x c,X.env.cells.lookup x=am c->c≠b)/\∀p∈X.pn++Z,p.1≠b
def Inv.xn (I:Inv X Z σ H s) (hb:s.heap.objs.size<=b) (hn:H' b=bm):uq X Z H' b:=by
 refine⟨hn,Nat.ne_of_gt (AE I.lt hb),I.acG hb,.inr (BA I.sz hb),λx c e z=>?_,λp hp z=>?_⟩
 ·obtain⟨v,q⟩:=I.cell x c e;exact absurd (AE q.lt (by rw [z];exact hb)) (AQ _)
 ·exact absurd (AE (Aq (I.pin p hp).1) (by rw [z];exact hb)) (AQ _)
structure Turn (P:sK) (w:tz) (K:Ab) (tg:ii) (J:It) (fp:List ce) (it:ce) (tn:Nat->lf->Prop):Prop where
 mem:it∈fp
 obj:∀i h,tn i h->∀b∈fp,∃o,h.get? b=am o/\∀v,o.data≠.cell v
 keep:∀i h h',tn i h->(∀b∈fp,∀o,h.get? b=am o->h'.get? b=am o)->tn i h'
 item:∀(X:Cx),X.prog=P->X.w=w->X.K=K->X.calm=true->∀(i:Nat) (Z:List (ce×Obj)) (s:ci) (σ:St) (H:Hp) (E:bn->ci->Prop),Inv X Z σ H s->(∀b∈fp,uq X Z H b)->tn i s.heap->J.go i H->
  db (dL P w) X.A (pyNext (.ref it)) (λr s1=>∃u,r=am u/\
   db (dL P w) X.A (Fa tg (.ref it) u) (λ_ s2=>∃x H',Inv X Z σ H' s2/\RelV x u/\J.SK i H x H'/\tn (i+1) s2.heap/\∀b∈fp,H' b=bm) E s1) E s
 done:∀(X:Cx),X.prog=P->X.w=w->X.K=K->X.calm=true->∀(i:Nat) (Z:List (ce×Obj)) (s:ci) (σ:St) (H:Hp) (E:bn->ci->Prop),Inv X Z σ H s->(∀b∈fp,uq X Z H b)->tn i s.heap->J.stop i H->
  db (dL P w) X.A (pyNext (.ref it)) (λr s1=>r=bm/\Inv X Z σ H s1) E s
 self:∀(A:nn) (i:Nat) (s:ci) (Q:bn->ci->Prop) (E:bn->ci->Prop),tn i s.heap->Q (.ref it) s->db (dL P w) A (pyIter (.ref it)) Q E s
abbrev TI:=St->Hp->(It->Hp->Prop)->Prop
def PIE (X:Cx) (Z:List (ce×Obj)) (σ:St) (tg:ii) (R:It->Hp->Prop) (ï:bn) (s2:ci):Prop:=
 ∃(it:ce) (fp:List ce) (tn:Nat->lf->Prop) (J:It) (H':Hp),ï=.ref it/\Inv X Z σ H' s2/\Turn X.prog X.w X.K tg J fp it tn/\tn 0 s2.heap/\(∀b∈fp,uq X Z H' b)/\R J H'
def PI (X:Cx) (tg iter:ii) (wi:TI):Prop:=
 ∀(Z:List (ce×Obj)) (s:ci) (σ:St) (H:Hp) (R:It->Hp->Prop),Inv X Z σ H s->wi σ H R->
  db (dL X.prog X.w) X.A (kw iter X.env) (λv s1=>db (dL X.prog X.w) X.A (pyIter v) (PIE X Z σ tg R) X.xe s1) X.xe s
def zR {n:String}{vs:Array bn}{Q:Unit->ci->Prop} (ho:s.heap.get? it=am o) (hc:o.cls=.type n) (hd:o.data=.fields vs)
  (hn:["enumerate","zip","dict_itemiterator","dict_reverseitemiterator","odict_iterator","itertools.zip_longest","itertools.pairwise"].contains n=false) (hQ:Q () s):db M A (Fa tg (.ref it) u) Q E s:=by
 unfold Fa;cases tg <;> first
  | exact Ae hQ
  | (cases u <;> first
    | exact Ae hQ
    | (
      refine Aa (wpAny_load ho ?_);rw [hc,hd];show db M A (if (["enumerate","zip","dict_itemiterator","dict_reverseitemiterator","odict_iterator","itertools.zip_longest","itertools.pairwise"].contains n&&vs[0]?==am (t0 _))=true then _ else _) Q E s;rw [if_neg (by intro h;rw [hn,E6] at h;cases h)];exact Ae hQ))
def Itl (K:Ab) (a:ce):It:=
 ⟨λi H=>∃xs x,cR K H a xs/\xs[i]?=am x,λi H x H'=>H'=H/\∀xs,cR K H a xs->xs[i]?=am x,λi H=>∃xs,cR K H a xs/\xs.length<=i⟩
def Itt (K:Ab) (a:ce):It:=
 ⟨λi H=>∃xs x,d4 K H a xs/\xs[i]?=am x,λi H x H'=>H'=H/\∀xs,d4 K H a xs->xs[i]?=am x,λi H=>∃xs,d4 K H a xs/\xs.length<=i⟩
def Itr (lo:Int) (n:Nat):It:=⟨λi _=>i < n,λi H x H'=>H'=H/\x=.int (lo+i),λi _=>n<=i⟩
theorem uv {K:Ab} (a it:ce):Turn P w K tg (Itl K a) [it] it (λi h=>h.IsListIter it a i) where
 mem:=by simp
 obj:=λi h st b hb=>by
  have e:b=it:=by simpa using hb
  subst e;obtain⟨o,e,c,d⟩:=st;exact⟨o,e,λv z=>by rw [d] at z;cases z⟩
 keep:=λi h h' st k=>st.at λo e=>k it (by simp) o e
 item:=by
  intro X hP hw hK hc i Z s σ H E I hf st hg;subst hP hw hK;obtain⟨xs,x,hq,hx⟩:=hg;obtain⟨aq,rv,p,hz⟩:=I.list hq;obtain⟨u,hu,ru⟩:=rv.get hx;obtain⟨f0,f1,f2,f3,f4,f5⟩:=hf it (by simp);refine wpAny_pyNext_list_item st p.isList (x:=u) (by simpa using hu) λh' qA sb=>?_;have I1:Inv X Z σ H {s with heap:=h'}:=I.turned (t':=s.toks) (λb o hb e=>(sb.2 b hb).trans e) f0 f1 f3 f4 f5;obtain⟨o,e,c,d⟩:=id qA;exact⟨u,rfl,zR (s:={s with heap:=h'}) e c d ⋯ ⟨x,H,I1,ru,⟨rfl,λys hy=>by rw [I.zy hy hq];exact hx⟩,qA,λb hb=>(hf b hb).1⟩⟩
 done:=by
  intro X hP hw hK hc i Z s σ H E I hf st hg;subst hP hw hK;obtain⟨xs,hq,hx⟩:=hg;obtain⟨aq,rv,p,hz⟩:=I.list hq;obtain⟨f0,f1,f2,f3,f4,f5⟩:=hf it (by simp);have hl:=rv.length;exact wpAny_pyNext_list_end (I.ok.hd hc) st p.isList (by simp;omega) λh' eb=>⟨rfl,I.turned (t':=s.toks) (λb o hb e=>eb b o hb e) f0 f1 f3 f4 f5⟩
 self:=λ_ _ _ _ _ st h=>wpAny_pyIter_listiter st h
theorem Gy {K:Ab} (a it:ce):Turn P w K tg (Itt K a) [it] it (λi h=>h.IsTupleIter it a i) where
 mem:=by simp
 obj:=λi h st b hb=>by
  have e:b=it:=by simpa using hb
  subst e;obtain⟨o,e,c,d⟩:=st;exact⟨o,e,λv z=>by rw [d] at z;cases z⟩
 keep:=λi h h' st k=>st.at λo e=>k it (by simp) o e
 item:=by
  intro X hP hw hK hc i Z s σ H E I hf st hg;subst hP hw hK;obtain⟨xs,x,hq,hx⟩:=hg;obtain⟨aq,rv,p,hz⟩:=I.tuple hq;obtain⟨u,hu,ru⟩:=rv.get hx;obtain⟨f0,f1,f2,f3,f4,f5⟩:=hf it (by simp);refine wpAny_pyNext_tuple_item st (show s.heap.IsTuple a aq.toArray from p) (x:=u) (by simpa using hu) λh' qA sb=>?_;have I1:Inv X Z σ H {s with heap:=h'}:=I.turned (t':=s.toks) (λb o hb e=>(sb.2 b hb).trans e) f0 f1 f3 f4 f5;obtain⟨o,e,c,d⟩:=id qA;exact⟨u,rfl,zR (s:={s with heap:=h'}) e c d ⋯ ⟨x,H,I1,ru,⟨rfl,λys hy=>by rw [I.kX hy hq];exact hx⟩,qA,λb hb=>(hf b hb).1⟩⟩
 done:=by
  intro X hP hw hK hc i Z s σ H E I hf st hg;subst hP hw hK;obtain⟨xs,hq,hx⟩:=hg;obtain⟨aq,rv,p,hz⟩:=I.tuple hq;obtain⟨f0,f1,f2,f3,f4,f5⟩:=hf it (by simp);have hl:=rv.length;exact wpAny_pyNext_tuple_end (I.ok.hd hc) st (show s.heap.IsTuple a aq.toArray from p) (by simp;omega) λh' eb=>⟨rfl,I.turned (t':=s.toks) (λb o hb e=>eb b o hb e) f0 f1 f3 f4 f5⟩
 self:=λ_ _ _ _ _ st h=>wpAny_pyIter_tupleiter st h
theorem Gz {K:Ab} (it:ce) (lo:Int) (n:Nat):Turn P w K tg (Itr lo n) [it] it (λi h=>IsRangeIter h it (lo+(i:Nat)*1) ((n:Int)-(i:Nat)) 1) where
 mem:=by simp
 obj:=λi h st b hb=>by
  have e:b=it:=by simpa using hb
  subst e;exact⟨_,st,λv z=>by
   have z':=z;cases z'⟩
 keep:=λi h h' st k=>k it (by simp) _ st
 item:=by
  intro X hP hw hK hc i Z s σ H E I hf st hg;subst hP hw hK;obtain⟨f0,f1,f2,f3,f4,f5⟩:=hf it (by simp);have W:=Walks.range (prog:=X.prog) (w:=X.w) (I.ok.hd hc) it lo 1 n;refine W.item i s _ _ hg st λv h' tk hv qA kk=>?_;obtain⟨t,rfl⟩:=hv;have I1:Inv X Z σ H {s with heap:=h',toks:=tk}:=I.turned (λb o hb e=>kk b o (by simpa using hb) e) f0 f1 f3 f4 f5;refine⟨_,rfl,zR (s:={s with heap:=h',toks:=tk}) (n:="range_iterator") qA rfl rfl ⋯ ⟨.int (lo+i),H,I1,⟨t,?_⟩,⟨rfl,rfl⟩,qA,λb hb=>(hf b hb).1⟩⟩;rw [Int.mul_one]
 done:=by
  intro X hP hw hK hc i Z s σ H E I hf st hg;obtain⟨f0,f1,f2,f3,f4,f5⟩:=hf it (by simp);exact wpAny_pyNext_range_end (I.ok.hd hc) st (by have:n<=i:=hg;omega) λh' eb=>⟨rfl,I.turned (t':=s.toks) (λb o hb e=>eb b o hb e) f0 f1 f3 f4 f5⟩
 self:=λ_ _ _ _ _ st h=>wpAny_pyIter_rangeiter st h
end L2
variable {tl:L2.TE}{hi:Int}{p:B7}{fp:List BB}{iter:B2}{wi:L2.TI}
namespace L2
open PySem PySem.Spec PyProof.Rows
section
def Tj (K:Ab) (tl:TE):TI:=λσ H R=>tl σ H λx H1=>∃a,x=.ref a/\(∃xs,cR K H1 a xs)/\R (Itl K a) H1
def Qx {l:ii} (hl:PE X l tl):PI X tg l (Tj X.K tl):=by
 intro Z s σ H R I h;refine bZ (hl Z s σ H _ I h) λv s1 ⟨x,H1,I1,r1,q1⟩=>?_;obtain⟨a,e,⟨xs,hq⟩,q⟩:=q1;subst e;cases r1;obtain⟨aq,rv,p,hz⟩:=I1.list hq;refine CC p.isList ?_;refine⟨s1.heap.objs.size,[s1.heap.objs.size],_,_,H1,rfl,I1.kept (t':=s1.toks) λb o e=>Ag _ e,uv a _,⟨_,Ao _ rfl,rfl,rfl⟩,λb hb=>?_,q⟩;have e:b=s1.heap.objs.size:=by simpa using hb
 subst e;exact I1.xn (An _) (I1.bp.fresh (An _))
theorem Mx {R:It->Hp->Prop}{lo:Int}{t u v:Tok}{tk:Nat} (I:Inv X Z σ H s) (h1:-(2 ^ 62)<=lo) (h2:lo < 2 ^ 62) (h3:-(2 ^ 62)<=hi) (h4:hi < 2 ^ 62)
  (q:R (Itr lo (hi-lo).toNat) H):db (dL X.prog X.w) X.A (pyIter (.ref s.heap.objs.size)) (PIE X Z σ tg R) E {s with heap:=s.heap.push {cls:=.type "range",data:=.fields #[.int lo t,.int hi u,.int 1 v]},toks:=tk}:=by
 refine wpAny_pyIter_range (IsRange.new ..) (small_one h1 h2 h3 h4) ?_;have I1:Inv X Z σ H {s with heap:=s.heap.push {cls:=.type "range",data:=.fields #[.int lo t,.int hi u,.int 1 v]},toks:=tk}:=I.kept λb o e=>Ag _ e;refine⟨(s.heap.push {cls:=.type "range",data:=.fields #[.int lo t,.int hi u,.int 1 v]}).objs.size,[(s.heap.push {cls:=.type "range",data:=.fields #[.int lo t,.int hi u,.int 1 v]}).objs.size],_,_,H,rfl,
  I1.kept (t':=tk) λb o e=>Ag _ e,Gz _ lo (hi-lo).toNat,?_,λb hb=>?_,q⟩
 ·have e1:lo+((0:Nat):Int)*1=lo:=by simp
  have e2:(((hi-lo).toNat:Nat):Int)-((0:Nat):Int)=Builtin.Range.rangeSize lo hi 1:=by rw [rangeSize_one];split <;> omega
  show IsRangeIter _ _ (lo+((0:Nat):Int)*1) ((((hi-lo).toNat:Nat):Int)-((0:Nat):Int)) 1;rw [e1,e2];exact Ao _ rfl
 ·have e:b=(s.heap.push {cls:=.type "range",data:=.fields #[.int lo t,.int hi u,.int 1 v]}).objs.size:=by simpa using hb
  subst e;exact I1.xn (An _) (I1.bp.fresh (An _))
def Zj (ta:TA):TI:=λσ H R=>ta σ H λvs H1=>∃j:Int,vs=[.int j]/\-(2 ^ 62)<=j/\j < 2 ^ 62/\R (Itr 0 j.toNat) H1
theorem Ky {ta:TA} (hg:Gl X "range") (hm:X.mg "range"=bm) (ha:PA X [a] ta) (hs:f8 [a] X.env=[(false,kw a X.env)]:=by rfl):PI X tg (.Call (.Name "range" p) [a] [] pos) (Zj ta):=by
 intro Z s σ H R I h;refine Call_ (ic I hg hm boot_range (Bd (bZ (ha pos Z s σ H _ I h) λus s1 ⟨vs,H1,I1,r1,q1⟩=>?_) hs rfl));obtain⟨j,e,q1,q2,q⟩:=q1;subst e;cases r1 with
 | cons r rr=>
  cases rr;obtain⟨t,rfl⟩:=r;exact call_range_1 (Mx I1 ∅ ∅ q1 q2 (by simpa using q))
def aci (wi:TI) (g:TG) (tb:TS):TS:=λD σ H=>wi σ H λJ H1=>∃W:Nat->Nat->St->Hp->Prop,(∃m,W 0 m σ H1)/\∀i m σ H,W i m σ H->
 (J.stop i H/\D.nx σ H)\/(J.go i H/\∃N:St->Hp->Prop,(∀σ' H',N σ' H'->∃m',m' < m/\W (i+1) m' σ' H')/\∀x H',J.SK i H x H'->g x σ H' λσ2 H2=>tb {D with nx:=N,ct:=N,bk:=D.nx} σ2 H2)
def oS (fp:List ce) (h:lf):List (ce×Obj):=fp.filterMap λb=>(h.get? b).map λo=>(b,o)
def jg (hb:b∈fp) (e:h.get? b=am o):(b,o)∈oS fp h:=List.mem_filterMap.mpr ⟨b,hb,by rw [e];rfl⟩
def KA {p:ce×Obj} (hp:p∈oS fp h):p.1∈fp/\h.get? p.1=am p.2:=by
 obtain⟨b,hb,e⟩:=List.mem_filterMap.mp hp;cases q:h.get? b with
 | none=>rw [q] at e;cases e
 | some o=>
  rw [q] at e;have e':=Option.some.inj e;subst e';exact⟨hb,q⟩
def Inv.pinned (I:Inv X Z σ H s) (hf:∀b∈fp,uq X Z H b) (ho:∀b∈fp,∃o,s.heap.get? b=am o/\∀v,o.data≠.cell v):Inv X (Z++oS fp s.heap) σ H s:=
 I.Jf λp hp=>(A9.mp hp).elim (λz=>I.pin p (A3 _ z)) λz=>by
  obtain⟨hb,e⟩:=KA z;obtain⟨f0,f1,f2,_⟩:=hf p.1 hb;obtain⟨o,e',d⟩:=ho p.1 hb;rw [e] at e';cases e';exact⟨e,f0,f1,f2,d⟩
def Inv.kj {pl:List (ce×Obj)} (I:Inv X (Z++pl) σ H s):Inv X Z σ H s:=I.Jf λp hp=>I.pin p (A3 _ (E3 _ hp))
def GP {g:TG}{tb:TS} (hp:v4 (dL X.prog X.w) X.A X.env X.xe) (hc:X.calm=true) (hi:PI X tg iter wi) (hg:PG X tg g) (hb:qQ X body tb)
  (hs:tJ X iter:=by intro _;rfl):PS X (.For tg iter body [] pos) (aci wi g tb):=by
 intro Z s σ H D I h;refine wpAny_For (bZ (hi Z s σ H _ I h) λv s1 h1=>bZ h1 λï s2 h2=>?_) hs;obtain⟨it,fp,tn,J,H2,e,I2,T,Kk,f2,W,⟨m0,w0⟩,turn⟩:=h2;subst e;have Ur:∀{H':Hp},(∀b∈fp,H' b=bm)->∀b∈fp,uq X Z H' b:=λhn b hb=>⟨hn b hb,(f2 b hb).2⟩;refine codeAny_forLoop_any (λn s'=>∃i σ' H',Inv X Z σ' H' s'/\tn i s'.heap/\(∀b∈fp,H' b=bm)/\W i n σ' H') ?_ m0 ⟨0,σ,H2,I2,Kk,λb hb=>(f2 b hb).1,w0⟩;rintro n s3 ⟨i,σ3,H3,I3,Yd,ZT,w3⟩;rcases turn i n σ3 H3 w3 with⟨stop,qn⟩ | ⟨go,N,hN,step⟩
 ·refine Cd hp (bZ (T.done X rfl rfl rfl hc i Z s3 σ3 H3 X.xe I3 (Ur ZT) Yd stop) λr s4 ⟨hr,I4⟩=>?_);subst hr;exact Dz ⟨σ3,H3,I4,qn⟩
 ·refine Cd hp (bZ (T.item X rfl rfl rfl hc i Z s3 σ3 H3 X.xe I3 (Ur ZT) Yd go) λr s4 ⟨u,hr,h4⟩=>?_);subst hr;refine Cd hp (bZ h4 λ_ s5 ⟨x,H5,I5,r5,y5,Us,Ģ⟩=>?_);have Ħ:=I5.pinned (Ur Ģ) (T.obj _ _ Us);refine Cd hp (bZ (hg _ s5 σ3 H5 x u _ Ħ r5 (step x H5 y5)) λ_ s6 ⟨σ6,H6,I6,q6⟩=>?_);refine Cd hp (bZ (hb _ s6 σ6 H6 _ I6 q6) λf s7 q7=>?_);have again:∀{σ7:St}{H7:Hp},Inv X (Z++oS fp s5.heap) σ7 H7 s7->N σ7 H7->∃m,m < n/\∃i σ' H',Inv X Z σ' H' s7/\tn i s7.heap/\(∀b∈fp,H' b=bm)/\W i m σ' H':=λ{σ7 H7} I7 n7=>by
   obtain⟨m',hm,w7⟩:=hN σ7 H7 n7;refine⟨m',hm,i+1,σ7,H7,I7.kj,T.keep _ _ _ Us λb hb o e=>(I7.pin (b,o) (A3 _ (A3 _ (jg hb e)))).1,λb hb=>?_,w7⟩;obtain⟨o,e,d⟩:=T.obj _ _ Us b hb;exact (I7.pin (b,o) (A3 _ (A3 _ (jg hb e)))).2.1
  cases f with
  | next=>obtain⟨σ7,H7,I7,n7⟩:=q7;exact again I7 n7
  | cont=>obtain⟨σ7,H7,I7,n7⟩:=q7;exact again I7 n7
  | brk=>obtain⟨σ7,H7,I7,q7⟩:=q7;exact⟨σ7,H7,I7.kj,q7⟩
  | ret v=>obtain⟨x7,σ7,H7,I7,r7,q7⟩:=q7;exact⟨x7,σ7,H7,I7.kj,r7,q7⟩
end
end L2
variable {i:Int}{g:Int->Int->Int}{aq:List AZ}
namespace L2
open PySem PySem.Spec PyProof.Rows
abbrev R2:=V->V->Hp->VK->Prop
def iz (X:Cx) (f:bn->bn->Sem bn) (r:R2):Prop:=
 ∀(Z:List (ce×Obj)) (s:ci) (σ:St) (H:Hp) (x y:V) (v u:bn) (Q:VK),Inv X Z σ H s->RelV x v->RelV y u->r x y H Q->
  db (dL X.prog X.w) X.A (f v u) (EP X Z σ Q) X.xe s
def UnR (X:Cx) (f:bn->Sem bn) (r:V->Hp->VK->Prop):Prop:=
 ∀(Z:List (ce×Obj)) (s:ci) (σ:St) (H:Hp) (x:V) (v:bn) (Q:VK),Inv X Z σ H s->RelV x v->r x H Q->
  db (dL X.prog X.w) X.A (f v) (EP X Z σ Q) X.xe s
def bE (X:Cx) (f:bn) (r:List V->Hp->VK->Prop):Prop:=
 ∀(Z:List (ce×Obj)) (s:ci) (σ:St) (H:Hp) (xs:List V) (us:List bn) (Q:VK),Inv X Z σ H s->Vals xs us->r xs H Q->
  db (dL X.prog X.w) X.A (call f us) (EP X Z σ Q) X.xe s
def aed (X:Cx) (r:V->Hp->(Bool->Hp->Prop)->Prop):Prop:=
 ∀(Z:List (ce×Obj)) (s:ci) (σ:St) (H:Hp) (x:V) (v:bn) (Q:Bool->Hp->Prop),Inv X Z σ H s->RelV x v->r x H Q->
  db (dL X.prog X.w) X.A (truthy v) (TP X Z σ Q) X.xe s
def Uj (r:R2) (ta tb:TE):TE:=λσ H Q=>ta σ H λx H1=>tb σ H1 λy H2=>r x y H2 Q
def tUn (r:V->Hp->VK->Prop) (ta:TE):TE:=λσ H Q=>ta σ H λx H1=>r x H1 Q
def rI (C:Int->Int->Prop) (g:Int->Int->V):R2:=λx y H Q=>∃i j,x=.int i/\y=.int j/\C i j/\Q (g i j) H
def Qm (g:Int->Int->V):R2:=λx y H Q=>∃i j,x=.int i/\y=.int j/\Q (g i j) H
def rU (g:Int->V):V->Hp->VK->Prop:=λx H Q=>∃i,x=.int i/\Q (g i) H
section
variable {b:ii}
def WI (ha:PE X a ta) (hb:PE X b tb) (I:Inv X Z σ H s)
  (h:ta σ H λx H1=>tb σ H1 λy H2=>R x y H2) {f:bn->bn->Sem bn}
  (hf:∀v u s2 x y H2,Inv X Z σ H2 s2->RelV x v->RelV y u->R x y H2->db (dL X.prog X.w) X.A (f v u) Q X.xe s2) :
  db (dL X.prog X.w) X.A (kw a X.env) (λv s₁=>db (dL X.prog X.w) X.A (kw b X.env) (λu s₂=>db (dL X.prog X.w) X.A (f v u) Q X.xe s₂) X.xe s₁) X.xe s:=by
 refine bZ (ha Z s σ H _ I h) λv s1 ⟨x,H1,I1,r1,q1⟩=>?_;refine bZ (hb Z s1 σ H1 _ I1 q1) λu s2 ⟨y,H2,I2,r2,q2⟩=>?_;exact hf v u s2 x y H2 I2 r1 r2 q2
def Jg {op:Operator}{r:R2} (ho:iz X (r9 op) r) (ha:PE X a ta) (hb:PE X b tb):PE X (.BinOp a op b pos) (Uj r ta tb):=by
 intro Z s σ H Q I h;exact wpAny_BinOp (WI ha hb I h λv u s2 x y H2 I2 rx ry q=>ho Z s2 σ H2 x y v u Q I2 rx ry q)
def YC {op:UnaryOp}{r:V->Hp->VK->Prop} (ho:UnR X (unaryOp op) r) (ha:PE X a ta):PE X (.UnaryOp op a pos) (tUn r ta):=by
 intro Z s σ H Q I h;exact UnaryOp_ (bZ (ha Z s σ H _ I h) λv s1 ⟨x,H1,I1,r1,q1⟩=>ho Z s1 σ H1 x v Q I1 r1 q1)
def opI {f:bn->bn->Sem bn}{C:Int->Int->Prop}
  (rule:∀(i j:Int) (t u:Tok) (s:ci) (Q:bn->ci->Prop) (E:bn->ci->Prop),C i j->Q (.int (g i j) s.toks) {s with toks:=s.toks+1}->db (dL X.prog X.w) X.A (f (.int i t) (.int j u)) Q E s) :
  iz X f (rI C λi j=>.int (g i j)):=by
 intro Z s σ H x y v u Q I rx ry h;obtain⟨i,j,rfl,rfl,hc,q⟩:=h;obtain⟨t,rfl⟩:=rx;obtain⟨t',rfl⟩:=ry;exact rule i j t t' s _ _ hc ⟨.int (g i j),H,I.tok _,⟨_,rfl⟩,q⟩
def YN {f:bn->bn->Sem bn}
  (rule:∀(i j:Int) (t u:Tok) (s:ci) (Q:bn->ci->Prop) (E:bn->ci->Prop),Q (.int (g i j) s.toks) {s with toks:=s.toks+1}->db (dL X.prog X.w) X.A (f (.int i t) (.int j u)) Q E s) :
  iz X f (Qm λi j=>.int (g i j)):=by
 intro Z s σ H x y v u Q I rx ry h;obtain⟨i,j,rfl,rfl,q⟩:=h;obtain⟨t,rfl⟩:=rx;obtain⟨t',rfl⟩:=ry;exact rule i j t t' s _ _ ⟨.int (g i j),H,I.tok _,⟨_,rfl⟩,q⟩
def QT {f:bn->bn->Sem bn}{g:Int->Int->Bool}
  (rule:∀(i j:Int) (t u:Tok) (s:ci) (Q:bn->ci->Prop) (E:bn->ci->Prop),Q (.bool (g i j)) s->db (dL X.prog X.w) X.A (f (.int i t) (.int j u)) Q E s) :
  iz X f (Qm λi j=>.bl (g i j)):=by
 intro Z s σ H x y v u Q I rx ry h;obtain⟨i,j,rfl,rfl,q⟩:=h;obtain⟨t,rfl⟩:=rx;obtain⟨t',rfl⟩:=ry;exact rule i j t t' s _ _ ⟨.bl (g i j),H,I,rfl,q⟩
def LJ (i j:Int):Prop:=0 < j/\j < 1073741824
def Pp (i j:Int):Prop:=0<=j/\j<=1000000/\i.natAbs < 2 ^ 64
def SJ (i j:Int):Prop:=(-(2 ^ 64) < i/\i < 2 ^ 64)\/(-(2 ^ 64) < j/\j < 2 ^ 64)
def SJ.ok {j:Int} (h:SJ i j):wv i j:=by
 rcases h with⟨h1,h2⟩ | ⟨h1,h2⟩
 ·exact .of_left (intBits_le_64 h1 h2)
 ·exact .of_right (intBits_le_64 h1 h2)
def Vc:iz X (r9 .Add) (Qm λi j=>.int (i+j)):=YN λ_ _ _ _ _ _ _ q=>add_int q
def U4:iz X (r9 .Sub) (Qm λi j=>.int (i-j)):=YN λ_ _ _ _ _ _ _ q=>sub_int q
theorem QO:iz X (r9 .FloorDiv) (rI LJ λi j=>.int (i / j)):=opI λi j _ _ _ _ _ hc q=>by
 have h1:(0:Int) < j:=hc.1;have h2:j < 1073741824:=hc.2;exact floordiv_int ∅ (by rw [Int.fdiv_eq_ediv_of_nonneg i ∅];exact q) (.inl (PyProof.noPylong_small ∅))
theorem U8:iz X (r9 .Mod) (rI (λ_ j=>0 < j) λi j=>.int (i % j)):=opI λi j _ _ _ _ _ hc q=>by
 have h1:(0:Int) < j:=hc;exact mod_int' ∅ (by rw [Int.fmod_eq_emod_of_nonneg i ∅];exact q)
def U6:iz X (r9 .Pow) (rI Pp λi j=>.int (i ^ j.toNat)):=opI λ_ _ _ _ _ _ _ hc q=>pow_int_small hc.1 hc.2.1 hc.2.2 q
def unI {f:bn->Sem bn}{g:Int->Int}
  (rule:∀(i:Int) (t:Tok) (s:ci) (Q:bn->ci->Prop) (E:bn->ci->Prop),Q (.int (g i) s.toks) {s with toks:=s.toks+1}->db (dL X.prog X.w) X.A (f (.int i t)) Q E s) :
  UnR X f (rU λi=>.int (g i)):=by
 intro Z s σ H x v Q I rx h;obtain⟨i,rfl,q⟩:=h;obtain⟨t,rfl⟩:=rx;exact rule i t s _ _ ⟨.int (g i),H,I.tok _,⟨_,rfl⟩,q⟩
def Ud:UnR X (unaryOp .USub) (rU λi=>.int (-i)):=unI λ_ _ _ _ _ q=>neg_int q
end
section
variable {b c:ii}
def Oq {Q:VK}{k k':Bool} (I:Inv X Z σ H s) (q:Q (.bl k) H) (e:k=k'):EP X Z σ Q (.bool k') s:=by
 subst e;exact⟨.bl k,H,I,rfl,q⟩
def YJ:iz X (lw .Lt) (Qm λi j=>.bl (decide (i < j))):=QT λ_ _ _ _ _ _ _ q=>lt_int q
def YK:iz X (lw .LtE) (Qm λi j=>.bl (decide (i<=j))):=QT λ_ _ _ _ _ _ _ q=>le_int q
def YL:iz X (lw .Gt) (Qm λi j=>.bl (decide (j < i))):=QT λ_ _ _ _ _ _ _ q=>gt_int q
def YM:iz X (lw .GtE) (Qm λi j=>.bl (decide (j<=i))):=QT λ_ _ _ _ _ _ _ q=>ge_int q
def U9:iz X (lw .Is) (λx y H Q=>y=.aE/\Q (.bl (decide (x=.aE))) H):=by
 intro Z s σ H x y v u Q I rx ry h;obtain⟨rfl,q⟩:=h;cases ry;refine is_none_gen (Oq I q ?_);cases x <;> first
  | (cases rx;rfl)
  | (obtain⟨t,rfl⟩:=rx;rfl)
def QL:iz X (lw .IsNot) (λx y H Q=>y=.aE/\Q (.bl (!decide (x=.aE))) H):=by
 intro Z s σ H x y v u Q I rx ry h;obtain⟨rfl,q⟩:=h;cases ry;refine isnot_none_gen (Oq I q ?_);cases x <;> first
  | (cases rx;rfl)
  | (obtain⟨t,rfl⟩:=rx;rfl)
def iz.or {f:bn->bn->Sem bn}{r r':R2} (h:iz X f r) (h':iz X f r'):iz X f (λx y H Q=>r x y H Q\/r' x y H Q):=by
 intro Z s σ H x y v u Q I rx ry q;rcases q with q | q
 ·exact h Z s σ H x y v u Q I rx ry q
 ·exact h' Z s σ H x y v u Q I rx ry q
def ko (b:ii) {op:CmpOp} (h:op≠.In:=by decide) (h2:op≠.NotIn:=by decide):pc op b=false:=by
 have e1:(op==CmpOp.In)=false:=by cases op <;> first | rfl | exact absurd rfl h
 have e2:(op==CmpOp.NotIn)=false:=by cases op <;> first | rfl | exact absurd rfl h2
 cases b <;> simp [pc,e1,e2]
def Ji {op:CmpOp}{r:R2} (ho:iz X (lw op) r) (ha:PE X a ta) (hb:PE X b tb) (hm:pc op b=false):PE X (.Compare a [op] [b] pos) (Uj r ta tb):=by
 intro Z s σ H Q I h;exact wpAny_Compare1 (WI ha hb I h λv u s2 x y H2 I2 rx ry q=>ho Z s2 σ H2 x y v u Q I2 rx ry q) hm
def XY (t:TE):TT:=λσ H Q=>t σ H λx H'=>∃k,x=.bl k/\Q k H'
def m9 {op:CmpOp}{r:R2} (ho:iz X (lw op) r) (ha:PE X a ta) (hb:PE X b tb) (hm:pc op b=false):PT X (.Compare a [op] [b] pos) (XY (Uj r ta tb)):=by
 intro Z s σ H Q I h;refine wpAny_isTrue_Compare1 (bZ (ha Z s σ H _ I h) λv s1 ⟨x,H1,I1,r1,q1⟩=>bZ (hb Z s1 σ H1 _ I1 q1) λu s2 ⟨y,H2,I2,r2,q2⟩=>
  bZ (ho Z s2 σ H2 x y v u _ I2 r1 r2 q2) λc s3 ⟨z,H3,I3,r3,k,e,q3⟩=>?_) hm
 subst e;cases r3;exact CB ⟨H3,I3,q3⟩
def WS (K:Ab) (x:V) (H:Hp) (k:Bool):Prop:=
 match x with
 | .aE=>k=false
 | .bl b=>k=b
 | .int i=>k=(i != 0)
 | .str y=>y.length<=sizeLine/\k=((y.length:Int) != 0)
 | .WE y=>y.size<=sizeLine/\k=((y.size:Int) != 0)
 | .ref p=>(∃xs,cR K H p xs/\k=!xs.isEmpty)\/(∃xs,d4 K H p xs/\k=!xs.isEmpty)\/∃kvs,H p=am (.dK kvs)/\k=!kvs.isEmpty
 | _=>False
def Hn {kvs:List (κ×V)}{vs:List (κ×bn)} (r:KV kvs vs):(!vs.isEmpty)=!kvs.isEmpty:=by
 cases r <;> rfl
def so (r:Vals xs aq):(!aq.toArray.isEmpty)=!xs.isEmpty:=by
 cases r <;> simp
def wj:(sizeLine:Nat) < 2 ^ 63:=by rw [sizeLine_eq];decide
theorem Ug:aed X (λx H Q=>∃k,WS X.K x H k/\Q k H):=by
 intro Z s σ H x v Q I rx h;obtain⟨k,e,q⟩:=h;have hs:=sizeLine_eq;cases x with
 | aE=>
  cases rx;have e':=e;subst e';exact truthy_none ⟨H,I,q⟩
 | bl b=>
  cases rx;have e':=e;subst e';exact CB ⟨H,I,q⟩
 | int i=>
  obtain⟨t,rfl⟩:=rx;have e':=e;subst e';exact PySem.P.truthy_int ⟨H,I,q⟩
 | str y=>
  obtain⟨t,rfl⟩:=rx;obtain⟨hy,e'⟩:y.length<=sizeLine/\k=((y.length:Int) != 0):=e;subst e';exact PySem.P.truthy_str ∅ ⟨H,I.tok _,q⟩
 | WE y=>
  obtain⟨t,rfl⟩:=rx;obtain⟨hy,e'⟩:y.size<=sizeLine/\k=((y.size:Int) != 0):=e;subst e';exact PySem.W.truthy_bytes ∅ ⟨H,I.tok _,q⟩
 | ref p=>
  cases rx;have e':=e;rcases e' with⟨xs,hx,e'⟩ | ⟨xs,hx,e'⟩ | ⟨kvs,hx,e'⟩
  ·subst e';obtain⟨aq,r,pl,hz⟩:=I.list hx;have Â:=r.length;exact wpAny_truthy_list pl.isList (by simp only [Ai];omega) ⟨H,I.tok _,by rw [so r];exact q⟩
  ·subst e';obtain⟨aq,r,pl,hz⟩:=I.tuple hx;have Â:=r.length;exact truthy_tuple pl (by simp only [Ai];omega) ⟨H,I.tok _,by rw [so r];exact q⟩
  ·subst e';obtain⟨hz,hS,vs,r,m⟩:kvs.length<=sizeLine/\(p==ss)=false/\∃vs,KV kvs vs/\s.heap.DictOf (bF X.prog X.w) p vs:=I.bp p _ hx;have Â:=Paired.length r;exact wpAny_truthy_dict hS m ∅ ⟨H,I.tok _,by rw [Hn r];exact q⟩
 | _=>exact (show False from e).elim
def MN (ha:PE X a ta) (he:∀Æ,isTrue a X.env Æ=(do let v <- Æ;standAt a.pos;xL [v] (truthy v))) :
  PT X a (λσ H Q=>ta σ H λx H'=>∃k,WS X.K x H' k/\Q k H'):=by
 intro Z s σ H Q I h;exact isTrue_plain (bZ (ha Z s σ H _ I h) λv s1 ⟨x,H1,I1,r1,q1⟩=>Ug Z s1 σ H1 x v Q I1 r1 q1) (he _)
def GW:iz X (r9 .Add) (λx y H Q=>∃i j,x=.str i/\y=.str j/\i.length+j.length<=sizeLine/\Q (.str (i++j)) H):=by
 intro Z s σ H x y v u Q I rx ry h;obtain⟨i,j,rfl,rfl,hz,q⟩:=h;obtain⟨t,rfl⟩:=rx;obtain⟨t',rfl⟩:=ry;exact add_str (λt' tk=>⟨.str (i++j),H,I.tok _,⟨_,rfl⟩,q⟩) hz
def vals1 {x:V} (r:Vals [x] us):∃u,us=[u]/\RelV x u:=by
 cases r with
 | cons r1 r2=>cases r2;exact⟨_,rfl,r1⟩
def vals2 {x:V} (r:Vals [x,y] us):∃u w',us=[u,w']/\RelV x u/\RelV y w':=by
 cases r with
 | cons r1 r2=>
  cases r2 with
  | cons r3 r4=>cases r4;exact⟨_,_,rfl,r1,r3⟩
def O4:bE X (.builtin "abs") (λxs H Q=>∃i,xs=[.int i]/\Q (.int (if i < 0 then -i else i)) H):=by
 intro Z s σ H xs us Q I r h;obtain⟨i,rfl,q⟩:=h;obtain⟨u,rfl,t,rfl⟩:=vals1 r;exact call_abs_int λu tk=>⟨.int (if i < 0 then -i else i),H,I.tok _,⟨_,rfl⟩,q⟩
def Lv (hc:X.calm=true):bE X (.builtin "max") (λxs H Q=>∃i j,xs=[.int i,.int j]/\Q (.int (if j > i then j else i)) H):=by
 intro Z s σ H xs us Q I r h;obtain⟨i,j,rfl,q⟩:=h;obtain⟨u,w',rfl,⟨t,rfl⟩,⟨t',rfl⟩⟩:=vals2 r;refine max_two_ints (I.ok.hd hc) λh' tk k=>⟨_,H,I.kept k,?_,q⟩;by_cases hj:j > i
 ·rw [if_pos hj,if_pos hj];exact⟨_,rfl⟩
 ·rw [if_neg hj,if_neg hj];exact⟨_,rfl⟩
def Lu (hc:X.calm=true):bE X (.builtin "min") (λxs H Q=>∃i j,xs=[.int i,.int j]/\Q (.int (if j < i then j else i)) H):=by
 intro Z s σ H xs us Q I r h;obtain⟨i,j,rfl,q⟩:=h;obtain⟨u,w',rfl,⟨t,rfl⟩,⟨t',rfl⟩⟩:=vals2 r;refine min_two_ints (I.ok.hd hc) λh' tk k=>⟨_,H,I.kept k,?_,q⟩;by_cases hj:j < i
 ·rw [if_pos hj,if_pos hj];exact⟨_,rfl⟩
 ·rw [if_neg hj,if_neg hj];exact⟨_,rfl⟩
def Ly:bE X (.type "int") (λxs H Q=>(∃i,xs=[.int i]/\Q (.int i) H)\/∃k,xs=[.bl k]/\Q (.int (if k then 1 else 0)) H):=by
 intro Z s σ H xs us Q I r h;rcases h with⟨i,rfl,q⟩ | ⟨k,rfl,q⟩
 ·obtain⟨u,rfl,t,rfl⟩:=vals1 r;exact call_int_int ⟨.int i,H,I,⟨_,rfl⟩,q⟩
 ·obtain⟨u,rfl,r1⟩:=vals1 r;cases r1;exact call_int_bool ⟨.int (if k then 1 else 0),H,I.tok _,⟨_,rfl⟩,q⟩
def aaw (K:Ab) (x:V) (H:Hp) (n:Nat):Prop:=
 match x with
 | .str y=>y.length<=sizeLine/\n=y.length
 | .WE y=>y.size<=sizeLine/\n=y.size
 | .ref p=>(∃xs,cR K H p xs/\n=xs.length)\/∃xs,d4 K H p xs/\n=xs.length
 | _=>False
theorem O3:bE X (.builtin "len") (λxs H Q=>∃x n,xs=[x]/\aaw X.K x H n/\Q (.int n) H):=by
 intro Z s σ H xs us Q I r h;obtain⟨x,n,rfl,e,q⟩:=h;obtain⟨u,rfl,rx⟩:=vals1 r;have hs:=sizeLine_eq;cases x with
 | str y=>
  obtain⟨t,rfl⟩:=rx;obtain⟨hy,e'⟩:y.length<=sizeLine/\n=y.length:=e;subst e';exact len_str ∅ ⟨.int _,H,I.tok _,⟨_,rfl⟩,q⟩
 | WE y=>
  obtain⟨t,rfl⟩:=rx;obtain⟨hy,e'⟩:y.size<=sizeLine/\n=y.size:=e;subst e';exact PySem.W.len_bytes ∅ ⟨.int _,H,I.tok _,⟨_,rfl⟩,q⟩
 | ref p=>
  cases rx;have e':=e;rcases e' with⟨xs,hx,e'⟩ | ⟨xs,hx,e'⟩
  ·subst e';obtain⟨aq,r',pl,hz⟩:=I.list hx;have Â:=r'.length;exact Calls.call_len_list pl.isList (by simp only [Ai];omega) ⟨.int xs.length,H,I.tok _,⟨_,by simp only [Ai];rw [Â]⟩,q⟩
  ·subst e';obtain⟨aq,r',pl,hz⟩:=I.tuple hx;have Â:=r'.length;exact len_tuple pl (by simp only [Ai];omega) ⟨.int xs.length,H,I.tok _,⟨_,by simp only [Ai];rw [Â]⟩,q⟩
 | _=>exact (show False from e).elim
end
end L2
variable {a:BB}{mA:BX->Option AZ}
namespace L2
open PySem PySem.Spec PyProof.Rows
structure WV (h:lf) (x dx C:ce) (mA:Str->Option bn):Prop where
 obj:h.get? x=am (EG C dx)
 ns:h.Ns1 dx mA
 ne:dx≠x
def KP {dx:ce} (n:h.Ns1 dx mA):∃od,h.get? dx=am od/\∀name,EX name od=am (mA name):=by
 obtain⟨o,es,ep,ho,hd,hk,_,hm⟩:=n;refine⟨o,ho,λname=>?_⟩;have e:=hm name;unfold nsFind findBy at e;rw [<- Array.find?_toList] at e;unfold EX;rw [hd];dsimp only
 split
 ·rename_i y q;rw [q] at e;exact congrArg am e
 ·rename_i q;rw [q] at e;have a:es.toList.any (·.refKey)=false:=by
   rw [List.any_eq_false];intro y hy;obtain⟨z,t,adv⟩:=hk y (Array.mem_toList_iff.mp hy);simp [DictEntry.refKey,adv]
  have a':¬es.toList.any (·.refKey)=true:=by rw [a];exact AX
  rw [if_neg a'];exact congrArg am e
def WV.look {x dx C:ce} (I:WV h x dx C mA):∃od,PySem.W.InstAt h x (EG C dx) C (am od)/\∀name,EX name od=am (mA name):=
 let ⟨od,ho,hl⟩:=KP I.ns
 ⟨od,⟨I.obj,rfl,rfl,ho⟩,hl⟩
def tF.some_of {o:Option bn} (r:tF (am v) o):∃u,o=am u/\RelV v u:=by
 cases o with
 | none=>exact (show False from r).elim
 | some u=>exact⟨u,rfl,r⟩
section
variable {C dx:ce}{fs:List (Str×V)}
def Rz (bp:lG P w H h) (e:H a=am (.ins C dx fs)):∃mA,WV h a dx C mA/\(∀f,tF (fs.lookup f) (mA f))/\PySem.Within mA (fs.map (·.1))/\fs.length<=1000/\H dx=am (.own a):=by
 obtain⟨d,z,ne,ob,mA,n,r,q⟩:=(show aY P w H h a (.ins C dx fs) from bp a _ e);exact⟨mA,⟨ob,n,ne⟩,r,q,z,d⟩
end
structure Cls (K:Ab) (C:ce):Prop where
 pg:Fo K C Str.empty=true
 hd:PySem.W.hasDictIn K C=true
 po:PySem.W.plainOver K C=true
 sa:PySem.W.findIn K (.ref C) "__setattr__"=am (am (.builtin "object.__setattr__"))
def Cls.get {K:Ab}{C:ce} (c:Cls K C) (f:Str):Fo K C f=true:=c.pg
section
variable {c:bn}{b:Bool}
inductive lN (K:Ab) (H:Hp):V->bn->Prop where
 | aE:lN K H .aE (.type "NoneType")
 | bl (x:Bool):lN K H (.bl x) (.type "bool")
 | int (i:Int):lN K H (.int i) (.type "int")
 | str (x:Str):lN K H (.str x) (.type "str")
 | Xl (x:UInt64):lN K H (.Xl x) (.type "float")
 | lst {a:ce}{xs:List V} (e:H a=am (.lst xs)):lN K H (.ref a) (.type "list")
 | cx {a:ce}{o:Obj}{xs:List V} (e:H a=am (.cx o (.lst xs))):lN K H (.ref a) (.type "list")
 | tup {a:ce}{xs:List V} (e:H a=am (.tup xs)):lN K H (.ref a) (.type "tuple")
 | dK {a:ce}{kvs:List (Key×V)} (e:H a=am (.dK kvs)):lN K H (.ref a) (.type "dict")
 | dT {a:ce}{kvs:List (List Key×V)} (e:H a=am (.dT kvs)):lN K H (.ref a) (.type "dict")
 | ins {a C dx:ce}{fs:List (Str×V)} (e:H a=am (.ins C dx fs)) (cl:Cls K C) (ha:PySem.W.findIn K (.ref C) "__class__"=am (am (.builtin "object.__class__")))
   (hn:PySem.W.specialIn K (.builtin "object.__class__") "__get__"=am (am (.builtin "getset_descriptor.__get__"))) (htk:PySem.W.takesIn K (.builtin "object.__class__")=am true)
   (hm:PySem.W.mroIn K C (.type "object")=am true):lN K H (.ref a) (.ref C)
def K1 {x:V}{t:bn} (I:Inv X Z σ H s) (rx:RelV x u) (ty:lN X.K H x t) (e:Bq X.K t c=am b) (h:∀tk,Q (.bool b) {s with toks:=tk}) :
  db (dL X.prog X.w) A (call (.builtin "isinstance") [u,c]) Q E s:=by
 cases ty with
 | aE=>cases (show u=AM from rx);exact A7 PySem.W.kitx_none I.uP B9 e (λz=>nomatch z) h
 | bl y=>cases (show u=CH y from rx);exact A7 PySem.W.kitx_bool I.uP B9 e (λz=>nomatch z) h
 | int i=>obtain⟨t,q⟩:=(show ∃t,u=DM i t from rx);cases q;exact A7 PySem.W.kitx_int I.uP B9 e (λz=>nomatch z) h
 | str y=>obtain⟨t,q⟩:=(show ∃t,u=Bc y t from rx);cases q;exact A7 PySem.W.kitx_str I.uP B9 e (λz=>nomatch z) h
 | Xl y=>obtain⟨t,q⟩:=(show ∃t,u=Value.float y t from rx);cases q;exact A7 PySem.W.kitx_float I.uP B9 e (λz=>nomatch z) h
 | @lst a xs ea=>
  cases (show u=Ax a from rx);obtain⟨_,_,n,_,h1⟩:=(show aY X.prog X.w H s.heap a (.lst xs) from I.bp a _ ea);exact A7 D7 I.uP ⟨_,h1,rfl⟩ e (λz=>nomatch z) h
 | @cx a ob xs ea=>
  cases (show u=Ax a from rx);obtain⟨_,_,_,n,_,h1⟩:=(show aY X.prog X.w H s.heap a (.cx ob (.lst xs)) from I.bp a _ ea);exact A7 D7 I.uP ⟨_,h1,rfl⟩ e (λz=>nomatch z) h
 | @tup a xs ea=>
  cases (show u=Ax a from rx);obtain⟨_,_,_,p⟩:=(show aY X.prog X.w H s.heap a (.tup xs) from I.bp a _ ea);obtain⟨o,h1,h2,_⟩:=p;exact A7 Fe I.uP ⟨o,h1,h2⟩ e (λz=>nomatch z) h
 | @dK a kvs ea=>
  cases (show u=Ax a from rx);obtain⟨_,_,vs,_,p⟩:=(show aY X.prog X.w H s.heap a (.dK kvs) from I.bp a _ ea);obtain⟨o,es,ep,h1,h2,_⟩:=p;exact A7 D8 I.uP ⟨o,h1,h2.1⟩ e (λz=>nomatch z) h
 | @dT a kvs ea=>
  cases (show u=Ax a from rx);obtain⟨_,_,xs,_,o,es,ep,h1,h2,_⟩:=(show aY X.prog X.w H s.heap a (.dT kvs) from I.bp a _ ea);exact A7 D8 I.uP ⟨o,h1,h2.1⟩ e (λz=>nomatch z) h
 | @ins a C dx fs ea cl ha hn htk hm=>
  cases (show u=Ax a from rx);obtain⟨mA,O,_⟩:=Rz I.bp ea;obtain⟨od,J,_⟩:=O.look;exact A7 (PySem.W.kitx_own (cl.get _) cl.hd ha hn htk hm) I.uP J e (λz=>nomatch z) h
end
end L2
variable {v È pm bT ct oc:AZ}{vs:List L2.V}{mg:BX->Option AZ}{base:Fh}{fd:PySem.FuncData}{ps:List BX}{Ã:B7}{sc scope:PySem.Scope}{qual:BX}{an od:Option BB}{Pu:Array (Option AZ)}
namespace L2
open PySem PySem.Spec PyProof.Rows
structure cB (k:Nat) (A:nn):Prop where
 hd:A.handled=bm
 dp:A.depth+3*k+5 < recursionLimit
 un:A.units+16*k+200 < o0
 gd:A.guards=am []
theorem cB.mono (r:cB k A) (h:j<=k):cB j A:=⟨r.hd,by have:=r.dp;omega,by have:=r.un;omega,r.gd⟩
theorem cB.deeper (r:cB (k+1) A) (env:Env):cB k (A.deeper env):=
 ⟨r.hd,by have:=r.dp;show A.depth+1+3*k+5 < _;omega,by have:=r.un;show A.units+3+16*k+200 < _;omega,r.gd⟩
theorem cB.depth (r:cB k A):A.depth < recursionLimit:=by have:=r.dp;omega
def X1:TA:=λ_ H Q=>Q [] H
def SN (ta:TE) (tr:TA):TA:=λσ H Q=>ta σ H λx H1=>tr σ H1 λxs H2=>Q (x::xs) H2
section
variable {t:TA}
def bV:PA X [] X1:=λ_ _ _ _ H Q I h=>CA ⟨[],H,I,.nil,h⟩
def aW (ha:PE X e te) (hr:PA X es t) (hs:gK X e es:=by rfl):PA X (e::es) (SN te t):=by
 intro pos Z s σ H Q I h;rw [hs];refine Cb (bZ (ha Z s σ H _ I h) λu s1 ⟨x,H1,I1,r1,q1⟩=>?_);exact bZ (hr pos Z s1 σ H1 _ I1 q1) λus s2 ⟨xs,H2,I2,r2,q2⟩=>⟨x::xs,H2,I2,.cons r1 r2,q2⟩
end
abbrev Sp:=List V->Hp->VK->XK->Prop
abbrev Po:=List Env->Hp->ci->XK->bn->ci->Prop
structure SE (P:sK) (w:tz) (K:Ab) (mg:Str->Option bn) (base:lf) (A:nn) (outer:List Env) (s:ci) (H:Hp):Prop where
 frames:A.frames=am outer
 mod:Mod K mg base
 bs:∀b o,base.get? b=am o->s.heap.get? b=am o/\H b=bm
 TZ:base.objs.size<=s.heap.objs.size
 sI:s.heap.FunFrames base outer
 Xi:∀b∈LO outer,H b=bm
 bp:lG P w H s.heap
 bare:EQ s.gens
def CE (outer:List Env) (P:sK) (w:tz) (H:Hp) (s:ci) (Q:VK) (u:bn) (s':ci):Prop:=
 ∃v H',s'.os=s.os/\EQ s'.gens/\Un (LO outer) [] H H' s.heap s'.heap/\lG P w H' s'.heap/\RelV v u/\Q v H'
def CR (CX:Po) (outer:List Env) (P:sK) (w:tz) (H:Hp) (s:ci) (Q:VK) (E:XK) (r:Result) (s':ci):Prop:=
 match r with
 | .ok (.ret u)=>CE outer P w H s Q u s'
 | .ok _=>False
 | .error e=>CX outer H s E e s'
structure iU (P:sK) (w:tz) (K:Ab) (mg:Str->Option bn) (base:lf) (CX:Po) (k:Nat) (f:ce) (fd:Db) (ps:List Str) (sp:Sp):Prop where
 len:∀vs H Q E,sp vs H Q E->vs.length=ps.length
 run:∀(A:nn) (outer:List Env) (s:ci) (H:Hp) (args:Args) (us:List bn) (vs:List V) (Q:VK) (E:XK),cB k A->SE P w K mg base A outer s H->BindsTo s fd args (ps.zip us)->Vals vs us->sp vs H Q E->
  zn (dL P w) A (.call (.ref f) args) (CR CX outer P w H s Q E) s
def iU.imp {K:Ab}{CX:Po}{f:ce}{sp sp':Sp} (F:iU P w K mg base CX k f fd ps sp)
  (h:∀vs H Q E,sp' vs H Q E->sp vs H Q E):iU P w K mg base CX k f fd ps sp':=
 ⟨λvs H Q E q=>F.len vs H Q E (h _ _ _ _ q),λA outer s H args us vs Q E hr he hb hv hs=>F.run A outer s H args us vs Q E hr he hb hv (h _ _ _ _ hs)⟩
section
def Inv.ad5 (I:Inv X Z σ H s):SE X.prog X.w X.K X.mg X.base X.A X.stack s H:=
 ⟨I.ok.frames,I.ok.mod,I.bs,BA I.ok.TZ I.sz,I.stack,I.IM,I.bp,I.bare⟩
def Inv.after {Q:VK} (I:Inv X Z σ H s) (h:CE X.stack X.prog X.w H s Q u s'):EP X Z σ Q u s':=by
 obtain⟨v,H',os,bare,un,bp,r,q⟩:=h;obtain⟨hh,g,d,t,os'⟩:=s';obtain rfl:os'=s.os:=os;exact⟨v,H',I.call (h':=hh) (g':=g) (d':=d) (t':=t) (ch:=[]) un bp bare (λb z=>absurd z (by simp)),r,q⟩
end
def Binds (K:Ab) (fd:Db) (ps:List Str) (ds:List bn):Prop:=
 ∀(s:ci) (us:List bn),K.In s.heap->(us++ds).length=ps.length->BindsTo s fd ⟨us,[]⟩ (ps.zip (us++ds))
def Binds.all {K:Ab} (h:∀us:List bn,us.length=ps.length->bindArgs fd ⟨us,[]⟩=pure (ps.zip us)):Binds K fd ps []:=λs us _ hl=>by
 rw [Ct] at hl ⊢;exact .of_eq (h us hl)
def Passes (CX:Po) (X:Cx) (E:XK):Prop:=∀(Z:List (ce×Obj)) (σ:St) (H:Hp) (s:ci) (e:bn) (s':ci),Inv X Z σ H s->CX X.stack H s E e s'->X.xe e s'
section
variable {CX:Po}{f:ce}{sp:Sp}{dvs:List V}{ds:List bn}{E:XK}
def Uy {Q:VK} (F:iU X.prog X.w X.K X.mg X.base CX k f fd ps sp) (hr:cB k X.A) (hb:Binds X.K fd ps ds) (hd:Vals dvs ds) (hx:Passes CX X E)
  (I:Inv X Z σ H s) (r:Vals vs us) (h:sp (vs++dvs) H Q E):db (dL X.prog X.w) X.A (call (.ref f) us) (EP X Z σ Q) X.xe s:=by
 have r2:Vals (vs++dvs) (us++ds):=r.append hd;have hl:(us++ds).length=ps.length:=by rw [<- r2.length];exact F.len _ _ _ _ h
 refine wpAny_call (codeAny_mono (F.run X.A X.stack s H ⟨us,[]⟩ (us++ds) (vs++dvs) Q E hr I.ad5 (hb s us I.uP hl) r2 h) λr s' hq=>?_);cases r with
 | error e=>exact hx Z σ H s e s' I hq
 | ok fl=>
  cases fl with
  | ret u=>exact I.after hq
  | next=>exact Bo hq
  | brk=>exact Bo hq
  | cont=>exact Bo hq
end
structure ao (N P:List Str) (sc:pr):Prop where
 kind:sc.kind=.function
 co:sc.isCoroutine=false
 gen:sc.isGenerator=false
 nd:N.Nodup
 pre:N.take P.length=P
 par:∀x∈P,sc.names.lookup x=am .local\/sc.names.lookup x=am .cell
 Vh:∀y∈sc.names,y.2≠.free
theorem vg {kindOf:Str->Option wn}:∀{binds:List (Str×bn)}{m:Str->Option bn},(∀v,(x,v)∉binds)->bindL kindOf binds m x=m x
 | [],_,_=>rfl
 | (n,v)::r,m,h=>by
  unfold bindL;rw [vg λw hw=>h w (AR _ hw)]
  split
  ·have:x≠n:=by rintro rfl;exact h v Bs
   simp [this]
  ·rfl
theorem vi {kindOf:Str->Option wn}:∀{binds:List (Str×bn)}{m:Str->Option bn},(∀v,(x,v)∉binds)->bindC kindOf binds m x=m x
 | [],_,_=>rfl
 | (n,v)::r,m,h=>by
  unfold bindC;rw [vi λw hw=>h w (AR _ hw)]
  split
  ·rfl
  ·have:x≠n:=by rintro rfl;exact h v Bs
   simp [this]
theorem vh {kindOf:Str->Option wn}:∀{P:List Str}{vs:List bn}{i:Nat}{m:Str->Option bn},P.Nodup->P[i]?=am x->vs[i]?=am v->kindOf x=am .local->
  bindL kindOf (P.zip vs) m x=am v
 | [],_,_,_,_,h,_,_=>by simp at h
 | _::_,[],_,_,_,_,h,_=>by simp at h
 | p::P,w::vs,0,m,nd,h1,h2,hk=>by
  simp at h1 h2;subst h1;subst h2;show bindL kindOf ((p,w)::P.zip vs) m p=_;unfold bindL;rw [vg λv hv=>(DA.mp nd).1 (EM hv).1,if_pos hk];simp
 | p::P,w::vs,i+1,m,nd,h1,h2,hk=>by
  show bindL kindOf ((p,w)::P.zip vs) m x=_;unfold bindL;exact vh (i:=i) (DA.mp nd).2 (by simpa using h1) (by simpa using h2) hk
theorem vj {kindOf:Str->Option wn}:∀{P:List Str}{vs:List bn}{i:Nat}{m:Str->Option bn},P.Nodup->P[i]?=am x->vs[i]?=am v->kindOf x≠am .local->
  bindC kindOf (P.zip vs) m x=am v
 | [],_,_,_,_,h,_,_=>by simp at h
 | _::_,[],_,_,_,_,h,_=>by simp at h
 | p::P,w::vs,0,m,nd,h1,h2,hk=>by
  simp at h1 h2;subst h1;subst h2;show bindC kindOf ((p,w)::P.zip vs) m p=_;unfold bindC;rw [vi λv hv=>(DA.mp nd).1 (EM hv).1,if_neg hk];simp
 | p::P,w::vs,i+1,m,nd,h1,h2,hk=>by
  show bindC kindOf ((p,w)::P.zip vs) m x=_;unfold bindC;exact vj (i:=i) (DA.mp nd).2 (by simpa using h1) (by simpa using h2) hk
def start (N:List Str) (vs:List V):St:=vs.map am++Am (N.length-vs.length) bm
def gL (CX:Po) (P:sK) (w:tz) (K:Ab) (mg:Str->Option bn) (base:lf) (N:List Str) (qual:Str) (scope:pr) (f:ce) (cd:bn) (A:nn) (outer:List Env) (s:ci) (H:Hp) (E:XK):Cx where
 prog:=P
 w:=w
 K:=K
 mg:=mg
 base:=base
 A:=A.deeper (re qual scope s.heap.objs.size f cd)
 N:=N
 s₀:=s
 H₀:=H
 env:=re qual scope s.heap.objs.size f cd
 outer:=outer
 stack:=re qual scope s.heap.objs.size f cd::outer
 ex:=[]
 calm:=true
 fn:=λ_=>true
 pn:=[]
 xe:=λe s'=>db (dL P w) (A.deeper (re qual scope s.heap.objs.size f cd)) (leaving (re qual scope s.heap.objs.size f cd) e) (λ_ Yi=>CX outer H s E e Yi) (λe' Yi=>CX outer H s E e' Yi) s'
def FY (h:sc.names.lookup x=am .cell):∃c,(cellsFrom n sc.names []).lookup x=am c:=by
 have q:=Eo sc.names n [] (.inl h);exact Option.isSome_iff_exists.mp q
theorem K3 {CX:Po}{K:Ab}{N:List Str}{f:ce}{cd:bn}{outer:List Env}{s1:ci}{E:XK}
  (S:ao N ps scope) (hd:A.handled=bm) (e0:SE P w K mg base A outer s H) (hl:vs.length=ps.length) (r:Vals vs us)
  (x:InCallC s s.heap.objs.size (bindL (re qual scope s.heap.objs.size f cd).kindOf (ps.zip us) λ_=>bm) (cellsFrom (s.heap.objs.size+1) scope.names []) (bindC (re qual scope s.heap.objs.size f cd).kindOf (ps.zip us) λ_=>bm) s1) :
  Inv (gL CX P w K mg base N qual scope f cd A outer s H E) [] (start N vs) H s1:=by
 have dw:ps.length<=N.length:=by have:=congrArg BL S.pre;rw [Em] at this;omega
 obtain⟨h1,tk,rfl,hk⟩:=x.done;have YU:∀b:ce,b∉(gL CX P w K mg base N qual scope f cd A outer s H E).ex:=λb z=>absurd (show b∈([]:List ce) from z) (by simp);refine⟨⟨e0.mod,S.kind,rfl,rfl,An _,λy z c h1 h2=>?_,λy hy=>?_,λy c _ h=>?_,λ_=>hd,Around.frames_deeper e0.frames,.inr ⟨rfl,rfl⟩,λb z=>absurd z (YU b),e0.bs,e0.TZ,λb _ _=>YU b,λb z=>absurd z (YU b),e0.sI,e0.Xi⟩,
  rfl,e0.bare,Un.kept hk,⟨_,x.toInCall.ns,λi y v h1 h2 h3=>?_⟩,λy c h=>⟨_,x.cell y c h⟩,e0.bp.fresh (An _),λy c h=>?_,λp hp=>absurd (show p∈([]:List (ce×Obj)) from hp) (by simp),e0.bp.kept hk,?_⟩
 ·exact name_of_addr x.apart (BI h1) (BI h2)
 ·rcases hy with hy | hy
  ·exact FY hy
  ·exact absurd rfl (S.Vh _ (BI hy))
 ·exact DK (x.above y c (BI h))
 ·have hi:i < vs.length:=by
   unfold start at h2;by_cases hi:i < vs.length
   ·exact hi
   ·rw [AU (by simpa using hi)] at h2;rw [Bp] at h2
    split at h2 <;> cases h2
  have ha:vs[i]?=am v:=by
   unfold start at h2;rw [AL (by simpa using hi),Aj] at h2;cases e:vs[i]? with
   | none=>rw [e] at h2;cases h2
   | some a=>rw [e] at h2;cases h2;rfl
  obtain⟨u,hu,rv⟩:=r.get ha;have hp:ps[i]?=am y:=by
   rw [<- S.pre,List.getElem?_take_of_lt ∅];exact h1
  have ndP:ps.Nodup:=by rw [<- S.pre];exact S.nd.sublist (List.take_sublist _ _)
  refine⟨u,rv,?_⟩;rcases S.par y (Bh hp) with k | k
  ·exact .inl ⟨k,vh ndP hp hu k⟩
  ·obtain⟨c,e⟩:=FY (n:=s.heap.objs.size+1) k;refine .inr ⟨.inl k,c,e,?_⟩;have q:=x.cell y c e;rw [vj ndP hp hu (by show scope.names.lookup y≠_;rw [k];decide)] at q;exact q
 ·exact e0.bp.fresh (DK (x.above y c (BI h)))
 ·unfold start;show _=N.length;rw [Ah,Af,Bn];omega
def ZX {CX:Po}{K:Ab}{f:ce}{name:Str}{params:Arguments}{dV kV:bn}{N:List Str}{sp:Sp} (lk:K.lookup f=am ⟨oc,od,.func (BR name qual params body scope dV kV È pm an bT ct),Pu⟩) (jq:DP K bT qual=true) (S:ao N ps scope)
  (len:∀vs H Q E,sp vs H Q E->vs.length=ps.length)
  (N7:∀(A:nn) (outer:List Env) (s:ci) (H:Hp) (vs:List V) (Q:VK) (E:XK),cB k (A.deeper (re qual scope s.heap.objs.size f bT))->sp vs H Q E->
   ∃t,qQ (gL CX P w K mg base N qual scope f bT A outer s H E) body t/\t {nx:=λ_ H'=>Q .aE H',rt:=Q} (start N vs) H) :
  iU P w K mg base CX (k+1) f (BR name qual params body scope dV kV È pm an bT ct) ps sp:=by
 refine⟨len,λA outer s H args us vs Q E hr e0 hb r RE=>?_⟩;have hl:=len _ _ _ _ RE;have KX:K.In s.heap:=e0.mod.kin.keeps λb o e=>(e0.bs b o e).1;have lim:s.heap.NoLimit:=e0.mod.nolimit.keeps λb o e=>(e0.bs b o e).1;have Zy:∀y∈ps.zip us,scope.names.lookup y.1=am .local\/(scope.names.lookup y.1=am .cell/\((cellsFrom (s.heap.objs.size+1) scope.names []).lookup y.1).isSome=true):=λ⟨n,v⟩ hy=>by
  rcases S.par n (EM hy).1 with q | q
  ·exact .inl q
  ·exact .inr ⟨q,Eo _ _ _ (.inl q)⟩
 refine codeAny_call_function hr.depth (KX _ _ lk) rfl S.co S.gen rfl (PySem.W.codeRec_of KX jq) (hb _ _ _ _ ?_);refine wpAny_newFunctionEnv_cells S.kind Zy λenv he s1 x=>?_;subst he;refine⟨lim.keeps x.toInCall.keep,codeAny_func ?_⟩;obtain⟨t,ht,hq⟩:=N7 A outer s H vs Q E (hr.deeper _) RE;have I:Inv (gL CX P w K mg base N qual scope f bT A outer s H E) [] (start N vs) H s1:=K3 S hr.hd e0 hl r x;refine BH (ht [] s1 (start N vs) H _ I hq) (λfl s' hs=>?_) λe s' hs=>hs;have fin:∀{σ':St}{H':Hp}{v:V}{u:bn},Inv (gL CX P w K mg base N qual scope f bT A outer s H E) [] σ' H' s'->RelV v u->Q v H'->CE outer P w H s Q u s':=
  λ{σ' H' v u} J rv q=>⟨v,H',J.os,J.bare,J.base,J.bp,rv,q⟩
 cases fl with
 | ret u=>
  obtain⟨v,σ',H',J,rv,q⟩:=hs;exact fin J rv q
 | next=>
  obtain⟨σ',H',J,q⟩:=hs;exact fin (v:=V.aE) (u:=AM) J rfl q
 | brk=>
  obtain⟨_,_,_,q⟩:=hs;exact Bo q
 | cont=>
  obtain⟨_,_,_,q⟩:=hs;exact Bo q
end L2
variable {T:String}
namespace L2
open PySem PySem.Spec PyProof.Rows
section
variable {t:TA}{id:String}{r:List V->Hp->VK->Prop}
def tCB (r:List V->Hp->VK->Prop) (t:TA):TE:=λσ H Q=>t σ H λvs H1=>r vs H1 Q
def d8 (hc:bE X (.builtin id) r) (hg:Gl X x) (hm:X.mg x=bm) (hv:lc x=am (.builtin id)) (ha:PA X (e::es) t) (hn:x≠"__name__":=by decide) (nP:iW x:=by decide)
  (he:gK X e es:=by rfl) (dw:lH X pos es:=by rfl):PE X (.Call (.Name x p) (e::es) [] pos) (tCB r t):=by
 intro Z s σ H Q I h;refine BC (ic I hg hm hv ?_ hn nP);exact PyProof.Rows.callWith_builtin1 (bZ (ha pos Z s σ H _ I h) λus s1 ⟨vs,H1,I1,r1,q1⟩=>hc Z s1 σ H1 vs us Q I1 r1 q1) he dw
def k6 (hc:bE X (.type T) r) (hg:Gl X x) (hm:X.mg x=bm) (hv:lc x=am (.type T)) (ha:PA X (e::es) t) (hn:x≠"__name__":=by decide) (nP:iW x:=by decide)
  (he:gK X e es:=by rfl) (dw:lH X pos es:=by rfl):PE X (.Call (.Name x p) (e::es) [] pos) (tCB r t):=by
 intro Z s σ H Q I h;refine BC (ic I hg hm hv ?_ hn nP);exact Bd (bZ (ha pos Z s σ H _ I h) λus s1 ⟨vs,H1,I1,r1,q1⟩=>hc Z s1 σ H1 vs us Q I1 r1 q1) he dw
end
end L2
variable {l:BB}{prog:PySem.Program}{items:Array AZ}{ns ms:List Int}
namespace HT
open PySem PyProof.Rows
def lexLt:List Int->List Int->Bool
 | [],[]=>false
 | [],_::_=>true
 | _::_,[]=>false
 | x::xs,y::ys=>if x=y then lexLt xs ys else decide (x < y)
theorem G8 (x y:Int) (xs ys:List Int):lexLt (x::xs) (y::ys)=if x=y then lexLt xs ys else decide (x < y):=rfl
def OJ (A:nn) (s:ci) (a:Int) (t:Tok) (c:Int) (u:Tok):∃e,Dc A s (.int a t) (.int c u) e/\(e=true↔a=c):=
 ⟨(a==c),DR a t c u,by simp⟩
def Mw (A:nn) (s:ci) (a:Int) (t:Tok) (c:Int) (u:Tok) (prog:sK) (w:tz) (E:bn->ci->Prop) (Q:bn->ci->Prop) (h:Q (.bool (decide (a < c))) s) :
  db (dL prog w) A (richCompare .Lt (.int a t) (.int c u)) Q E s:=
 (PyProof.Rows.lt_int h:db (dL prog w) A (lw .Lt (.int a t) (.int c u)) Q E s)
section
open PySem.SeqAt
open PySem.AutoSeq1 (wpAny_loadPart')
open PySem.MeetsSeq PySem.MeetsSeq2 PySem.MeetsSeq3
theorem tP (l b:ce) (items bH:Array bn) (n n2:Nat) (dd R7:Option ce) (sl Pr:Array (Option bn)) (ns ms:List Int) (hi:tt items.toList ns) (hj:tt bH.toList ms) :
  Meets (ut.«tuple.__lt__» ⟨[.ref l,.ref b],[]⟩)
   (λ_ R s=>s.heap.get? l=am {cls:=.type "tuple",dict:=dd,data:=.seq items n,slots:=sl}/\s.heap.get? b=am {cls:=.type "tuple",dict:=R7,data:=.seq bH n2,slots:=Pr}/\
    R (.ok (.ret (.bool (lexLt ns ms)))) s):=
 .of_wp λprog w A R s h=>by
  obtain⟨hp,g,d,tk,os⟩:=s;obtain⟨hl,hb,h⟩:=h;have f2:=AutoSeq1.sub_tuple_tuple;have z1:items.size=ns.length:=by rw [<- hi.length];simp
  have z2:bH.size=ms.length:=by rw [<- hj.length];simp
  wp_walk using wpAny_loadPart' hl,wpAny_loadPart' hb,wpAny_forIn_list _ (λrest b s'=>b.1=bm/\s'=⟨hp,g,d,tk,os⟩/\∃(vs ws:List bn) (zh W6:List Int),rest=vs.zip ws/\
   tt vs zh/\tt ws W6/\zh.length+bH.size=W6.length+items.size/\R (.ok (.ret (.bool (lexLt zh W6)))) ⟨hp,g,d,tk,os⟩) _
  case turn=>
   rintro⟨y,x⟩ rest b s' ⟨û,rfl,vs,ws,zh,W6,hz,hvi,hwi,Â,hR⟩;cases hvi with
   | nil=>rw [List.zip_nil_left] at hz;cases hz
   | cons a t ada=>
    cases hwi with
    | nil=>rw [List.zip_nil_right] at hz;cases hz
    | cons c u ac9=>
     rw [List.zip_cons_cons] at hz;injection hz with hyx Zs;injection hyx with hy hx;subst hy hx;rw [G8] at hR;simp only [Ap] at Â;obtain⟨e,he,ZD⟩:=OJ A.in1 ⟨hp,g,d,tk,os⟩ a t c u;refine Aa (he prog w _ _ ?_);cases e with
     | true=>
      rw [if_pos (ZD.mp rfl)] at hR
      wp_walk
      exact⟨rfl,rfl,_,_,_,_,Zs,ada,ac9,by omega,hR⟩
     | false=>
      rw [if_neg (λq=>absurd (ZD.mpr q) AX)] at hR;have hri:=Mw A.in1 ⟨hp,g,d,tk,os⟩ a t c u prog w
      wp_walk using hri
      exact⟨_,rfl,by simpa using hR⟩
  case fin=>
   rintro⟨b1,b2⟩ s' ⟨û,rfl,vs,ws,zh,W6,hz,hvi,hwi,Â,hR⟩;simp only at û;subst û;have hv:lexLt zh W6=decide (items.size < bH.size):=by
    cases hvi with
    | nil=>
     cases hwi with
     | nil=>
      exact (decide_eq_false ∅).symm
     | cons c u hw=>
      simp only [Bk,Ap] at Â;exact (decide_eq_true ∅).symm
    | cons a t hv=>
     cases hwi with
     | nil=>
      simp only [Bk,Ap] at Â;exact (decide_eq_false ∅).symm
     | cons c u hw=>
      rw [List.zip_cons_cons] at hz;cases hz
   rw [hv] at hR
   wp_walk
   exact⟨_,rfl,by simpa [Builtin.Tuple.tupleCompareSizes] using hR⟩
  case h=>
   exact⟨rfl,rfl,items.toList,bH.toList,ns,ms,rfl,hi,hj,by omega,h⟩
end
section
def G5 {bH:Array bn} (hl:IsTup s.heap l items) (hb:IsTup s.heap b bH) (hi:tt items.toList ns) (hj:tt bH.toList ms)
  (hu:A.units < o0) (h:Q (.bool (lexLt ns ms)) s):db (dL prog w) A (lw .Lt (.ref l) (.ref b)) Q E s:=by
 obtain⟨⟨cls,dd,data,sl⟩,ho,hc,n,hd⟩:=id hl;obtain⟨⟨WD,R7,data2,Pr⟩,K7,N6,n2,Ò⟩:=id hb;simp only at hc hd N6 Ò;subst hc hd N6 Ò;exact richCompare_meets_room (op:=.Lt) ⟨_,ho,rfl⟩ ⟨_,K7,rfl⟩ PySem.F.slot_tuple_lt PySem.F.entry_tuple_lt (PySem.F.args_tuple_lt_2 _ _) (tP l b items bH n n2 dd R7 sl Pr ns ms hi hj)
  ⟨ho,K7,show CH (lexLt ns ms)≠Value.notImplemented/\Q (.bool (lexLt ns ms)) s from⟨(λx=>nomatch x),h⟩⟩ hu
def Sb {t:ce}{vs ws:List bn} (ht:IsTup s.heap t vs.toArray) (hb:IsTup s.heap b ws.toArray) (hv:vs≠[])
  (h1:ws=[]->Q (.ref t) s) (h2:ws≠[]->Q (.ref s.heap.objs.size) {s with heap:=s.heap.push {cls:=.type "tuple",data:=.seq (vs++ws).toArray}})
  (hsz:vs.length+ws.length<=sizeLine):db (dL prog w) A (r9 .Add (.ref t) (.ref b)) Q E s:=by
 obtain⟨⟨cls,dd,data,sl⟩,ho,hc,n,hd⟩:=id ht;obtain⟨⟨WD,R7,data2,Pr⟩,K7,N6,n2,Ò⟩:=id hb;simp only at hc hd N6 Ò;subst hc hd N6 Ò;have e:vs.toArray++ws.toArray=(vs++ws).toArray:=by simp
 by_cases hw:ws=[]
 ·exact concat_meets ⟨_,ho,rfl⟩ ⟨_,K7,rfl⟩ noFill_tuple_add seq_tuple_add C1 C0 (CS _ _)
   (tuple_addW1 t b vs.toArray ws.toArray n n2 dd R7 sl Pr (by simpa using hv) (by simp [hw])) ⟨ho,K7,h1 hw⟩
 ·refine concat_meets ⟨_,ho,rfl⟩ ⟨_,K7,rfl⟩ noFill_tuple_add seq_tuple_add C1 C0 (CS _ _)
   (tuple_addW2 t b vs.toArray ws.toArray n n2 dd R7 sl Pr (by simpa using hv) (by simpa using hw) (by rw [Ai,Ai];exact hsz)) ⟨ho,K7,?_⟩
  rw [e];exact h2 hw
def GL (n d:Nat):Option Int->Nat
 | none=>d
 | some v=>if v < 0 then (v+(n:Int)).toNat else min v.toNat n
def mr {o:Option Int}{Q:Option Int->ci->Prop} (p:IsPart v o) (h:Q o s):db (dL prog w) A (Builtin.Slice.slicePartIndex v) Q E s:=by
 cases p with
 | none=>exact slicePart_none h
 | int i t=>exact slicePart_int h
end
end HT
variable {p2:B7}
namespace L2
open PySem PySem.Spec PyProof.Rows
abbrev TO:=St->Hp->(Option Int->Hp->Prop)->Prop
def PO (X:Cx) (e:Option ii) (t:TO):Prop:=
 ∀(Z:List (ce×Obj)) (s:ci) (σ:St) (H:Hp) (Q:Option Int->Hp->Prop),Inv X Z σ H s->t σ H Q->
  db (dL X.prog X.w) X.A (evalPart e X.env) (λu s'=>∃o H',Inv X Z σ H' s'/\IsPart u o/\Q o H') X.xe s
def P1:TO:=λ_ H Q=>Q bm H
def X0 (t:TE):TO:=λσ H Q=>t σ H λx H1=>∃i,x=.int i/\Q (am i) H1
def intsAre_of:∀{us:List bn},Vals (ns.map V.int) us->tt us ns:=by
 induction ns with
 | nil=>intro us r;rw [DL] at r;cases r;exact .nil
 | cons n ns ih=>
  intro us r;rw [Ar] at r;cases r with
  | cons r1 r2=>
   obtain⟨t,e⟩:=r1;subst e;exact .cons n t (ih r2)
section
variable {lo hi:Option ii}
def Qv:PO X bm P1:=by
 intro Z s σ H Q I h;exact Ae ⟨bm,H,I,.none,h⟩
def Qu (h:PE X e te):PO X (am e) (X0 te):=by
 intro Z s σ H Q I hw;refine bZ (h Z s σ H _ I hw) λu s1 ⟨x,H1,I1,r1,q1⟩=>?_;obtain⟨i,rfl,q⟩:=q1;obtain⟨t,rfl⟩:=r1;exact⟨am i,H1,I1,.int i t,q⟩
def SlR (X:Cx) (r:V->Option Int->Option Int->Hp->VK->Prop):Prop:=
 ∀(Z:List (ce×Obj)) (s:ci) (σ:St) (H:Hp) (x:V) (v vl vu:bn) (lo hi:Option Int) (sl:ce) (Q:VK),Inv X Z σ H s->RelV x v->s.heap.IsSliceOf sl vl vu .none->IsPart vl lo->IsPart vu hi->r x lo hi H Q->
  ∃T id,Ev (.type T) "__getitem__"=pure (am (.builtin id))/\s.TypeIs v T/\db (dL X.prog X.w) X.A (getItem v (.ref sl)) (EP X Z σ Q) X.xe s
def Sa (xs:List V) (lo hi:Option Int):List V:=(xs.drop (HT.GL xs.length 0 lo)).take (HT.GL xs.length xs.length hi-HT.GL xs.length 0 lo)
theorem FU (xs:List V) (lo hi:Option Int):(Sa xs lo hi).length<=xs.length:=by
 unfold Sa;rw [Em,List.length_drop];omega
def S0 (K:Ab):R2:=λx y H Q=>∃a b xs ys,x=.ref a/\y=.ref b/\d4 K H a xs/\d4 K H b ys/\xs≠[]/\xs.length+ys.length<=sizeLine/\
 (ys=[]->Q (.ref a) H)/\(ys≠[]->∀p,H p=bm->Q (.ref p) (upd H p (.tup (xs++ys))))
def Vals.je (r:Vals xs us):us=[]↔xs=[]:=by
 cases r with
 | nil=>simp
 | cons _ _=>simp
def Jl:iz X (r9 .Add) (S0 X.K):=by
 intro Z s σ H x y v u Q I rx ry h;obtain⟨a,b,xs,ys,rfl,rfl,ha,hb,hx,hz,q1,q2⟩:=h;cases rx;cases ry;obtain⟨aq,r1,p1,_⟩:=I.tuple ha;obtain⟨cH,r2,p2,_⟩:=I.tuple hb;refine HT.Sb p1 p2 (λz=>hx (r1.je.mp z)) (λz=>⟨.ref a,H,I,rfl,q1 (r2.je.mp z)⟩) (λz=>?_) (by rw [<- r1.length,<- r2.length];exact hz);refine⟨.ref s.heap.objs.size,_,I.laid (t':=s.toks) (o:=.tup (xs++ys)) (λb ob q=>Ag _ q) (An _) ?_,rfl,q2 (λw=>z (r2.je.mpr w)) _ (I.bp.fresh (An _))⟩;exact⟨by rw [Ah];exact hz,_,r1.append r2,Fu _ _⟩
end
end L2
variable {its':List AZ}
namespace L2
open PySem PySem.Spec PyProof.Rows
def uQ (n:Nat) (i:Int):Option Nat:=if 0<=i then (if i < n then am i.toNat else bm) else if -(n:Int)<=i then am (i+n).toNat else bm
def dH (xs:List α) (i:Int):Option α:=(uQ xs.length i).bind λj=>xs[j]?
theorem wO (h:uQ n i=am j):seqIndex? i n=am j/\j < n/\-(n:Int)<=i/\i < n:=by
 unfold uQ at h;by_cases h0:0<=i
 ·rw [if_pos h0] at h;by_cases h1:i < n
  ·rw [if_pos h1] at h;have e:=Option.some.inj h;exact⟨by rw [seqIndex_of h0 h1,e],by omega,by omega,h1⟩
  ·rw [if_neg h1] at h;cases h
 ·rw [if_neg h0] at h;by_cases h1:-(n:Int)<=i
  ·rw [if_pos h1] at h;have e:=Option.some.inj h;exact⟨by rw [seqIndex_neg ∅ h1,e],by omega,h1,by omega⟩
  ·rw [if_neg h1] at h;cases h
def xX {xs:List α}{v:α} (h:dH xs i=am v):∃j,seqIndex? i xs.length=am j/\xs[j]?=am v/\j < xs.length/\-(xs.length:Int)<=i/\i < xs.length:=by
 unfold dH at h;cases e:uQ xs.length i with
 | none=>rw [e] at h;cases h
 | some j=>
  rw [e] at h;obtain⟨h1,h2,h3,h4⟩:=wO e;exact⟨j,h1,h,h2,h3,h4⟩
theorem eJ {xs:List α}{v:α} (h:xs[j]?=am v):dH xs (j:Int)=am v:=by
 have hj:=(Ak.mp h).1;have e:uQ xs.length (j:Int)=am j:=by
  unfold uQ;rw [if_pos ∅,if_pos ∅];simp
 unfold dH;rw [e];exact h
def yq (b:ii):Prop:=∀o i,subscripted b false o i=operate [o,i] (getItem o i)
def PJ (X:Cx) (r:R2):Prop:=
 ∀(value Ç:ii) (Z:List (ce×Obj)) (s:ci) (σ:St) (H:Hp) (x y:V) (v u:bn) (Q:VK),Inv X Z σ H s->RelV x v->RelV y u->r x y H Q->
  subscripted Ç false v u=operate [v,u] (getItem v u)->db (dL X.prog X.w) X.A (subscriptTail value Ç v u) (EP X Z σ Q) X.xe s
def MtR (X:Cx) (id:String) (r:V->List V->Hp->VK->Prop):Prop:=
 ∀(Z:List (ce×Obj)) (s:ci) (σ:St) (H:Hp) (x:V) (xs:List V) (v:bn) (us:List bn) (Q:VK),Inv X Z σ H s->RelV x v->Vals xs us->r x xs H Q->
  db (dL X.prog X.w) X.A (call (.builtin id) (v::us)) (EP X Z σ Q) X.xe s
section
variable {X:Cx}{a b:ii}{ta tb:TE}{pos:Pos}
def PJ.or {r r':R2} (h:PJ X r) (h':PJ X r'):PJ X (λx y H Q=>r x y H Q\/r' x y H Q):=by
 intro value Ç Z s σ H x y v u Q I rx ry q hs;rcases q with q | q
 ·exact h value Ç Z s σ H x y v u Q I rx ry q hs
 ·exact h' value Ç Z s σ H x y v u Q I rx ry q hs
def S1 {r:R2} (hr:PJ X r) (ha:PE X a ta) (hb:PE X b tb) (hs:yq b):PE X (.Subscript a b pos) (Uj r ta tb):=by
 intro Z s σ H Q I h;exact Subscript_ (WI ha hb I h λv u s2 x y H2 I2 rx ry q=>hr a b Z s2 σ H2 x y v u Q I2 rx ry q (hs _ _))
def Ys (K:Ab):R2:=λx y H Q=>∃p xs i v,x=.ref p/\y=.int i/\cR K H p xs/\dH xs i=am v/\Q v H
def Yr (K:Ab):R2:=λx y H Q=>∃p xs i v,x=.ref p/\y=.int i/\d4 K H p xs/\dH xs i=am v/\Q v H
def UK:R2:=λx y H Q=>∃z i c,x=.str z/\y=.int i/\z.length<=sizeLine/\dH z.cps.toList i=am c/\Q (.str ⟨#[c]⟩) H
theorem Ru:PJ X (Ys X.K):=by
 intro value Ç Z s σ H x y v u Q I rx ry h hs;obtain⟨p,xs,i,z,rfl,rfl,hq,he,q⟩:=h;cases rx;obtain⟨t,rfl⟩:=ry;obtain⟨aq,r,pl,hz⟩:=I.list hq;obtain⟨j,h1,h2,h3,h4,h5⟩:=xX he;obtain⟨w,ew,vL⟩:=r.get h2;have hl:=r.length;have hn:=wj;have fin:EP X Z σ Q w s:=⟨z,H,I,vL,q⟩;by_cases h0:0<=i
 ·have hj:i.toNat=j:=by
   rw [seqIndex_of h0 h5] at h1;exact Option.some.inj h1
  exact item_listR pl.isList h0 ∅ (by rw [hj];simpa using ew) fin hs
 ·have hj:(i+(aq.toArray.size:Int)).toNat=j:=by
   rw [seqIndex_neg ∅ h4] at h1;rw [Ai,<- hl];exact Option.some.inj h1
  exact subscriptTail_builtinR (x:=w) pl.isList.typeIs slot_list_getitem.lookup
   (wpAny_getItem_list_neg (Q:=λr s'=>r=w/\EP X Z σ Q r s') pl.isList ∅ (by rw [Ai] <;> omega) ∅ (by rw [hj];simpa using ew) ⟨rfl,fin⟩) hs
theorem VL:PJ X (Yr X.K):=by
 intro value Ç Z s σ H x y v u Q I rx ry h hs;obtain⟨p,xs,i,z,rfl,rfl,hq,he,q⟩:=h;cases rx;obtain⟨t,rfl⟩:=ry;obtain⟨aq,r,pl,hz⟩:=I.tuple hq;obtain⟨j,h1,h2,h3,h4,h5⟩:=xX he;obtain⟨w,ew,vL⟩:=r.get h2;have hl:=r.length;have hn:=wj;have fin:EP X Z σ Q w s:=⟨z,H,I,vL,q⟩;exact subscriptTail_builtinR (x:=w) pl.typeIs slot_tuple_getitem.lookup
  (getItem_tuple (j:=j) (Q:=λr s'=>r=w/\EP X Z σ Q r s') pl ∅ ∅ (by rw [Ai,<- hl];exact h1) (by simpa using ew) ⟨rfl,fin⟩) hs
theorem NP:PJ X UK:=by
 intro value Ç Z s σ H x y v u Q I rx ry h hs;obtain⟨z,i,c,rfl,rfl,hz,he,q⟩:=h;obtain⟨t,rfl⟩:=rx;obtain⟨t',rfl⟩:=ry;obtain⟨j,h1,h2,h3,h4,h5⟩:=xX he;have hl:z.cps.toList.length=z.length:=by simp [Str.length]
 rw [hl] at h1 h4 h5;have hn:=wj;exact tail_any (typeIs_str s z t) slot_str_getitem.lookup (getItem_str (c:=c) (by
  have e1:decide (i < -(2 ^ 63:Int))=false:=decide_eq_false ∅;have e2:decide (i≥2 ^ 63)=false:=decide_eq_false ∅;rw [e1,e2,Bool.or_false]) (by rw [h1];simpa using h2) ⟨.str ⟨#[c]⟩,H,I.tok _,⟨_,rfl⟩,q⟩) hs
def rIx (K:Ab):R2:=λx y H Q=>Ys K x y H Q\/Yr K x y H Q\/UK x y H Q
def VM:PJ X (rIx X.K):=Ru.or (VL.or NP)
def G4 (aq:List bn) (n j:Nat) (u:bn):Bj (·.setIfInBounds j u) {cls:=.type "list",data:=.seq aq.toArray n}={cls:=.type "list",data:=.seq (aq.set j u).toArray n}:=by
 simp [Bj]
def Inv.lst {Z:List (ce×Obj)}{σ:St}{H:Hp}{s:ci}{p:ce}{xs:List V} (I:Inv X Z σ H s) (h:H p=am (.lst xs)) :
  ∃(aq:List bn) (n:Nat),Vals xs aq/\s.heap.get? p=am {cls:=.type "list",data:=.seq aq.toArray n}/\xs.length<=sizeLine:=by
 obtain⟨z,aq,n,r,e⟩:=I.bp p _ h;exact⟨aq,n,r,e,z⟩
def Inv.Vr {p:ce}{n':Nat}{f:Obj->Obj} (I:Inv X Z σ H s) (h:H p=am (.lst xs))
  (ho:s.heap.get? p=am {cls:=.type "list",data:=.seq aq.toArray n}) (hf:f {cls:=.type "list",data:=.seq aq.toArray n}={cls:=.type "list",data:=.seq its'.toArray n'}) (r:Vals ys its') (hz:ys.length<=sizeLine) (t:Nat) :
  Inv X Z σ (upd H p (.lst ys)) {s with heap:=s.heap.update p f,toks:=t}:=by
 have e:(s.heap.update p f).get? p=am {cls:=.type "list",data:=.seq its'.toArray n'}:=by
  rw [BO f ho (by rw [hf] <;> rfl),hf]
 refine I.write (x:=p) (e:=p) (by rw [h];trivial) (.inl rfl) (λb u hb q=>(BG _ _ (Bz hb)).trans q) ⟨_,e⟩ ?_;exact⟨hz,its',n',r,e⟩
def Yn:V->V->V->Hp->(Hp->Prop)->Prop:=λo i v H Q=>∃p xs k j,o=.ref p/\i=.int k/\H p=am (.lst xs)/\uQ xs.length k=am j/\Q (upd H p (.lst (xs.set j v)))
theorem set_list:LI X Yn:=by
 intro Z s σ H o i v ov iv u Q I ro ri rv h;obtain⟨p,xs,k,j,rfl,rfl,hp,hj,q⟩:=h;cases ro;obtain⟨t,rfl⟩:=ri;obtain⟨aq,n,r,ho,hz⟩:=I.lst hp;obtain⟨h1,h2,h3,h4⟩:=wO hj;have hl:=r.length;have hn:=wj;have I':Inv X Z σ (upd H p (.lst (xs.set j v))) {s with heap:=s.heap.update p (Bj (·.setIfInBounds j u))}:=
  I.Vr hp ho (G4 aq n j u) (r.set rv j) (by rw [BK];exact hz) s.toks
 by_cases h0:0<=k
 ·have hk:k.toNat=j:=by
   rw [seqIndex_of h0 h4] at h1;exact Option.some.inj h1
  exact PySem.W.ki_setAt ho h0 ∅ (by rw [Ai,<- hl];exact h4) (by rw [hk];exact⟨_,I',q⟩)
 ·have hk:(k+(aq.toArray.size:Int)).toNat=j:=by
   rw [seqIndex_neg ∅ h3] at h1;rw [Ai,<- hl];exact Option.some.inj h1
  exact PySem.W.ki_setBack ho ∅ (by rw [Ai,<- hl];exact h3) ∅ (by rw [hk];exact⟨_,I',q⟩)
theorem vH (lo hi:Option Int) (n:Nat):(wP lo hi bm n).1=((HT.GL n 0 lo:Nat):Int)/\(wP lo hi bm n).2.1=((HT.GL n n hi:Nat):Int)/\(wP lo hi bm n).2.2=1:=by
 refine⟨?_,?_,rfl⟩
 ·cases lo with
  | none=>simp [wP,HT.GL]
  | some i=>
   simp only [wP,HT.GL,Option.getD_none,show (1:Int) > 0 by decide,if_true];by_cases h:i < 0
   ·simp only [h,if_true] <;> omega
   ·simp only [h,if_false] <;> omega
 ·cases hi with
  | none=>simp [wP,HT.GL]
  | some i=>
   simp only [wP,HT.GL,Option.getD_none,show (1:Int) > 0 by decide,if_true];by_cases h:i < 0
   ·simp only [h,if_true] <;> omega
   ·simp only [h,if_false] <;> omega
def tR (aq:List bn) (lo hi:Option Int):slicePick aq.toArray lo hi bm=((aq.drop (HT.GL aq.length 0 lo)).take (HT.GL aq.length aq.length hi-HT.GL aq.length 0 lo)).toArray:=by
 obtain⟨h1,h2,h3⟩:=vH lo hi aq.toArray.size;unfold slicePick;rw [h1,h2,h3];simp only [sliceRange_one,pick_run,Ai] <;> rfl
def acw (K:Ab):V->Option Int->Option Int->Hp->VK->Prop:=λx lo hi H Q=>∃a xs,x=.ref a/\cR K H a xs/\∀p,H p=bm->Q (.ref p) (upd H p (.lst (Sa xs lo hi)))
theorem aaJ:SlR X (acw X.K):=by
 intro Z s σ H x v vl vu lo hi sl Q I rx hs pl pu h;obtain⟨a,xs,rfl,hx,q⟩:=h;cases rx;obtain⟨aq,r,ht,hz⟩:=I.list hx;have Â:=r.length;refine⟨"list",_,slot_list_getitem.lookup,ht.isList.typeIs,?_⟩;refine wpAny_getItem_list_slice ht.isList hs pl pu .none (by simp) ?_ (by rw [Ai] <;> omega);rw [tR,<- Â];refine⟨.ref s.heap.objs.size,_,I.laid (t':=s.toks) (o:=.lst (Sa xs lo hi)) (λb ob q=>Ag _ q) (An _) ?_,rfl,q _ (I.bp.fresh (An _))⟩;exact⟨BA (FU xs lo hi) hz,_,0,(r.drop (HT.GL xs.length 0 lo)).take (HT.GL xs.length xs.length hi-HT.GL xs.length 0 lo),Ao _ rfl⟩
theorem xW:bE X (.type "list") (λxs H Q=>∃p ys,xs=[.ref p]/\(cR X.K H p ys\/d4 X.K H p ys)/\∀l,H l=bm->Q (.ref l) (upd H l (.lst ys))):=by
 intro Z s σ H xs us Q I r h;obtain⟨p,ys,rfl,hq,q⟩:=h;obtain⟨u,rfl,rx⟩:=vals1 r;cases rx;have fin:∀(aq:List bn),Vals ys aq->ys.length<=sizeLine->∀(h':lf) (c':Nat),(∀b o',s.heap.get? b=am o'->h'.get? b=am o')->
   h'.get? s.heap.objs.size=am {cls:=.type "list",dict:=bm,data:=.seq aq.toArray c',slots:=#[]}->EP X Z σ Q (.ref s.heap.objs.size) {s with heap:=h'}:=λaq r' hz h' c' kp e=>
  ⟨.ref s.heap.objs.size,_,I.laid (t':=s.toks) kp (An _) (show aY X.prog X.w _ h' _ (.lst ys) from⟨hz,aq,c',r',e⟩),rfl,q _ (I.bp.fresh (An _))⟩
 rcases hq with hq | hq
 ·obtain⟨aq,r',pl,hz⟩:=I.list hq;have Â:=r'.length;obtain⟨o,ho,hc,n,hd⟩:=pl.isList;exact call_list_seq p (.inl rfl) ho hc hd (λh' c' kp e=>fin aq r' hz h' c' kp e) (by simp only [Ai] <;> omega)
 ·obtain⟨aq,r',pl,hz⟩:=I.tuple hq;have Â:=r'.length;obtain⟨o,ho,hc,n,hd⟩:=pl;exact call_list_seq p (.inr rfl) ho hc hd (λh' c' kp e=>fin aq r' hz h' c' kp e) (by simp only [Ai] <;> omega)
theorem uk:bE X (.type "tuple") (λxs H Q=>∃p ys,xs=[.ref p]/\((cR X.K H p ys/\∀l,H l=bm->Q (.ref l) (upd H l (.tup ys)))\/(d4 X.K H p ys/\Q (.ref p) H))):=by
 intro Z s σ H xs us Q I r h;obtain⟨p,ys,rfl,h⟩:=h;obtain⟨u,rfl,rx⟩:=vals1 r;cases rx;rcases h with⟨hq,q⟩ | ⟨hq,q⟩
 ·obtain⟨aq,r',pl,hz⟩:=I.list hq;have Â:=r'.length;refine call_tuple_list pl.isList (λh' kp=>?_) (by simp only [Ai] <;> omega);have I1:Inv X Z σ H {s with heap:=h'}:=I.kept (t':=s.toks) kp;have I2:Inv X Z σ (upd H h'.objs.size (.tup ys)) {s with heap:=h'.push {cls:=.type "tuple",data:=.seq aq.toArray}}:=
   I1.laid (t':=s.toks) (λb o e=>Ag _ e) (An _) (show aY X.prog X.w _ _ _ (.tup ys) from⟨hz,aq,r',Fu _ _⟩)
  exact⟨.ref h'.objs.size,_,I2,rfl,q _ (I1.bp.fresh (An _))⟩
 ·obtain⟨aq,r',pl,hz⟩:=I.tuple hq;exact call_tuple_same pl ⟨.ref p,H,I,rfl,q⟩
def tyV (K:Ab) (T:String) (x:V) (H:Hp):Prop:=match x with
 | .str _=>T="str"
 | .int _=>T="int"
 | .ref p=>(T="list"/\∃xs,cR K H p xs)\/(T="tuple"/\∃o,K.lookup p=am o/\o.cls=.type "tuple"/\o.dict=bm)\/
   (T="dict"/\((∃kvs,H p=am (.dK kvs))\/∃kvs,H p=am (.dT kvs)))\/(T="set"/\∃S n,H p=am (.set S n))
 | _=>False
def L4 {x:V} (I:Inv X Z σ H s) (r:RelV x v) (ty:tyV X.K T x H) :
  s.TypeIs v T/\∀a,v=.ref a->∃ob,s.heap.get? a=am ob/\ob.dict=bm:=by
 cases x with
 | str z=>
  obtain⟨t,rfl⟩:=r;cases (show T="str" from ty);exact⟨typeIs_str s z t,λ_ e=>nomatch e⟩
 | int i=>
  obtain⟨t,rfl⟩:=r;cases (show T="int" from ty);exact⟨typeIs_int s i t,λ_ e=>nomatch e⟩
 | ref p=>
  cases r;rcases ty with⟨rfl,xs,hq⟩ | ⟨rfl,o,hk,hc,hd⟩ | ⟨rfl,hk⟩ | ⟨rfl,S,n,hk⟩
  ·obtain⟨aq,_,pl,_⟩:=I.list hq;refine⟨pl.isList.typeIs,λa e=>?_⟩;cases e;obtain⟨o,n,e,c,hd,_⟩:=pl;exact⟨o,e,hd⟩
  ·refine⟨⟨o,I.uP p o hk,hc⟩,λa e=>?_⟩;cases e;exact⟨o,I.uP _ o hk,hd⟩
  ·have z:∃o,s.heap.get? p=am o/\o.ExactDict:=by
    rcases hk with⟨kvs,hk⟩ | ⟨kvs,hk⟩
    ·obtain⟨_,_,_,_,o,_,_,e,ex,_⟩:=I.bp p _ hk;exact⟨o,e,ex⟩
    ·obtain⟨_,_,_,_,o,_,_,e,ex,_⟩:=I.bp p _ hk;exact⟨o,e,ex⟩
   obtain⟨o,e,ex⟩:=z;refine⟨⟨o,e,ex.1⟩,λa e2=>?_⟩;cases e2;exact⟨o,e,ex.2.1⟩
  ·obtain⟨o,_,_,_,e,ex,_⟩:=I.bp p _ hk;refine⟨⟨o,e,ex.1⟩,λa e2=>?_⟩;cases e2;exact⟨o,e,ex.2.1⟩
 | _=>exact Bo ty
def X8 (K:Ab) (T:String) (r:V->List V->Hp->VK->Prop) (to:TE):TE:=λσ H Q=>to σ H λx H1=>tyV K T x H1/\r x [] H1 Q
def tBM (K:Ab) (T:String) (r:V->List V->Hp->VK->Prop) (to:TE) (t:TA):TE:=λσ H Q=>to σ H λx H1=>tyV K T x H1/\t σ H1 λxs H2=>r x xs H2 Q
variable {o e:ii}{es:List ii}{to:TE}{t:TA}{name:Str}{Ã bC:Pos}{T id:String}{r:V->List V->Hp->VK->Prop}
def U0 (pa:PlainAttrs T) (slot:Slot T name id) (VW:typeOf (.builtin id)=pure (.type "method_descriptor")) (hm:MtR X id r) (ho:PE X o to)
  (eI:nw o name X.env (kw o X.env)=kw o X.env:=by rfl) (eG:PM Ã bC:=by rfl):PE X (.Call (.Attribute o name Ã) [] [] bC) (X8 X.K T r to):=by
 intro Z s σ H Q I h;refine wpAny_Call_method0_late eI eG (bZ (ho Z s σ H _ I h) λv s1 ⟨x,H1,I1,r1,ty,q1⟩=>?_);obtain⟨h1,h2⟩:=L4 I1 r1 ty;exact⟨T,id,pa,slot,VW,h1,h2,Er rfl (PySem.evalArgs_none (hm Z s1 σ H1 x [] v [] Q I1 r1 .nil q1))⟩
def YE (pa:PlainAttrs T) (slot:Slot T name id) (VW:typeOf (.builtin id)=pure (.type "method_descriptor")) (hm:MtR X id r) (ho:PE X o to) (ha:PA X (e::es) t)
  (eI:nw o name X.env (kw o X.env)=kw o X.env:=by rfl)
  (pe:WY X bC (e::es):=by rfl)
  (eG:PM Ã bC:=by rfl) (hs:gK X e es:=by rfl) (eU:lH X bC es:=by rfl) :
  PE X (.Call (.Attribute o name Ã) (e::es) [] bC) (tBM X.K T r to t):=by
 intro Z s σ H Q I h;refine wpAny_Call_method_late eI pe eG rfl (bZ (ho Z s σ H _ I h) λv s1 ⟨x,H1,I1,r1,ty,q1⟩=>?_);obtain⟨h1,h2⟩:=L4 I1 r1 ty;refine⟨T,id,pa,slot,VW,h1,h2,?_⟩;have hA:=ha bC Z s1 σ H1 _ I1 q1;rw [hs] at hA ⊢;refine Er (by show (false||(u8 bC (f8 es X.env)).any (·.1))=false;rw [eU] <;> rfl) (Calls.evalArgs_plain ?_);exact bZ hA λus s2 ⟨vs,H2,I2,r2,q2⟩=>hm Z s2 σ H2 x vs v us Q I2 r1 r2 q2
end
def J6 (X:Cx) (id:String) (r:V->List V->Hp->VK->Prop):Prop:=
 ∀(Z:List (ce×Obj)) (s:ci) (σ:St) (H:Hp) (x:V) (xs:List V) (v:bn) (us:List bn) (Q:VK),Inv X Z σ H s->RelV x v->Vals xs us->r x xs H Q->
  db (dL X.prog X.w) X.A (call (.builtin id) (v::us)) (EP X Z σ Q) X.xe s
def Vals.one:∀{x:V}{us:List bn},Vals [x] us->∃u,us=[u]/\RelV x u
 | _,_,.cons r .nil=>⟨_,rfl,r⟩
def Vals.zero:∀{us:List bn},Vals [] us->us=[]
 | _,.nil=>rfl
def Vals.dropLast (h:Vals xs us):Vals xs.dropLast us.dropLast:=by
 induction h with
 | nil=>exact .nil
 | cons r t ih=>
  cases t with
  | nil=>exact .nil
  | cons q t'=>exact .cons r ih
theorem Vals.eraseIdx:∀{xs:List V}{us:List bn} (i:Nat),Vals xs us->Vals (xs.eraseIdx i) (us.eraseIdx i)
 | _,_,_,.nil=>.nil
 | _,_,0,.cons _ t=>t
 | _,_,i+1,.cons r t=>.cons r (Vals.eraseIdx i t)
theorem Vals.rep (h:Vals xs us):∀k:Nat,Vals (Am k xs).flatten (Am k us).flatten
 | 0=>.nil
 | k+1=>by
  rw [Bu,Bu,BZ,BZ];exact Vals.append h (Vals.rep h k)
theorem HE (l:List α):l.eraseIdx (l.length-1)=l.dropLast:=by
 induction l with
 | nil=>rfl
 | cons a r ih=>
  cases r with
  | nil=>rfl
  | cons b r=>
   have e:(a::b::r).length-1=((b::r).length-1)+1:=by
    have h1:(a::b::r).length=r.length+2:=rfl;have h2:(b::r).length=r.length+1:=rfl;omega
   rw [e,Cn,ih]
   all_goals rfl
theorem uK:∀(l:List α) (i:Nat),(l.eraseIdx i).length<=l.length
 | [],_=>An _
 | _::_,0=>Dr _
 | _::r,i+1=>Nat.succ_le_succ (uK r i)
theorem foldl_rep (aq:List bn):∀(k:Nat) (Å:List bn),
  List.foldl (λx1 x2=>x1++x2) Å.toArray (Am k aq.toArray)=(Å++(Am k aq).flatten).toArray
 | 0,Å=>by simp
 | k+1,Å=>by
  have e:Å.toArray++aq.toArray=(Å++aq).toArray:=by simp
  have e2:(Å++aq)++(Am k aq).flatten=Å++(Am (k+1) aq).flatten:=by
   rw [Bu,BZ,Ay]
  rw [<- e2,<- foldl_rep aq k (Å++aq),<- e,Bu,CV]
section
def Inv.G6 {f:Array bn->Array bn}{t':Nat} (I:Inv X Z σ H s) (hH:H l=am (.lst xs))
  (e:s.heap.get? l=am {cls:=.type "list",data:=.seq aq.toArray n}) (hf:f aq.toArray=its'.toArray) (hv:Vals ys its') (hz:ys.length<=sizeLine) :
  Inv X Z σ (upd H l (.lst ys)) {s with heap:=s.heap.update l (Bj f),toks:=t'}:=by
 have q:=PySem.IsL.update e f;rw [hf] at q;refine I.write (x:=l) (e:=l) (by rw [hH];exact trivial) (.inl rfl) (λb' u hb hu=>(BG s.heap (Bj f) (Bz hb)).trans hu) ⟨_,q⟩ ?_;exact⟨hz,its',_,hv,q⟩
def Inv.Vs {t':Nat} (I:Inv X Z σ H s) (hv:Vals ys aq) (hz:ys.length<=sizeLine) :
  Inv X Z σ (upd H s.heap.objs.size (.lst ys)) {s with heap:=s.heap.push {cls:=.type "list",data:=.seq aq.toArray},toks:=t'}:=
 I.laid (λ_ _ q=>Ag _ q) (An _) ⟨hz,aq,0,hv,Ao _ rfl⟩
def Inv.fresh (I:Inv X Z σ H s):H s.heap.objs.size=bm:=I.bp.fresh (An _)
def Inv.qb (I:Inv X Z σ H s) (hH:H l=am (.lst xs)):xs.length<=sizeLine/\∃(aq:List bn) (n:Nat),Vals xs aq/\xs.length=aq.length/\s.heap.get? l=am {cls:=.type "list",data:=.seq aq.toArray n}:=by
 obtain⟨z,aq,n,r,e⟩:=I.bp l _ hH;exact⟨z,aq,n,r,r.length,e⟩
theorem nr (h:n<=sizeLine):Builtin.List.listTooLong n=false:=by
 exact decide_eq_false ∅
end
section
def Qp:V->List V->Hp->VK->Prop:=λx vs H Q=>∃l xs y,x=.ref l/\vs=[y]/\H l=am (.lst xs)/\xs.length < sizeLine/\Q .aE (upd H l (.lst (xs++[y])))
theorem KC:J6 X "list.append" Qp:=by
 intro Z s σ H x vs v us Q I rx rv h;obtain⟨l,xs,y,rfl,rfl,hH,hz,q⟩:=h;cases rx;obtain⟨u,rfl,ru⟩:=rv.one;obtain⟨z,aq,n,r,hl,e⟩:=I.qb hH;refine sB F.slot_list_append ⟨_,e,rfl⟩ F.entry_list_append (F.args_list_append_2 _ _) (PySem.list_append l aq.toArray n u (by rw [Ai];omega)) ⟨e,?_⟩;refine⟨.aE,_,I.G6 (its':=aq++[u]) hH e (by simp) (r.append (.cons ru .nil)) ?_,rfl,q⟩;rw [Ah,C8];omega
def Qn:V->List V->Hp->VK->Prop:=λx vs H Q=>∃l b xs zs,x=.ref l/\vs=[.ref b]/\H l=am (.lst xs)/\H b=am (.lst zs)/\xs.length+zs.length<=sizeLine/\Q .aE (upd H l (.lst (xs++zs)))
theorem W5:J6 X "list.extend" Qn:=by
 intro Z s σ H x vs v us Q I rx rv h;obtain⟨l,b,xs,zs,rfl,rfl,hH,hB,hz,q⟩:=h;cases rx;obtain⟨u,rfl,ru⟩:=rv.one;cases ru;obtain⟨z,aq,n,r,hl,e⟩:=I.qb hH;obtain⟨z2,cH,n2,r2,Px,e2⟩:=I.qb hB;have hsz:aq.toArray.size+cH.toArray.size<=sizeLine:=by rw [Ai,Ai];omega
 have sA:¬(!aq.toArray.isEmpty&&Builtin.List.listTooLong (aq.toArray.size+cH.toArray.size))=true:=by
  rw [nr hsz,D4];exact AX
 refine sB DS ⟨_,e,rfl⟩ DB (Dm _ _)
  (AutoSeq1.list_extend_list_list_0 l aq.toArray n b cH.toArray n2 sA (by rw [Ai];omega) ∅) ⟨e,e2,?_⟩
 refine⟨.aE,_,I.G6 (its':=aq++cH) hH e (by simp) (r.append r2) ?_,rfl,q⟩;rw [Ah];omega
def acy:V->List V->Hp->VK->Prop:=λx vs H Q=>∃l xs y,x=.ref l/\vs=[]/\H l=am (.lst xs)/\xs[xs.length-1]?=am y/\Q y (upd H l (.lst xs.dropLast))
theorem Vn:J6 X "list.pop" acy:=by
 intro Z s σ H x vs v us Q I rx rv h;obtain⟨l,xs,y,rfl,rfl,hH,hy,q⟩:=h;cases rx;have hus:=rv.zero;subst hus;obtain⟨z,aq,n,r,hl,e⟩:=I.qb hH;obtain⟨u,hu,ru⟩:=r.get hy;have VT:aq.toArray[aq.toArray.size-1]?=am u:=by
  show aq.toArray[aq.length-1]?=am u;rw [<- C9,<- hl];exact hu
 refine sB F.slot_list_pop ⟨_,e,rfl⟩ F.entry_list_pop (F.args_list_pop_1 _) (MeetsSeq.list_pop_last l aq.toArray n u VT (by rw [Ai];omega)) ⟨e,?_⟩;refine⟨y,_,I.G6 (its':=aq.dropLast) hH e ?_ r.dropLast ?_,ru,q⟩
 ·rw [Ai,C7,HE]
 ·rw [List.length_dropLast];omega
def UH:V->List V->Hp->VK->Prop:=λx vs H Q=>∃l xs i k y,x=.ref l/\vs=[.int i]/\H l=am (.lst xs)/\-(2 ^ 63)<=i/\i < 2 ^ 63/\seqIndex? i xs.length=am k/\xs[k]?=am y/\Q y (upd H l (.lst (xs.eraseIdx k)))
theorem Nk:J6 X "list.pop" UH:=by
 intro Z s σ H x vs v us Q I rx rv h;obtain⟨l,xs,i,k,y,rfl,rfl,hH,h1,h2,hk,hy,q⟩:=h;cases rx;obtain⟨u,rfl,ru⟩:=rv.one;obtain⟨t,rfl⟩:=ru;obtain⟨z,aq,n,r,hl,e⟩:=I.qb hH;obtain⟨w,hw,vL⟩:=r.get hy;refine sB F.slot_list_pop ⟨_,e,rfl⟩ F.entry_list_pop (F.args_list_pop_2 _ _)
  (MeetsSeq.list_pop_at l aq.toArray n i t k w (fitsIndex_both h1 h2) (by rw [Ai,<- hl];exact hk) (by rw [<- C9];exact hw) (by rw [Ai];omega)) ⟨e,?_⟩
 refine⟨y,_,I.G6 (its':=aq.eraseIdx k) hH e ?_ (r.eraseIdx k) ?_,vL,q⟩
 ·show aq.toArray.eraseIdxIfInBounds k=(aq.eraseIdx k).toArray;rw [C7]
 ·have:=uK xs k;omega
def acz:R2:=λx y H Q=>∃l b xs zs,x=.ref l/\y=.ref b/\H l=am (.lst xs)/\H b=am (.lst zs)/\xs.length+zs.length<=sizeLine/\∀p,H p=bm->Q (.ref p) (upd H p (.lst (xs++zs)))
theorem Vb:iz X (r9 .Add) acz:=by
 intro Z s σ H x y v u Q I rx ry h;obtain⟨l,b,xs,zs,rfl,rfl,hH,hB,hz,q⟩:=h;cases rx;cases ry;obtain⟨z,aq,n,r,hl,e⟩:=I.qb hH;obtain⟨z2,cH,n2,r2,Px,e2⟩:=I.qb hB;refine PySem.P.add_list e e2 ?_ (by rw [Ai,Ai];omega);have ea:aq.toArray++cH.toArray=(aq++cH).toArray:=by simp
 rw [ea];exact⟨.ref _,_,I.Vs (t':=s.toks) (r.append r2) (by rw [Ah];omega),rfl,q _ I.fresh⟩
def acx:R2:=λx y H Q=>∃l k xs,x=.ref l/\y=.int k/\H l=am (.lst xs)/\-(2 ^ 63)<=k/\k < 2 ^ 63/\xs.length*k.toNat<=sizeLine/\
 ∀p,H p=bm->Q (.ref p) (upd H p (.lst (Am k.toNat xs).flatten))
def len_rep (xs:List α) (k:Nat):(Am k xs).flatten.length=k*xs.length:=by
 induction k with
 | zero=>simp
 | succ k ih=>rw [Bu,BZ,Ah,ih,Ew,Nat.add_comm]
theorem U5:iz X (r9 .Mult) acx:=by
 intro Z s σ H x y v u Q I rx ry h;obtain⟨l,k,xs,rfl,rfl,hH,h1,h2,hz,q⟩:=h;cases rx;obtain⟨t,rfl⟩:=ry;obtain⟨z,aq,n,r,hl,e⟩:=I.qb hH;have Â:aq.toArray.size*k.toNat<=sizeLine:=by rw [Ai,<- hl];exact hz
 have adG:¬aq.toArray.size*k.toNat > (2 ^ 63-1) / 8:=by
  have:(sizeLine:Nat)<=(2 ^ 63-1) / 8:=by decide
  omega
 have adz:¬(!Builtin.List.listFitsIndex k)=true:=by
  rw [fitsIndex_both h1 h2];exact AX
 have sA:¬Builtin.List.listTooLong (aq.toArray.size*k.toNat)=true:=by
  rw [nr Â];exact AX
 have RI:List.foldl (λx1 x2=>x1++x2) #[] (Am (if aq.toArray.isEmpty=true then 0 else k.toNat) aq.toArray)=(Am k.toNat aq).flatten.toArray:=by
  have f0:∀m:Nat,List.foldl (λx1 x2=>x1++x2) #[] (Am m aq.toArray)=(Am m aq).flatten.toArray:=λm=>by
   have:=foldl_rep aq m [];exact this
  rw [f0];cases aq with
  | nil=>simp
  | cons a r'=>rw [if_neg (by simp)]
 refine wpAny_binaryOp_repeat_ref (T:="list") (U:="int") ⋯ ⟨_,e,rfl⟩ (λs'=>typeIs_int s' k t) noFill_list_mul F.fills_int_mul F.slot_int_rmul repeat_list F.slot_int_index.lookup
  (sB F.slot_int_rmul (typeIs_int s k t) F.entry_int_rmul (F.args_int_rmul_2 _ _) (int___rmul___int_list k t l aq.toArray n)
   ⟨e,rfl,⟨_,e,rfl⟩,sB F.slot_list_mul ⟨_,e,rfl⟩ F.entry_list_mul (F.args_list_mul_2 _ _) (AutoListH.list___mul___list_int_3 l aq.toArray n k t adz adG sA) ⟨e,?_⟩⟩)
 rw [RI];exact⟨.ref _,_,I.Vs (t':=s.toks) (r.rep k.toNat) (by rw [len_rep,Nat.mul_comm];exact hz),rfl,q _ I.fresh⟩
end
end L2
variable {xs:List (List L2.Key×BB×AZ)}{o:Option L2.V}{v:L2.V}{kvs:List (List L2.Key×L2.V)}{env:PySem.Env}{value:B2}{vz:B7}
namespace L2
open PySem PySem.Spec PyProof.Rows
section
variable {κ:Type} [DecidableEq κ]
def hZ (kvs:List (κ×V)) (k:κ):Option V:=(kvs.find? λkv=>decide (kv.1=k)).map (·.2)
def putK (kvs:List (κ×V)) (k:κ) (v:V):List (κ×V):=
 if (kvs.any λkv=>decide (kv.1=k))=true then kvs.map (λkv=>if kv.1=k then (kv.1,v) else kv) else kvs++[(k,v)]
def kg {p:κ×V}{r:List (κ×V)}{k:κ} (e:p.1=k):hZ (p::r) k=am p.2:=by simp [hZ,Be,e]
def kh {p:κ×V}{r:List (κ×V)}{k:κ} (e:¬p.1=k):hZ (p::r) k=hZ r k:=by simp [hZ,Be,e]
theorem qX (k:κ):∀kvs:List (κ×V),(kvs.any λkv=>decide (kv.1=k))=(hZ kvs k).isSome
 | []=>rfl
 | p::r=>by
  rw [Bw];by_cases e:p.1=k
  ·simp only [kg e,decide_eq_true e,Bool.true_or,Option.isSome_some]
  ·rw [kh e,decide_eq_false e,Bool.false_or];exact qX k r
theorem pJ (kvs:List (κ×V)) (k:κ) (v:V):(putK kvs k v).length<=kvs.length+1:=by
 unfold putK
 split
 ·rw [Af];omega
 ·rw [Ah,Ap,Bk];omega
def tF.K2 {u:Option bn} (r:tF o u):o.isSome=u.isSome:=by
 cases o with
 | none=>cases u with
  | none=>rfl
  | some _=>exact (show False from r).elim
 | some _=>cases u with
  | none=>exact (show False from r).elim
  | some _=>rfl
def KV.val {kvs:List (κ×V)}{vs:List (κ×bn)} (r:KV kvs vs) (k:κ):tF (hZ kvs k) (valueAt vs k):=by
 unfold KV at r
 induction r with
 | nil=>exact B9
 | @cons p q ps qs h t ih=>
  obtain⟨h1,h2⟩:=h;by_cases e:p.1=k
  ·have e':q.1=k:=h1.symm.trans e;have b:valueAt (q::qs) k=am q.2:=by simp [valueAt,Be,e']
   rw [kg e,b];exact h2
  ·have e':¬q.1=k:=λz=>e (h1.trans z);have b:valueAt (q::qs) k=valueAt qs k:=by simp [valueAt,Be,e']
   rw [kh e,b];exact ih
def KV.any {kvs:List (κ×V)}{vs:List (κ×bn)} (r:KV kvs vs) (k:κ):(kvs.any λkv=>decide (kv.1=k))=vs.any λkv=>decide (kv.1=k):=by
 induction r with
 | nil=>rfl
 | cons h t ih=>rw [Bw,Bw,ih,h.1]
def KV.UB {kvs:List (κ×V)}{vs:List (κ×bn)} (r:KV kvs vs) (k:κ) (ry:RelV y u) :
  KV (kvs.map λkv=>if kv.1=k then (kv.1,y) else kv) (vs.map λkv=>if kv.1=k then (kv.1,u) else kv):=by
 induction r with
 | nil=>exact .nil
 | @cons p q ps qs h t ih=>
  rw [Ar,Ar];refine .cons ?_ ih;obtain⟨h1,h2⟩:=h;by_cases e:p.1=k
  ·rw [if_pos e,if_pos (h1.symm.trans e)];exact⟨h1,ry⟩
  ·rw [if_neg e,if_neg (λz=>e (h1.trans z))];exact⟨h1,h2⟩
def KV.put {kvs:List (κ×V)}{vs:List (κ×bn)} (r:KV kvs vs) (k:κ) (ry:RelV y u):KV (putK kvs k y) (stored vs k u):=by
 unfold putK stored;rw [r.any k];by_cases e:(vs.any λkv=>decide (kv.1=k))=true
 ·rw [if_pos e,if_pos e];exact r.UB k ry
 ·rw [if_neg e,if_neg e];exact Paired.snoc r ⟨rfl,ry⟩
def KV.length {kvs:List (κ×V)}{vs:List (κ×bn)} (r:KV kvs vs):kvs.length=vs.length:=Paired.length r
end
def NK {k:Key} (r:RelV (kV k) u):(bF P w).is k u=true:=by
 cases k with
 | inl i=>obtain⟨t,e⟩:=(show ∃t,u=DM i t from r);subst e;exact zp P w i t
 | inr x=>obtain⟨t,e⟩:=(show ∃t,u=Bc x t from r);subst e;exact zm P w x t
theorem uR:∀{ks:List Key}{us:List bn},Vals (ks.map kV) us->ItemsAre (bF P w) ks us
 | [],_,r=>by rw [DL] at r;cases r;exact .nil
 | k::ks,_,r=>by
  rw [Ar] at r;cases r with
  | cons h t=>exact .cons (NK h) (uR t)
abbrev KT (H:Hp):List (List Key×V)->List (List Key×ce×bn)->Prop:=Paired λp q=>p.1=q.1/\H q.2.1=am (.tup (p.1.map kV))/\RelV p.2 q.2.2
def KT.val (r:KT H kvs xs) (k:List Key):tF (hZ kvs k) ((atKey xs k).map (·.2)):=by
 induction r with
 | nil=>exact B9
 | @cons p q ps qs h t ih=>
  obtain⟨h1,_,h2⟩:=h;by_cases e:p.1=k
  ·have e':q.1=k:=h1.symm.trans e;have b:atKey (q::qs) k=am q.2:=by simp [atKey,Be,e']
   rw [kg e,b];exact h2
  ·have e':¬q.1=k:=λz=>e (h1.trans z);have b:atKey (q::qs) k=atKey qs k:=by simp [atKey,Be,e']
   rw [kh e,b];exact ih
def KT.UB (r:KT H kvs xs) (k:List Key) (ry:RelV y u) :
  KT H (kvs.map λkv=>if kv.1=k then (kv.1,y) else kv) (xs.map (putAt k u)):=by
 induction r with
 | nil=>exact .nil
 | @cons p q ps qs h t ih=>
  rw [Ar,Ar];refine .cons ?_ ih;obtain⟨h1,h2,h3⟩:=h;unfold putAt;by_cases e:p.1=k
  ·rw [if_pos e,if_pos (h1.symm.trans e)];exact⟨h1,h2,ry⟩
  ·rw [if_neg e,if_neg (λz=>e (h1.trans z))];exact⟨h1,h2,h3⟩
def KT.put (r:KT H kvs xs) (k:List Key) (hb:H b=am (.tup (k.map kV))) (ry:RelV y u) :
  KT H (putK kvs k y) (xz xs k b u):=by
 have e:(kvs.any λkv=>decide (kv.1=k))=(atKey xs k).isSome:=by
  rw [qX,(r.val k).K2,Option.isSome_map]
 unfold putK xz;rw [e];by_cases q:(atKey xs k).isSome=true
 ·rw [if_pos q,if_pos q];exact r.UB k ry
 ·rw [if_neg q,if_neg q];exact Paired.snoc r ⟨rfl,hb,ry⟩
def KT.keeps (r:KT H kvs xs) (ht:∀b ys,H b=am (.tup ys)->H' b=am (.tup ys)):KT H' kvs xs:=
 Paired.Vq r λ_ _ z=>⟨z.1,ht _ _ z.2.1,z.2.2⟩
section
def SU {u:HO} (ok:lG P w H h) (e:Rd H a u):aY P w H h a u:=e.ok ok
def va {kvs:List (Key×V)} (ok:lG P w H h) (e:Rd H a (.dK kvs)):kvs.length<=sizeLine/\(a==ss)=false/\∃vs,KV kvs vs/\h.DictOf (bF P w) a vs:=
 show aY P w H h a (.dK kvs) from SU ok e
def aak {kvs:List (Key×V)} (ok:lG P w H h) (e:H a=am (.dK kvs)):kvs.length<=sizeLine/\(a==ss)=false/\∃vs,KV kvs vs/\h.DictOf (bF P w) a vs:=va ok (.inl e)
def wu {ks:List Key} (ok:lG P w H h) (e:H a=am (.tup (ks.map kV))):(lm (bF P w)).is h ks a:=by
 obtain⟨_,aq,r,o,h1,h2,n,h3⟩:=(show aY P w H h a (.tup (ks.map kV)) from ok a _ e);exact⟨o,aq.toArray,n,h1,h2,h3,by simpa using uR r⟩
def u5 (ok:lG P w H h) (e:Rd H a (.dT kvs)):kvs.length<=sizeLine/\(a==ss)=false/\
  ∃xs,KT H kvs xs/\h.DictOfH (lm (bF P w)) a xs:=by
 obtain⟨z,y,xs,r,o,es,ep,h1,h2,h3,h4,h5⟩:=(show aY P w H h a (.dT kvs) from SU ok e);refine⟨z,y,xs,r,o,es,ep,h1,h2,h3,h4,λx hx=>?_,h5⟩;have all:∀{l:List (List Key×V)}{m:List (List Key×ce×bn)},KT H l m->∀x∈m,(lm (bF P w)).is h x.1 x.2.1:=by
  intro l m q
  induction q with
  | nil=>intro x hx;exact nomatch hx
  | @cons p q ps qs hq t ih=>
   intro x hx;rcases Aw.mp hx with e | hx
   ·subst e;exact wu ok (by rw [<- hq.1];exact hq.2.1)
   ·exact ih x hx
 exact all r x hx
def aai (ok:lG P w H h) (e:H a=am (.dT kvs)):kvs.length<=sizeLine/\(a==ss)=false/\
  ∃xs,KT H kvs xs/\h.DictOfH (lm (bF P w)) a xs:=u5 ok (.inl e)
end
def Iw (H:Hp) (a:ce) (y:V) (r:Option V):Prop:=
 (∃kvs k,Rd H a (.dK kvs)/\y=kV k/\r=hZ kvs k)\/∃kvs k b,Rd H a (.dT kvs)/\y=.ref b/\H b=am (.tup (k.map kV))/\r=hZ kvs k
def Pn (H:Hp) (a:ce) (y v:V) (H':Hp):Prop:=
 (∃kvs k,H a=am (.dK kvs)/\y=kV k/\kvs.length < sizeLine/\H'=upd H a (.dK (putK kvs k v)))\/
 ∃kvs k b,H a=am (.dT kvs)/\y=.ref b/\H b=am (.tup (k.map kV))/\kvs.length < sizeLine/\H'=upd H a (.dT (putK kvs k v))
def Iw.t {k:List Key} (e:H a=am (.dT kvs)) (eb:H b=am (.tup (k.map kV))):Iw H a (.ref b) (hZ kvs k):=.inr ⟨kvs,k,b,.inl e,rfl,eb,rfl⟩
def Pn.t {k:List Key} (e:H a=am (.dT kvs)) (eb:H b=am (.tup (k.map kV))) (hl:kvs.length < sizeLine) :
  Pn H a (.ref b) v (upd H a (.dT (putK kvs k v))):=.inr ⟨kvs,k,b,e,rfl,eb,hl,rfl⟩
section
variable {r:bn}
def Inv.big (I:Inv X Z σ H s):ss < s.heap.objs.size:=by
 have h:=(I.mod.glob.keeps I.bk).lt;exact Nat.lt_trans ⋯ h
def Lo (hu:A.units+1 < o0) (I:Inv X Z σ H s) (g:Iw H a y (am v)) (ry:RelV y u) (h:∀w' s',Inv X Z σ H s'->RelV v w'->Q w' s') :
  db (dL X.prog X.w) A (getItem (.ref a) u) Q E s:=by
 rcases g with⟨kvs,k,e,ey,l⟩ | ⟨kvs,k,b,e,ey,eb,l⟩
 ·subst ey;obtain⟨z,hd,vs,Ó,dd⟩:=va I.bp e;obtain⟨w',hw,vL⟩:=tF.some_of (v:=v) (o:=valueAt vs k) (by rw [l];exact Ó.val k);exact wpAny_getItem_of (NK ry) dd.mapOf hw (h w' _ (I.tok _) vL)
 ·subst ey;cases (show u=Ax b from ry);obtain⟨z,hd,xs,Ó,dd⟩:=u5 I.bp e;obtain⟨w',hw,vL⟩:=tF.some_of (v:=v) (o:=(atKey xs k).map (·.2)) (by rw [l];exact Ó.val k);obtain⟨p,hp,wW⟩:=Option.map_eq_some_iff.mp hw;refine wpAny_getItem_heap (tupleKind_room_in1 hu) (wu I.bp eb) dd hp ?_;rw [wW];exact h w' _ (I.tok _) vL
def JX {t':Nat}{ob:HO} (I:Inv X Z σ H s) (mu:Mut (H a)) (hs:B6 a s.heap h') (he:∃q,h'.get? a=am q) (new:aY X.prog X.w (upd H a ob) h' a ob) :
  Inv X Z σ (upd H a ob) {s with heap:=h',toks:=t'}:=
 I.write (x:=a) (e:=a) mu (.inl rfl) (λb q hb z=>(hs.2 b hb).trans z) he new
def Wy {kvs:List (Key×V)}{vs:List (Key×bn)} (z:kvs.length<=sizeLine) (hd:(a==ss)=false) (Ó:KV kvs vs) (dd:h'.DictOf (bF P w) a vs) :
  aY P w H' h' a (.dK kvs):=⟨z,hd,vs,Ó,dd⟩
theorem Ln {Q:Unit->ci->Prop} (hu:A.units+1 < o0) (I:Inv X Z σ H s) (g:Pn H a y v H') (ry:RelV y u) (rv:RelV v r) (h:∀s',Inv X Z σ H' s'->Q () s') :
  db (dL X.prog X.w) A (setItem (.ref a) u r) Q E s:=by
 rcases g with⟨kvs,k,e,ey,l,eH⟩ | ⟨kvs,k,b,e,ey,eb,l,eH⟩
 ·subst ey eH;obtain⟨z,hd,vs,Ó,dd⟩:=aak I.bp e;have hz:vs.length<=sizeLine:=by rw [<- Ó.length];exact z
  have hl:(putK kvs k v).length<=sizeLine:=by have:=pJ kvs k v;omega
  refine wpAny_setItem_pairs (hsz:=hz) (NK ry) dd λh' ÿ hs=>h _ ?_;have he:∃q,h'.get? a=am q:=let ⟨q,_,_,hq,_⟩:=ÿ;⟨q,hq⟩;exact JX I (by rw [e];exact B9) hs he (Wy hl hd (Ó.put k rv) ÿ)
 ·subst ey eH;cases (show u=Ax b from ry);obtain⟨z,hd,xs,Ó,dd⟩:=aai I.bp e;have hz:xs.length<=sizeLine:=by rw [<- Paired.length Ó];exact z
  have hl:(putK kvs k v).length<=sizeLine:=by have:=pJ kvs k v;omega
  refine wpAny_setItem_heap (hsz:=hz) (tupleKind_room_in1 hu) (wu I.bp eb) dd λh' ÿ hs=>h _ ?_;obtain⟨q,es,ep,hq,h2,h3,h4,_,h5⟩:=ÿ;refine JX I (by rw [e];exact B9) hs ⟨q,hq⟩ ⟨hl,hd,_,(Ó.put k eb rv).keeps λc ys ec=>?_,q,es,ep,hq,h2,h3,h4,h5⟩;rw [av (Js ec e (λz=>nomatch z))];exact ec
end
def Sz (i:ii):Prop:=∀ov iv,subscripted i false ov iv=operate [ov,iv] (getItem ov iv)
def P5 {Ç:ii}{id:String}
  (hl:Ev (.type T) "__getitem__"=pure (am (.builtin id))) (hs:Sz Ç)
  (h:db (dL prog w) A (kw value env) (λo s₁=>db (dL prog w) A (kw Ç env) (λi s₂=>s₂.TypeIs o T/\db (dL prog w) A (getItem o i) Q E s₂) E s₁) E s) :
  db (dL prog w) A (kw (.Subscript value Ç pos) env) Q E s:=by
 refine Subscript_ (BH h (λo s₁ h₁=>BH h₁ (λi s₂ h₂=>?_) λ_ _ x=>x) λ_ _ x=>x);obtain⟨hT,h₂⟩:=h₂;refine Aa ?_;refine Aa (EJ hT hl ?_);have fin:db (dL prog w) A (subscripted Ç false o i) (λr s₃=>db (dL prog w) A (letTemporaryGo value o r >>= λ_=>pure r) Q E s₃) E s₂:=by
  rw [hs o i];exact wpAny_operating (BH h₂ (λr s₃ h₃=>Aa (wpAny_letTemporaryGo (Ae h₃))) λ_ _ x=>x)
 first
  | exact Ae (Aa fin)
  | exact Aa (Ae (Aa fin))
  | exact Aa fin
def FR (I:Inv X Z σ H s) (g:Iw H a y o):s.TypeIs (.ref a) "dict":=by
 rcases g with⟨kvs,k,e,_,_⟩ | ⟨kvs,k,b,e,_,_,_⟩
 ·obtain⟨_,_,vs,_,dd⟩:=va I.bp e;exact dd.typeIs
 ·obtain⟨_,_,xs,_,dd⟩:=u5 I.bp e;exact dd.typeIs
def X5 (td ty:TE):TE:=λσ H Q=>td σ H λx H1=>ty σ H1 λy H2=>∃a v,x=.ref a/\Iw H2 a y (am v)/\Q v H2
def Yh (td ty tv:TE):TS:=λD σ H=>tv σ H λv H1=>td σ H1 λx H2=>ty σ H2 λy H3=>∃a H4,x=.ref a/\Pn H3 a y v H4/\D.nx σ H4
section
variable {o i:ii}{td ty tv:TE}
def Jh (hu:X.A.units+1 < o0) (ho:PE X o td) (hi:PE X i ty) (hs:Sz i):PE X (.Subscript o i pos) (X5 td ty):=by
 intro Z s σ H Q I h;refine P5 PySem.F.slot_dict_getitem.lookup hs (bZ (ho Z s σ H _ I h) λu s1 ⟨x,H1,I1,rx,q1⟩=>bZ (hi Z s1 σ H1 _ I1 q1) λiv s2 ⟨y,H2,I2,ry,a,v,ex,g,q2⟩=>?_);subst ex;obtain rfl:u=Ax a:=rx;exact⟨FR I2 g,Lo hu I2 g ry λw' s3 I3 vL=>⟨v,H2,I3,vL,q2⟩⟩
def Qt (hu:X.A.units+1 < o0) (ho:PE X o td) (hi:PE X i ty) (hv:PE X value tv) (hs:im value (am (.Subscript o i Ø)) pos.line X.env=pure false) :
  PS X (.Assign [.Subscript o i Ø] value pos) (Yh td ty tv):=by
 intro Z s σ H D I h;refine wpAny_Assign_Subscript (bZ (hv Z s σ H _ I h) λr s1 ⟨v,H1,I1,rv,q1⟩=>bZ (ho Z s1 σ H1 _ I1 q1) λu s2 ⟨x,H2,I2,rx,q2⟩=>bZ (hi Z s2 σ H2 _ I2 q2) λiv s3 ⟨y,H3,I3,ry,a,H4,ex,g,q3⟩=>?_) hs;subst ex;obtain rfl:u=Ax a:=rx;exact Ln hu I3 g ry rv λs4 I4=>⟨σ,H4,I4,q3⟩
end
def OW (h:lf) (hb:ss < h.objs.size):aY P w H (h.push {cls:=.type "dict",data:=.dict #[]}) h.objs.size (.dT []):=
 ⟨Ba _,beq_eq_false_iff_ne.mpr (Bz (Az hb)),[],.nil,_,#[],0,Ao _ rfl,⟨rfl,rfl,rfl⟩,rfl,rfl,D2⟩
def Ul:TE:=λ_ H Q=>∀p,H p=bm->Q (.ref p) (upd H p (.dT []))
section
def M4:PE X (.Dict [] [] pos) Ul:=λZ s σ H Q I h=>
 wpAny_Dict_empty ⟨.ref s.heap.objs.size,_,I.laid (a:=s.heap.objs.size) (o:=.dT []) (t':=s.toks) (λ_ _ q=>Ag _ q) (An _) (OW s.heap I.big),rfl,h _ (I.bp.fresh (An _))⟩
end
structure M2 (X:Cx) (o:ii) (m:Str) (Ã:Pos) (e f:ii) (bC:Pos):Prop where
 base:nw o m X.env (kw o X.env)=kw o X.env
 ZZ:((u8 bC (f8 [e,f] X.env)).all (λx=>!x.1)&&(backToKw bC (keywordEach [] X.env)).all (λx=>x.1.isSome)
  && decide (([e,f]:List ii).length+([]:List Keyword).length+(if ([]:List Keyword).isEmpty then 0 else 1) < 30))=true
 line:(Ã.endLine==bC.line)=true
 trees:u8 bC (f8 [e,f] X.env)=[(false,kw e X.env),(false,kw f X.env)]
def IsD (H:Hp) (a:ce):Prop:=(∃kvs,Rd H a (.dK kvs))\/∃kvs,Rd H a (.dT kvs)
end L2
variable {Ð:List BX}{XP:(BX->Option AZ)->Fh->Prop}{YP:PySem.World->Fh->Prop}{d:PySem.DefRec}
namespace Att
open PySem PySem.W PySem.Calls PyProof.Rows
def qi {P:Params}:∀(ns:List Int) (vs:List bn),WellAll P h vs (ns.map WData.int)->tt vs ns:=by
 intro ns
 induction ns with
 | nil=>
  intro vs w;cases w;exact .nil
 | cons n ns ih=>
  intro vs w;cases w with
  | cons a b=>
   cases a;exact .cons _ _ (ih _ b)
theorem Ko {l:OpenLaw} (hn:l.most=am n) {P:Params}{args:List WData}{Ý:List bn}
  (RF:l.row.toRowW.claim.pre args=true) (č:WellAll P h Ý args) :
  ∃a vs ns,Ý=[Ax a]/\args=[WData.list (ns.map WData.int)]/\h.get? a=am {cls:=.type "list",data:=.seq vs.toArray}/\tt vs ns/\ns.length<=n:=by
 have hsh:=(pre_splitW RF).1;have hc:l.pre.holds [] {args:=args}=true:=(pre_splitW RF).2;obtain⟨d,r,rfl,h1,h2⟩:=hasAllW_cons hsh;obtain rfl:=hasAllW_nil h2;obtain⟨xs,rfl,h3⟩:=hasW_list h1;obtain⟨ns,rfl⟩:=items_int h3;have Â:ns.length<=n:=by
  unfold OpenLaw.pre at hc;have h4:(WTm.not (.lt (.lit (.int (n:Int))) (.len (.arg 0)))).holds [] {args:=[.list (ns.map .int)]}=true:=by
   have h4:=(holds_andW hc).1;rw [hn] at h4;exact h4
  have h5:=condW_of h4 (w_not (w_lt w_lit (w_len_list (w_arg rfl))));refine Nat.le_of_not_lt λq=>?_
  first
   | (rw [decide_eq_true q'] at h5;exact absurd h5 ⋯)
   | (simp at h5;omega)
 cases č with
 | cons w1 w2=>
  cases w2;cases w1 with
  | list ho adJ=>exact⟨_,_,ns,rfl,rfl,ho,qi ns _ adJ,Â⟩
def Kw (l:OpenLaw) (args:List WData):l.row.toRowW.claim.post args (.bool true) args=true:=
 postW_of (r:=l.row.toRowW) (X:=(true==true))
  (show WShape.has [] (.bool true) .bool=true by first | rfl | decide | simp [WShape.has,WShape.arms,WShape.armsAll])
  (show (WTm.eq .res (.lit (.bool true))).value [] {args:=args,res:=am (.bool true),after:=args}=am (.bool (true==true)) from w_eq_bool (w_res rfl) w_lit) rfl
def F0 {l:OpenLaw}{q:sK}
  (hn:l.most=am n) (ZH:d.params.defaults=[])
  (call:∀(w:tz) (s₀ s₁:ci) (mg mb:Str->Option bn) (fa:ce) (o:Obj) (pm cd È:bn) (a:ce) (vs:List bn) (ns:List Int),
   Ground q Ð [] XP w s₀ mg mb s₁.heap->YP w s₁.heap->
   s₁.heap.get? fa=am o->o.data=.func (docDef d.name d.params d.body d.scope pm cd È)->s₁.heap.CodeRec cd d.name->mg d.name=am (.ref fa)->
   s₁.heap.get? a=am {cls:=.type "list",data:=.seq vs.toArray}->tt vs ns->ns.length<=n->s₁.gens=#[]->
   zn (dL l.prog w) callerA (.call (.ref fa) ⟨[.ref a],[]⟩) (λr s'=>r=.ok (.ret (.bool true))/\OldK s₁.heap s'.heap/\s'.os=s₁.os/\EQ s'.gens) s₁) :
  WalkO q Ð XP YP l.row.toRowW d [] (λf vs=>Fy f vs):=by
 intro w s₀ s₁ mg mb G Y fa o pm cd È dV kV ho hd jq hD hmg hg args Ý as RF ahj hrd č hlo;obtain rfl:dV=.none:=Dflts.none hD ZH;obtain rfl:kV=.none:=Dflts.noKw hD;obtain⟨a,vs,ns,rfl,rfl,VX,Õ,Â⟩:=Ko hn RF č;refine enter_call (codeAny_mono (call w s₀ s₁ mg mb fa o pm cd È a vs ns G Y ho (fd_plain hd) jq hmg VX Õ Â hg) λr s' hq=>?_);obtain⟨rfl,h2,h3,h4⟩:=hq;exact⟨.inl ⟨.bool true,.bool true,[],rfl,λ_=>rfl,.bool true,Kw l _,λ_=>⟨List.Pairwise.nil,λ_ hm=>(nomatch hm)⟩⟩,h2,h3,h4⟩
end Att
variable {sp:L2.Sp}
namespace L2
open PySem PySem.Spec PyProof.Rows
theorem oD:∀{vs:List bn}{ns:List Int},tt vs ns->Vals (ns.map V.int) vs
 | _,_,.nil=>.nil
 | _,_,.cons n t h=>.cons ⟨t,rfl⟩ (oD h)
def Sx (H:Hp):Prop:=∀b,H b=bm\/∃o xs,H b=am (.cx o (.lst xs))
def Nv {K:Ab}{mb:Str->Option bn}{CX:Po}{fa:ce}{s₁:ci}{vs:List bn}
  (KX:K.In s₁.heap) (Gk:s₁.heap.Ns ev mg) (hb:s₁.heap.Ns builtinsNs mb) (hbb:∀x:Str,x≠"__name__"->mb x=lc x) (ads:s₁.heap.NoLimit) (hg:s₁.gens=#[])
  (ha:s₁.heap.get? a=am {cls:=.type "list",data:=.seq vs.toArray}) (hi:tt vs ns) (hl:ns.length<=sizeLine) (hr:cB k callerA)
  (F:∀base:lf,K.In base->base.Ns ev mg->iU P w K mg base CX k fa fd [x] sp) (ZJ:∀(s:ci) (u:bn),BindsTo s fd ⟨[u],[]⟩ [(x,u)])
  (RE:∀H:Hp,Sx H->cR K H a (ns.map V.int)->sp [.ref a] H (λv _=>v=.bl true) λ_ _ _=>False)
  (Ġ:∀H e s',CX [] H s₁ (λ_ _ _=>False) e s'->False) :
  zn (dL P w) callerA (.call (.ref fa) ⟨[.ref a],[]⟩) (λr s'=>r=.ok (.ret (.bool true))/\OldK s₁.heap s'.heap/\s'.os=s₁.os/\EQ s'.gens) s₁:=by
 have rv:=oD hi;have acO:=hi.length;have Ù:∀H:Hp,Sx H->cR K H a (ns.map V.int)->lG P w H s₁.heap->(∀b,H b≠bm->b=a)->(H a≠bm->K.lookup a=bm)->
   zn (dL P w) callerA (.call (.ref fa) ⟨[.ref a],[]⟩) (λr s'=>r=.ok (.ret (.bool true))/\OldK s₁.heap s'.heap/\s'.os=s₁.os/\EQ s'.gens) s₁:=by
  intro H hO hS bp hA hK;have J1:∀{b:ce}{o:Obj},s₁.heap.get? b=am o->H b=bm->(wY s₁.heap H).get? b=am o:=λe n=>N4 e n;have YU:∀{b:ce}{o:Obj}{es:Array DictEntry}{ep:Nat},s₁.heap.get? b=am o->o.data=.dict es ep->H b=bm:=λ{b o es ep} e d=>by
   cases q:H b with
   | none=>rfl
   | some u=>
    have e':b=a:=hA b (by rw [q];simp);subst e';rw [ha] at e;cases e;have d':EZ vs.toArray _=Data.dict es ep:=d;cases d'
  have ì:∀{b:ce}{m:Str->Option bn},s₁.heap.Ns b m->(wY s₁.heap H).Ns b m:=λ{b m} ⟨o,es,ep,e,d,r⟩=>⟨o,es,ep,J1 e (YU e d),d,r⟩;have hKb:K.In (wY s₁.heap H):=λb o e=>J1 (KX b o e) (by
   cases q:H b with
   | none=>rfl
   | some u=>
    have e':b=a:=hA b (by rw [q];simp);subst e';rw [hK (by rw [q];simp)] at e;cases e)
  have hM:Mod K mg (wY s₁.heap H):=⟨hKb,ì Gk,⟨mb,ì hb,hbb⟩,let ⟨mc,h1,h2⟩:=ads;⟨mc,ì h1,h2⟩⟩;have e0:SE P w K mg (wY s₁.heap H) callerA [] s₁ H:=⟨rfl,hM,λb o e=>QU e,Nat.le_of_eq (K8 _ _),trivial,λb hb=>absurd (show b∈([]:List ce) from hb) (by simp),bp,.of_eq hg⟩;refine codeAny_mono ((F _ hKb (ì Gk)).run callerA [] s₁ H ⟨[.ref a],[]⟩ [.ref a] [.ref a] _ _ hr e0 (ZJ s₁ (.ref a)) (.cons rfl .nil) (RE H hO hS)) λr s' h=>?_;cases r with
  | error e=>exact (Ġ H e s' h).elim
  | ok fl=>
   cases fl with
   | next=>exact Bo h
   | brk=>exact Bo h
   | cont=>exact Bo h
   | ret u=>
    obtain⟨v,H',os,bare,un,adp,r',q⟩:=h;have q':v=.bl true:=q;subst q';obtain rfl:u=CH true:=r';refine⟨rfl,OldK.of_keep λb o e=>?_,os,bare⟩;cases q:H b with
    | none=>exact un.keep b o e q (by intro z;exact absurd (show b∈([]:List ce) from z) (by simp)) (by simp)
    | some u=>
     rcases hO b with z | ⟨ob,xs,z⟩
     ·rw [q] at z;cases z
     ·have z2:=un.sJ b ob _ z;obtain⟨e1,_⟩:=bp b _ z;obtain⟨e2,_⟩:=adp b _ z2;rw [e] at e1;cases e1;exact e2
 cases hk:K.lookup a with
 | some o=>
  have e:=KX a o hk;rw [ha] at e;cases e;refine Ù (λ_=>bm) (λ_=>.inl rfl) (.inr ⟨_,vs.toArray,_,hk,rfl,rfl,rfl,by rw [Ai,acO];exact hl,by simpa using rv⟩) (λb u z=>by have z':(bm:Option HO)=am u:=z;cases z') (λb z=>absurd rfl z) λz=>absurd rfl z
 | none=>
  refine Ù (λb=>if b=a then am (.cx {cls:=.type "list",data:=.seq vs.toArray} (.lst (ns.map V.int))) else bm) (λb=>?_) (.inl (.inr ⟨{cls:=.type "list",data:=.seq vs.toArray},if_pos rfl⟩)) (λb u z=>?_) (λb z=>?_) λ_=>hk
  ·by_cases hb:b=a
   ·exact .inr ⟨_,_,if_pos hb⟩
   ·exact .inl (if_neg hb)
  ·by_cases hb:b=a
   ·have z':=(if_pos hb).symm.trans z;cases z';subst hb;exact⟨ha,by rw [Af];exact hl,vs,_,rv,ha⟩
   ·have z':=(if_neg hb).symm.trans z;cases z'
  ·by_cases hb:b=a
   ·exact hb
   ·exact absurd (if_neg hb) z
def PU {l:EH}{q:sK}{K:Params->Ab}{CX:tz->Po}{sp:tz->Sp}
  (hn:l.most=am n) (hn2:n<=sizeLine) (ZH:d.params.defaults=[]) (hr:cB k callerA)
  (hY:∀(w:tz) (h:lf),YP w h->(K w.params).In h)
  (F:∀(w:tz) (mg:Str->Option bn) (fa:ce) (h:lf),(K w.params).In h->h.Ns ev mg->mg d.name=am (.ref fa)->
   ∃fd:Db,(∀(s:ci) (u:bn),BindsTo s fd ⟨[u],[]⟩ [(x,u)])/\
    ∀base:lf,(K w.params).In base->base.Ns ev mg->iU l.prog w (K w.params) mg base (CX w) k fa fd [x] (sp w))
  (RE:∀(w:tz) (H:Hp) (a:ce) (ns:List Int),ns.length<=n->Sx H->cR (K w.params) H a (ns.map V.int)->sp w [.ref a] H (λv _=>v=.bl true) λ_ _ _=>False)
  (Ġ:∀(w:tz) (H:Hp) (s:ci) (e:bn) (s':ci),CX w [] H s (λ_ _ _=>False) e s'->False) :
  PySem.W.WalkO q Ð XP YP l.row.toRowW d [] (λf vs=>Fy f vs):=by
 refine Att.F0 hn ZH λw s₀ s₁ mg mb fa o pm cd È a vs ns G Y ho hd jq hmg VX Õ Â hg=>?_;have KX:=hY w _ Y;obtain⟨fd,hb,hF⟩:=F w mg fa _ KX G.T.g hmg;exact Nv KX G.T.g G.T.b G.T.builtins G.T.nolimit hg VX Õ (BA Â hn2) hr hF hb (λH hO hS=>RE w H a ns Â hO hS) λH e s'=>Ġ w H s₁ e s'
end L2
variable {B:Prop}
namespace L2
open PySem PySem.Spec PyProof.Rows
def fW (s:sn):Arguments:=match s with
 | .FunctionDef _ a _ _ _ _ _ _ _ _=>a
 | _=>{posonlyargs:=[],args:=[],vararg:=bm,kwonlyargs:=[],kw_defaults:=[],kwarg:=bm,defaults:=[]}
def aX (s:sn):List sn:=match s with
 | .FunctionDef _ _ b _ _ _ _ _ _ _=>b
 | _=>[]
def af (s:sn):pr:=match s with
 | .FunctionDef _ _ _ _ _ _ sc _ _ _=>sc
 | _=>{kind:=.function,names:=[],isGenerator:=false,isCoroutine:=false}
abbrev mm:Po:=λ_ _ _ _ _ _=>False
abbrev E0:XK:=λ_ _ _=>False
def YG:Passes mm X E0:=λ_ _ _ _ _ _ _ h=>h.elim
structure PK (K:Ab) (x qual:Str) (st:sn) (f:ce) (fd:Db):Prop where
 ex:∃(oc:bn) (od:Option ce) (kV È pm:bn) (an:Option ce) (bT ct:bn) (Pu:Array (Option bn)),
  fd=BR x qual (fW st) (aX st) (af st) .none kV È pm an bT ct/\K.lookup f=am ⟨oc,od,.func fd,Pu⟩/\DP K bT qual=true
 kp:DN K (.ref f)=true
section
variable {K:Ab}
def PK.ok {st:sn}{f:ce}{N:List Str} (F:PK K x qual st f fd) (S:ao N ps (af st)) (len:∀vs H Q E,sp vs H Q E->vs.length=ps.length)
  (N7:∀(bT:bn) (A:nn) (outer:List Env) (s:ci) (H:Hp) (vs:List V) (Q:VK) (E:XK),cB k (A.deeper (re qual (af st) s.heap.objs.size f bT))->sp vs H Q E->
   ∃t,qQ (gL mm P w K mg base N qual (af st) f bT A outer s H E).uE (aX st) t/\t {nx:=λ_ H'=>Q .aE H',rt:=Q} (start N vs) H):iU P w K mg base mm (k+1) f fd ps sp:=by
 obtain⟨oc,od,kV,È,pm,an,bT,ct,Pu,rfl,lk,jq⟩:=F.ex;refine ZX lk jq S len λA outer s H vs Q E hr RE=>?_;obtain⟨t,h,q⟩:=N7 bT A outer s H vs Q E hr RE;exact⟨t,h.uE,q⟩
def PK.binds {st:sn}{f:ce} (F:PK K x qual st f fd)
  (h:∀(kV È pm:bn) (an:Option ce) (bT ct:bn) (us:List bn),us.length=ps.length->bindArgs (BR x qual (fW st) (aX st) (af st) .none kV È pm an bT ct) ⟨us,[]⟩=pure (ps.zip us)):Binds K fd ps []:=by
 obtain⟨oc,od,kV,È,pm,an,bT,ct,Pu,rfl,lk,jq⟩:=F.ex;exact .all (h kV È pm an bT ct)
def Wa {st:sn}{f:ce}{kV:bn} (l:K.lookup f=am ⟨oc,od,.func (BR x qual (fW st) (aX st) (af st) .none kV È pm an bT ct),Pu⟩)
  (c:DP K bT qual=true) (k:DN K (.ref f)=true):PK K x qual st f (BR x qual (fW st) (aX st) (af st) .none kV È pm an bT ct):=⟨⟨oc,od,kV,È,pm,an,bT,ct,Pu,rfl,l,c⟩,k⟩
end
def Km (h:n<=1000):n < sizeLine:=Nat.lt_of_le_of_lt h ⋯
def wR {A:Prop} (h:B):if false=true then A else B:=by
 exact h
def wQ {A:Prop} (h:A):if true=true then A else B:=by
 exact h
def kR (H H':Hp):Prop:=∀b o,H b=am o->H' b=am o
def kR.refl (H:Hp):kR H H:=λ_ _ h=>h
end L2
variable {a b:Nat}{H2:L2.Hp}{R:PySem.Result->DJ->Prop}{Xs:PySem.Scope}{N':List BX}{ix:List (Option Nat)}{Ä:B2}{Ê:List B2}{j9:B7}
namespace L2
open PySem PySem.Spec PyProof.Rows
def lsz {o:Obj} (e:h.get? b=am o):b < h.objs.size:=Aq e
def neN (h:a≠b):a≠b:=h
def ltN (h:a < b):a < b:=h
def TY {c:Nat}{v:Option bn} (q:h.IsCell c v):c < h.objs.size:=q.lt
structure aw (Xs:pr) (N:List Str) (sc:pr) (N':List Str) (ix:List (Option Nat)):Prop where
 kind:sc.kind=.function
 nc:∀y∈sc.names,y.2≠.cell
 loc:∀y∈sc.names,y.2=.local->sc.names.lookup y.1=am .local
 fr:∀y∈sc.names,y.2=.free->(Xs.names.lookup y.1=am .cell\/Xs.names.lookup y.1=am .free)
 nd:N'.Nodup
 len:ix.length=N'.length
 map:((ix.zip N').all λp=>match p.1 with | none=>true | some j=>decide (N[j]?=am p.2)&&decide (sc.names.lookup p.2=am .free))=true
def aw.at {N:List Str} (S:aw Xs N sc N' ix) {i:Nat} (h1:ix[i]?=am (am j)) (h2:N'[i]?=am x) :
  N[j]?=am x/\sc.names.lookup x=am .free:=by
 have hm:((am j,x):Option Nat×Str)∈ix.zip N':=by
  refine Bh (i:=i) ?_;rw [List.getElem?_zip_eq_some];exact⟨h1,h2⟩
 have q:=CM.mp S.map _ hm;simp only [AN,decide_eq_true_eq] at q;exact q
def n6 (ix:List (Option Nat)) (σ:St):St:=ix.map λo=>match o with | some j=>(σ[j]?).getD bm | none=>bm
def fg (X:Cx) (sc:pr) (N':List Str) (cl:List (Str×ce)) (C:ce) (s2:ci) (H2:Hp) (fp:List ce):Cx where
 prog:=X.prog
 w:=X.w
 K:=X.K
 mg:=X.mg
 base:=X.base
 A:=X.A
 N:=N'
 s₀:=s2
 H₀:=H2
 env:=compEnvC sc cl C X.env
 outer:=X.stack
 stack:=X.stack
 ex:=fp
 calm:=X.calm
 fn:=λ_=>false
 pn:=[]
 xe:=λ_ _=>False
theorem mJ:∀(names:List (Str×wn)) (cs:List (Str×ce)),(∀y∈names,y.2=.free->∃c,env.cells.lookup y.1=am c)->
  ∃cl,(forIn names cs λ(x:Str×wn) (c:List (Str×ce))=>(match x with | (name,kind)=>do
    let c <- if (kind==Bb)=true then do let a <- cellOf env name;pure ((name,a)::c) else pure c
    pure (Ce c):Sem (ForInStep (List (Str×ce)))))=pure cl/\(∀x c,cl.lookup x=am c->cs.lookup x=am c\/(env.cells.lookup x=am c/\(x,Bb)∈names))/\(∀x,((x,Bb)∈names\/(∃c,cs.lookup x=am c))->∃c,cl.lookup x=am c)
 | [],cs,_=>⟨cs,rfl,λ_ _ h=>.inl h,λx h=>h.elim (λz=>nomatch z) λz=>z⟩
 | (n,k)::r,cs,h=>by
  by_cases hk:k=.free
  ·subst hk;obtain⟨c,hc⟩:=h (n,.free) Bs rfl;obtain⟨cl,e,h1,h2⟩:=mJ r ((n,c)::cs) λy hy=>h y (AR _ hy);refine⟨cl,?_,λx d hd=>?_,λx hx=>?_⟩
   ·rw [BM,<- e];simp only [beq_self_eq_true,if_true,cellOf,hc,pure_bind]
   ·rcases h1 x d hd with z | ⟨z1,z2⟩
    ·rw [Bf] at z;by_cases hx:(x==n)=true
     ·rw [hx] at z;have uU:x=n:=eq_of_beq hx;subst uU;cases z;exact .inr ⟨hc,Bs⟩
     ·have uU:(x==n)=false:=by simpa using hx
      rw [uU] at z;exact .inl z
    ·exact .inr ⟨z1,AR _ z2⟩
   ·refine h2 x ?_;rcases hx with hx | ⟨d,hd⟩
    ·rcases Aw.mp hx with z | z
     ·injection z with z1 _;subst z1;exact .inr ⟨c,by rw [Bf];simp⟩
     ·exact .inl z
    ·by_cases hx:(x==n)=true
     ·exact .inr ⟨c,by rw [Bf,hx]⟩
     ·have uU:(x==n)=false:=by simpa using hx
      exact .inr ⟨d,by rw [Bf,uU];exact hd⟩
  ·obtain⟨cl,e,h1,h2⟩:=mJ r cs λy hy=>h y (AR _ hy);refine⟨cl,?_,λx d hd=>?_,λx hx=>?_⟩
   ·have hb:(k==Bb)=false:=by simpa using hk
    rw [BM,<- e];simp only [hb,Au,if_false,pure_bind]
   ·rcases h1 x d hd with z | ⟨z1,z2⟩
    ·exact .inl z
    ·exact .inr ⟨z1,AR _ z2⟩
   ·refine h2 x ?_;rcases hx with hx | hx
    ·rcases Aw.mp hx with z | z
     ·injection z with _ z2;exact absurd z2.symm hk
     ·exact .inl z
    ·exact .inr hx
def mf (h:∀y∈sc.names,y.2=.free->∃c,env.cells.lookup y.1=am c) :
  ∃cl,closureFor sc env=pure cl/\(∀x c,cl.lookup x=am c->env.cells.lookup x=am c/\(x,Bb)∈sc.names)/\(∀x,(x,Bb)∈sc.names->∃c,cl.lookup x=am c):=by
 obtain⟨cl,e,h1,h2⟩:=mJ (env:=env) sc.names [] h;refine⟨cl,?_,λx c hc=>(h1 x c hc).resolve_left (λz=>nomatch z),λx hx=>h2 x (.inl hx)⟩;unfold closureFor;have e':(forIn sc.names ([]:List (Str×ce)) λx r=>(match x with | (name,kind)=>if (kind==Bb)=true then do let a <- cellOf env name;pure (Ce ((name,a)::r)) else pure (Ce r):Sem (ForInStep (List (Str×ce)))))=pure cl:=by
  rw [<- e]
  first
   | rfl
   | (
     congr 1;funext x r;obtain⟨n,k⟩:=x;by_cases hk:(k==Bb)=true
     ·simp only [hk,if_true,pure_bind]
     ·simp only [hk,if_false,pure_bind,Au])
   | simp only [pure_bind]
 simpa using e'
theorem gq {env:Env}:∀{names:List (Str×wn)}{x:Str},
  (names.map λ(n,k)=>if (k==Bb&&env.scope.kind==.function&&env.kindOf n==am .cell) then (n,Fc) else (n,k)).lookup x =
   (names.lookup x).map λk=>if (k==Bb&&env.scope.kind==.function&&env.kindOf x==am .cell) then Fc else k
 | [],_=>rfl
 | (n,k)::r,x=>by
  have ih:=@gq env r x;show List.lookup x ((if (k==Bb&&env.scope.kind==.function&&env.kindOf n==am .cell)=true then (n,Fc) else (n,k))::_)=_;cases hx:x==n with
  | true=>
   have e:=eq_of_beq hx;subst e;by_cases hc:(k==Bb&&env.scope.kind==.function&&env.kindOf x==am .cell)=true
   ·rw [if_pos hc,Bf,Bf,hx];simp only [Cs,hc,if_true]
   ·rw [if_neg hc,Bf,Bf,hx];simp only [Cs,hc,if_false];simp
  | false=>
   by_cases hc:(k==Bb&&env.scope.kind==.function&&env.kindOf n==am .cell)=true
   ·rw [if_pos hc,Bf,Bf,hx];exact ih
   ·rw [if_neg hc,Bf,Bf,hx];exact ih
def Xv (X:Cx) (Ê:List ii) (t:TT):Prop:=
 ∀(Z:List (ce×Obj)) (s:ci) (σ:St) (H:Hp) (Q:Bool->Hp->Prop),Inv X Z σ H s->t σ H Q->
  db (dL X.prog X.w) X.A (forIn Ê true λc r=>if r=true then do let ok <- isTrue c X.env (kw c X.env);pure (Ce ok) else pure (Ce r)) (TP X Z σ Q) X.xe s
def acm:TT:=λ_ H Q=>Q true H
def QA:Xv X [] acm:=λZ s σ H Q I h=>by
 exact Ae ⟨H,I,h⟩
def Qz {c:ii}{t:TT} (hc:PT X c t):Xv X [c] t:=λZ s σ H Q I h=>by
 rw [BM];simp only [if_true,bind_assoc,pure_bind];refine Aa (bZ (hc Z s σ H Q I h) λb s1 q=>?_);exact Ae q
def tLc (ix:List (Option Nat)) (wi:TI) (g:TG) (tf:TT) (te:TE):TE:=λσ H Q=>wi σ H λJ H1=>∀D,H1 D=bm->∃W:Nat->Nat->St->List V->Hp->Prop,
 (∃m,W 0 m (n6 ix σ) [] (upd H1 D (.lst [])))/\∀i m σ' ys H,W i m σ' ys H->H D=am (.lst ys)/\
  ((J.stop i H/\Q (.ref D) H)\/(J.go i H/\∀x H',J.SK i H x H'->g x σ' H' λσ2 H2=>tf σ2 H2 λb H3=>
   if b=true then te σ2 H3 λy H4=>H4 D=am (.lst ys)/\ys.length+1<=sizeLine/\∃m',m' < m/\W (i+1) m' σ2 (ys++[y]) (upd H4 D (.lst (ys++[y]))) else ∃m',m' < m/\W (i+1) m' σ2 ys H3))
def lM {É:ii}{it Å:bn} (I:Nat->ci->Prop)
  (turn:∀n s,I n s->db (dL prog w) A (pyNext it) (λr s₁=>match r with
   | none=>R (.ok .next) s₁
   | some v=>db (dL prog w) A (Fa É it v) (λ_ SO=>db (dL prog w) A (Da É env v) (λ_ s₂=>
     db (dL prog w) A (forIn Ê true λc r=>if r=true then do let ok <- isTrue c env (kw c env);pure (Ce ok) else pure (Ce r)) (λok s₃=>
      if ok=true then db (dL prog w) A (kw Ä env) (λx s₄=>
       db (dL prog w) A (call (.builtin "list.append") [Å,x]) (λ_ s₅=>∃m,m < n/\I m s₅) (λ_ _=>False) s₄) (λ_ _=>False) s₃
      else ∃m,m < n/\I m s₃) (λ_ _=>False) s₂) (λ_ _=>False) SO) (λ_ _=>False) s₁) (λ_ _=>False) s)
  (n:Nat) (h:I n s) :
  zn (dL prog w) A (.compLoop (.ListComp Ä [⟨É,iter,Ê,0⟩] scope pos) 0 it Å env) R s:=by
 refine codeAny_loop rfl I (λn s hI=>?_) n h;refine wpAny_noted ?_;rw [compTurn_list];refine Aa (Ed (Aa (BH (turn n s hI) (λr s₁ h₁=>?_) λ_ _ h'=>h'.elim)));cases r with
 | none=>exact Ae h₁
 | some v=>
  refine Aa (BH h₁ (λ_ SO Zl=>?_) λ_ _ h'=>h'.elim);refine Aa (BH Zl (λ_ s₂ h₂=>Aa (BH h₂ (λok s₃ h₃=>?_) λ_ _ h'=>h'.elim)) λ_ _ h'=>h'.elim);cases ok with
  | false=>exact Ae ⟨rfl,h₃⟩
  | true=>
   have Zk:db (dL prog w) A (kw Ä env) (λx s₄=>
       db (dL prog w) A (call (.builtin "list.append") [Å,x]) (λ_ s₅=>∃m,m < n/\I m s₅) (λ_ _=>False) s₄) (λ_ _=>False) s₃:=h₃
   exact Aa (Aa (BH Zk (λx s₄ h₄=>Aa (BH h₄ (λ_ s₅ h₅=>Ae (Ae ⟨rfl,h₅⟩)) λ_ _ h'=>h'.elim)) λ_ _ h'=>h'.elim))
section
variable {g:TG}{tf:TT}
structure aaB (X:Cx) (Z:List (ce×Obj)) (H:Hp) (C:ce):Prop where
 hn:H C=bm
 hL:C≠X.env.locals
 ab:X.s₀.heap.objs.size<=C
 cl:∀x c,X.env.cells.lookup x=am c->c≠C
 pn:∀p∈X.pn++Z,p.1≠C
theorem Jz (hc:X.calm=true) (S:aw X.env.scope X.N sc N' ix)
  (hg:∀cl C s2 H2 fp,PG (fg X sc N' cl C s2 H2 fp) tg g) (hf:∀cl C s2 H2 fp,Xv (fg X sc N' cl C s2 H2 fp) Ê tf) (he:∀cl C s2 H2 fp,PE (fg X sc N' cl C s2 H2 fp) Ä te) {s2:ci}{cl:List (Str×ce)} (sC:∀x c,cl.lookup x=am c->X.env.cells.lookup x=am c/\(x,Bb)∈sc.names) (K9:∀x,(x,Bb)∈sc.names->∃c,cl.lookup x=am c) {tn:Nat->lf->Prop}{J:It}{Q:VK} (I2:Inv X Z σ H2 s2) (T:Turn X.prog X.w X.K tg J fp it tn) (Kk:tn 0 s2.heap) (f2:∀b∈fp,uq X Z H2 b)
  (hW:∀D,H2 D=bm->∃W:Nat->Nat->St->List V->Hp->Prop,
   (∃m,W 0 m (n6 ix σ) [] (upd H2 D (.lst [])))/\∀i m σ' ys H,W i m σ' ys H->H D=am (.lst ys)/\
    ((J.stop i H/\Q (.ref D) H)\/(J.go i H/\∀x H',J.SK i H x H'->g x σ' H' λσ2 H2=>tf σ2 H2 λb H3=>
     if b=true then te σ2 H3 λy H4=>H4 D=am (.lst ys)/\ys.length+1<=sizeLine/\∃m',m' < m/\W (i+1) m' σ2 (ys++[y]) (upd H4 D (.lst (ys++[y]))) else ∃m',m' < m/\W (i+1) m' σ2 ys H3)))
  {RR:bn->ce->Result->ci->Prop}{E:bn->ci->Prop}
  (hRR:∀D C m s' H',Inv X Z σ H' s'->Q (.ref D) H'->s'.heap.Ns C m->aaB X Z H' C->RR (.ref D) C (.ok .next) s') :
  db (dL X.prog X.w) X.A (newList []) (λÅ s₃=>db (dL X.prog X.w) X.A (newFunctionEnv sc X.env.globals cl [] X.env.qual bm .none (am X.env)) (λaan s₄=>
   zn (dL X.prog X.w) X.A (.compStart (.ListComp Ä [⟨tg,iter,Ê,0⟩] sc pos) 0 (.ref it) Å {aan with scope:=relabel sc X.env}) (RR Å aan.locals) s₄) E s₃) E s2:=by
 refine A1 (wpAny_newFunctionEnv S.nc (by intro y hy;simp at hy) (λh₁ Hs wV=>?_) S.kind);generalize hH2:s2.heap.push {cls:=.type "list",dict:=bm,data:=.seq ([]:List bn).toArray}=G2 at Hs wV ⊢;have hC:G2.objs.size=s2.heap.objs.size+1:=by rw [<- hH2,Ck]
 obtain⟨D,hD⟩:∃D:Nat,s2.heap.objs.size=D:=⟨_,rfl⟩;obtain⟨C,hCC⟩:∃C:Nat,G2.objs.size=C:=⟨_,rfl⟩;simp only [hD,hCC] at Hs wV hC ⊢;have hDC:D≠C:=by omega
 have Ì:∀b o,s2.heap.get? b=am o->h₁.get? b=am o:=λb o e=>by
  have hb:=lsz e;exact wV.extBut b o (neN ∅) (Ag _ (hH2▸Ag _ e))
 have ZL:h₁.get? D=am {cls:=.type "list",data:=.seq ([]:List bn).toArray}:=by
  refine wV.extBut D _ hDC (Ag _ ?_);rw [<- hH2,<- hD];exact Ao _ rfl
 have hD2:H2 D=bm:=I2.bp.fresh ∅;have hC2:H2 C=bm:=I2.bp.fresh ∅;obtain⟨W,⟨m0,w0⟩,turn⟩:=hW D hD2;have TX:∀x c,cl.lookup x=am c->∃v,s2.heap.IsCell c v:=λx c e=>I2.cell x c (sC x c e).1;have ad9:∀x c,cl.lookup x=am c->c < D:=λx c e=>by
  obtain⟨v,q⟩:=TX x c e;have:=TY q;exact ltN ∅
 have Ĥ:∀b∈fp,b < D:=λb hb=>by
  obtain⟨o,e,_⟩:=T.obj 0 _ Kk b hb;have:=lsz e;exact ltN ∅
 have Yok:(fg X sc N' cl C s2 H2 fp).Ok:=by
  refine⟨I2.ok.mod,S.kind,I2.ok.glob,I2.ok.blt,?_,?_,?_,?_,I2.ok.hd,I2.ok.frames,.inl rfl,?_,I2.bs,?_,?_,?_,I2.stack,I2.IM⟩
  ·show s2.heap.objs.size<=C;omega
  ·intro x y c e1 e2;exact I2.ok.inj x y c (sC x c e1).1 (sC y c e2).1
  ·intro x hx;have uU:(relabel sc X.env).names.lookup x=am .cell\/(relabel sc X.env).names.lookup x=am .free:=hx;unfold relabel at uU;rw [gq] at uU;cases q:sc.names.lookup x with
   | none=>rw [q] at uU;simp at uU
   | some k=>
    have hm:=BI q;by_cases hk:k=.free
    ·subst hk;exact K9 x hm
    ·have VZ:k≠.cell:=S.nc _ hm;rw [q] at uU;have hb:(k==Bb)=false:=by simpa using hk
     simp only [Cs,hb,E6,Au,if_false] at uU;rcases uU with z | z
     ·exact absurd (Option.some.inj z) VZ
     ·exact absurd (Option.some.inj z) hk
  ·intro x c ZG;exact absurd ZG AX
  ·intro b hb;refine⟨?_,λx c e z=>(f2 b hb).2.2.2.2.1 x c (sC x c e).1 z⟩;show b≠C;have:=ltN (Ĥ b hb);exact neN ∅
  ·exact BA I2.ok.TZ I2.sz
  ·intro b o e hb;rcases (f2 b hb).2.2.2.1 with z | z
   ·exact I2.ok.Ng b o e z
   ·have h1:=lsz (h:=X.base) e;have h2:=I2.ok.TZ;omega
  ·intro b hb z;rcases Aw.mp (I2.GB b z) with q | q
   ·exact (f2 b hb).2.1 q
   ·exact (f2 b hb).2.2.1 q
 have un0:Un (LO X.stack) fp H2 (upd H2 D (.lst [])) s2.heap h₁:=Un.laid Ì ∅ hD2;have ado:lG X.prog X.w (upd H2 D (.lst [])) h₁:=I2.bp.laid Ì ∅ ⟨Ba _,[],0,.nil,ZL⟩;have IY:∀tk,Inv (fg X sc N' cl C s2 H2 fp) [] (n6 ix σ) (upd H2 D (.lst [])) {s2 with heap:=h₁,toks:=tk}:=λtk=>by
  refine⟨Yok,rfl,I2.bare,un0,⟨_,Hs,λi x v e1 e2 e3=>?_⟩,λx c e=>?_,?_,λx c e=>?_,λp hp=>absurd (show p∈([]:List (ce×Obj)) from hp) (by simp),ado,?_⟩
  ·have qp:N'[i]?=am x:=e1;unfold n6 at e2;rw [Aj] at e2;cases q:ix[i]? with
   | none=>rw [q] at e2;cases e2
   | some o=>
    cases o with
    | none=>rw [q] at e2;cases e2
    | some j=>
     rw [q] at e2;have þ:(σ[j]?).getD bm=am v:=Option.some.inj e2;have e4:σ[j]?=am (am v):=by
      cases z:σ[j]? with
      | none=>rw [z] at þ;cases þ
      | some y=>rw [z] at þ;exact congrArg am þ
     obtain⟨a1,a2⟩:=S.at q qp;have Zw:=BI a2;have hk:=S.fr _ Zw rfl;obtain⟨m,_,hl⟩:=I2.loc;obtain⟨u,r,l⟩:=hl j x v a1 e4 (.inr hk);refine⟨u,r,.inr ⟨?_,?_⟩⟩
     ·show (relabel sc X.env).names.lookup x=am .cell\/(relabel sc X.env).names.lookup x=am .free;unfold relabel;rw [gq,a2];by_cases hb:(X.env.scope.kind==.function&&X.env.kindOf x==am .cell)=true
      ·left
       simp only [Cs,beq_self_eq_true,Fd,hb,if_true]
      ·right
       simp only [Cs,beq_self_eq_true,Fd,hb,if_false,Au]
     ·obtain⟨c,hcx⟩:=K9 x Zw;have hcX:=(sC x c hcx).1;refine⟨c,hcx,?_⟩;rcases l with⟨k,_⟩ | ⟨k,c',e',z⟩
      ·have k':X.env.scope.names.lookup x=am .local:=k;rcases hk with y | y <;> rw [k'] at y <;> cases y
      ·rw [hcX] at e';cases e';obtain⟨o,ho,hd⟩:=z;exact⟨o,Ì _ _ ho,hd⟩
  ·obtain⟨v,o,ho,hd⟩:=TX x c e;exact⟨v,o,Ì _ _ ho,hd⟩
  ·show upd H2 D (.lst []) C=bm;rw [av (Bz hDC)];exact hC2
  ·have gZ:=ltN (ad9 x c e);show upd H2 D (.lst []) c=bm;rw [av (neN ∅)];exact I2.j5 x c (sC x c e).1
  ·unfold n6;rw [Af];exact S.len
 have ģ:∀{yY:List (ce×Obj)}{H':Hp},(∀b∈fp,H' b=bm)->(∀p∈yY,p.1∉fp)->∀b∈fp,uq (fg X sc N' cl C s2 H2 fp) yY H' b:=λhn hp b hb=>by
  refine⟨hn b hb,?_,?_,.inl hb,λx c e z=>(f2 b hb).2.2.2.2.1 x c (sC x c e).1 z,λp ē z=>?_⟩
  ·show b≠C;have:=ltN (Ĥ b hb);exact neN ∅
  ·exact Yok.Ox b hb
  ·have adj:p∈([]:List (ce×Obj))++_:=ē;exact hp p adj (z▸hb)
 have ã:∀s₃:ci,s₃={s2 with heap:=h₁,toks:=s2.toks+([]:List (Str×bn)).length}->
   zn (dL X.prog X.w) X.A (.compLoop (.ListComp Ä [⟨tg,iter,Ê,0⟩] sc pos) 0 (.ref it) (.ref D) (compEnvC sc cl C X.env)) (RR (.ref D) C) s₃:=by
  rintro s₃ rfl;refine lM (λn s'=>∃i σ' ys H',Inv (fg X sc N' cl C s2 H2 fp) [] σ' H' s'/\tn i s'.heap/\(∀b∈fp,H' b=bm)/\W i n σ' ys H') ?_ m0
   ⟨0,_,[],_,IY _,T.keep _ _ _ Kk (λb _ o e=>Ì b o e),λb hb=>by rw [av (Az (Ĥ b hb))];exact (f2 b hb).1,w0⟩
  rintro n s3 ⟨i,σ3,ys,H3,I3,Yd,ZT,w3⟩;obtain⟨hDl,w3⟩:=turn i n σ3 ys H3 w3;rcases w3 with⟨stop,qn⟩ | ⟨go,step⟩
  ·refine bZ (T.done (fg X sc N' cl C s2 H2 fp) rfl rfl rfl hc i [] s3 σ3 H3 _ I3 (ģ ZT (by simp)) Yd stop) λr s4 ⟨hr,I4⟩=>?_;subst hr;obtain⟨m,hn,_⟩:=I4.loc;refine hRR D C m s4 H3 (I2.aao (ch:=fp) I4.os I4.base I4.bp I4.bare λb hb=>?_) qn hn ?_
   ·obtain⟨a0,a1,a2,a3,a4,a5⟩:=f2 b hb;exact⟨a3,a1,a4,a5⟩
   ·refine⟨I4.free,?_,?_,λx c e z=>?_,λp hp z=>?_⟩
    ·have:=ltN I2.lt;exact neN ∅
    ·have:=I2.sz;omega
    ·obtain⟨v,q⟩:=I2.cell x c e;have:=TY q;exact neN (a:=c) (b:=C) ∅ z
    ·have:=lsz (I2.pin p hp).1;exact neN (a:=p.1) (b:=C) ∅ z
  ·refine bZ (T.item (fg X sc N' cl C s2 H2 fp) rfl rfl rfl hc i [] s3 σ3 H3 (λ_ _=>False) I3 (ģ ZT (by simp)) Yd go) λr s4 ⟨u,hr,h4⟩=>?_;subst hr;refine bZ h4 λ_ s5 ⟨x,H5,I5,r5,y5,Us,Ģ⟩=>?_;have Ħ:=I5.pinned (ģ Ģ (by simp)) (T.obj _ _ Us);refine bZ (hg _ _ _ _ _ _ s5 σ3 H5 x u _ Ħ r5 (step x H5 y5)) λ_ s6 ⟨σ6,H6,I6,q6⟩=>?_;refine bZ (hf _ _ _ _ _ _ s6 σ6 H6 _ I6 q6) λb s7 ⟨H7,I7,q7⟩=>?_;have NA:∀{s8:ci}{σ8:St}{H8:Hp},Inv (fg X sc N' cl C s2 H2 fp) ([]++oS fp s5.heap) σ8 H8 s8->tn (i+1) s8.heap/\∀b∈fp,H8 b=bm:=λ{s8 σ8 H8} I8=>by
    refine⟨T.keep _ _ _ Us λb hb o e=>(I8.pin (b,o) (A3 _ (A3 _ (jg hb e)))).1,λb hb=>?_⟩;obtain⟨o,e,d⟩:=T.obj _ _ Us b hb;exact (I8.pin (b,o) (A3 _ (A3 _ (jg hb e)))).2.1
   cases b with
   | false=>
    have q7':=q7;obtain⟨m',hm,w7⟩:=q7';obtain⟨t7,fr7⟩:=NA I7;exact⟨m',hm,i+1,σ6,ys,H7,I7.kj,t7,fr7,w7⟩
   | true=>
    refine bZ (he _ _ _ _ _ _ s7 σ6 H7 _ I7 q7) λyv s8 ⟨y,H8,I8,r8,hD8,hz8,m',hm,w8⟩=>?_;obtain⟨z,aq,k,rv,hl8,e8⟩:=I8.qb hD8;obtain⟨t8,fr8⟩:=NA I8;refine wpAny_list_append_plain (s:=s8) (items:=aq.toArray) (hsz:=by rw [Ai];omega) ⟨_,e8⟩ λh9 hl9 hs9=>?_;obtain⟨k9,e9⟩:=hl9;have hv9:=Vals.append rv (.cons r8 .nil);have I9:Inv (fg X sc N' cl C s2 H2 fp) ([]++oS fp s5.heap) σ6 (upd H8 D (.lst (ys++[y]))) {s8 with heap:=h9,toks:=s8.toks}:=by
     refine I8.write (x:=D) (e:=D) (by rw [hD8];exact trivial) (.inl rfl) (λb u hb hu=>(hs9.2 b hb).trans hu) ⟨_,e9⟩ ?_;refine⟨by rw [Ah,C8];exact hz8,aq++[yv],k9,hv9,?_⟩;rw [e9];simp
    obtain⟨t9,fr9⟩:=NA I9;exact⟨m',hm,i+1,σ6,_,_,I9.kj,t9,fr9,w8⟩
 exact codeAny_compStart_list (ã _ rfl) (T.self _ 0 _ _ _ (T.keep _ _ _ Kk λb _ o e=>Ì b o e) (ã _ rfl))
def YD (hc:X.calm=true) (S:aw X.env.scope X.N sc N' ix) (hi:PI X tg iter wi)
  (hg:∀cl C s2 H2 fp,PG (fg X sc N' cl C s2 H2 fp) tg g) (hf:∀cl C s2 H2 fp,Xv (fg X sc N' cl C s2 H2 fp) Ê tf) (he:∀cl C s2 H2 fp,PE (fg X sc N' cl C s2 H2 fp) Ä te)
  (hs:tJ X iter:=by intro _;rfl):PE X (.ListComp Ä [⟨tg,iter,Ê,0⟩] sc pos) (tLc ix wi g tf te):=by
 intro Z s σ H Q I h;have Ht:∀y∈sc.names,y.2=.free->∃c,X.env.cells.lookup y.1=am c:=λy hy hk=>I.ok.has y.1 (S.fr y hy hk);obtain⟨cl,N5,sC,K9⟩:=mf Ht;refine Ef (use:=bm) rfl hs N5 S.kind S.loc (bZ (hi Z s σ H _ I h) λv s1 h1=>bZ h1 λï s2 h2=>?_);obtain⟨it,fp,tn,J,H2,rfl,I2,T,Kk,f2,hW⟩:=h2;refine Jz (RR:=λÅ C=>compPost (dL X.prog X.w) X.A X.xe bm (EP X Z σ Q) Å C) hc S hg hf he sC K9 I2 T Kk f2 hW λD C m s' H' I' q hn F=>?_;refine⟨m,hn,λh' Ē=>⟨.ref D,H',?_,rfl,q⟩⟩;exact I'.turned (it:=C) (t':=s'.toks) (λb o hb e=>(Ē.2 b hb).trans e) F.hn F.hL (.inr F.ab) F.cl F.pn
def yU {i:Nat} (hc:X.calm=true) (hN:X.N.Nodup) (wZ:X.N[i]?=am x) (hx:X.env.scope.names.lookup x=am .local) (S:aw X.env.scope X.N sc N' ix) (hi:PI X tg iter wi)
  (hg:∀cl C s2 H2 fp,PG (fg X sc N' cl C s2 H2 fp) tg g) (hf:∀cl C s2 H2 fp,Xv (fg X sc N' cl C s2 H2 fp) Ê tf) (he:∀cl C s2 H2 fp,PE (fg X sc N' cl C s2 H2 fp) Ä te)
  (nM:im (.ListComp Ä [⟨tg,iter,Ê,0⟩] sc pos) (am (.Name x px)) j9.line X.env=pure true:=by rfl)
  (hs:tJ X iter:=by intro _;rfl):PS X (.Assign [.Name x px] (.ListComp Ä [⟨tg,iter,Ê,0⟩] sc pos) j9) (Um (tLc ix wi g tf te) (dZ i)):=by
 intro Z s σ H D0 I h;rw [exec_Assign_Name_used _ _ _ _ nM];refine Aa (Ed (Aa ?_));show db _ X.A (do let _ <- comprehension (.ListComp Ä [⟨tg,iter,Ê,0⟩] sc pos) sc X.env _ (newList []) false (kw iter X.env) (am (Da (.Name x px) X.env))) _ _ s;have Ht:∀y∈sc.names,y.2=.free->∃c,X.env.cells.lookup y.1=am c:=λy hy hk=>I.ok.has y.1 (S.fr y hy hk);obtain⟨cl,N5,sC,K9⟩:=mf Ht;refine Aa (BH (Ef (use:=am (Da (.Name x px) X.env)) (Q:=λ_ s'=>SP X Z D0 .next s') rfl hs N5 S.kind S.loc (bZ (hi Z s σ H _ I h) λv s1 h1=>bZ h1 λï s2 h2=>?_)) (λ_ s' hq=>Ae (Ae hq)) λ_ _ e=>e);obtain⟨it,fp,tn,J,H2,rfl,I2,T,Kk,f2,hW⟩:=h2;refine Jz (RR:=λÅ C=>compPost (dL X.prog X.w) X.A X.xe (am (Da (.Name x px) X.env)) (λ_ s'=>SP X Z D0 .next s') Å C) (Q:=λx H1=>dZ i x σ H1 D0.nx) hc S hg hf he sC K9 I2 T Kk f2 hW λD C m s' H' I' q hn F=>?_;show db _ X.A (Da (.Name x px) X.env (.ref D)) _ _ _;refine wpAny_assign_Name (uy (v:=.ref D) I' hN wZ (.inl hx) rfl (λYi I'' đ=>?_) (.inr hx));obtain⟨a,đ,ha⟩:=đ;have haC:C≠a:=by
  rcases ha with z | z
  ·rw [z];exact F.hL
  ·exact Bz (F.cl _ _ z)
 refine⟨m,hn.sameBut đ haC,λh' Ē=>⟨_,H',?_,q⟩⟩;exact I''.turned (it:=C) (t':=Yi.toks) (λb o hb e=>(Ē.2 b hb).trans e) F.hn F.hL (.inr F.ab) F.cl F.pn
end
end L2
variable {a b:B2}
namespace L2
open PySem PySem.Spec PyProof.Rows
section
def pT:bE X (.builtin "isinstance") (λxs H Q=>∃x c t b,xs=[x,.ty c]/\lN X.K H x t/\Bq X.K t (.type c)=am b/\Q (.bl b) H):=by
 intro Z s σ H xs us Q I r h;obtain⟨x,c,t,b,rfl,ty,hk,q⟩:=h;obtain⟨u,w',rfl,ru,vL⟩:=vals2 r;cases (show w'=BP c from vL);exact K1 I ru ty hk λtk=>⟨.bl b,H,I.tok _,rfl,q⟩
def Kz (hu:X.A.units < o0):iz X (lw .NotEq) (λx y H Q=>∃p q xs,x=.ref p/\y=.ref q/\cR X.K H p xs/\cR X.K H q []/\Q (.bl (!xs.isEmpty)) H):=by
 intro Z s σ H x y v u Q I rx ry h;obtain⟨p,q,xs,rfl,rfl,hp,hq,k⟩:=h;cases rx;cases ry;obtain⟨aq,r,pl,hz⟩:=I.list hp;obtain⟨cH,r2,YB,hz2⟩:=I.list hq;cases r2;cases xs with
 | nil=>
  cases r;refine D9 (Ff (e:=λ_=>true) pl.isList YB.isList rfl hu λj h1=>absurd h1 (by simp)) ?_;exact⟨.bl false,H,I,rfl,k⟩
 | cons y ys=>
  have hl:=r.length;refine D9 (DQ pl.isList YB.isList (by simp at hl ⊢;intro z;subst z;simp at hl) hu) ?_;exact⟨.bl true,H,I,rfl,k⟩
def O6 {bs:List Bool}:∀{us:List bn},Vals (bs.map V.bl) us->us=bs.map CH:=by
 induction bs with
 | nil=>intro us r;rw [DL] at r;cases r;rfl
 | cons n ns ih=>
  intro us r;cases r with
  | cons r1 r2=>
   cases r1;rw [ih r2];rfl
def Ih (hc:X.calm=true):bE X (.builtin "any") (λxs H Q=>∃(p:ce) (bs:List Bool),xs=[.ref p]/\cR X.K H p (bs.map V.bl)/\Q (.bl (bs.any id)) H):=by
 intro Z s σ H xs us Q I r h;obtain⟨p,bs,rfl,hp,q⟩:=h;obtain⟨u,rfl,ru⟩:=vals1 r;cases ru;obtain⟨aq,rv,pl,hz⟩:=I.list hp;have eb:=O6 rv;subst eb;have hl:=pl.isList;have gZ:p < s.heap.objs.size:=by obtain⟨_,e,_⟩:=hl;exact Aq e
 refine call_any_walk (CC hl ?_);refine⟨s.heap.objs.size,[s.heap.objs.size,p],[s.heap.objs.size],(bs.map CH).toArray.size,_,_,λi=>(bs[i]?).getD false,rfl,Walks.list (A:=X.A.in1) (I.ok.hd hc) _ p (Az gZ) (bs.map CH).toArray,
  ⟨⟨_,Ao _ rfl,rfl,rfl⟩,hl.push _⟩,λi v s' Q' E' hP hQ=>?_,λh' tk hk=>?_⟩
 ·have Ob:(bs.map CH)[i]?=am v:=by simpa using hP
  rw [Aj] at Ob;cases e:bs[i]? with
  | none=>rw [e] at Ob;cases Ob
  | some b=>
   rw [e] at Ob;cases Ob;simp only [e,Option.getD_some] at hQ;exact CB hQ
 ·have e:((AI (bs.map CH).toArray.size).any λi=>(bs[i]?).getD false)=bs.any id:=by
   rw [Ai,Af];exact LSm.range_any bs
  rw [e];exact⟨.bl (bs.any id),H,I.kept (LSm.kept_iter hk),rfl,q⟩
def qf (l:ce) (items:Array bn) (n:Nat) (b:ce) (bH:Array bn) (n2:Nat) (dd:Option ce) (sl:Array (Option bn)) (hs0:¬(!items.isEmpty&&Builtin.List.listTooLong (items.size+bH.size))=true) (Gj:items.size<=sizeLine) (qJ:items.size+bH.size<=sizeLine+1) :
  Meets (ut.«list.extend» ⟨[.ref l,.ref b],[]⟩) (λ_ R s=>s.heap.get? l=am {cls:=.type "list",dict:=bm,data:=.seq items n,slots:=#[]}/\s.heap.get? b=am {cls:=.type "tuple",dict:=dd,data:=.seq bH n2,slots:=sl}/\R (.ok (.ret AM)) {s with heap:=s.heap.update l (Bj λx=>x++bH),toks:=s.toks}):=
 .of_wp λprog w A R s h=>by
  obtain⟨hp,g,d,tk,os⟩:=s;obtain⟨hl,hb,h⟩:=h;have f1:=Es;have f2:=Df;have f3:=Dy;have f4:=Dn;have f5:=Dp;have K5:(items++bH).size<=sizeLine+1:=by rw [Array.size_append];exact qJ
  wp_walk using (Cr hl rfl (hz:=Gj) (_hz':=K5)),BQ hl,BQ hb;exact⟨_,rfl,h⟩
def MF (K:Ab):V->List V->Hp->VK->Prop:=λx vs H Q=>∃l b xs zs,x=.ref l/\vs=[.ref b]/\H l=am (.lst xs)/\d4 K H b zs/\xs.length+zs.length<=sizeLine/\Q .aE (upd H l (.lst (xs++zs)))
theorem G0:J6 X "list.extend" (MF X.K):=by
 intro Z s σ H x vs v us Q I rx rv h;obtain⟨l,b,xs,zs,rfl,rfl,hH,hB,hz,q⟩:=h;cases rx;obtain⟨u,rfl,ru⟩:=rv.one;cases ru;obtain⟨z,aq,n,r,hl,e⟩:=I.qb hH;obtain⟨cH,r2,⟨⟨cls,dd,data,sl⟩,e2,hc,n2,hd⟩,z2⟩:=I.tuple hB;simp only at hc hd;subst hc hd;have Px:=r2.length;have hsz:aq.toArray.size+cH.toArray.size<=sizeLine:=by rw [Ai,Ai];omega
 have sA:¬(!aq.toArray.isEmpty&&Builtin.List.listTooLong (aq.toArray.size+cH.toArray.size))=true:=by
  rw [nr hsz,D4];exact AX
 refine sB DS ⟨_,e,rfl⟩ DB (Dm _ _)
  (qf l aq.toArray n b cH.toArray n2 dd sl sA (by rw [Ai];omega) ∅) ⟨e,e2,?_⟩
 refine⟨.aE,_,I.G6 (its':=aq++cH) hH e (by simp) (r.append r2) ?_,rfl,q⟩;rw [Ah];omega
end
end L2
variable {o:L2.HO}{k':Nat}{bC:B7}
namespace L2
open PySem PySem.Spec PyProof.Rows
def oj (l:ce) (H H':Hp):Prop:=∀b u,b≠l->H b=am u->H' b=am u
def iD {p:ce} (h:H p=bm) (o:HO):kR H (upd H p o):=λb u q=>by rw [av (bj q h)];exact q
def Kr {p:ce} (o:HO):oj p H (upd H p o):=λb u n q=>by rw [av n];exact q
def lJ (H:Hp) (o:HO) (Q:VK):Prop:=∀p H',kR H H'->H' p=am o->H p=bm->Q (.ref p) H'
def lJ.at {Q:VK} (h:lJ H o Q) (p:ce) (hp:H p=bm):Q (.ref p) (upd H p o):=h p _ (iD hp o) aK hp
def yE (H:Hp) (l:ce) (o:HO) (Q:Hp->Prop):Prop:=∀H',oj l H H'->H' l=am o->Q H'
def yE.at {Q:Hp->Prop} (h:yE H l o Q):Q (upd H l o):=h _ (Kr o) aK
def iz.mono {f:bn->bn->Sem bn}{r r':R2} (h:iz X f r) (hr:∀x y H Q,r' x y H Q->r x y H Q):iz X f r':=λZ s σ H x y v u Q I rx ry q=>h Z s σ H x y v u Q I rx ry (hr _ _ _ _ q)
def bE.mono {f:bn}{r r':List V->Hp->VK->Prop} (h:bE X f r) (hr:∀xs H Q,r' xs H Q->r xs H Q):bE X f r':=λZ s σ H xs us Q I rx q=>h Z s σ H xs us Q I rx (hr _ _ _ q)
def J6.mono {id:String}{r r':V->List V->Hp->VK->Prop} (h:J6 X id r) (hr:∀x xs H Q,r' x xs H Q->r x xs H Q):J6 X id r':=λZ s σ H x xs v us Q I rx rv q=>h Z s σ H x xs v us Q I rx rv (hr _ _ _ _ q)
def LI.mono {r r':Pl} (h:LI X r) (hr:∀o i v H Q,r' o i v H Q->r o i v H Q):LI X r':=λZ s σ H o i v ov iv u Q I ro ri rv q=>h Z s σ H o i v ov iv u Q I ro ri rv (hr _ _ _ _ _ q)
section
variable {o:ii}{t:TA}
def XX (t:TA):TE:=λσ H Q=>t σ H λxs H1=>xs.length<=sizeLine/\lJ H1 (.tup xs) Q
def X3 (t:TA):TE:=λσ H Q=>t σ H λxs H1=>xs.length<=sizeLine/\lJ H1 (.lst xs) Q
def QB {x1} (h:PA X es t):PE X (.Tuple es x1 pos) (XX t):=by
 intro Z s σ H Q I hq;refine wpAny_Tuple_spliced (bZ (h pos Z s σ H _ I hq) λus s1 ⟨xs,H1,I1,r,z,q⟩=>⟨by rw [<- r.length];exact z,?_⟩);have hf:=I1.bp.fresh (An _);refine⟨.ref s1.heap.objs.size,upd H1 s1.heap.objs.size (.tup xs),I1.laid (t':=s1.toks) (λb u e=>Ag _ e) (An _) ?_,rfl,q.at _ hf⟩;exact⟨z,us,r,⟨_,Ao _ rfl,rfl,_,rfl⟩⟩
def QE (h:PA X es t):PE X (.List es pos) (X3 t):=by
 intro Z s σ H Q I hq;refine wpAny_List_spliced (bZ (h pos Z s σ H _ I hq) λus s1 ⟨xs,H1,I1,r,z,q⟩=>⟨by rw [<- r.length];exact z,?_⟩);have hf:=I1.bp.fresh (An _);refine⟨.ref s1.heap.objs.size,upd H1 s1.heap.objs.size (.lst xs),I1.laid (t':=s1.toks) (λb u e=>Ag _ e) (An _) ?_,rfl,q.at _ hf⟩;exact⟨z,us,0,r,Ao _ rfl⟩
def SV (K:Ab):R2:=λx y H Q=>match x with
 | .int i=>∃j,y=.int j/\Q (.int (i+j)) H
 | .str i=>∃j,y=.str j/\i.length+j.length<=sizeLine/\Q (.str (i++j)) H
 | .ref a=>(∃b xs zs,y=.ref b/\H a=am (.lst xs)/\H b=am (.lst zs)/\xs.length+zs.length<=sizeLine/\lJ H (.lst (xs++zs)) Q)\/S0 K x y H Q
 | _=>False
def QS:iz X (r9 .Add) (SV X.K):=by
 refine ((Vc.or GW).or (Vb.or Jl)).mono λx y H Q h=>?_;cases x with
 | int i=>obtain⟨j,rfl,q⟩:=h;exact .inl (.inl ⟨i,j,rfl,rfl,q⟩)
 | str i=>obtain⟨j,rfl,hl,q⟩:=h;exact .inl (.inr ⟨i,j,rfl,rfl,hl,q⟩)
 | ref a=>
  rcases h with⟨b,xs,zs,rfl,h1,h2,hz,q⟩ | h
  ·exact .inr (.inl ⟨a,b,xs,zs,rfl,rfl,h1,h2,hz,λp hp=>q.at p hp⟩)
  ·exact .inr (.inr h)
 | _=>exact h.elim
def QN:iz X (r9 .Mult) (rI wv λi j=>.int (i*j)):=opI λ_ _ _ _ _ _ _ hc q=>mul_int q hc
def Ic:bE X (.type "list") (λxs H Q=>∃p ys,xs=[.ref p]/\(cR X.K H p ys\/d4 X.K H p ys)/\lJ H (.lst ys) Q):=xW.mono λxs H Q ⟨p,ys,e,h,q⟩=>⟨p,ys,e,h,λl hl=>q.at l hl⟩
def MH:V->List V->Hp->VK->Prop:=λx vs H Q=>∃l xs y,x=.ref l/\vs=[y]/\H l=am (.lst xs)/\xs.length < sizeLine/\yE H l (.lst (xs++[y])) (Q .aE)
def G1:J6 X "list.append" MH:=KC.mono λx xs H Q ⟨l,ys,y,e1,e2,h,hz,q⟩=>⟨l,ys,y,e1,e2,h,hz,q.at⟩
def Ku (K:Ab):V->List V->Hp->VK->Prop:=λx vs H Q=>∃l b xs zs,x=.ref l/\vs=[.ref b]/\H l=am (.lst xs)/\d4 K H b zs/\xs.length+zs.length<=sizeLine/\yE H l (.lst (xs++zs)) (Q .aE)
def zk:J6 X "list.extend" (Ku X.K):=G0.mono λx xs H Q ⟨l,b,ys,zs,e1,e2,h1,h2,hz,q⟩=>⟨l,b,ys,zs,e1,e2,h1,h2,hz,q.at⟩
def Yo:V->List V->Hp->VK->Prop:=λx vs H Q=>∃l xs y,x=.ref l/\vs=[]/\H l=am (.lst (xs++[y]))/\yE H l (.lst xs) (Q y)
def Q2:J6 X "list.pop" Yo:=Vn.mono λx xs H Q ⟨l,ys,y,e1,e2,h,q⟩=>⟨l,ys++[y],y,e1,e2,h,by simp,by rw [List.dropLast_concat];exact q.at⟩
def UG:Pl:=λo i v H Q=>∃p xs k j,o=.ref p/\i=.int k/\H p=am (.lst xs)/\uQ xs.length k=am j/\yE H p (.lst (xs.set j v)) Q
def Kn:LI X UG:=set_list.mono λo i v H Q ⟨p,xs,k,j,e1,e2,h,hj,q⟩=>⟨p,xs,k,j,e1,e2,h,hj,q.at⟩
end
section
variable (K:Ab) (hK:X.K=K) {o:ii}{to:TE}{t:TA}{name:Str}{Xa:String}{r:V->List V->Hp->VK->Prop}{l:ii}
include hK
def Rt:PJ X (rIx K):=hK▸VM
def QR:iz X (r9 .Add) (SV K):=hK▸QS
def UJ (K:Ab):List V->Hp->VK->Prop:=λxs H Q=>∃x n,xs=[x]/\aaw K x H n/\Q (.int n) H
def vd:bE X (.builtin "len") (UJ K):=hK▸O3
def MC (K:Ab):List V->Hp->VK->Prop:=λxs H Q=>∃p ys,xs=[.ref p]/\(cR K H p ys\/d4 K H p ys)/\lJ H (.lst ys) Q
def Ib:bE X (.type "list") (MC K):=hK▸Ic
def Yy (K:Ab):List V->Hp->VK->Prop:=λxs H Q=>∃(p:ce) (bs:List Bool),xs=[.ref p]/\cR K H p (bs.map V.bl)/\Q (.bl (bs.any id)) H
def Lz (hc:X.calm=true):bE X (.builtin "any") (Yy K):=hK▸Ih hc
def UI (K:Ab):R2:=λx y H Q=>∃p q xs,x=.ref p/\y=.ref q/\cR K H p xs/\cR K H q []/\Q (.bl (!xs.isEmpty)) H
def GU (hu:X.A.units < o0):iz X (lw .NotEq) (UI K):=hK▸Kz hu
def aca (K:Ab) (ta:TE):TT:=λσ H Q=>ta σ H λx H'=>∃k,WS K x H' k/\Q k H'
def uC (ha:PE X a ta) (he:∀Æ,isTrue a X.env Æ=(do let v <- Æ;standAt a.pos;xL [v] (truthy v))):PT X a (aca K ta):=hK▸MN ha he
def MX (hl:PE X l tl):PI X tg l (Tj K tl):=hK▸Qx hl
def QG (pa:PlainAttrs T) (slot:Slot T name Xa) (VW:typeOf (.builtin Xa)=pure (.type "method_descriptor")) (hm:MtR X Xa r) (ho:PE X o to)
  (eI:nw o name X.env (kw o X.env)=kw o X.env:=by rfl) (eG:PM Ã bC:=by rfl):PE X (.Call (.Attribute o name Ã) [] [] bC) (X8 K T r to):=hK▸U0 pa slot VW hm ho eI eG
def rE (pa:PlainAttrs T) (slot:Slot T name Xa) (VW:typeOf (.builtin Xa)=pure (.type "method_descriptor")) (hm:MtR X Xa r) (ho:PE X o to) (ha:PA X (e::es) t)
  (eI:nw o name X.env (kw o X.env)=kw o X.env:=by rfl)
  (pe:WY X bC (e::es):=by rfl)
  (eG:PM Ã bC:=by rfl) (hs:gK X e es:=by rfl) (eU:lH X bC es:=by rfl) :
  PE X (.Call (.Attribute o name Ã) (e::es) [] bC) (tBM K T r to t):=hK▸YE pa slot VW hm ho ha eI pe eG hs eU
omit hK
end
structure SI (P:sK) (w:tz) (K:Ab) (mg:Str->Option bn) (base:lf) (x:Str) (k:Nat) (ps:List Str) (sp:Sp) where
 f:ce
 fd:Db
 ok:iU P w K mg base mm k f fd ps sp
 bi:Binds K fd ps []
 kp:DN K (.ref f)=true
 at':mg x=am (.ref f)
section
variable {t:TA}
def X7 (sp:Sp) (t:TA):TE:=λσ H Q=>t σ H λvs H1=>sp vs H1 Q E0
def M5 (G:SI X.prog X.w X.K X.mg X.base x k ps sp) (hr:cB k' X.A) (hk:k<=k') (hg:Gl X x) (ha:PA X (e::es) t) (nP:iW x:=by decide)
  (he:gK X e es:=by rfl) (dw:lH X pos es:=by rfl) :
  PE X (.Call (.Name x p) (e::es) [] pos) (X7 sp t):=by
 intro Z s σ H Q I h;refine BC (Jy I hg G.at' ?_ nP);refine PySem.W.callWith_K (h₀:=X.base) I.ok.mod.kin G.kp (bZ (ha pos Z s σ H _ I h) λus s1 ⟨vs,H1,I1,r,q⟩=>⟨I1.uP,?_⟩) he dw;refine Uy (dvs:=[]) (ds:=[]) G.ok (hr.mono hk) G.bi .nil YG I1 r ?_;rw [Ct];exact q
end
section
theorem Pb {xs:List α} (h0:0<=i) (h1:i < xs.length):∃v,dH xs i=am v/\xs[i.toNat]?=am v:=by
 have hk:i.toNat < xs.length:=by omega
 have q:=eJ (by rw [Ad hk]);have e:((i.toNat:Nat):Int)=i:=by omega
 rw [e] at q;exact⟨_,q,by rw [Ad hk]⟩
def S5 {j:Int} (h1:-18446744073709551616 < i) (h2:i < 18446744073709551616):wv i j:=SJ.ok (.inl ⟨h1,h2⟩)
def mul_r {j:Int} (h1:-18446744073709551616 < j) (h2:j < 18446744073709551616):wv i j:=SJ.ok (.inr ⟨h1,h2⟩)
end
def cu (h:n<=1000):n<=sizeLine:=DK (Km h)
section
variable (K:Ab) (hK:X.K=K)
include hK
def UM (K:Ab):R2:=λx y H Q=>∃p q xs,x=.ref p/\y=.ref q/\cR K H p xs/\cR K H q []/\Q (.bl xs.isEmpty) H
def GV (hu:X.A.units < o0):iz X (lw .Eq) (UM K):=by
 subst hK;intro Z s σ H x y v u Q I rx ry h;obtain⟨p,q,xs,rfl,rfl,hp,hq,k⟩:=h;cases rx;cases ry;obtain⟨aq,r,pl,hz⟩:=I.list hp;obtain⟨cH,r2,YB,hz2⟩:=I.list hq;cases r2;cases xs with
 | nil=>
  cases r;refine EI (Fs (e:=λ_=>true) pl.isList YB.isList rfl hu λj h1=>absurd h1 (by simp)) ?_;exact⟨.bl true,H,I,rfl,k⟩
 | cons y ys=>
  have hl:=r.length;refine EI (Ec pl.isList YB.isList (by simp at hl ⊢;intro z;subst z;simp at hl) hu) ?_;exact⟨.bl false,H,I,rfl,k⟩
omit hK
end
end L2
variable {p1:B7}
namespace L2
open PySem PySem.Spec PyProof.Rows
theorem Vals.rA:∀{xs:List V}{us:List bn},Vals xs us->Vals xs.reverse us.reverse
 | _,_,.nil=>.nil
 | _,_,.cons h t=>by rw [CD,CD];exact (Vals.rA t).append (.cons h .nil)
def Vt:Ev (.type "list_reverseiterator") (B5 "__len__")=pure bm:=by kernel_rfl
def Q8:Ev (.type "list_reverseiterator") (B5 "__length_hint__")=pure (am (.builtin "list_reverseiterator.__length_hint__")):=by kernel_rfl
def P9:splitId "list_reverseiterator.__length_hint__"=am ("list_reverseiterator","__length_hint__"):=by kernel_rfl
def P4:isSubtype (.type "list_reverseiterator") (.type "list_reverseiterator")=pure true:=by kernel_rfl
def N3 {r:ce}{Q:Bool->ci->Prop} (h:s.heap.IsRevIter r l i) (q:Q false s):db (dL prog w) A (Builtin.List.listLengthHint (Ax r)) Q E s:=by
 refine Aa (EJ h.typeIs Vt ?_);refine Aa (EJ h.typeIs Q8 ?_);dsimp only;rw [P9];dsimp only;refine Aa (Dg h.typeIs P4 ?_);rw [if_neg ⋯];exact Ae q
def tZ {r S:ce} (hA:A.handled=bm) (h:s.heap.IsRevIter r l (items.size-1)) (hl:s.heap.IsList l items) (RJ:l≠r) (Ğ:S≠r) (hSl:S≠l) (hz:items.size<=sizeLine)
  (hS:s.heap.get? S=am {cls:=BP "list",data:=EZ #[]})
  (q:∀(h':lf) (tk:Nat) (Å:Array bn) (c:Nat),(∀b o,b≠S->b≠r->s.heap.get? b=am o->h'.get? b=am o)->h'.get? S=am {cls:=BP "list",data:=EZ Å c}->ItemsOf (λi v=>items[items.size-1-i]?=am v) Å items.size->R (.ok (.ret .none)) {s with heap:=h',toks:=tk}) :
  db (dL prog w) A.in1 (ut.«list.__init__» {pos:=[Ax S,Ax r]})
   (λfin s'=>match fin with | EY f=>R (Except.ok f) s' | Fin.again c'=>c'.quiet=true/\zn (dL prog w) A c' R s') (λe s'=>R (Except.error e) s') s:=by
 unfold ut.«list.__init__»;refine Aa (wpAny_listItems hS rfl ?_);refine Aa ?_;refine Cr hS rfl ?_ (by simp) (by simp);refine Aa (Cp ?_);have k1:∀b o,b≠S->s.heap.get? b=am o->(s.heap.update S (Bj λ_=>#[])).get? b=am o:=λb o hb e=>by rw [BG _ _ (Bz hb)];exact e
 have hS1:=BO (Bj λ_=>#[]) hS rfl;generalize s.heap.update S (Bj λ_=>#[])=h1 at k1 hS1 ⊢;have ó:h1.IsRevIter r l (items.size-1):=let ⟨o,e,p⟩:=h;⟨o,k1 _ _ (Bz Ğ) e,p⟩;have Ė:h1.IsList l items:=let ⟨o,e,p⟩:=hl;⟨o,k1 _ _ (Bz hSl) e,p⟩;unfold Builtin.List.listExtendWith;refine Aa (Et (T:="list_reverseiterator") ó.typeIs ?_);rw [if_neg (by
  have e1:Builtin.List.listSameRef (Ax S) (Ax r)=false:=by
   unfold Builtin.List.listSameRef;simpa using Ğ
  rw [e1];decide)]
 refine Aa (wpAny_pyIter_revIter ó ?_);refine Aa (Bl (N3 ó ?_));rw [if_neg ⋯];refine Ae ⟨ul F.plain_extend_loop _,?_⟩;refine codeAny_extend_loopS (Walks.toS (Walks.listRev (A:=A.in1) hA r l RJ items)) hz S (by simp [Ğ,hSl]) .none items.size 0 _ #[] _ (Fj _) (Ba _) ⟨Ba _,by simpa using ó,Ė⟩ hS1 (ItemsOf.nil _) ?_;intro s' Å c mv e io;rw [mv.eq_with];exact q s'.heap s'.toks Å c (λb o n1 n2 e'=>mv.heap b o (by simp [n1,n2]) (k1 b o n1 e')) e io
def um {r:ce} (hA:A.handled=bm) (h:s.heap.IsRevIter r l (items.size-1)) (hl:s.heap.IsList l items) (RJ:l≠r) (hz:items.size<=sizeLine)
  (q:∀(h':lf) (tk:Nat) (Å:Array bn) (c:Nat),(∀b o,b≠r->s.heap.get? b=am o->h'.get? b=am o)->h'.get? s.heap.objs.size=am {cls:=BP "list",data:=EZ Å c}->ItemsOf (λi v=>items[items.size-1-i]?=am v) Å items.size->Q (.ref s.heap.objs.size) {s with heap:=h',toks:=tk}) :
  db (dL prog w) A (call (BP "list") [Ax r]) Q E s:=by
 have lr:=let ⟨_,e,_⟩:=h;Aq e;have ll:=let ⟨_,e,_⟩:=hl;Aq e;refine callType_codes F.called_list (F.typeCall_list_1 _) F.entry_list_init (code_list_new (Q₁:=λv s₁=>v=.ref s.heap.objs.size/\s₁={s with heap:=s.heap.push {cls:=BP "list",data:=EZ #[]}}) _ ⟨rfl,rfl⟩) ?_;rintro obj s₁ ⟨rfl,rfl⟩;refine⟨⟨_,Ao _ rfl,rfl⟩,F.args_list_init_2 _ _,?_⟩;have kp:∀b o,s.heap.get? b=am o->(s.heap.push {cls:=BP "list",data:=EZ #[]}).get? b=am o:=λb o e=>Ag _ e;refine tZ (A:=A.in1) (items:=items) (l:=l) hA (let ⟨o,e,p⟩:=h;⟨o,kp _ _ e,p⟩) (let ⟨o,e,p⟩:=hl;⟨o,kp _ _ e,p⟩) RJ (λz=>by rw [z] at lr;exact AQ _ lr) (λz=>by rw [z] at ll;exact AQ _ ll) hz (Ao _ rfl) ?_;intro h' tk Å c k e io;exact⟨rfl,q h' tk Å c (λb o n e'=>k b o (λz=>by rw [z] at e';exact AQ _ (Aq e')) n (kp b o e')) e io⟩
def tLR (K:Ab) (te:TE):TE:=λσ H Q=>te σ H λx H1=>∃p ys,x=.ref p/\cR K H1 p ys/\lJ H1 (.lst ys.reverse) Q
section
variable (K:Ab) (hK:X.K=K) {q1 q2:Pos}
include hK
theorem GR (hc:X.calm=true) (ę:Gl X "list") (ù:X.mg "list"=bm) (Ę:Gl X "reversed") (Xc:X.mg "reversed"=bm) (he:PE X e te)
  (Gj:f8 [.Call (.Name "reversed" q1) [e] [] q2] X.env=(false,kw (.Call (.Name "reversed" q1) [e] [] q2) X.env)::f8 [] X.env:=by rfl) (qJ:gK X e []:=by rfl) :
  PE X (.Call (.Name "list" p1) [.Call (.Name "reversed" q1) [e] [] q2] [] p2) (tLR K te):=by
 intro Z s σ H Q I h;subst hK;refine BC (ic I ę ù boot_list ?_ ⋯ ⋯);refine Bd ?_ Gj rfl;refine Cb ?_;refine BC (ic I Ę Xc boot_reversed ?_ ⋯ ⋯);refine Bd ?_ qJ rfl;rw [qJ];refine Cb (bZ (he Z s σ H _ I h) λu s1 ⟨x,H1,I1,r1,pa,ys,ex,hS,q⟩=>CA ?_);subst ex;cases r1;obtain⟨aq,rv,pl,hz⟩:=I1.list hS;have Â:=rv.length;have lp:=let ⟨_,e,_⟩:=pl.isList;Aq e;refine call_reversed_list pl.isList ?_;refine CA ?_;have kp:∀b o,s1.heap.get? b=am o->(s1.heap.push (revObj pa (aq.toArray.size-1))).get? b=am o:=λb o e=>Ag _ e;refine um (items:=aq.toArray) (l:=pa) (r:=s1.heap.objs.size) (I1.ok.hd hc) ⟨_,Ao _ rfl,rfl,rfl⟩ (let ⟨o,e,p⟩:=pl.isList;⟨o,kp _ _ e,p⟩) (λz=>by rw [z] at lp;exact AQ _ lp) (by rw [Ai];omega) ?_;intro h' tk Å c k e io;have kk:∀b o,s1.heap.get? b=am o->h'.get? b=am o:=λb o eb=>k b o (λz=>by rw [z] at eb;exact AQ _ (Aq eb)) (kp b o eb);have ea:Å=aq.reverse.toArray:=by
  obtain⟨z1,z2⟩:=io;apply Array.ext
  ·rw [z1,Ai,Ai,B3]
  ·intro j h1 h2;have:=z2 j Å[j] (CO h1);rw [Ai] at this;have hj:j < aq.length:=by rw [z1,Ai] at h1;exact h1
   rw [EW] at this;have e3:aq.reverse[j]?=am Å[j]:=by rw [List.getElem?_reverse hj];exact this
   rw [Ds];exact (Option.some.inj (((Ad (by rw [B3];exact hj)).symm.trans e3))).symm
 subst ea;have qJ:s1.heap.objs.size<=(s1.heap.push (revObj pa (aq.toArray.size-1))).objs.size:=by simp [Heap.push]
 refine⟨.ref _,upd H1 _ (.lst ys.reverse),I1.laid (t':=tk) kk qJ ?_,rfl,q.at _ (I1.bp.fresh qJ)⟩;exact⟨by rw [B3];exact hz,aq.reverse,c,rv.rA,e⟩
end
end L2
namespace My
open PySem PySem.Spec PyProof.Rows L2
def Wd (x:Str):Prop:=1<=x.length/\x.length<=8/\∀c∈x.cps.toList,97<=c/\c < 123
def Part (x:Str) (n:Nat):Prop:=x.length<=n/\∀c∈x.cps.toList,97<=c/\c < 123
theorem t4 {d st:Int} (h:st=1\/st=3\/st=5\/st=7\/st=9\/st=11) (hn:n<=26):((AI n).map λk:Nat=>am (97+((d+st*(0+(k:Int))) % 26).toNat)).Nodup:=by
 unfold List.Nodup;rw [Eb];refine List.Pairwise.imp_of_mem ?_ C5;intro a b ha hb Oa hz;have û:=AY.mp hb;have K5:=Option.some.inj hz;rcases h with rfl | rfl | rfl | rfl | rfl | rfl <;> omega
def vW {g:α->β}{l:List α} (h:(l.map g).Nodup):l.Nodup:=(Eb.mp h).imp λh e=>h (congrArg g e)
def G9:∀k:_root_.Fin 26,dH ("abcdefghijklmnopqrstuvwxyz":Str).cps.toList (k.val:Int)=am (97+k.val):=by decide +kernel
theorem KQ {n:Int} (h0:0<=n) (h1:n < 26):dH ("abcdefghijklmnopqrstuvwxyz":Str).cps.toList n=am (97+n.toNat):=by
 have e:=G9 ⟨n.toNat,by omega⟩;have e2:((n.toNat:Nat):Int)=n:=by omega
 rw [e2] at e;exact e
inductive Tr where
 | leaf (x:Str)
 | node (l r:Tr)
def Tr.ax:Tr->List Str
 | .leaf x=>[x]
 | .node l r=>l.ax++r.ax
def Tr.size:Tr->Nat
 | .leaf _=>1
 | .node l r=>l.size+r.size+1
def Tr.depth:Tr->Nat
 | .leaf _=>0
 | .node l r=>max l.depth r.depth+1
def Tr.Ws (t:Tr):Prop:=∀x∈t.ax,Wd x
theorem Tr.jn:∀t:Tr,1<=t.ax.length
 | .leaf _=>An _
 | .node l r=>by have:=l.jn;show 1<=(l.ax++r.ax).length;rw [Ah];omega
theorem Tr.nV:∀t:Tr,t.depth < t.ax.length
 | .leaf _=>Ej 0
 | .node l r=>by
  have h1:=l.nV;have h2:=r.nV;have h3:=l.jn;have h4:=r.jn;show max l.depth r.depth+1 < (l.ax++r.ax).length;rw [Ah];omega
theorem Tr.size_eq:∀t:Tr,t.size+1=2*t.ax.length
 | .leaf _=>rfl
 | .node l r=>by
  have h1:=l.size_eq;have h2:=r.size_eq;show l.size+r.size+1+1=2*(l.ax++r.ax).length;rw [Ah];omega
def eM (ts:List Tr):Nat:=(ts.map Tr.size).sum
def fN (a b:List Tr):eM (a++b)=eM a+eM b:=by unfold eM;rw [AJ,List.sum_append]
def oI (t:Tr):eM [t]=t.size:=by simp [eM]
theorem Tr.size_pos:∀t:Tr,1<=t.size
 | .leaf _=>An _
 | .node l r=>by show 1<=l.size+r.size+1;omega
theorem uJ:∀ts:List Tr,ts.length<=eM ts
 | []=>An _
 | t::r=>by have:=uJ r;have:=t.size_pos;show r.length+1<=t.size+eM r;omega
def Tr.post:Tr->List Tr
 | .leaf x=>[.leaf x]
 | .node l r=>l.post++r.post++[.node l r]
def Tr.kn:∀t:Tr,t.post.length=t.size
 | .leaf _=>rfl
 | .node l r=>by show (l.post++r.post++[_]).length=l.size+r.size+1;rw [Ah,Ah,l.kn,r.kn];rfl
def iE (ts:List Tr):List Tr:=(ts.map Tr.post).flatten
def jd (a b:List Tr):iE (a++b)=iE a++iE b:=by unfold iE;rw [AJ,List.flatten_append]
def oQ (t:Tr):iE [t]=t.post:=by simp [iE]
def Kv (t u:Tr):iE [t,u]=t.post++u.post:=by simp [iE]
inductive Ent where
 | word (x:Str)
 | pair (a b:Nat)
def Tr.nd:Tr->Nat->List Ent
 | .leaf x,_=>[.word x]
 | .node l r,o=>l.nd o++r.nd (o+l.size)++[.pair (o+l.size-1) (o+l.size+r.size-1)]
def Tr.a8:∀(t:Tr) (o:Nat),(t.nd o).length=t.size
 | .leaf _,_=>rfl
 | .node l r,o=>by show (l.nd o++r.nd (o+l.size)++[_]).length=l.size+r.size+1;rw [Ah,Ah,l.a8,r.a8];rfl
def run:List Tr->List Ent->List Nat->Option (List Ent×List Nat)
 | [],À,ls=>am (À,ls)
 | .leaf x::k,À,ls=>run k (À++[.word x]) (À.length::ls)
 | .node _ _::k,À,b::a::ls=>run k (À++[.pair a b]) (À.length::ls)
 | .node _ _::_,_,_=>bm
theorem rz:∀(t:Tr) (k:List Tr) (À:List Ent) (ls:List Nat),run (t.post++k) À ls=run k (À++t.nd À.length) ((À.length+t.size-1)::ls)
 | .leaf x,k,À,ls=>rfl
 | .node l r,k,À,ls=>by
  have e1:(Tr.node l r).post++k=l.post++(r.post++(Tr.node l r::k)):=by show l.post++r.post++[_]++k=_;simp
  rw [e1,rz l,rz r];have e2:(À++l.nd À.length).length=À.length+l.size:=by rw [Ah,l.a8]
  rw [e2];show run k _ _=run k _ _;have e3:(À++l.nd À.length++r.nd (À.length+l.size)).length=À.length+(Tr.node l r).size-1:=by
   rw [Ah,Ah,l.a8,r.a8];show _=À.length+(l.size+r.size+1)-1;omega
  rw [e3];have e4:À++(Tr.node l r).nd À.length=À++l.nd À.length++r.nd (À.length+l.size)++[.pair (À.length+l.size-1) (À.length+l.size+r.size-1)]:=by
   show À++(l.nd À.length++r.nd (À.length+l.size)++[_])=_;simp
  rw [e4]
def Ks (t:Tr):run t.post [] []=am (t.nd 0,[t.size-1]):=by
 have:=rz t [] [] [];rw [Ct] at this;rw [this];show am ([]++t.nd 0,[0+t.size-1])=_;simp
end My
variable {xs:List L2.V}{x:AZ}{σ:L2.St}{i:Nat}
namespace L2
open PySem PySem.Spec PyProof.Rows
def gW {t:ce} (h:s.heap.IsTupleIter it t i) (ht:s.heap.IsTuple t items) (hx:items[i]?=am x)
  (q:∀h':lf,h'.IsTupleIter it t (i+1)->B6 it s.heap h'->Q x {s with heap:=h'}):db (dL prog w) A (Builtin.SmallTypes.nextOf (.ref it)) Q E s:=by
 unfold Builtin.SmallTypes.nextOf;refine Aa (A5 h.typeIs Ca (Bm Ca h.typeIs DH ?_ (Dx _)));obtain⟨o,ho,hc,hd⟩:=id h;obtain⟨ot,ĕ,htc,n,ď⟩:=id ht;show db _ _ (field (.ref it) 0 >>= λseq=>_) _ _ s;refine Aa (A4 ho hd rfl ?_);refine Aa (A4 ho hd rfl ?_);refine Aa (Br ĕ ď ?_);show db _ _ (match items[i]? with | some x=>(do wf (.ref it) 1 (t0 ((i:Int)+1));ret x) | none=>_) _ _ s;rw [hx];refine Aa (DV ho hd (show 1 < 2 by decide) ?_);refine Ae ⟨x,rfl,Ae (q _ ⟨_,BO _ ho (by rw [ER (CW hd _)]),by rw [Obj.cls_mapFields];exact hc,by rw [CW hd];rfl⟩ (B6.update ..))⟩
def P6 {Q:α->ci->Prop} (hA:A.handled=bm)
  (q:∀(h':lf) (e:ce),(∀b o,s.heap.get? b=am o->h'.get? b=am o)->(∃o,h'.get? e=am o/\o.cls=.type "StopIteration")->E (.ref e) {s with heap:=h'}):db (dL prog w) A (Builtin.SmallTypes.stopIteration (α:=α)) Q E s:=by
 refine Aa ?_;refine Aa (CI ?_ (by show 0<=sizeLine;decide));refine Aa (Co (a:=AM) rfl ?_);refine A1 ?_ (sizeOk_excFields ..);unfold raiseNew;refine Aa (wpAny_handled ?_);rw [hA];refine wpAny_throw (q _ _ (λb o e=>Ag _ (Ag _ e)) ⟨_,Ao _ rfl,rfl⟩)
def iG {t:ce} (hA:A.handled=bm) (h:s.heap.IsTupleIter it t i) (ht:s.heap.IsTuple t items) (hx:items[i]?=bm)
  (q:∀(h':lf) (e:ce),Fv it s.heap h'->(∃o,h'.get? e=am o/\o.cls=.type "StopIteration")->E (.ref e) {s with heap:=h'}):db (dL prog w) A (Builtin.SmallTypes.nextOf (.ref it)) Q E s:=by
 unfold Builtin.SmallTypes.nextOf;refine Aa (A5 h.typeIs Ca (Bm Ca h.typeIs DH ?_ (Dx _)));obtain⟨o,ho,hc,hd⟩:=id h;obtain⟨ot,ĕ,htc,n,ď⟩:=id ht;show db _ _ (field (.ref it) 0 >>= λseq=>_) _ _ s;refine Aa (A4 ho hd rfl ?_);refine Aa (A4 ho hd rfl ?_);refine Aa (Br ĕ ď ?_);show db _ _ (match items[i]? with | some x=>(do wf (.ref it) 1 (t0 ((i:Int)+1));ret x) | none=>(do rule _;wf (.ref it) 0 .none;Builtin.SmallTypes.stopIteration)) _ _ s;rw [hx];refine Aa (CY ?_);refine Aa (DV ho hd (show 0 < 2 by decide) ?_);refine P6 (A:=A.in1) hA λh' e k ex=>q h' e (λb o n eb=>k b o ?_) ex;rw [(B6.update _ _ _).2 b n];exact eb
def Inv.qZ {t':Nat}{a:ce} (I:Inv X Z σ H s) (hf:∀b∈ch,uq X Z H b) (k:∀b u,b∉ch->s.heap.get? b=am u->h'.get? b=am u)
  (hp:s.heap.objs.size<=a) (new:aY X.prog X.w (upd H a o) h' a o):Inv X Z σ (upd H a o) {s with heap:=h',toks:=t'}:=by
 have hn:=I.bp.fresh hp;have S4:∀b u,H b=am u->b∉ch:=λb u e z=>by rw [(hf b z).1] at e;cases e
 have nL:X.env.locals∉ch:=λz=>(hf _ z).2.1 rfl;refine I.step (g':=s.gens) (d':=s.drawn) (ch:=ch) (λb hb=>⟨(hf b hb).2.2.2.1,(hf b hb).2.1,(hf b hb).2.2.2.2.1,(hf b hb).2.2.2.2.2⟩) (λb u _ _ hc e _=>k b u hc e) (λb u _ _ hc e _=>⟨u.slots,k b u hc e⟩)
  (λb u _ e n=>by rw [av (Az (AE (Aq e) hp))];exact n) (λb u hc e=>⟨u,k b u hc e⟩) (λb xs e=>by rw [av (bj e hn)];exact e) (λb u xs e=>by rw [av (bj e hn)];exact e)
  (λb ps e=>⟨#[],by rw [av (bj e hn),e];simp⟩) (λm hm=>?_) (λb u e=>?_) I.bare
 ·obtain⟨o',es,ep,ho,r⟩:=hm;exact⟨o',es,ep,k _ o' nL ho,r⟩
 ·by_cases hb:b=a
  ·subst hb;rw [aK] at e;cases e;exact new
  ·rw [av hb] at e;refine (I.bp b u e).vD (λc v hc q=>k c v ?_ q) (λc q=>by rw [av (bj q hn)];exact q) λc xs q=>by rw [av (bj q hn)];exact q
   rcases hc with z | z
   ·rw [z];exact S4 b u e
   ·exact S4 c _ z
def Inv.vv {t':Nat} (I:Inv X Z σ H s) (hf:∀b∈ch,uq X Z H b) (k:∀b u,b∉ch->s.heap.get? b=am u->h'.get? b=am u) :
  Inv X Z σ H {s with heap:=h',toks:=t'}:=by
 have S4:∀b u,H b=am u->b∉ch:=λb u e z=>by rw [(hf b z).1] at e;cases e
 have nL:X.env.locals∉ch:=λz=>(hf _ z).2.1 rfl;refine I.step (g':=s.gens) (d':=s.drawn) (ch:=ch) (λb hb=>⟨(hf b hb).2.2.2.1,(hf b hb).2.1,(hf b hb).2.2.2.2.1,(hf b hb).2.2.2.2.2⟩) (λb u _ _ hc e _=>k b u hc e) (λb u _ _ hc e _=>⟨u.slots,k b u hc e⟩)
  (λ_ _ _ _ n=>n) (λb u hc e=>⟨u,k b u hc e⟩) (λ_ _ e=>e) (λ_ _ _ e=>e) (λb ps e=>⟨#[],by rw [e];simp⟩) (λm hm=>?_) (λb u e=>?_) I.bare
 ·obtain⟨o',es,ep,ho,r⟩:=hm;exact⟨o',es,ep,k _ o' nL ho,r⟩
 ·refine (I.bp b u e).vD (λc v hc q=>k c v ?_ q) (λ_ q=>q) λ_ _ q=>q;rcases hc with z | z
  ·rw [z];exact S4 b u e
  ·exact S4 c _ z
def mS (h:Vals xs us):∀{i:Nat}{x:V},xs[i]?=am x->∃u,us[i]?=am u/\RelV x u:=by
 induction h with
 | nil=>intro i x e;simp at e
 | cons r t ih=>
  intro i x e;cases i with
  | zero=>simp at e;subst e;exact⟨_,rfl,r⟩
  | succ i=>exact ih (by simpa using e)
end L2
variable {e:BB}{Ì:AZ}{Î:List B2}
namespace L2
open PySem PySem.Spec PyProof.Rows
def ql {E:bn->ci->Prop}{t:ce} (LN:e≠it) (ñ:t≠e) (RD:t≠it)
  (hz:IsEnum s.heap e it i Ì) (hi:s.heap.IsTupleIter it t i) (ht:s.heap.IsTuple t items) (hx:items[i]?=am x)
  (q:∀(h':lf) (tk:Nat),IsEnumOut h' e it (i+1:Nat) x s.heap.objs.size->h'.IsTupleIter it t (i+1)->IsPair h' s.heap.objs.size (.int i s.toks) x->(∀c o,c≠e->c≠it->s.heap.get? c=am o->h'.get? c=am o)->Q (.ref s.heap.objs.size) {s with heap:=h',toks:=tk}) :
  db (dL prog w) A (ut.«enumerate.__next__» {pos:=[.ref e]}) (λfin s'=>∃v,fin=EY (Fx v)/\Q v s') E s:=by
 show db _ _ (field (.ref e) 2 >>= λr=>_) _ _ s;refine Aa (A4 hz rfl rfl ?_);refine Aa (gW hi ht hx λh1 j1 b1=>?_);have z1:=(b1.2 _ LN).trans hz;refine Aa (A4 z1 rfl rfl ?_);refine Aa (A4 z1 rfl rfl ?_);refine Aa (wpAny_mkInt ?_);refine Aa (AV z1 (show 3 < 6 by decide) λh2 z2 b2=>?_);refine Aa (AV z2 (show 4 < 6 by decide) λh3 z3 b3=>?_);have sz3:=b3.1.trans (b2.1.trans b1.1);have Í:∀b,b≠e->b≠it->h3.get? b=s.heap.get? b:=λb n1 n2=>(b3.2 b n1).trans ((b2.2 b n1).trans (b1.2 b n2));refine Aa (CI ?_ (by show 2<=sizeLine;decide));have kp:∀b o,h3.get? b=am o->(h3.push {cls:=.type "tuple",data:=.seq [DM i s.toks,x].toArray}).get? b=am o:=λb o e=>Ag _ e;have Vk:(h3.push {cls:=.type "tuple",data:=.seq [DM i s.toks,x].toArray}).get? h3.objs.size=am {cls:=.type "tuple",data:=.seq #[.int i s.toks,x]}:=Ao _ rfl;generalize h3.push {cls:=.type "tuple",data:=.seq [DM i s.toks,x].toArray}=h4 at kp Vk ⊢;have z4:h4.get? e=am {cls:=.type "enumerate",data:=.fields #[.none,.bool false,.ref it,t0 (i+1),.none,Ì]}:=kp _ _ z3;refine Aa ?_;refine Aa (A4 z4 rfl rfl ?_);refine Ae ?_;refine Aa (CY ?_);refine Aa (A4 z4 rfl rfl ?_);refine Aa (AV z4 (show 5 < 6 by decide) λh5 z5 b5=>?_);refine Aa ?_;refine Aa (AV z5 (show 0 < 6 by decide) λh6 z6 b6=>?_);refine AV z6 (show 1 < 6 by decide) λh7 z7 b7=>?_;refine Aa (Cp ?_);have V7:∀b,b≠e->h7.get? b=h4.get? b:=λb n=>(b7.2 b n).trans ((b6.2 b n).trans (b5.2 b n));have ne:s.heap.objs.size≠e:=λz=>by have:=Aq hz;rw [<- z] at this;exact AQ _ this
 refine Ae ⟨.ref h3.objs.size,rfl,?_⟩;rw [sz3] at z7 Vk ⊢;refine q h7 _ ?_ ?_ ?_ ?_
 ·exact z7
 ·obtain⟨o,eo,p⟩:=j1;refine⟨o,?_,p⟩;rw [V7 _ (Bz LN)];exact kp _ _ ((b3.2 _ (Bz LN)).trans ((b2.2 _ (Bz LN)).trans eo))
 ·rw [IsPair,V7 _ ne];exact Vk
 ·intro c o n1 n2 ec;rw [V7 _ n1];exact kp _ _ ((Í _ n1 n2).trans ec)
def sR {t:ce}{Q:PySem.Fin->ci->Prop} (hA:A.handled=bm)
  (hz:IsEnum s.heap e it i Ì) (hi:s.heap.IsTupleIter it t i) (ht:s.heap.IsTuple t items) (hx:items[i]?=bm)
  (q:∀(h':lf) (x:ce),(∀c o,c≠it->s.heap.get? c=am o->h'.get? c=am o)->(∃o,h'.get? x=am o/\o.cls=.type "StopIteration")->E (.ref x) {s with heap:=h'}) :
  db (dL prog w) A (ut.«enumerate.__next__» {pos:=[.ref e]}) Q E s:=by
 show db _ _ (field (.ref e) 2 >>= λr=>_) _ _ s;refine Aa (A4 hz rfl rfl ?_);exact Aa (iG hA hi ht hx λh' x k ex=>q h' x (λc o n e'=>k c o n e') ex)
def m8 {t:ce}{Q:Option bn->ci->Prop} (LN:e≠it) (ñ:t≠e) (RD:t≠it)
  (hz:IsEnum s.heap e it i Ì) (hi:s.heap.IsTupleIter it t i) (ht:s.heap.IsTuple t items) (hx:items[i]?=am x)
  (q:∀(h':lf) (tk:Nat),IsEnumOut h' e it (i+1:Nat) x s.heap.objs.size->h'.IsTupleIter it t (i+1)->IsPair h' s.heap.objs.size (.int i s.toks) x->(∀c o,c≠e->c≠it->s.heap.get? c=am o->h'.get? c=am o)->Q (am (.ref s.heap.objs.size)) {s with heap:=h',toks:=tk}) :
  db (dL prog w) A (pyNext (.ref e)) Q E s:=by
 have ty:s.TypeIs (.ref e) "enumerate":=⟨_,hz,rfl⟩;refine Aa (CU (A5 ty Cw (Bm Cw ty Ep ?_ (Ei _))));exact ql LN ñ RD hz hi ht hx λh' tk a b c d=>Ae (q h' tk a b c d)
def oO {t:ce}{Q:Option bn->ci->Prop} (hA:A.handled=bm)
  (hz:IsEnum s.heap e it i Ì) (hi:s.heap.IsTupleIter it t i) (ht:s.heap.IsTuple t items) (hx:items[i]?=bm)
  (q:∀h':lf,(∀c o,c≠it->s.heap.get? c=am o->h'.get? c=am o)->Q bm {s with heap:=h'}) :
  db (dL prog w) A (pyNext (.ref e)) Q E s:=by
 have ty:s.TypeIs (.ref e) "enumerate":=⟨_,hz,rfl⟩;refine Aa (CU (A5 ty Cw (Bm Cw ty Ep ?_ (Ei _))));refine sR (A:=A.in1) hA hz hi ht hx λh' x k ex=>?_;obtain⟨o,eo,hc⟩:=ex;refine Aa (Dg (T:="StopIteration") ⟨o,eo,hc⟩ isSubtype_stop ?_);exact Ae (q h' k)
def qa (t:ce) (items:Array bn):Meets (ut.«enumerate.__new__» {pos:=[.type "enumerate",.ref t]}) (λ_ R s=>s.heap.IsTuple t items/\
  ∀h':lf,IsEnum h' (s.heap.objs.size+1) s.heap.objs.size (0:Nat) .none->h'.IsTupleIter s.heap.objs.size t 0->(∀b o,s.heap.get? b=am o->h'.get? b=am o)->R (.ok (.ret (.ref (s.heap.objs.size+1)))) {s with heap:=h'}):=
 .of_wp λprog w A R s h=>by
  obtain⟨h1,q⟩:=h;refine Aa ?_;refine Aa (Co (a:=true) rfl ?_);refine Aa (Co sub_enumerate ?_);refine Ae ?_;refine Aa ?_;refine Aa (wpAny_stack_any λst=>Ae ?_);have fin:db (dL prog w) A.in1 (pyIter (.ref t) >>= λit=>(Builtin.SmallTypes.newRecord (.type "enumerate") (Builtin.SmallTypes.ownedTupleFields++[it,t0 0,.none,.none]) >>= λr=>ret r)) (λfin s'=>∃v,fin=EY (Fx v)/\R (Except.ok (Fx v)) s') (λe s'=>R (Except.error e) s') s:=by
   refine Aa (DW h1 ?_);have k1:∀b o,s.heap.get? b=am o->(s.heap.push {cls:=.type "tuple_iterator",data:=.fields #[.ref t,.int 0 0]}).get? b=am o:=λb o e=>Ag _ e;have g1:(s.heap.push {cls:=.type "tuple_iterator",data:=.fields #[.ref t,.int 0 0]}).get? s.heap.objs.size=am {cls:=.type "tuple_iterator",data:=.fields #[.ref t,.int 0 0]}:=Ao _ rfl;have z1:(s.heap.push {cls:=.type "tuple_iterator",data:=.fields #[.ref t,.int 0 0]}).objs.size=s.heap.objs.size+1:=Ck ..;generalize s.heap.push {cls:=.type "tuple_iterator",data:=.fields #[.ref t,.int 0 0]}=wX at k1 g1 z1 ⊢;show db _ _ (newObj (.type "enumerate") (.fields #[.none,.bool false,.ref s.heap.objs.size,t0 0,.none,.none]) >>= λr=>ret r) _ _ _;refine Aa (A1 ?_ (by simp [sizeOk];decide));have g2:(wX.push {cls:=.type "enumerate",data:=.fields #[.none,.bool false,.ref s.heap.objs.size,t0 0,.none,.none]}).get? wX.objs.size=am {cls:=.type "enumerate",data:=.fields #[.none,.bool false,.ref s.heap.objs.size,t0 0,.none,.none]}:=Ao _ rfl;refine Ae ⟨.ref wX.objs.size,rfl,?_⟩;rw [z1] at g2 ⊢;exact q _ g2 ⟨_,Ag _ g1,rfl,rfl⟩ λb o e=>Ag _ (k1 _ _ e)
  refine wpAny_ite_split (λ_=>?_) (λ_=>?_)
  ·exact Aa (Co (a:=(Ax t,bm)) rfl fin)
  ·exact Aa (Co (a:=(Ax t,bm)) rfl fin)
def Ie {t:ce} (h1:s.heap.IsTuple t items)
  (q:∀h':lf,IsEnum h' (s.heap.objs.size+1) s.heap.objs.size (0:Nat) .none->h'.IsTupleIter s.heap.objs.size t 0->(∀b o,s.heap.get? b=am o->h'.get? b=am o)->Q (.ref (s.heap.objs.size+1)) {s with heap:=h'}) :
  db (dL prog w) A (call (.type "enumerate") [.ref t]) Q E s:=
 callType_new F.called_enumerate ⋯ (F.typeCall_enumerate_1 _) (F.newCall_enumerate_1 _) (λo=>F.args_object_init_2 o _) F.entry_enumerate_new (qa t items) ⟨h1,λh' z i k=>⟨⟨_,z,rfl⟩,q h' z i k⟩⟩
def Ite (K:Ab) (a:ce):It where
 go:=λi H=>∃xs x,d4 K H a xs/\xs[i]?=am x
 SK:=λi H v H'=>∃p x,v=.ref p/\H p=bm/\H'=upd H p (.tup [.int i,x])/\∀xs,d4 K H a xs->xs[i]?=am x
 stop:=λi H=>∃xs,d4 K H a xs/\xs.length<=i
theorem Kc {K:Ab}{kk:Nat}{t:ce} (LN:e≠it) (ñ:t≠e) (RD:t≠it):Turn P w K (.Tuple Î kk pos) (Ite K t) [e,it] e (λi h=>(∃Ì,IsEnum h e it (i:Nat) Ì)/\h.IsTupleIter it t i) where
 mem:=by simp
 obj:=λi h st b hb=>by
  simp only [Aw,Bt,or_false] at hb;rcases hb with rfl | rfl
  ·obtain⟨⟨_,e⟩,_⟩:=st;exact⟨_,e,λv z=>by cases z⟩
  ·obtain⟨_,⟨o,e,_,d⟩⟩:=st;exact⟨o,e,λv z=>by rw [d] at z;cases z⟩
 keep:=λi h h' st k=>⟨let ⟨o,e'⟩:=st.1;⟨o,k e (by simp) _ e'⟩,let ⟨o,e',p⟩:=st.2;⟨o,k it (by simp) _ e',p⟩⟩
 item:=by
  intro X hP hw hK hc i Z s σ H E I hf st hg;subst hP hw hK;obtain⟨xs,x,hx,gx⟩:=hg;obtain⟨aq,rx,tx,_⟩:=I.tuple hx;obtain⟨u,gu,ru⟩:=mS rx gx;obtain⟨⟨Ì,hz⟩,hi⟩:=st;refine m8 LN ñ RD hz hi tx (by simpa using gu) λh' tk zo j np k=>?_;refine⟨_,rfl,?_⟩;refine DY zo λh2 z2 b2=>?_;have le:=Aq hz;have li:=let ⟨_,e',_⟩:=hi;Aq e';have lt:∀b∈[e,it],b < s.heap.objs.size:=λb hb=>by
   simp only [Aw,Bt,or_false] at hb;rcases hb with rfl | rfl
   ·exact le
   ·exact li
  have nz:s.heap.objs.size≠e:=λz=>AQ _ (by have:=le;rw [<- z] at this;exact this);have Zb:∀b o,b∉[e,it]->s.heap.get? b=am o->h2.get? b=am o:=λb o hb e'=>by
   have K5:b≠e:=λq=>hb (by simp [q]);rw [b2.2 b K5];exact k b o K5 (λq=>hb (by simp [q])) e'
  have YS:h2.get? s.heap.objs.size=am {cls:=.type "tuple",data:=.seq #[.int i s.toks,u]}:=(b2.2 _ nz).trans np;have ZF:=I.bp.fresh (An s.heap.objs.size);refine⟨.ref s.heap.objs.size,upd H s.heap.objs.size (.tup [.int i,x]),I.qZ (t':=tk) hf Zb (An _) ⟨by show 2<=sizeLine;decide,[.int i s.toks,u],.cons ⟨_,rfl⟩ (.cons ru .nil),⟨_,YS,rfl,_,rfl⟩⟩,rfl,⟨_,x,rfl,ZF,rfl,λxs' h'=>by rw [I.kX h' hx];exact gx⟩,⟨⟨_,z2⟩,let ⟨o,e',p⟩:=j;⟨o,(b2.2 _ (Bz LN)).trans e',p⟩⟩,λb hb=>?_⟩;rw [av (Az (lt b hb))];exact (hf b hb).1
 done:=by
  intro X hP hw hK hc i Z s σ H E I hf st hg;subst hP hw hK;obtain⟨xs,hx,hl⟩:=hg;obtain⟨aq,rx,tx,_⟩:=I.tuple hx;have el:=rx.length;obtain⟨⟨Ì,hz⟩,hi⟩:=st;refine oO (I.ok.hd hc) hz hi tx (by simp;omega) λh' k=>⟨rfl,I.vv (t':=s.toks) hf λb o hb e'=>k b o (λz=>hb (by simp [z])) e'⟩
 self:=λA i s Q E st h=>let ⟨_,e'⟩:=st.1;C2 e' h
end L2
namespace My
open PySem PySem.Spec PyProof.Rows L2
def Pf (l:List V) (i:Nat):Ent->List V
 | .word _=>l
 | .pair a b=>(l.set a (.int i)).set b (.int i)
def ah:List Ent->Nat->List V->List V
 | [],_,l=>l
 | e::es,i,l=>ah es (i+1) (Pf l i e)
theorem ya:∀(es:List Ent) (e:Ent) (i:Nat) (l:List V),ah (es++[e]) i l=Pf (ah es i l) (i+es.length) e
 | [],e,i,l=>rfl
 | x::es,e,i,l=>by
  show ah (es++[e]) (i+1) (Pf l i x)=Pf (ah es (i+1) (Pf l i x)) (i+(es.length+1)) e;rw [ya es e];congr 1;omega
def Sq (l:List V) (i:Nat) (e:Ent):(Pf l i e).length=l.length:=by cases e with
 | word=>rfl
 | pair=>show ((l.set _ _).set _ _).length=_;rw [BK,BK]
theorem Ik:∀(es:List Ent) (i:Nat) (l:List V),(ah es i l).length=l.length
 | [],_,_=>rfl
 | e::es,i,l=>by show (ah es (i+1) (Pf l i e)).length=_;rw [Ik es,Sq]
end My
namespace L2
open PySem PySem.Spec PyProof.Rows
def Itd (lo:Int) (n:Nat):It:=⟨λi _=>i < n,λi H x H'=>H'=H/\x=.int (lo-i),λi _=>n<=i⟩
theorem yG {K:Ab} (it:ce) (lo:Int) (n:Nat):Turn P w K tg (Itd lo n) [it] it (λi h=>IsRangeIter h it (lo+(i:Nat)*(-1)) ((n:Int)-(i:Nat)) (-1)) where
 mem:=by simp
 obj:=λi h st b hb=>by
  have e:b=it:=by simpa using hb
  subst e;exact⟨_,st,λv z=>by
   have z':=z;cases z'⟩
 keep:=λi h h' st k=>k it (by simp) _ st
 item:=by
  intro X hP hw hK hc i Z s σ H E I hf st hg;subst hP hw hK;obtain⟨f0,f1,f2,f3,f4,f5⟩:=hf it (by simp);have W:=Walks.range (prog:=X.prog) (w:=X.w) (I.ok.hd hc) it lo (-1) n;refine W.item i s _ _ hg st λv h' tk hv qA kk=>?_;obtain⟨t,rfl⟩:=hv;have I1:Inv X Z σ H {s with heap:=h',toks:=tk}:=I.turned (λb o hb e=>kk b o (by simpa using hb) e) f0 f1 f3 f4 f5;refine⟨_,rfl,zR (s:={s with heap:=h',toks:=tk}) (n:="range_iterator") qA rfl rfl ⋯ ⟨.int (lo-i),H,I1,⟨t,?_⟩,⟨rfl,rfl⟩,qA,λb hb=>(hf b hb).1⟩⟩;rw [show lo+(i:Int)*(-1)=lo-i by omega]
 done:=by
  intro X hP hw hK hc i Z s σ H E I hf st hg;obtain⟨f0,f1,f2,f3,f4,f5⟩:=hf it (by simp);exact wpAny_pyNext_range_end (I.ok.hd hc) st (by have:n<=i:=hg;omega) λh' eb=>⟨rfl,I.turned (t':=s.toks) (λb o hb e=>eb b o hb e) f0 f1 f3 f4 f5⟩
 self:=λ_ _ _ _ _ st h=>wpAny_pyIter_rangeiter st h
section
theorem Kt {σ:St}{R:It->Hp->Prop}{lo:Int}{t u v:Tok}{tk:Nat} (I:Inv X Z σ H s) (h1:-(2 ^ 62)<=lo) (h2:lo < 2 ^ 62) (h3:-(2 ^ 62)<=hi) (h4:hi < 2 ^ 62)
  (q:R (Itd lo (lo-hi).toNat) H):db (dL X.prog X.w) X.A (pyIter (.ref s.heap.objs.size)) (PIE X Z σ tg R) E {s with heap:=s.heap.push {cls:=.type "range",data:=.fields #[.int lo t,.int hi u,.int (-1) v]},toks:=tk}:=by
 refine wpAny_pyIter_range (IsRange.new ..) (PySem.W.small_down h1 h2 h3 h4) ?_;have I1:Inv X Z σ H {s with heap:=s.heap.push {cls:=.type "range",data:=.fields #[.int lo t,.int hi u,.int (-1) v]},toks:=tk}:=I.kept λb o e=>Ag _ e;refine⟨(s.heap.push {cls:=.type "range",data:=.fields #[.int lo t,.int hi u,.int (-1) v]}).objs.size,[(s.heap.push {cls:=.type "range",data:=.fields #[.int lo t,.int hi u,.int (-1) v]}).objs.size],_,_,H,rfl,
  I1.kept (t':=tk) λb o e=>Ag _ e,yG _ lo (lo-hi).toNat,?_,λb hb=>?_,q⟩
 ·have e1:lo+((0:Nat):Int)*(-1)=lo:=by simp
  have e2:(((lo-hi).toNat:Nat):Int)-((0:Nat):Int)=Builtin.Range.rangeSize lo hi (-1):=by rw [PySem.W.rangeSize_down];split <;> omega
  show IsRangeIter _ _ (lo+((0:Nat):Int)*(-1)) ((((lo-hi).toNat:Nat):Int)-((0:Nat):Int)) (-1);rw [e1,e2];exact Ao _ rfl
 ·have e:b=(s.heap.push {cls:=.type "range",data:=.fields #[.int lo t,.int hi u,.int (-1) v]}).objs.size:=by simpa using hb
  subst e;exact I1.xn (An _) (I1.bp.fresh (An _))
def Zi (ta:TA):TI:=λσ H R=>ta σ H λvs H1=>∃i j:Int,vs=[.int i,.int j,.int (-1)]/\(-(2 ^ 62)<=i/\i < 2 ^ 62/\-(2 ^ 62)<=j/\j < 2 ^ 62)/\R (Itd i (i-j).toNat) H1
def Kx {c:ii}{ta:TA} (hg:Gl X "range") (hm:X.mg "range"=bm) (ha:PA X [a,b,c] ta) (hs:f8 [a,b,c] X.env=[(false,kw a X.env),(false,kw b X.env),(false,kw c X.env)]:=by rfl) (qJ:f8 [b,c] X.env=[(false,kw b X.env),(false,kw c X.env)]:=by rfl) :
  PI X tg (.Call (.Name "range" p) [a,b,c] [] pos) (Zi ta):=by
 intro Z s σ H R I h;refine Call_ (ic I hg hm boot_range (Bd (bZ (ha pos Z s σ H _ I h) λus s1 ⟨vs,H1,I1,r1,q1⟩=>?_) (by show f8 _ _=_;rw [hs,qJ]) (by rw [qJ];rfl)));obtain⟨i,j,e,⟨q1,q2,q3,q4⟩,q⟩:=q1;subst e;cases r1 with
 | cons r rr=>
  cases rr with
  | cons r' rr=>
   cases rr with
   | cons r'' rr=>
    cases rr;obtain⟨t,rfl⟩:=r;obtain⟨t',rfl⟩:=r';obtain⟨t'',rfl⟩:=r'';refine call_range_3 ⋯ (Kt I1 q1 q2 q3 q4 q) (.inl ?_);unfold Builtin.divisionGoesByPylong;have e1:decide ((if ((-1:Int)==0)=true then 0 else (-1:Int).natAbs.log2 / 30+1) > 300)=false:=by decide
    simp only [e1,E6]
end
def aay (K:Ab) (a:ce):It where
 go:=λi H=>∃xs x,cR K H a xs/\xs[i]?=am x
 SK:=λi H v H'=>∃p x,v=.ref p/\H p=bm/\H'=upd H p (.tup [.int i,x])/\∀xs,cR K H a xs->xs[i]?=am x
 stop:=λi H=>∃xs,cR K H a xs/\xs.length<=i
theorem GA {K:Ab}{kk:Nat}{t:ce} (LN:e≠it):Turn P w K (.Tuple Î kk pos) (aay K t) [e,it] e (λi h=>(∃Ì,IsEnum h e it (i:Nat) Ì)/\h.IsListIter it t i) where
 mem:=by simp
 obj:=λi h st b hb=>by
  simp only [Aw,Bt,or_false] at hb;rcases hb with rfl | rfl
  ·obtain⟨⟨_,e⟩,_⟩:=st;exact⟨_,e,λv z=>by cases z⟩
  ·obtain⟨_,⟨o,e,_,d⟩⟩:=st;exact⟨o,e,λv z=>by rw [d] at z;cases z⟩
 keep:=λi h h' st k=>⟨let ⟨o,e'⟩:=st.1;⟨o,k e (by simp) _ e'⟩,let ⟨o,e',p⟩:=st.2;⟨o,k it (by simp) _ e',p⟩⟩
 item:=by
  intro X hP hw hK hc i Z s σ H E I hf st hg;subst hP hw hK;obtain⟨xs,x,hx,gx⟩:=hg;obtain⟨aq,rx,tx,_⟩:=I.list hx;obtain⟨u,gu,ru⟩:=mS rx gx;obtain⟨⟨Ì,hz⟩,hi⟩:=st;refine wpAny_pyNext_enum_item hz hi tx.isList (by simpa using gu) LN λh' zo j np _ k=>?_;refine⟨_,rfl,?_⟩;refine DY zo λh2 z2 b2=>?_;have le:=Aq hz;have li:=let ⟨_,e',_⟩:=hi;Aq e';have lt:∀b∈[e,it],b < s.heap.objs.size:=λb hb=>by
   simp only [Aw,Bt,or_false] at hb;rcases hb with rfl | rfl
   ·exact le
   ·exact li
  have nz:s.heap.objs.size≠e:=λz=>AQ _ (by have:=le;rw [<- z] at this;exact this);have Zb:∀b o,b∉[e,it]->s.heap.get? b=am o->h2.get? b=am o:=λb o hb e'=>by
   have K5:b≠e:=λq=>hb (by simp [q]);rw [b2.2 b K5];exact k b o K5 (λq=>hb (by simp [q])) e'
  have YS:h2.get? s.heap.objs.size=am {cls:=.type "tuple",data:=.seq #[.int i s.toks,u]}:=(b2.2 _ nz).trans np;have ZF:=I.bp.fresh (An s.heap.objs.size);refine⟨.ref s.heap.objs.size,upd H s.heap.objs.size (.tup [.int i,x]),I.qZ (t':=s.toks+1) hf Zb (An _) ⟨by show 2<=sizeLine;decide,[.int i s.toks,u],.cons ⟨_,rfl⟩ (.cons ru .nil),⟨_,YS,rfl,_,rfl⟩⟩,rfl,⟨_,x,rfl,ZF,rfl,λxs' h'=>by rw [I.zy h' hx];exact gx⟩,⟨⟨_,z2⟩,let ⟨o,e',p⟩:=j;⟨o,(b2.2 _ (Bz LN)).trans e',p⟩⟩,λb hb=>?_⟩;rw [av (Az (lt b hb))];exact (hf b hb).1
 done:=by
  intro X hP hw hK hc i Z s σ H E I hf st hg;subst hP hw hK;obtain⟨xs,hx,hl⟩:=hg;obtain⟨aq,rx,tx,_⟩:=I.list hx;have el:=rx.length;obtain⟨⟨Ì,hz⟩,hi⟩:=st;refine wpAny_pyNext_enum_end (I.ok.hd hc) hz hi tx.isList (by simp;omega) λh' k=>⟨rfl,I.vv (t':=s.toks) hf λb o hb e'=>k b o (λz=>hb (by simp [z])) e'⟩
 self:=λA i s Q E st h=>let ⟨_,e'⟩:=st.1;C2 e' h
end L2
namespace My
open PySem PySem.Spec PyProof.Rows L2
def en:Tr->Nat->Nat->Ent
 | .leaf x,_,_=>.word x
 | .node l r,o,j=>if j < l.size then en l o j else if j < l.size+r.size then en r (o+l.size) (j-l.size) else .pair (o+l.size-1) (o+l.size+r.size-1)
def up:Tr->Nat->Nat->List Nat->List Nat
 | .leaf _,o,_,ab=>o::ab
 | .node l r,o,j,ab=>if j < l.size then up l o j ((o+l.size+r.size)::ab) else if j < l.size+r.size then up r (o+l.size) (j-l.size) ((o+l.size+r.size)::ab) else (o+l.size+r.size)::ab
def ke:Tr->Nat->Nat->V->V
 | .leaf _,_,_,p=>p
 | .node l r,o,j,p=>if j < l.size then ke l o j (.int (o+l.size+r.size:Nat)) else if j < l.size+r.size then ke r (o+l.size) (j-l.size) (.int (o+l.size+r.size:Nat)) else p
def be:Tr->Nat->Nat->List Nat
 | .leaf _,o,_=>[o]
 | .node l r,o,j=>if j < l.size then be l o j else if j < l.size+r.size then be r (o+l.size) (j-l.size) else be l o (l.size-1)++be r (o+l.size) (r.size-1)
theorem gX:∀(t:Tr) (o j:Nat),j < t.size->(t.nd o)[j]?=am (en t o j)
 | .leaf x,o,j,h=>by
  have:j=0:=by have:j < 1:=h;omega
  subst this;rfl
 | .node l r,o,j,h=>by
  have es:(Tr.node l r).size=l.size+r.size+1:=rfl;have hn:(Tr.node l r).nd o=l.nd o++r.nd (o+l.size)++[.pair (o+l.size-1) (o+l.size+r.size-1)]:=rfl;have ln:=l.a8 o;have rn:=r.a8 (o+l.size);unfold en;by_cases c1:j < l.size
  ·rw [if_pos c1,hn,Ay,AL ∅];exact gX l o j c1
  ·rw [if_neg c1];by_cases c2:j < l.size+r.size
   ·rw [if_pos c2,hn,Ay,AU ∅,AL ∅,ln];exact gX r _ _ ∅
   ·rw [if_neg c2,hn,AU (by rw [Ah];omega),Ah,ln,rn];have:j-(l.size+r.size)=0:=by omega
    rw [this];rfl
theorem O8:∀(t:Tr) (o j:Nat),j < t.size->(∃x,en t o j=.word x/\be t o j=[o+j])\/∃a b,en t o j=.pair (o+a) (o+b)/\a < j/\b < j/\be t o j=be t o a++be t o b
 | .leaf x,o,j,h=>by
  have:j=0:=by have:j < 1:=h;omega
  subst this;exact .inl ⟨x,rfl,rfl⟩
 | .node l r,o,j,h=>by
  have es:(Tr.node l r).size=l.size+r.size+1:=rfl;have lp:=l.size_pos;have rp:=r.size_pos;by_cases c1:j < l.size
  ·have e1:en (.node l r) o j=en l o j:=by rw [en,if_pos c1]
   have e2:∀k,k < l.size->be (.node l r) o k=be l o k:=λk hk=>by rw [be,if_pos hk]
   rw [e1];rcases O8 l o j c1 with⟨x,q1,q2⟩ | ⟨a,b,q1,q2,q3,q4⟩
   ·exact .inl ⟨x,q1,by rw [e2 j c1];exact q2⟩
   ·exact .inr ⟨a,b,q1,q2,q3,by rw [e2 j c1,e2 a ∅,e2 b ∅];exact q4⟩
  ·by_cases c2:j < l.size+r.size
   ·have e1:en (.node l r) o j=en r (o+l.size) (j-l.size):=by rw [en,if_neg c1,if_pos c2]
    have e2:∀k,k < r.size->be (.node l r) o (l.size+k)=be r (o+l.size) k:=λk hk=>by
     rw [be,if_neg ∅,if_pos ∅];congr 1;omega
    have ej:j=l.size+(j-l.size):=by omega
    rw [e1];rcases O8 r (o+l.size) (j-l.size) ∅ with⟨x,q1,q2⟩ | ⟨a,b,q1,q2,q3,q4⟩
    ·refine .inl ⟨x,q1,?_⟩;rw [ej,e2 _ ∅,q2];congr 1;omega
    ·refine .inr ⟨l.size+a,l.size+b,?_,by omega,by omega,?_⟩
     ·rw [q1,Bg,Bg]
     ·rw [e2 a ∅,e2 b ∅,ej,e2 _ ∅,q4]
   ·have ej:j=l.size+r.size:=by omega
    refine .inr ⟨l.size-1,l.size+r.size-1,?_,by omega,by omega,?_⟩
    ·rw [en,if_neg c1,if_neg c2];congr 1 <;> omega
    ·rw [be,if_neg c1,if_neg c2,be,if_pos ∅,be,if_neg ∅,if_pos ∅];congr 2;omega
theorem qY:∀(t:Tr) (o j:Nat) (p:V) (ab:List Nat),j < t.size->(j=t.size-1/\ke t o j p=p/\up t o j ab=(o+j)::ab)\/∃a,j < a/\a < t.size/\ke t o j p=.int (o+a:Nat)/\up t o j ab=(o+j)::up t o a ab
 | .leaf x,o,j,p,ab,h=>by
  have:j=0:=by have:j < 1:=h;omega
  subst this;exact .inl ⟨rfl,rfl,rfl⟩
 | .node l r,o,j,p,ab,h=>by
  have es:(Tr.node l r).size=l.size+r.size+1:=rfl;have lp:=l.size_pos;have rp:=r.size_pos;have er:up (.node l r) o (l.size+r.size) ab=(o+l.size+r.size)::ab:=by rw [up,if_neg ∅,if_neg ∅]
  by_cases c1:j < l.size
  ·have e1:ke (.node l r) o j p=ke l o j (.int (o+l.size+r.size:Nat)):=by rw [ke,if_pos c1]
   have e2:∀k,k < l.size->up (.node l r) o k ab=up l o k ((o+l.size+r.size)::ab):=λk hk=>by rw [up,if_pos hk]
   rw [e1,e2 j c1];rcases qY l o j (.int (o+l.size+r.size:Nat)) ((o+l.size+r.size)::ab) c1 with⟨q1,q2,q3⟩ | ⟨a,q1,q2,q3,q4⟩
   ·refine .inr ⟨l.size+r.size,by omega,by omega,by rw [q2,Bg],by rw [q3,er]⟩
   ·exact .inr ⟨a,q1,by omega,q3,by rw [q4,e2 a q2]⟩
  ·by_cases c2:j < l.size+r.size
   ·have e1:ke (.node l r) o j p=ke r (o+l.size) (j-l.size) (.int (o+l.size+r.size:Nat)):=by rw [ke,if_neg c1,if_pos c2]
    have e2:∀k,k < r.size->up (.node l r) o (l.size+k) ab=up r (o+l.size) k ((o+l.size+r.size)::ab):=λk hk=>by
     rw [up,if_neg ∅,if_pos ∅];congr 1;omega
    obtain⟨i,rfl⟩:∃i,j=l.size+i:=⟨j-l.size,by omega⟩;have ei:l.size+i-l.size=i:=by omega
    rw [e1,e2 i ∅,ei];rcases qY r (o+l.size) i (.int (o+l.size+r.size:Nat)) ((o+l.size+r.size)::ab) ∅ with⟨q1,q2,q3⟩ | ⟨a,q1,q2,q3,q4⟩
    ·refine .inr ⟨l.size+r.size,by omega,by omega,by rw [q2,Bg],by rw [q3,er,Bg]⟩
    ·exact .inr ⟨l.size+a,by omega,by omega,by rw [q3,Bg],by rw [q4,e2 a q2,Bg]⟩
   ·have ej:j=l.size+r.size:=by omega
    refine .inl ⟨by omega,by rw [ke,if_neg c1,if_neg c2],?_⟩;rw [ej,er,Bg]
def mh:Tr->Nat->V->List V
 | .leaf _,_,p=>[p]
 | .node l r,o,p=>mh l o (.int (o+l.size+r.size:Nat))++mh r (o+l.size) (.int (o+l.size+r.size:Nat))++[p]
theorem jM:∀(t:Tr) (o:Nat) (p:V),(mh t o p).length=t.size
 | .leaf _,_,_=>rfl
 | .node l r,o,p=>by
  unfold mh;rw [Ah,Ah,jM l,jM r];rfl
theorem J3 (t:Tr) (o:Nat) (p q:V) (A B:List V):(A++mh t o p++B).set (A.length+t.size-1) q=A++mh t o q++B:=by
 have key:∃I,mh t o p=I++[p]/\mh t o q=I++[q]:=by
  cases t with
  | leaf _=>exact⟨[],rfl,rfl⟩
  | node l r=>exact⟨_,rfl,rfl⟩
 obtain⟨I,e1,e2⟩:=key;have h1:=jM t o p;rw [e1,Ah] at h1;have gB:I.length+1=t.size:=h1;rw [e1,e2];have ei:A.length+t.size-1=(A++I).length:=by rw [Ah];omega
 rw [ei,show A++(I++[p])++B=(A++I)++p::B by simp,List.set_append_right _ _ (An _),C3];simp
theorem Pe:∀(es fs:List Ent) (i:Nat) (l:List V),ah (es++fs) i l=ah fs (i+es.length) (ah es i l)
 | [],fs,i,l=>rfl
 | e::es,fs,i,l=>by
  show ah (es++fs) (i+1) (Pf l i e)=ah fs (i+(es.length+1)) (ah es (i+1) (Pf l i e));rw [Pe es fs];congr 1;omega
theorem Il:∀(t:Tr) (A B:List V),ah (t.nd A.length) A.length (A++Am t.size .aE++B)=A++mh t A.length .aE++B
 | .leaf x,A,B=>rfl
 | .node l r,A,B=>by
  have es:(Tr.node l r).size=l.size+r.size+1:=rfl;have hn:(Tr.node l r).nd A.length=l.nd A.length++r.nd (A.length+l.size)++[.pair (A.length+l.size-1) (A.length+l.size+r.size-1)]:=rfl;have ln:=l.a8 A.length;have rn:=r.a8 (A.length+l.size);have h1:=Il l A (Am r.size .aE++([V.aE]++B));have e0:A++Am (Tr.node l r).size V.aE++B=A++Am l.size .aE++(Am r.size .aE++([V.aE]++B)):=by
   rw [es,<- C6,<- C6];simp only [Ay];rfl
  rw [hn,ya,Pe,e0,h1,ln];have la:(A++mh l A.length V.aE).length=A.length+l.size:=by rw [Ah,jM]
  have h2:=Il r (A++mh l A.length V.aE) ([V.aE]++B);rw [la] at h2;have e1:A++mh l A.length V.aE++(Am r.size V.aE++([V.aE]++B))=A++mh l A.length V.aE++Am r.size V.aE++([V.aE]++B):=by simp [Ay]
  rw [e1,h2,Ah,ln,rn];show ((_:List V).set (A.length+l.size-1) _).set (A.length+l.size+r.size-1) _=_;have s1:=J3 l A.length .aE (.int (A.length+(l.size+r.size):Nat)) A (mh r (A.length+l.size) V.aE++([V.aE]++B));have e2:A++mh l A.length V.aE++mh r (A.length+l.size) V.aE++([V.aE]++B)=A++mh l A.length V.aE++(mh r (A.length+l.size) V.aE++([V.aE]++B)):=by simp [Ay]
  rw [e2,s1];have lb:(A++mh l A.length (V.int (A.length+(l.size+r.size):Nat))).length=A.length+l.size:=by rw [Ah,jM]
  have s2:=J3 r (A.length+l.size) .aE (.int (A.length+(l.size+r.size):Nat)) (A++mh l A.length (V.int (A.length+(l.size+r.size):Nat))) ([V.aE]++B);rw [lb] at s2;have e3:A++mh l A.length (V.int (A.length+(l.size+r.size):Nat))++(mh r (A.length+l.size) V.aE++([V.aE]++B))=A++mh l A.length (V.int (A.length+(l.size+r.size):Nat))++mh r (A.length+l.size) V.aE++([V.aE]++B):=by simp [Ay]
  rw [e3,s2];have e4:mh (.node l r) A.length .aE=mh l A.length (.int (A.length+l.size+r.size:Nat))++mh r (A.length+l.size) (.int (A.length+l.size+r.size:Nat))++[.aE]:=rfl;rw [e4,Bg A.length l.size r.size];simp [Ay]
theorem xY:∀(t:Tr) (o j:Nat) (p:V),j < t.size->(mh t o p)[j]?=am (ke t o j p)
 | .leaf x,o,j,p,h=>by
  have:j=0:=by have:j < 1:=h;omega
  subst this;rfl
 | .node l r,o,j,p,h=>by
  have es:(Tr.node l r).size=l.size+r.size+1:=rfl;have ln:=jM l o (.int (o+l.size+r.size:Nat));have rn:=jM r (o+l.size) (.int (o+l.size+r.size:Nat));unfold mh ke;by_cases c1:j < l.size
  ·rw [if_pos c1,Ay,AL ∅];exact xY l _ _ _ c1
  ·rw [if_neg c1];by_cases c2:j < l.size+r.size
   ·rw [if_pos c2,Ay,AU ∅,AL ∅,ln];exact xY r _ _ _ ∅
   ·rw [if_neg c2,AU (by rw [Ah];omega),Ah,ln,rn];have:j-(l.size+r.size)=0:=by omega
    rw [this];rfl
def WN (t:Tr) (h:j < t.size):(ah (t.nd 0) 0 (Am t.size .aE))[j]?=am (ke t 0 j .aE):=by
 have q:=Il t [] [];have e:([]:List V)++Am t.size .aE++[]=Am t.size .aE:=by simp
 have e2:([]:List V)++mh t ([]:List V).length .aE++[]=mh t 0 .aE:=by simp
 rw [e,e2] at q;have q':ah (t.nd 0) 0 (Am t.size .aE)=mh t 0 .aE:=q;rw [q'];exact xY t 0 j .aE h
end My
variable {H1:L2.Hp}{ι:List BB}
namespace PL
section
open PySem PySem.Spec PyProof.Rows L2
variable {K:Ab}
def T3 (K:Ab) (H:Hp) (a:ce) (xs:List V):Prop:=(∃o,H a=am (.cx o (.lst xs)))\/
  ∃(o:Obj) (aq:Array bn) (n:Nat),K.lookup a=am o/\o.cls=.type "list"/\o.dict=bm/\o.data=.seq aq n/\aq.size<=sizeLine/\Vals xs aq.toList
def T3.sq {a:ce} (h:T3 K H a xs):cR K H a xs:=h.elim (λh=>.inl (.inr h)) .inr
structure a9 (K:Ab) (H H':Hp):Prop where
 t:∀p vs,H p=am (.tup vs)->H' p=am (.tup vs)
 z:∀p o u,H p=am (.cx o u)->H' p=am (.cx o u)
def a9.f {H H':Hp} (t:a9 K H H') (p:ce) (vs:List V) (h:T3 K H p vs):T3 K H' p vs:=h.elim (λ⟨o,h⟩=>.inl ⟨o,t.z _ _ _ h⟩) .inr
def a9.refl (H:Hp):a9 K H H:=⟨λ_ _ h=>h,λ_ _ _ h=>h⟩
def a9.trans (a:a9 K H H1) (b:a9 K H1 H2):a9 K H H2:=⟨λp vs h=>b.t p vs (a.t p vs h),λp o w h=>b.z p o w (a.z p o w h)⟩
def _root_.L2.kR.eL (s:kR H H'):a9 K H H':=⟨λp vs h=>s _ _ h,λp o u h=>s _ _ h⟩
inductive PV where
 | aE | bl (b:Bool) | int (i:Int) | str (x:Str) | tup (l:List PV) | ref (n:Nat) | ty (n:String) | cl (l:List PV) | dv (ks vs:List PV)
def kP:Key->PV
 | .inl i=>.int i
 | .inr x=>.str x
inductive PO where
 | lst (xs:List PV) | dk (kvs:List (Key×PV)) | dt (kvs:List (List Key×PV)) | opq (φ:List V->Prop)
abbrev PH:=List PO
abbrev yz:=List (Option PV)
mutual
inductive VR (K:Ab) (ι:List ce) (H:Hp):V->PV->Prop
 | aE:VR K ι H .aE .aE
 | bl (b:Bool):VR K ι H (.bl b) (.bl b)
 | int (i:Int):VR K ι H (.int i) (.int i)
 | str (x:Str):VR K ι H (.str x) (.str x)
 | ty (n:String):VR K ι H (.ty n) (.ty n)
 | tup {p:ce}{vs:List V}{l:List PV} (h:H p=am (.tup vs)) (r:aD K ι H vs l):VR K ι H (.ref p) (.tup l)
 | ref {n:Nat}{a:ce} (h:ι[n]?=am a):VR K ι H (.ref a) (.ref n)
 | cl {a:ce}{vs:List V}{l:List PV} (h:T3 K H a vs) (r:aD K ι H vs l):VR K ι H (.ref a) (.cl l)
 | dk {a:ce}{o:Obj}{kvs:List (Key×V)}{ks l:List PV} (h:H a=am (.cx o (.dK kvs))) (e:ks=kvs.map λkv=>kP kv.1) (r:aD K ι H (kvs.map (·.2)) l):VR K ι H (.ref a) (.dv ks l)
 | dt {a:ce}{o:Obj}{kvs:List (List Key×V)}{ks l:List PV} (h:H a=am (.cx o (.dT kvs))) (e:ks=kvs.map λkv=>.tup (kv.1.map kP)) (r:aD K ι H (kvs.map (·.2)) l):VR K ι H (.ref a) (.dv ks l)
inductive aD (K:Ab) (ι:List ce) (H:Hp):List V->List PV->Prop
 | nil:aD K ι H [] []
 | cons {v:V}{p:PV}{vs:List V}{ps:List PV} (r:VR K ι H v p) (t:aD K ι H vs ps):aD K ι H (v::vs) (p::ps)
end
section
variable {ι':List ce}
mutual
theorem VR.mono (ht:a9 K H H') (hi:∀(n:Nat) (a:ce),ι[n]?=am a->ι'[n]?=am a):∀{v:V}{p:PV},VR K ι H v p->VR K ι' H' v p
 | _,_,.aE=>.aE
 | _,_,.bl b=>.bl b
 | _,_,.int i=>.int i
 | _,_,.str x=>.str x
 | _,_,.ty n=>.ty n
 | _,_,.tup h r=>.tup (ht.t _ _ h) (aD.mono ht hi r)
 | _,_,.cl h r=>.cl (ht.f _ _ h) (aD.mono ht hi r)
 | _,_,.dk h e r=>.dk (ht.z _ _ _ h) e (aD.mono ht hi r)
 | _,_,.dt h e r=>.dt (ht.z _ _ _ h) e (aD.mono ht hi r)
 | _,_,.ref h=>.ref (hi _ _ h)
theorem aD.mono (ht:a9 K H H') (hi:∀(n:Nat) (a:ce),ι[n]?=am a->ι'[n]?=am a):∀{vs:List V}{ps:List PV},aD K ι H vs ps->aD K ι' H' vs ps
 | _,_,.nil=>.nil
 | _,_,.cons r t=>.cons (VR.mono ht hi r) (aD.mono ht hi t)
end
theorem aD.length:∀{vs:List V}{ps:List PV},aD K ι H vs ps->vs.length=ps.length
 | _,_,.nil=>rfl
 | _,_,.cons _ t=>by rw [Ap,Ap,aD.length t]
theorem aD.get:∀{vs:List V}{ps:List PV}{i:Nat}{p:PV},aD K ι H vs ps->ps[i]?=am p->∃v,vs[i]?=am v/\VR K ι H v p
 | _,_,_,_,.nil,e=>by simp at e
 | _,_,0,_,.cons r _,e=>by simp at e;subst e;exact⟨_,rfl,r⟩
 | _,_,i+1,p,.cons _ t,e=>by
  obtain⟨v,h1,h2⟩:=aD.get (i:=i) (p:=p) t (by simpa using e);exact⟨v,by simpa using h1,h2⟩
theorem aD.ZN:∀{vs:List V}{ps:List PV}{i:Nat}{v:V},aD K ι H vs ps->vs[i]?=am v->∃p,ps[i]?=am p/\VR K ι H v p
 | _,_,_,_,.nil,e=>by simp at e
 | _,_,0,_,.cons r _,e=>by simp at e;subst e;exact⟨_,rfl,r⟩
 | _,_,i+1,p,.cons _ t,e=>by
  obtain⟨v,h1,h2⟩:=aD.ZN (i:=i) (v:=p) t (by simpa using e);exact⟨v,by simpa using h1,h2⟩
theorem aD.set {p:PV} (r:VR K ι H v p):∀{vs:List V}{ps:List PV} (i:Nat),aD K ι H vs ps->aD K ι H (vs.set i v) (ps.set i p)
 | _,_,_,.nil=>.nil
 | _,_,0,.cons _ t=>.cons r t
 | _,_,i+1,.cons q t=>.cons q (aD.set r i t)
theorem aD.append:∀{xs ys:List V}{us ws:List PV},aD K ι H xs us->aD K ι H ys ws->aD K ι H (xs++ys) (us++ws)
 | _,_,_,_,.nil,s=>s
 | _,_,_,_,.cons r t,s=>.cons r (aD.append t s)
theorem aD.reverse:∀{xs:List V}{us:List PV},aD K ι H xs us->aD K ι H xs.reverse us.reverse
 | _,_,.nil=>.nil
 | _,_,.cons r t=>by rw [CD,CD];exact (aD.reverse t).append (.cons r .nil)
def aD.one {p:PV} (r:VR K ι H v p):aD K ι H [v] [p]:=.cons r .nil
end
structure Go (ι ι':List ce) (H H':Hp):Prop where
 ext:∃m,ι'=ι++m
 new:∀a,a∈ι'->a∉ι->H a=bm
 keep:∀a o,a∉ι->H a=am o->H' a=am o
def Go.refl (ι:List ce) (H:Hp):Go ι ι H H:=⟨⟨[],by simp⟩,λa h n=>absurd h n,λ_ _ _ h=>h⟩
def OR (K:Ab) (ι:List ce) (H:Hp) (a:ce):PO->Prop
 | .lst xs=>∃vs,H a=am (.lst vs)/\aD K ι H vs xs
 | .dk kvs=>∃vs:List (Key×V),H a=am (.dK vs)/\vs.map (·.1)=kvs.map (·.1)/\aD K ι H (vs.map (·.2)) (kvs.map (·.2))
 | .dt kvs=>∃vs:List (List Key×V),H a=am (.dT vs)/\vs.map (·.1)=kvs.map (·.1)/\aD K ι H (vs.map (·.2)) (kvs.map (·.2))
 | .opq φ=>∃vs,H a=am (.lst vs)/\φ vs
structure HR (K:Ab) (ι:List ce) (H:Hp) (h:PH):Prop where
 nd:ι.Nodup
 len:ι.length=h.length
 obj:∀(n:Nat) (a:ce) (o:PO),ι[n]?=am a->h[n]?=am o->OR K ι H a o
end
end PL
variable {e:B2}
namespace PL
section
open PySem PySem.Spec PyProof.Rows L2
variable {K:Ab}
abbrev QV:=PV->PH->Prop
structure ME where
 run:yz->PH->QV->Prop
 mono:∀{ps h}{Q Q':QV},(∀v h',Q v h'->Q' v h')->run ps h Q->run ps h Q'
structure MT where
 run:yz->PH->(Bool->PH->Prop)->Prop
 mono:∀{ps h}{Q Q':Bool->PH->Prop},(∀v h',Q v h'->Q' v h')->run ps h Q->run ps h Q'
structure MA where
 run:yz->PH->(List PV->PH->Prop)->Prop
 mono:∀{ps h}{Q Q':List PV->PH->Prop},(∀v h',Q v h'->Q' v h')->run ps h Q->run ps h Q'
structure ML where
 run:yz->PH->(List PV->PH->Prop)->Prop
 mono:∀{ps h}{Q Q':List PV->PH->Prop},(∀v h',Q v h'->Q' v h')->run ps h Q->run ps h Q'
structure Src where
 items:List PV
 ok:PH->Prop
 fz:Bool
structure MI where
 run:yz->PH->(Src->PH->Prop)->Prop
 mono:∀{ps h}{Q Q':Src->PH->Prop},(∀v h',Q v h'->Q' v h')->run ps h Q->run ps h Q'
structure PD where
 nx:yz->PH->Prop
 rt:QV
 bk:yz->PH->Prop
 ct:yz->PH->Prop
structure PD.Le (D D':PD):Prop where
 nx:∀ps h,D.nx ps h->D'.nx ps h
 rt:∀v h,D.rt v h->D'.rt v h
 bk:∀ps h,D.bk ps h->D'.bk ps h
 ct:∀ps h,D.ct ps h->D'.ct ps h
structure MS where
 run:PD->yz->PH->Prop
 mono:∀{D D' ps h},PD.Le D D'->run D ps h->run D' ps h
structure MG where
 run:PV->yz->PH->(yz->PH->Prop)->Prop
 mono:∀{v ps h}{Q Q':yz->PH->Prop},(∀ps h,Q ps h->Q' ps h)->run v ps h Q->run v ps h Q'
def pQ (K:Ab) (ι:List ce) (H:Hp) (Q:VK):QV:=λp h'=>∀ι' v H',Go ι ι' H H'->HR K ι' H' h'->VR K ι' H' v p->Q v H'
def PE.imp {t t':TE} (h:PE X e t) (f:∀σ H Q,t' σ H Q->t σ H Q):PE X e t':=λZ s σ H Q I q=>h Z s σ H Q I (f _ _ _ q)
def PT.imp {t t':TT} (h:PT X e t) (f:∀σ H Q,t' σ H Q->t σ H Q):PT X e t':=λZ s σ H Q I q=>h Z s σ H Q I (f _ _ _ q)
def PW.imp {t t':TT} (h:PW X e t) (f:∀σ H Q,t' σ H Q->t σ H Q):PW X e t':=λw Z s σ H Q I q=>h w Z s σ H Q I (f _ _ _ q)
def PA.imp {e:List ii}{t t':TA} (h:PA X e t) (f:∀σ H Q,t' σ H Q->t σ H Q):PA X e t':=λpos Z s σ H Q I q=>h pos Z s σ H Q I (f _ _ _ q)
def PS.imp {e:sn}{t t':TS} (h:PS X e t) (f:∀D σ H,t' D σ H->t D σ H):PS X e t':=λZ s σ H D I q=>h Z s σ H D I (f _ _ _ q)
def qQ.imp {e:List sn}{t t':TS} (h:qQ X e t) (f:∀D σ H,t' D σ H->t D σ H):qQ X e t':=λZ s σ H D I q=>h Z s σ H D I (f _ _ _ q)
def PG.imp {t t':TG} (h:PG X e t) (f:∀v σ H Q,t' v σ H Q->t v σ H Q):PG X e t':=λZ s σ H v u Q I r q=>h Z s σ H v u Q I r (f _ _ _ _ q)
def PI.imp {t t':TI} (h:PI X tg e t) (f:∀σ H Q,t' σ H Q->t σ H Q):PI X tg e t':=λZ s σ H R I q=>h Z s σ H R I (f _ _ _ q)
section
abbrev P2:=PV->PV->PH->QV->Prop
structure M2 where
 f:P2
 mono:∀{x y h}{Q Q':QV},(∀v h',Q v h'->Q' v h')->f x y h Q->f x y h Q'
def M2.Ok (K:Ab) (r:R2) (m:M2):Prop:=∀{ι H h u v x y Q},HR K ι H h->VR K ι H u x->VR K ι H v y->m.f x y h (pQ K ι H Q)->r u v H Q
end
end
section
open PySem PySem.Spec PyProof.Rows L2
variable {K:Ab}
section
def kB:∀{vs:List V}{l:List PV},aD K ι H vs l->(!l.isEmpty)=!vs.isEmpty
 | _,_,.nil=>rfl
 | _,_,.cons _ _=>rfl
structure MQ where
 run:yz->PH->(Src->PH->Prop)->Prop
 mono:∀{ps h}{Q Q':Src->PH->Prop},(∀v h',Q v h'->Q' v h')->run ps h Q->run ps h Q'
end
end
open PySem PySem.Spec PyProof.Rows L2
section
structure MGs where
 run:List PV->yz->PH->(yz->PH->Prop)->Prop
 mono:∀{v ps h}{Q Q':yz->PH->Prop},(∀ps h,Q ps h->Q' ps h)->run v ps h Q->run v ps h Q'
end
section
variable {K:Ab}
section
structure yA where
 f:List PV->PH->QV->Prop
 mono:∀{l h}{Q Q':QV},(∀v h',Q v h'->Q' v h')->f l h Q->f l h Q'
def yA.Ok (K:Ab) (r:List V->Hp->VK->Prop) (m:yA):Prop:=∀{ι H h vs l Q},HR K ι H h->aD K ι H vs l->m.f l h (pQ K ι H Q)->r vs H Q
end
end
end PL
variable {g':Int->Int->L2.V}{g:Int->Int->PL.PV}
namespace PL
section
open PySem PySem.Spec PyProof.Rows L2
variable {K:Ab}
def aI (g:Int->Int->PV):M2:=⟨λx y h Q=>match x,y with | .int i,.int j=>Q (g i j) h | _,_=>False,λf q=>by
 revert q
 split
 ·exact f _ _
 ·exact λz=>z⟩
def WR (C:Int->Int->Prop) (g:Int->Int->PV):M2:=⟨λx y h Q=>match x,y with | .int i,.int j=>C i j/\Q (g i j) h | _,_=>False,λf q=>by
 revert q
 split
 ·exact λq=>⟨q.1,f _ _ q.2⟩
 ·exact λz=>z⟩
def F4 (hg:∀ι H i j,VR K ι H (g' i j) (g i j)):M2.Ok K (Qm g') (aI g):=by
 intro ι H h u v x y Q hr hu hv q;unfold aI at q;dsimp only at q;revert q
 split
 ·intro q;cases hu;cases hv;exact⟨_,_,rfl,rfl,q ι _ H (Go.refl _ _) hr (hg _ _ _ _)⟩
 ·exact Bo
def yb {C:Int->Int->Prop} (hg:∀ι H i j,VR K ι H (g' i j) (g i j)):M2.Ok K (rI C g') (WR C g):=by
 intro ι H h u v x y Q hr hu hv q;unfold WR at q;dsimp only at q;revert q
 split
 ·intro q;cases hu;cases hv;exact⟨_,_,rfl,rfl,q.1,q.2 ι _ H (Go.refl _ _) hr (hg _ _ _ _)⟩
 ·exact Bo
def zd:=aI λi j=>.int (i-j)
def oT:=WR wv λi j=>.int (i*j)
def oDiv:=WR LJ λi j=>.int (i / j)
def oMod:=WR (λ_ j=>0 < j) λi j=>.int (i % j)
def Nc:=WR Pp λi j=>.int (i ^ j.toNat)
def oLt:=aI λi j=>.bl (decide (i < j))
def oLe:=aI λi j=>.bl (decide (i<=j))
def oGt:=aI λi j=>.bl (decide (j < i))
def oGe:=aI λi j=>.bl (decide (j<=i))
section
def aD.je:∀{vs:List V}{l:List PV},aD K ι H vs l->(vs=[]↔l=[])
 | _,_,.nil=>by simp
 | _,_,.cons _ _=>by simp
end
mutual
def PV.dat:PV->Bool
 | .tup l=>sW l
 | .ref _=>false
 | .ty _=>false
 | .cl _=>false
 | .dv _ _=>false
 | _=>true
def sW:List PV->Bool
 | []=>true
 | x::l=>x.dat&&sW l
end
end
section
open PySem PySem.Spec PyProof.Rows L2
variable {K:Ab}
section
def PV.gz:PV->Bool
 | .aE=>true
 | _=>false
def zf:M2:=⟨λx y h Q=>match y with | .aE=>Q (.bl x.gz) h | _=>False,λf q=>by
 revert q
 split
 ·exact f _ _
 ·exact λz=>z⟩
def uD:M2:=⟨λx y h Q=>match y with | .aE=>Q (.bl (!x.gz)) h | _=>False,λf q=>by
 revert q
 split
 ·exact f _ _
 ·exact λz=>z⟩
def uS {x:PV} (h:VR K ι H v x):decide (v=.aE)=x.gz:=by cases h <;> simp [PV.gz]
def QY:M2.Ok K (λx y H Q=>y=.aE/\Q (.bl (decide (x=.aE))) H) zf:=by
 intro ι H h u v x y Q hr hu hv q;cases hv with
 | aE=>exact⟨rfl,q ι _ H (Go.refl _ _) hr (by rw [uS hu];exact .bl _)⟩
 | _=>exact q.elim
def Nd:M2.Ok K (λx y H Q=>y=.aE/\Q (.bl (!decide (x=.aE))) H) uD:=by
 intro ι H h u v x y Q hr hu hv q;cases hv with
 | aE=>exact⟨rfl,q ι _ H (Go.refl _ _) hr (by rw [uS hu];exact .bl _)⟩
 | _=>exact q.elim
end
end
end PL
variable {l:List PL.PV}
namespace PL
section
open PySem PySem.Spec PyProof.Rows L2
variable {K:Ab}
section
def Mv {v':V}{w:bn} (h:RelV v w) (h':RelV v' w):v=v':=Option.some.inj (h.abs.symm.trans h'.abs)
end
section
variable {c:ii}
def mIx (a:MQ) (b:ME):ME:=⟨λps h Q=>a.run ps h λS h1=>b.run ps h1 λy h2=>match y with
 | .int k=>S.ok h2/\match dH S.items k with | some v=>Q v h2 | none=>False
 | _=>False,λf q=>a.mono (λ_ _ q=>b.mono (λ_ _ q=>by
  revert q
  split
  ·rintro⟨q0,q⟩;refine⟨q0,?_⟩;revert q
   split
   ·exact f _ _
   ·exact λz=>z
  ·exact λz=>z) q) q⟩
def aD.dH (r:aD K ι H vs l) {k:Int}{p:PV} (e:L2.dH l k=am p):∃v,L2.dH vs k=am v/\VR K ι H v p:=by
 unfold L2.dH at e ⊢;rw [r.length];cases z:uQ l.length k with
 | none=>rw [z] at e;cases e
 | some j=>
  rw [z] at e;exact r.get e
def Nf:M2:=⟨λx y h Q=>match x,y with
 | .str z,.int k=>z.length<=sizeLine/\match L2.dH z.cps.toList k with | some c=>Q (.str ⟨#[c]⟩) h | none=>False
 | _,_=>False,λf q=>by
  revert q
  split
  ·rintro⟨q0,q⟩;refine⟨q0,?_⟩;revert q
   split
   ·exact f _ _
   ·exact λz=>z
  ·exact λz=>z⟩
def QX:M2.Ok K UK Nf:=by
 intro ι H h u v x y Q hr hu hv q;unfold Nf at q;dsimp only at q;revert q
 split
 ·rename_i z k;rintro⟨q0,q⟩;cases hu;cases hv;cases e:L2.dH z.cps.toList k with
  | none=>rw [e] at q;exact q.elim
  | some c=>rw [e] at q;exact⟨z,k,c,rfl,rfl,q0,e,q ι _ H (Go.refl _ _) hr (.str _)⟩
 ·exact Bo
def dq:yA:=⟨λl h Q=>match l with
 | [.str y]=>y.length<=sizeLine/\Q (.int y.length) h
 | [.tup l]=>Q (.int l.length) h
 | [.cl l]=>Q (.int l.length) h
 | [.ref n]=>match h[n]? with
  | some (.lst xs)=>Q (.int xs.length) h
  | _=>False
 | _=>False,λf q=>by
  revert q
  split
  ·exact λq=>⟨q.1,f _ _ q.2⟩
  ·exact f _ _
  ·exact f _ _
  ·split
   ·exact f _ _
   ·exact λz=>z
  ·exact λz=>z⟩
def Sf (K:Ab):yA.Ok K (UJ K) dq:=by
 intro ι H h vs l Q hr hv q;unfold dq at q;dsimp only at q;revert q
 split
 ·intro q;cases hv with
  | cons x t=>cases t;cases x;exact⟨_,_,rfl,⟨q.1,rfl⟩,q.2 ι _ H (Go.refl _ _) hr (.int _)⟩
 ·intro q;cases hv with
  | cons x t=>
   cases t;cases x with
   | tup e r=>exact⟨_,_,rfl,.inr ⟨_,d4.of e,r.length.symm⟩,q ι _ H (Go.refl _ _) hr (.int _)⟩
 ·intro q;cases hv with
  | cons x t=>
   cases t;cases x with
   | cl e r=>exact⟨_,_,rfl,.inl ⟨_,e.sq,r.length.symm⟩,q ι _ H (Go.refl _ _) hr (.int _)⟩
 ·rename_i n;cases hv with
  | cons x t=>
   cases t;cases x with
   | @ref _ a e=>
   split
   ·rename_i xs hn;intro q;obtain⟨ws,e1,e2⟩:=hr.obj n a _ e hn;exact⟨_,_,rfl,.inl ⟨ws,cR.of e1,e2.length.symm⟩,q ι _ H (Go.refl _ _) hr (.int _)⟩
   ·exact Bo
 ·exact Bo
inductive Kd where
 | str | tup | int | bool
def Kd.name:Kd->String
 | .str=>"str" | .tup=>"tuple" | .int=>"int" | .bool=>"bool"
def Kd.is:Kd->PV->Bool
 | .str,.str _=>true
 | .tup,.tup _=>true
 | .int,.int _=>true
 | .int,.bl _=>true
 | .bool,.bl _=>true
 | _,_=>false
def Yt (K:Ab):List V->Hp->VK->Prop:=λxs H Q=>∃x c t b,xs=[x,.ty c]/\(lN K H x t\/(t=.type "tuple"/\∃a vs,x=.ref a/\d4 K H a vs))/\Bq K t (.type c)=am b/\Q (.bl b) H
def Lw (K:Ab) (hK:X.K=K):bE X (.builtin "isinstance") (Yt K):=by
 subst hK;intro Z s σ H xs us Q I r h;obtain⟨x,c,t,b,rfl,ty | ⟨rfl,a,vs,rfl,hT⟩,e,q⟩:=h
 ·exact pT Z s σ H _ us Q I r ⟨x,c,t,b,rfl,ty,e,q⟩
 ·obtain⟨u,w,rfl,r1,r2⟩:=vals2 r;cases r1;cases r2;obtain⟨aq,_,⟨o,h1,h2,_⟩,_⟩:=I.tuple hT;exact A7 Fe I.uP ⟨o,h1,h2⟩ e (λz=>nomatch z) λtk=>⟨.bl b,H,I.tok _,rfl,q⟩
def qG (K:Ab):(∀k:Kd,Bq K (.type "NoneType") (.type k.name)=am false)/\(∀k:Kd,Bq K (.type "list") (.type k.name)=am false)/\(∀k:Kd,Bq K (.type "dict") (.type k.name)=am false):=
 ⟨λk=>by cases k <;> kernel_rfl,λk=>by cases k <;> kernel_rfl,λk=>by cases k <;> kernel_rfl⟩
def VD (K:Ab) (b:Bool) (k:Kd):Bq K (.type "bool") (.type k.name)=am (k.is (.bl b)):=by cases k <;> kernel_rfl
def Rm (K:Ab) (b:Int) (k:Kd):Bq K (.type "int") (.type k.name)=am (k.is (.int b)):=by cases k <;> kernel_rfl
def Rl (K:Ab) (b:Str) (k:Kd):Bq K (.type "str") (.type k.name)=am (k.is (.str b)):=by cases k <;> kernel_rfl
def Rk (K:Ab) (b:List PV) (k:Kd):Bq K (.type "tuple") (.type k.name)=am (k.is (.tup b)):=by cases k <;> kernel_rfl
def FZ:yA:=⟨λl h Q=>match l with | [.int i]=>Q (.int (if i < 0 then -i else i)) h | _=>False,λf q=>by
 revert q
 split
 ·exact f _ _
 ·exact λz=>z⟩
def Si:yA.Ok K (λxs H Q=>∃i,xs=[.int i]/\Q (.int (if i < 0 then -i else i)) H) FZ:=by
 intro ι H h vs l Q hr hv q;unfold FZ at q;dsimp only at q;revert q
 split
 ·intro q;cases hv with
  | cons x t=>cases t;cases x;exact⟨_,rfl,q ι _ H (Go.refl _ _) hr (.int _)⟩
 ·exact Bo
def Ii:yA:=⟨λl h Q=>match l with | [.int i]=>Q (.int i) h | [.bl k]=>Q (.int (if k then 1 else 0)) h | _=>False,λf q=>by
 revert q
 split
 ·exact f _ _
 ·exact f _ _
 ·exact λz=>z⟩
def Sg:yA.Ok K (λxs H Q=>(∃i,xs=[.int i]/\Q (.int i) H)\/∃k,xs=[.bl k]/\Q (.int (if k then 1 else 0)) H) Ii:=by
 intro ι H h vs l Q hr hv q;unfold Ii at q;dsimp only at q;revert q
 split
 ·intro q;cases hv with
  | cons x t=>cases t;cases x;exact .inl ⟨_,rfl,q ι _ H (Go.refl _ _) hr (.int _)⟩
 ·intro q;cases hv with
  | cons x t=>cases t;cases x;exact .inr ⟨_,rfl,q ι _ H (Go.refl _ _) hr (.int _)⟩
 ·exact Bo
def LC:yA:=⟨λl h Q=>match l with | [.int i,.int j]=>Q (.int (if j > i then j else i)) h | _=>False,λf q=>by
 revert q
 split
 ·exact f _ _
 ·exact λz=>z⟩
def LB:yA:=⟨λl h Q=>match l with | [.int i,.int j]=>Q (.int (if j < i then j else i)) h | _=>False,λf q=>by
 revert q
 split
 ·exact f _ _
 ·exact λz=>z⟩
def Se:yA.Ok K (λxs H Q=>∃i j,xs=[.int i,.int j]/\Q (.int (if j > i then j else i)) H) LC:=by
 intro ι H h vs l Q hr hv q;unfold LC at q;dsimp only at q;revert q
 split
 ·intro q;cases hv with
  | cons x t=>cases t with
   | cons y t=>cases t;cases x;cases y;exact⟨_,_,rfl,q ι _ H (Go.refl _ _) hr (.int _)⟩
 ·exact Bo
def Sd:yA.Ok K (λxs H Q=>∃i j,xs=[.int i,.int j]/\Q (.int (if j < i then j else i)) H) LB:=by
 intro ι H h vs l Q hr hv q;unfold LB at q;dsimp only at q;revert q
 split
 ·intro q;cases hv with
  | cons x t=>cases t with
   | cons y t=>cases t;cases x;cases y;exact⟨_,_,rfl,q ι _ H (Go.refl _ _) hr (.int _)⟩
 ·exact Bo
end
end
end PL
variable {o:B2}
namespace PL
section
open PySem PySem.Spec PyProof.Rows L2
variable {K:Ab}
section
def Mz (K:Ab):List V->Hp->VK->Prop:=λxs H Q=>∃p ys,xs=[.ref p]/\((cR K H p ys/\lJ H (.tup ys) Q)\/(d4 K H p ys/\Q (.ref p) H))
def Ls (K:Ab) (hK:X.K=K):bE X (.type "tuple") (Mz K):=by
 subst hK;exact uk.mono λxs H Q ⟨p,ys,e,h⟩=>⟨p,ys,e,h.imp (λ⟨h1,h2⟩=>⟨h1,λl hl=>h2.at l hl⟩) λz=>z⟩
theorem vf:∀{bs:List Bool}{vs:List V},aD K ι H vs (bs.map PV.bl)->vs=bs.map V.bl
 | [],_,h=>by cases h;rfl
 | b::bs,_,h=>by
  cases h with
  | cons x t=>cases x;rw [vf t];rfl
structure MQL where
 run:yz->PH->(Src->PH->Prop)->Prop
 mono:∀{ps h}{Q Q':Src->PH->Prop},(∀v h',Q v h'->Q' v h')->run ps h Q->run ps h Q'
structure MO where
 run:yz->PH->(Option Int->PH->Prop)->Prop
 mono:∀{ps h}{Q Q':Option Int->PH->Prop},(∀v h',Q v h'->Q' v h')->run ps h Q->run ps h Q'
def PO.imp {e:Option ii}{t t':TO} (h:L2.PO X e t) (f:∀σ H Q,t' σ H Q->t σ H Q):L2.PO X e t':=λZ s σ H Q I q=>h Z s σ H Q I (f _ _ _ q)
end
end
end PL
variable {t1:L2.TE}{tp:B7}
namespace PL
section
open PySem PySem.Spec PyProof.Rows L2
variable {K:Ab}
section
variable {c:ii}
def iL (lo:Int) (n:Nat):List PV:=(AI n).map λ(i:Nat)=>.int (lo+(i:Int))
def iK (lo:Int) (n:Nat):(iL lo n).length=n:=by unfold iL;simp
def pd {lo:Int}{p:PV} (h:(iL lo n)[i]?=am p):i < n/\p=.int (lo+i):=by
 unfold iL at h;rw [Aj] at h;cases z:(AI n)[i]? with
 | none=>rw [z] at h;cases h
 | some k=>
  rw [z] at h;obtain⟨h1,h2⟩:=Ak.mp z;simp at h1 h2;subst h2;exact⟨h1,(Option.some.inj h).symm⟩
def pS (lo:Int) (n:Nat):List PV:=(AI n).map λ(i:Nat)=>.int (lo-(i:Int))
def u7 (lo:Int) (n:Nat):(pS lo n).length=n:=by unfold pS;simp
def u9 {lo:Int}{p:PV} (h:(pS lo n)[i]?=am p):i < n/\p=.int (lo-i):=by
 unfold pS at h;rw [Aj] at h;cases z:(AI n)[i]? with
 | none=>rw [z] at h;cases h
 | some k=>
  rw [z] at h;obtain⟨h1,h2⟩:=Ak.mp z;simp at h1 h2;subst h2;exact⟨h1,(Option.some.inj h).symm⟩
def Qd (i:Int):Prop:=-(2 ^ 62)<=i/\i < 2 ^ 62
def aaV (m:MA):MI:=⟨λps h Q=>m.run ps h λl h1=>match l with | [.int j]=>Qd j/\Q ⟨iL 0 j.toNat,λ_=>True,false⟩ h1 | _=>False,λf q=>m.mono (λl h1 q=>by
 revert q
 split
 ·exact λq=>⟨q.1,f _ _ q.2⟩
 ·exact λz=>z) q⟩
def dF (k:Nat):List PV->List PV
 | []=>[]
 | x::l=>.tup [.int (k:Int),x]::dF (k+1) l
theorem cj:∀(k:Nat) (l:List PV),(dF k l).length=l.length
 | _,[]=>rfl
 | k,x::l=>by rw [dF,Ap,Ap,cj]
theorem f6:∀{k:Nat}{l:List PV}{i:Nat}{p:PV},(dF k l)[i]?=am p->∃x,l[i]?=am x/\p=.tup [.int ((k+i:Nat):Int),x]
 | _,[],_,_,h=>by simp [dF] at h
 | k,x::l,0,p,h=>by simp [dF] at h;subst h;exact⟨x,rfl,by simp⟩
 | k,x::l,i+1,p,h=>by
  obtain⟨y,h1,h2⟩:=f6 (k:=k+1) (l:=l) (i:=i) (p:=p) (by simpa [dF] using h);exact⟨y,by simpa using h1,by rw [h2,show k+1+i=k+(i+1) by omega]⟩
def VQ (K:Ab) (t1:TE):TI:=λσ H R=>t1 σ H λx H1=>∃a,x=.ref a/\(((∃xs,cR K H1 a xs)/\R (aay K a) H1)\/((∃xs,d4 K H1 a xs)/\R (Ite K a) H1))
def MY {X:Cx} (K:Ab) (hK:X.K=K) {e1:ii}{kk:Nat} (hg:Gl X "enumerate") (hm:X.mg "enumerate"=bm) (h1:PE X e1 t1)
  (Gj:gK X e1 []:=by rfl):PI X (.Tuple Î kk tp) (.Call (.Name "enumerate" p1) [e1] [] p2) (VQ K t1):=by
 subst hK;intro Z s σ H R I h;refine BC (ic I hg hm boot_enumerate ?_ ⋯ ⋯);refine Bd ?_ Gj rfl;rw [Gj];refine Cb (bZ (h1 Z s σ H _ I h) λu1 s1 ⟨x,H1,I1,r1,a,ex,hh⟩=>CA ?_);subst ex;cases r1;have d1:s1.heap.objs.size+1≠s1.heap.objs.size:=Nat.succ_ne_self _;rcases hh with⟨⟨xs,hx⟩,q⟩ | ⟨⟨xs,hx⟩,q⟩
 ·obtain⟨aq,rx,tx,_⟩:=I1.list hx;refine call_enumerate_list tx.isList λh' ze hi _ k=>?_;refine C2 ze ?_;refine⟨_,_,_,_,H1,rfl,I1.kept (t':=s1.toks) k,GA d1,⟨⟨_,ze⟩,hi⟩,λc hc=>?_,q⟩;have Û:s1.heap.objs.size<=c:=by
   simp only [Aw,Bt,or_false] at hc;rcases hc with rfl | rfl
   ·exact BD _ _
   ·exact An _
  exact I1.xn Û (I1.bp.fresh Û)
 ·obtain⟨aq,rx,tx,_⟩:=I1.tuple hx;have l1:=let ⟨_,e,_⟩:=tx;Aq e;refine Ie tx λh' ze hi k=>?_;refine C2 ze ?_;refine⟨_,_,_,_,H1,rfl,I1.kept (t':=s1.toks) k,Kc d1 (Az (AE l1 (BD _ 1))) (Az l1),⟨⟨_,ze⟩,hi⟩,λc hc=>?_,q⟩;have Û:s1.heap.objs.size<=c:=by
   simp only [Aw,Bt,or_false] at hc;rcases hc with rfl | rfl
   ·exact BD _ _
   ·exact An _
  exact I1.xn Û (I1.bp.fresh Û)
def oB:List PV->List PV->List PV
 | x::l,y::m=>.tup [x,y]::oB l m
 | _,_=>[]
theorem qS:∀{l m:List PV}{i:Nat}{p:PV},(oB l m)[i]?=am p->∃x y,l[i]?=am x/\m[i]?=am y/\p=.tup [x,y]
 | [],m,i,p,h=>by simp [oB] at h
 | x::l,[],i,p,h=>by simp [oB] at h
 | x::l,y::m,0,p,h=>by simp [oB] at h;subst h;exact⟨x,y,rfl,rfl,rfl⟩
 | x::l,y::m,i+1,p,h=>by
  obtain⟨u,w,h1,h2,h3⟩:=qS (l:=l) (m:=m) (i:=i) (p:=p) (by simpa [oB] using h);exact⟨u,w,by simpa using h1,by simpa using h2,h3⟩
end
end
end PL
variable {op:PySem.CmpOp}{p3 p4:B7}
namespace PL
open PySem PySem.Spec PyProof.Rows L2
section
variable {K:Ab}
section
structure JC (X:Cx) (K:Ab) (op:CmpOp) (b:ii) (m:M2):Prop where
 p:∃r,iz X (lw op) r/\M2.Ok K r m
 k:pc op b=false
def NN:JC X K .Lt b oLt:=⟨⟨_,YJ,F4 λ_ _ _ _=>.bl _⟩,ko _⟩
def Tg:JC X K .LtE b oLe:=⟨⟨_,YK,F4 λ_ _ _ _=>.bl _⟩,ko _⟩
def Ze:JC X K .Gt b oGt:=⟨⟨_,YL,F4 λ_ _ _ _=>.bl _⟩,ko _⟩
def Zf:JC X K .GtE b oGe:=⟨⟨_,YM,F4 λ_ _ _ _=>.bl _⟩,ko _⟩
def wN:JC X K .Is b zf:=⟨⟨_,U9,QY⟩,ko _⟩
def JD:JC X K .IsNot b uD:=⟨⟨_,QL,Nd⟩,ko _⟩
end
end
theorem FT:∀{l:List PV},sW l=true↔∀x∈l,x.dat=true
 | []=>by simp [sW]
 | x::l=>by rw [sW,AN,FT];simp
section
variable {K:Ab}
section
variable {c:ii}
def OL (h:aD K ι H vs l):vs.isEmpty=l.isEmpty:=by cases h <;> rfl
def aD.rep (h:aD K ι H vs l):∀k:Nat,aD K ι H (Am k vs).flatten (Am k l).flatten
 | 0=>.nil
 | k+1=>by
  rw [Bu,Bu,BZ,BZ];exact h.append (h.rep k)
def MB:V->List V->Hp->VK->Prop:=λx vs H Q=>∃(l:ce) (ns:List Int) (k:Int),x=.ref l/\vs=[.int k]/\H l=am (.lst (ns.map V.int))/\k∈ns/\yE H l (.lst ((ns.erase k).map V.int)) (Q .aE)
theorem ints_get:∀{us:List bn}{ns:List Int},tt us ns->∀(i:Nat) (hi:i < us.length),∃n t,ns[i]?=am n/\us[i]=.int n t
 | _,_,.nil,i,hi=>by simp at hi
 | _,_,.cons _ _ r,i,hi=>by
  cases i with
  | zero=>exact⟨_,_,rfl,rfl⟩
  | succ i=>exact ints_get r i (by simpa using hi)
theorem NX {k:Int}:∀{ns:List Int}{m:Nat},ns[m]?=am k->ns.idxOf k<=m
 | [],m,h=>by simp at h
 | a::ns,0,h=>by
  have:a=k:=by simpa using h
  subst this;simp
 | a::ns,m+1,h=>by
  have:=NX (ns:=ns) (m:=m) (by simpa using h);rw [List.idxOf_cons];by_cases c:a=k
  ·have:(a==k)=true:=by simpa using c
   rw [this];exact Ba _
  ·have c2:(a==k)=false:=by simpa using c
   rw [c2];exact Nat.succ_le_succ this
theorem uZ (f:α->β):∀(l:List α) (j:Nat),(l.eraseIdx j).map f=(l.map f).eraseIdx j
 | [],_=>rfl
 | a::l,0=>rfl
 | a::l,j+1=>by
  show f a::(l.eraseIdx j).map f=f a::(l.map f).eraseIdx j;rw [uZ f l j]
def isK (k:Int):bn->Bool
 | .int a _=>a==k
 | _=>false
def tN (r:Vals vs us):∀j,Vals (vs.eraseIdx j) (us.eraseIdx j):=by
 induction r with
 | nil=>intro j;exact .nil
 | cons h r ih=>
  intro j;cases j with
  | zero=>exact r
  | succ j=>exact .cons h (ih j)
theorem GZ:J6 X "list.remove" MB:=by
 intro Z s σ H x vs v us Q I rx rv h;obtain⟨l,ns,k,rfl,rfl,hH,hk,q⟩:=h;cases rx;obtain⟨u,rfl,ru⟩:=rv.one;obtain⟨t,rfl⟩:=ru;obtain⟨z,aq,n,r,hl,e⟩:=I.qb hH;have hi:=intsAre_of r;have Â:ns.length=aq.length:=by rw [Af] at hl;omega
 have hj:=BE hk;have hej:ns.erase k=ns.eraseIdx (ns.idxOf k):=by rw [List.erase_eq_eraseIdx_of_idxOf rfl]
 refine sB F.slot_list_remove ⟨_,e,rfl⟩ F.entry_list_remove (F.args_list_remove_2 _ _) (MeetsSeq.list_remove l aq.toArray n (.int k t) (isK k) (λy hy=>?_) (ns.idxOf k) (by rw [Ai];omega) ?_ (λm hm gZ=>?_) (by rw [Ai];omega)) ⟨e,?_⟩
 ·have VT:y∈aq:=by simpa using hy
  obtain⟨i,Xf⟩:=Du VT;obtain⟨h1,h2⟩:=Ak.mp Xf;obtain⟨n',t',g1,g2⟩:=ints_get hi i h1;rw [<- h2,g2];exact MeetsSeq.EqGives.int _ _ _ _
 ·have h1:ns.idxOf k < aq.length:=by omega
  obtain⟨n',t',g1,g2⟩:=ints_get hi (ns.idxOf k) h1;have g3:ns[ns.idxOf k]?=am k:=by rw [Ad hj,List.getElem_idxOf hj]
  rw [g3] at g1;cases g1;rw [Ds,g2];simp [isK]
 ·have h1:m < aq.length:=by rw [Ai] at hm;exact hm
  obtain⟨n',t',g1,g2⟩:=ints_get hi m h1;rw [Ds,g2];have:n'≠k:=λz=>by
   subst z;have:=NX g1;omega
  simp [isK,this]
 ·refine⟨.aE,_,I.G6 (its':=aq.eraseIdx (ns.idxOf k)) (ys:=(ns.erase k).map V.int) hH e (by simp [Array.toList_eraseIdxIfInBounds,<- Array.toList_inj]) ?_ ?_,rfl,q.at⟩
  ·rw [hej,uZ];exact tN r _
  ·rw [hej,Af,E4]
   split <;> omega
theorem jo:∀{ns:List Int}{vs:List V},aD K ι H vs (ns.map PV.int)->vs=ns.map V.int
 | [],_,h=>by cases h;rfl
 | b::bs,_,h=>by
  cases h with
  | cons x t=>cases x;rw [jo t];rfl
theorem nK (ι:List ce) (H:Hp):∀ns:List Int,aD K ι H (ns.map V.int) (ns.map PV.int)
 | []=>.nil
 | n::ns=>.cons (.int n) (nK ι H ns)
def UE (K:Ab):List V->Hp->VK->Prop:=λxs H Q=>∃(p:ce) (ns:List Int),xs=[.ref p]/\cR K H p (ns.map V.int)/\ns.length < 64/\∀ms:List Int,ms.Perm ns->ms.Pairwise (·<=·)->lJ H (.lst (ms.map V.int)) Q
theorem Ia (K:Ab) (hK:X.K=K):bE X (.builtin "sorted") (UE K):=by
 subst hK;intro Z s σ H xs us Q I r h;obtain⟨p,ns,rfl,hq,ZM,q⟩:=h;obtain⟨u,rfl,rx⟩:=vals1 r;cases rx;obtain⟨aq,r',pl,hz⟩:=I.list hq;have hi:=intsAre_of r';have hl:=r'.length;rw [Af] at hl hz;refine PyProof.Rows.sorted_ints pl.isList hi ∅ λout ms a1 a2 a3=>?_;obtain⟨e,he⟩:=sortedAll_at s.heap aq out;refine⟨.ref (s.heap.objs.size+1),_,I.laid (t':=s.toks) (λ_ _=>sortedAll_old) (Dr _) (show aY X.prog X.w _ _ _ (.lst (ms.map V.int)) from⟨?_,out.toList,e,oD a1,?_⟩),rfl,(q ms a2 a3).at _ (I.bp.fresh (Dr _))⟩
 ·rw [Af,a2.length_eq];exact hz
 ·rw [Array.toArray_toList];exact he
end
end
end PL
variable {xs:Array AZ}{a:BB}{o:Ft}
namespace L2
open PySem PySem.Spec PyProof.Rows
def my {name:Str}{Q:Option bn->ci->Prop}
  (hx:s.heap.get? a=am o) (hc:o.cls=.type "list") (nQ:o.data=.seq xs k) (hd:o.dict=bm) (Zv:Ev (.type "list") name=pure bm) (Zu:(["__module__","__name__","__qualname__","__doc__","__annotations__"]:List Str).contains name=false) (hA:A.handled=bm)
  (h:∀h' tk e,Heap.NewExcOf s.heap h' e "AttributeError"->Q bm {s with heap:=h',toks:=tk}) (hsz:name.length+100<=sizeLine:=by size_fits) :
  db (dL prog w) A (getAttr? (.ref a) name) Q E s:=by
 obtain⟨c,dct,dat,sl⟩:=o;simp only at hc nQ hd;subst hc nQ hd;obtain⟨hp,g,d,tk,os⟩:=s;have hT:∀å,(⟨hp,g,d,å,os⟩:ci).TypeIs (.ref a) "list":=λ_=>⟨_,hx,rfl⟩;have f1:=sub_AttributeError;have f3:=CT.lookup;have f4:=CT.bind (.ref a);have f5:=am_list_getattr_none
 repeat (any_goals (first | assumption | exact hT _ | ((with_reducible show db _ _ (call (Value.builtin "list.__getattribute__") _ _) _ _ _);refine sB CT (hT _) am_entry_list_getattribute (F.args_list_getattribute_2 _ _) (meets_getattribute_miss_list a xs k sl name _ Zv Zu hsz) ⟨hx,hA,λh' å e uU=>?_⟩) | wp_step))
 obtain⟨t',u',he⟩:=uU.there;unfold getattributeRaised
 repeat (any_goals (first | assumption | wp_step))
 exact h _ _ _ uU.of
end L2
variable {b d:BB}{v:AZ}
namespace L2
open PySem PySem.Spec PyProof.Rows
def hJ:entryFor table "dict.update.loop"=am ut.«dict.update.loop»:=entryFor_of_fast (by kernel_rfl)
def gU:plainId "dict.update.loop"=true:=by decide +kernel
section
variable {K:Type} [DecidableEq K] {knd:KeyKind prog w K}
def yr (knd:KeyKind prog w K) (h:lf) (it d:ce) (v:bn) (x:List K×ce×bn):Prop:=
 ∃pa o n,v=.ref pa/\pa≠it/\pa≠d/\x.2.1≠it/\x.2.1≠d/\h.get? pa=am o/\o.cls=.type "tuple"/\o.data=.seq #[.ref x.2.1,x.2.2] n/\(lm knd).is h x.1 x.2.1
def vA {k:List K} (x:(lm knd).is h k b) (kp:∀o,h.get? b=am o->h'.get? b=am o):(lm knd).is h' k b:=by
 obtain⟨o,aq,n,h1,h2⟩:=x;exact⟨o,aq,n,kp _ h1,h2⟩
def yr.keep {x:List K×ce×bn} (p:yr knd h it d v x) (kp:∀b o,b≠it->b≠d->h.get? b=am o->h'.get? b=am o):yr knd h' it d v x:=by
 obtain⟨pa,o,n,e,n1,n2,n3,n4,h1,h2,h3,h4⟩:=p;exact⟨pa,o,n,e,n1,n2,n3,n4,kp _ _ n1 n2 h1,h2,h3,vA h4 λo q=>kp _ _ n3 n4 q⟩
def xS {xs:List (List K×ce×bn)} (m:h.DictOfH (lm knd) d xs) (hd:d≠it) (hx:∀x∈xs,x.2.1≠it) (kp:∀b o,b≠it->h.get? b=am o->h'.get? b=am o):h'.DictOfH (lm knd) d xs:=by
 obtain⟨o,es,ep,ho,hc,ĝ,he,his,hn⟩:=m;exact⟨o,es,ep,kp _ _ hd ho,hc,ĝ,he,λx q=>vA (his x q) λo z=>kp _ _ (hx x q) z,hn⟩
def yK {xs:List (List K×ce×bn)}{k:List K} (hx:∀x∈xs,x.2.1≠it) (hb:b≠it):∀x∈xz xs k b v,x.2.1≠it:=by
 intro x q;unfold xz at q
 split at q
 ·obtain⟨y,hy,rfl⟩:=Av.mp q;have e:(putAt k v y).2.1=y.2.1:=by unfold putAt;split <;> rfl
  rw [e];exact hx y hy
 ·rcases A9.mp q with q | q
  ·exact hx x q
  ·rw [AW.mp q];exact hb
def yL {xs:List (List K×ce×bn)}{k:List K}:(xz xs k b v).length<=xs.length+1:=by
 unfold xz
 split <;> simp
theorem yD (hA:A.handled=bm) (hu:A.units+1 < o0) {l:ce} (hz:items.size+items.size<=sizeLine) (Ĝ:d≠it) (hli:l≠it) (hld:l≠d) :
  ∀(k i:Nat) (ys xs:List (List K×ce×bn)) (s:ci),items.size-i=k->i<=items.size->ys.length=items.size-i->xs.length<=i->s.heap.IsListIter it l i->s.heap.IsList l items->s.heap.DictOfH (lm knd) d xs->(∀x∈xs,x.2.1≠it)->
   (∀j x,ys[j]?=am x->∃v,items[i+j]?=am v/\yr knd s.heap it d v x)->
   (∀h' tk,h'.DictOfH (lm knd) d (ys.foldl (λa y=>xz a y.1 y.2.1 y.2.2) xs)->(∀b o,b≠it->b≠d->s.heap.get? b=am o->h'.get? b=am o)->R (.ok (.ret .none)) {s with heap:=h',toks:=tk})->
   zn (dL prog w) A (.builtin "dict.update.loop" ⟨[.ref d,.ref it,t0 i,.none],[]⟩) R s:=by
 intro k
 induction k with
 | zero=>
  intro i ys xs s hk hi hy hxl Ñ hl hd hx hp q;have e0:ys=[]:=BV ∅;subst e0;refine Fk hJ ?_;refine Aa (wpAny_pyNext_list_end (A:=A.in1) hA Ñ hl (by rw [ED];omega) λh' ex=>?_);have kp:=ex;exact Aa (Ae (Ae (q h' s.toks (xS hd Ĝ hx kp) λb o n1 _ e=>kp b o n1 e)))
 | succ k ih=>
  intro i ys xs s hk hi hy hxl Ñ hl hd hx hp q
  match ys,hy,hp,q with
  | [],hy,_,_=>exact absurd hy (by simp only [Bk];omega)
  | y::ys,hy,hp,q=>
  obtain⟨v,hv,pa⟩:=hp 0 y rfl;refine Fk hJ ?_;refine Aa (wpAny_pyNext_list_item Ñ hl (by simpa using hv) λh1 adw sb=>?_);have Rj:∀b o,b≠it->s.heap.get? b=am o->h1.get? b=am o:=λb o hb e=>(sb.2 b hb).trans e;have pa1:=pa.keep λb o n1 _ e=>Rj b o n1 e;have ZI:=xS hd Ĝ hx Rj;have Ė:h1.IsList l items:=let ⟨o,e,p⟩:=hl;⟨o,Rj _ _ hli e,p⟩;obtain⟨p,o,n,rfl,n1,n2,n3,n4,g1,g2,g3,g4⟩:=pa1;refine Aa (Bl (Aa (DU ?_)));refine Aa (Et (T:="tuple") ⟨_,g1,g2⟩ ?_);refine Aa (Br g1 g3 (Ae ?_));refine Bl (wpAny_dictSet_heap (knd:=lm knd) (tupleKind_room_in1 hu) g4 ZI (λh2 Ò sb2=>?_) ∅);have Ĉ:∀b o,b≠d->h1.get? b=am o->h2.get? b=am o:=λb o hb e=>(sb2.2 b hb).trans e;refine Ae ⟨ul gU _,?_⟩;have kp:∀b o,b≠it->b≠d->s.heap.get? b=am o->h2.get? b=am o:=λb o a1 a2 e=>Ĉ _ _ a2 (Rj _ _ a1 e);refine ih (i+1) ys (xz xs y.1 y.2.1 y.2.2) _ ∅ ∅ (by rw [Ap] at hy;omega) (BA yL ∅) ?_ ?_ Ò (yK hx n3) (λj x hj=>?_) (λh' tk dd k3=>?_)
  ·obtain⟨o',e1,e2⟩:=adw;exact⟨o',Ĉ _ _ (Bz Ĝ) e1,e2⟩
  ·obtain⟨o',e1,e2⟩:=Ė;exact⟨o',Ĉ _ _ hld e1,e2⟩
  ·obtain⟨v',h3,h4⟩:=hp (j+1) x hj;exact⟨v',by rw [show i+1+j=i+(j+1) by omega];exact h3,h4.keep kp⟩
  ·exact q h' tk dd λb o a1 a2 e=>k3 b o a1 a2 (kp b o a1 a2 e)
end
def v9:Ev (.type "list") (B5 "keys")=pure bm:=am_miss_of_fast (by decide +kernel)
section
variable {K:Type} [DecidableEq K] {knd:KeyKind prog w K}
theorem qr {l:ce}{ys:List (List K×ce×bn)} (hA:A.handled=bm) (hu:A.units+2 < o0) (ho:s.heap.get? l=am o) (hc:o.cls=.type "list") (nQ:o.data=.seq items n) (hd:o.dict=bm)
  (hz:items.size+items.size<=sizeLine) (hy:ys.length=items.size)
  (hp:∀(j:Nat) (x:List K×ce×bn),ys[j]?=am x->∃(pa:ce) (op:Obj) (m:Nat),items[j]?=am (Ax pa)/\s.heap.get? pa=am op/\op.cls=.type "tuple"/\op.data=.seq #[Ax x.2.1,x.2.2] m/\(lm knd).is s.heap x.1 x.2.1)
  (q:∀h' tk,(∀b o,s.heap.get? b=am o->h'.get? b=am o)->h'.DictOfH (lm knd) s.heap.objs.size (ys.foldl (λa y=>xz a y.1 y.2.1 y.2.2) [])->Q (.ref s.heap.objs.size) {s with heap:=h',toks:=tk}) :
  db (dL prog w) A (call (.type "dict") [.ref l]) Q E s:=by
 refine callType_codes (Q₁:=λobj s₁=>obj=.ref s.heap.objs.size/\s₁={s with heap:=s.heap.push {cls:=.type "dict",data:=.dict #[]}}) F.kt_called_dict (F.kt_typeCall_dict_1 _) F.entry_dict_init (kt_code_dict_new _ ⟨rfl,rfl⟩) ?_;rintro obj s₁ ⟨rfl,rfl⟩;have î:∀b o,s.heap.get? b=am o->(s.heap.push {cls:=.type "dict",data:=.dict #[]}).get? b=am o:=λb o e=>Ag _ e;have RI:(s.heap.push {cls:=.type "dict",data:=.dict #[]}).DictOf knd s.heap.objs.size []:=Heap.DictOf.new s.heap;have Zt:(s.heap.push {cls:=.type "dict",data:=.dict #[]}).DictOfH (lm knd) s.heap.objs.size []:=⟨_,#[],0,Ao _ rfl,⟨rfl,rfl,rfl⟩,rfl,rfl,λx hx=>absurd hx (Bt),D2⟩;have ls:∀b o,s.heap.get? b=am o->b≠s.heap.objs.size:=λb o e z=>by subst z;exact AQ _ (Aq e)
 refine⟨RI.typeIs,F.args_dict_init_2 _ _,?_⟩;refine Aa ?_;refine Aa (wpAny_notOrdered_dict RI.typeIs ?_);refine Ae ?_;refine Aa (Et (T:="list") ⟨_,î _ _ ho,hc⟩ ?_);refine Aa (my (î _ _ ho) hc nQ hd v9 (by decide +kernel) hA (λh1 tk e nx=>?_) ⋯);refine Aa (CY (Aa ?_));refine CC (items:=items) ⟨_,nx.keeps _ _ (î _ _ ho),hc,n,nQ⟩ ?_;have hsz:=Aq (nx.keeps _ _ (Ao s.heap rfl));have Rj:∀b o,s.heap.get? b=am o->(h1.push {cls:=.type "list_iterator",data:=.fields #[.ref l,.int 0 0]}).get? b=am o:=λb o e=>Ag _ (nx.keeps _ _ (î _ _ e));have ni:∀b o,s.heap.get? b=am o->b≠h1.objs.size:=λb o e z=>by
  have h3:=Aq e;subst z;exact AQ _ (Nat.lt_trans h3 hsz)
 refine Ae ⟨ul gU _,?_⟩;refine yD (A:=A.in1) (knd:=knd) hA (by show A.units+1+1 < _;omega) (items:=items) (d:=s.heap.objs.size) (it:=h1.objs.size) (l:=l) hz (Az hsz) (ni _ _ ho) (ls _ _ ho) items.size 0 ys [] _ (Fj _) (Ba _) (by rw [hy];rfl) (An _)
  ⟨_,Ao _ rfl,rfl,rfl⟩ ⟨_,Rj _ _ ho,hc,n,nQ⟩ ?_ (λx hx=>nomatch hx) (λj x hj=>?_) (λh' å dd kp=>?_)
 ·refine xS (it:=h1.objs.size) Zt (Az hsz) (λx hx=>nomatch hx) λb o _ e=>Ag _ (nx.keeps _ _ e)
 ·obtain⟨pa,op,m,e1,e2,e3,e4,e5⟩:=hp j x hj;have kb:∃ob,s.heap.get? x.2.1=am ob:=let ⟨ob,_,_,z,_⟩:=e5;⟨ob,z⟩;obtain⟨ob,eb⟩:=kb;exact⟨.ref pa,by rw [AG];exact e1,pa,op,m,rfl,ni _ _ e2,ls _ _ e2,ni _ _ eb,ls _ _ eb,Rj _ _ e2,e3,e4,vA e5 λo z=>Rj _ _ z⟩
 ·exact⟨rfl,q h' å (λb o e=>kp b o (ni _ _ e) (ls _ _ e) (Rj _ _ e)) dd⟩
end
structure Pz where
 pa:ce
 k:List Key
 b:ce
 v:V
def Pz.At (H:Hp) (z:Pz):Prop:=H z.pa=am (.tup [.ref z.b,z.v])/\H z.b=am (.tup (z.k.map kV))
def UN (K:Ab):List V->Hp->VK->Prop:=λxs H Q=>∃(p:ce) (zs:List Pz),xs=[.ref p]/\cR K H p (zs.map λz=>.ref z.pa)/\(∀z∈zs,z.At H)/\(zs.map (·.k)).Nodup/\zs.length<=1000/\lJ H (.dT (zs.map λz=>(z.k,z.v))) Q
theorem pO {K:Type} [DecidableEq K]:∀(ys xs:List (K×ce×bn)),((xs++ys).map (·.1)).Nodup->ys.foldl (λa y=>xz a y.1 y.2.1 y.2.2) xs=xs++ys
 | [],xs,_=>by simp
 | y::ys,xs,h=>by
  have hn:atKey xs y.1=bm:=by
   cases e:atKey xs y.1 with
   | none=>rfl
   | some p=>
    exfalso;rw [AJ,Ar] at h;have h2:=(List.nodup_append.mp h).2.2;have hm:y.1∈xs.map (·.1):=by
     by_cases hc:y.1∈xs.map (·.1)
     ·exact hc
     ·rw [atKey_none_of_get (λj q hj=>?_)] at e
      ·cases e
      ·exact hc (Av.mpr ⟨_,Bh hj,rfl⟩)
    exact h2 _ hm _ Bs rfl
  rw [CV,storedH_new hn,pO ys (xs++[(y.1,y.2.1,y.2.2)]) (by simpa using h)];simp
section
theorem Ig (K:Ab) (hK:X.K=K) (hc:X.calm=true) (hu:X.A.units+2 < o0):bE X (.type "dict") (UN K):=by
 subst hK;intro Z s σ H xs us Q I r h;obtain⟨p,zs,rfl,hq,hz,hn,hl,q⟩:=h;obtain⟨u,rfl,rx⟩:=vals1 r;cases rx;obtain⟨aq,rv,pl,hsz⟩:=I.list hq;obtain⟨o,n,ho,Xh,hd,nQ⟩:=pl;have ä:∀(zs:List Pz) (aq:List bn),(∀z∈zs,z.At H)->Vals (zs.map λz=>V.ref z.pa) aq->∃ys:List (List Key×ce×bn),ys.map (·.1)=zs.map (·.k)/\KT H (zs.map λz=>(z.k,z.v)) ys/\
   ∀(j:Nat) (x:List Key×ce×bn),ys[j]?=am x->∃(pa:ce) (op:Obj) (m:Nat),aq[j]?=am (Ax pa)/\s.heap.get? pa=am op/\op.cls=.type "tuple"/\op.data=.seq #[Ax x.2.1,x.2.2] m/\(lm (bF X.prog X.w)).is s.heap x.1 x.2.1:=by
  intro zs
  induction zs with
  | nil=>intro aq _ _;exact⟨[],rfl,.nil,λj x h=>by simp at h⟩
  | cons z zs ih=>
   intro aq ha hv;cases hv with
   | @cons _ u _ us ru rus=>
   cases ru;obtain⟨ys,e1,e2,e3⟩:=ih us (λy hy=>ha y (AR _ hy)) rus;obtain⟨a1,a2⟩:=ha z Bs;obtain⟨_,its',r',op,h1,h2,m,h3⟩:=(show aY X.prog X.w H s.heap z.pa (.tup [.ref z.b,z.v]) from I.bp _ _ a1);obtain⟨w,rfl,vL⟩:∃w,its'=[Ax z.b,w]/\RelV z.v w:=by
    cases r' with
    | cons q1 q2=>cases q1;cases q2 with
     | cons q3 q4=>cases q4;exact⟨_,rfl,q3⟩
   refine⟨(z.k,z.b,w)::ys,by rw [Ar,Ar,e1],.cons ⟨rfl,a2,vL⟩ e2,λj x hj=>?_⟩;cases j with
   | zero=>
    cases hj;exact⟨z.pa,op,m,rfl,h1,h2,h3,wu I.bp a2⟩
   | succ j=>exact e3 j x hj
 obtain⟨ys,e1,e2,e3⟩:=ä zs aq hz rv;have Â:=rv.length;rw [Af] at Â;have ð:ys.length=zs.length:=by have:=congrArg BL e1;simpa using this
 have hs:(1000:Nat)+1000<=sizeLine:=by decide
 refine qr (knd:=bF X.prog X.w) (items:=aq.toArray) (ys:=ys) (I.ok.hd hc) hu ho Xh nQ hd (by rw [Ai];omega) (by rw [Ai];omega) (λj x hj=>?_) (λh' tk kp dd=>?_)
 ·obtain⟨pa,op,m,g1,g2⟩:=e3 j x hj;exact⟨pa,op,m,by rw [EW];exact g1,g2⟩
 ·rw [pO ys [] (by rw [EN,e1];exact hn),EN] at dd;obtain⟨od,es,ep,ô,h2,h3,h4,_,h5⟩:=dd;have adH:=beq_eq_false_iff_ne.mpr (Bz (Az I.big));have fr:=I.bp.fresh (An s.heap.objs.size);refine⟨.ref s.heap.objs.size,_,I.laid (t':=tk) kp (An _) (show aY X.prog X.w (upd H s.heap.objs.size (.dT (zs.map λz=>(z.k,z.v)))) h' _ (.dT _) from⟨?_,adH,ys,?_,od,es,ep,ô,h2,h3,h4,h5⟩),rfl,q.at _ fr⟩
  ·rw [Af];exact BA hl ⋯
  ·refine e2.keeps λc xs ec=>?_;rw [av (λz=>by subst z;rw [fr] at ec;cases ec)];exact ec
end
end L2
variable {es:Array PySem.DictEntry}{ep:Nat}
namespace L2
open PySem PySem.Spec PyProof.Rows
section
def Sw (h:lf) (d:ce) (es:Array DictEntry) (ep:Nat):Prop:=∃o,h.get? d=am o/\o.ExactDict/\o.data=.dict es ep
theorem Nh {Q:Option bn->ci->Prop} (Ñ:s.heap.IsKeyIter it d i es.size ep) (hm:Sw s.heap d es ep) (hi:i < es.size)
  (q:∀h',h'.IsKeyIter it d (i+1) es.size ep->B6 it s.heap h'->Q (am es[i].key) {s with heap:=h'}):db (dL prog w) A (pyNext (.ref it)) Q E s:=by
 have ty:=Ñ.typeIs;obtain⟨o,ho,hc,hd⟩:=id Ñ;obtain⟨od,RH,-,Tt⟩:=hm;have ZA:(s.heap.update it (Obj.mapFields (·.setIfInBounds 1 (t0 ((i:Int)+1))))).IsKeyIter it d (i+1) es.size ep:=⟨_,BO _ ho (ER (CW hd _)),(Obj.cls_mapFields ..).trans hc,by rw [CW hd];simp [t0]⟩;refine Aa (CU (A5 (name:=B5 "__next__") ty Bx (Bm Bx ty Dl ?_ (De _))));refine Aa (Ae (Aa (Aa ?_)))
 first | refine Aa (BS ty (Ae ?_)) | refine Aa (Cf ty (Ae ?_))
 refine Aa (wpAny_fieldsOf ho hd ?_);show db _ _ (if (Ax d==AM)=true then _ else _) _ _ s;rw [if_neg (λz:(Ax d==AM)=true=>AX z)];refine Aa (Ae (Aa (Ea RH Tt ?_)));rw [if_neg (by simp)];refine Aa (Ae (Aa (EK RH Tt ?_)));rw [if_neg (by simp)];refine Ae ?_;have i0:¬((i:Int) < 0):=by omega
 simp only [i0,if_false,A2,CO hi];refine Aa ?_
 first | refine Aa (BS ty (Ae ?_)) | refine Aa (Cf ty (Ae ?_))
 refine Aa (wpAny_isOneOf_keyiter ty ?_);show db _ _ (wf (.ref it) 1 (t0 ((i:Int)+1)) >>= _) _ _ s;refine Aa (DV ho hd (by simp) (Aa (Bl (Aa (wpAny_isOneOf_keyiter (s:={s with heap:=s.heap.update it (Obj.mapFields (·.setIfInBounds 1 (t0 ((i:Int)+1))))}) ZA.typeIs ?_)))));exact Ae (Ae ⟨_,rfl,Ae (q _ ZA (B6.update ..))⟩)
theorem RX {Q:Option bn->ci->Prop} (hh:A.handled=bm) (Ñ:s.heap.IsKeyIter it d i es.size ep) (hm:Sw s.heap d es ep) (hi:es.size<=i)
  (q:∀h',Fv it s.heap h'->Q bm {s with heap:=h'}):db (dL prog w) A (pyNext (.ref it)) Q E s:=by
 have ty:=Ñ.typeIs;obtain⟨o,ho,hc,hd⟩:=id Ñ;obtain⟨od,RH,-,Tt⟩:=hm;refine Aa (CU (A5 (name:=B5 "__next__") ty Bx (Bm Bx ty Dl ?_ (De _))));refine Aa (Ae (Aa (Aa ?_)))
 first | refine Aa (BS ty (Ae ?_)) | refine Aa (Cf ty (Ae ?_))
 refine Aa (wpAny_fieldsOf ho hd ?_);show db _ _ (if (Ax d==AM)=true then _ else _) _ _ s;rw [if_neg (λz:(Ax d==AM)=true=>AX z)];refine Aa (Ae (Aa (Ea RH Tt ?_)));rw [if_neg (by simp)];refine Aa (Ae (Aa (EK RH Tt ?_)));rw [if_neg (by simp)];refine Ae ?_;have i0:¬((i:Int) < 0):=by omega
 simp only [i0,if_false,A2,ED hi];refine Aa ?_
 first | refine Aa (BS ty (Ae ?_)) | refine Aa (Cf ty (Ae ?_))
 show db _ _ (wf (.ref it) 0 .none >>= _) _ _ s;refine Aa (DV ho hd (by simp) ?_);refine Aa ?_;refine Aa (A1 (Aa (m:=firstArgMember _ _) (Co (a:=AM) (by first | rfl | (simp only [firstArgMember];rfl)) (A1 ?_ (by size_fits)))) (by size_fits));unfold raiseNew;refine Aa (wpAny_handled ?_);rw [show A.in1.handled=bm from hh];refine Aa (Ae (wpAny_throw ?_));refine Aa (Dg (T:="StopIteration") (b:=true) ⟨_,Ao _ rfl,rfl⟩ isSubtype_stop ?_);exact Ae (q _ (((B6.update ..).extBut.push _).push _))
def NR (hs:(d==ss)=false) (hm:Sw s.heap d es ep)
  (q:Q (.ref s.heap.objs.size) {s with heap:=s.heap.push {cls:=.type "dict_keyiterator",data:=.fields #[.ref d,.int 0 0,.int es.size 0,.int ep 0]}}):db (dL prog w) A (pyIter (.ref d)) Q E s:=by
 obtain⟨od,RH,hx,Tt⟩:=hm;have ty:s.TypeIs (.ref d) "dict":=⟨_,RH,hx.1⟩;refine wpAny_pyIter_slot ty F.slot_dict_iter (Bm F.slot_dict_iter ty F.entry_dict_iter ?_ (F.args_dict_iter_1 _));refine Aa ?_;refine Aa (wpAny_notOrdered_dict ty ?_);refine Ae ?_;show db _ _ (Builtin.Dict.showsAll d >>= _) _ _ s;unfold Builtin.Dict.showsAll;rw [if_neg (by rw [hs];exact AX)];refine Aa (Ae (Aa (Ea RH Tt (Aa (EK RH Tt ?_)))));exact Aa (A1 (Ae ⟨_,rfl,"dict_keyiterator",_,⟨_,Ao _ rfl,rfl⟩,Bx.lookup,q⟩))
end
end L2
variable {u:L2.HO}
namespace L2
open PySem PySem.Spec PyProof.Rows
section
variable {σ:St}
def Inv.freeze (I:Inv X Z σ H s) (e:H a=am (.dT kvs)):∃o,Inv X Z σ (upd H a (.cx o (.dT kvs))) s:=by
 obtain⟨z,hs,xs,r,o,es,ep,h1,h2,h3,h4,h5⟩:=(show aY X.prog X.w H s.heap a (.dT kvs) from I.bp a _ e);refine⟨o,?_⟩;have q:=I.write (x:=a) (e:=a) (o:=.cx o (.dT kvs)) (h':=s.heap) (t':=s.toks) (by rw [e];exact B9) (.inl rfl) (λb u _ z=>z) ⟨o,h1⟩
  ⟨h1,z,hs,xs,KT.keeps r λb ys eb=>by rw [av (Js eb e (λz=>nomatch z))];exact eb,o,es,ep,h1,h2,h3,h4,h5⟩
 exact q
def Inv.ab8 (I:Inv X Z σ H s) (e:H a=am (.cx o u)) (h0:∀o u,X.H₀ a≠am (.cx o u)) (hu:aY X.prog X.w (upd H a u) s.heap a u) (bp:lG X.prog X.w (upd H a u) s.heap):Inv X Z σ (upd H a u) s:=by
 have ne:∀b v,H b=v->v≠am (.cx o u)->b≠a:=λb v q n z=>by subst z;exact n (q.symm.trans e)
 refine⟨I.ok,I.os,I.bare,⟨I.base.keep,I.base.slot,λb ob q n hx=>?_,I.base.there,λb xs q=>?_,λb ob xs q=>?_,λb ps q=>?_⟩,I.loc,I.cell,?_,λx c q=>?_,λp hp=>?_,bp,I.len⟩
 ·have:=I.base.free b ob q n hx;rw [av (ne b _ this (by simp))];exact this
 ·have:=I.base.d5 b xs q;rw [av (ne b _ this (by simp))];exact this
 ·have:=I.base.sJ b ob xs q;have hb:b≠a:=λz=>by subst z;exact h0 _ _ q
  rw [av hb];exact this
 ·obtain⟨m,this⟩:=I.base.vB b ps q;exact⟨m,by rw [av (ne b _ this (by simp))];exact this⟩
 ·rw [av (ne _ _ I.free (by simp))];exact I.free
 ·rw [av (ne _ _ (I.j5 x c q) (by simp))];exact I.j5 x c q
 ·obtain⟨p1,p2,p3⟩:=I.pin p hp;exact⟨p1,by rw [av (ne _ _ p2 (by simp))];exact p2,p3⟩
def N2 (ok:lG P w H h) (e:H a=am (.cx o u)):lG P w (upd H a u) h:=λb u' q=>by
 have ne:∀c v,H c=am v->v≠.cx o u->upd H a u c=am v:=λc v z n=>by
  rw [av (λy=>by subst y;rw [e] at z;cases z;exact n rfl)];exact z
 by_cases hb:b=a
 ·subst hb;rw [aK] at q;cases q;exact aY.vD (ok b _ e).2 (λ_ _ _ z=>z) (λc z=>ne c _ z (by simp)) λc xs z=>ne c _ z (by simp)
 ·rw [av hb] at q;exact aY.vD (ok b _ q) (λ_ _ _ z=>z) (λc z=>ne c _ z (by simp)) λc xs z=>ne c _ z (by simp)
end
def aaz (a:ce) (o:Obj):It:=
 ⟨λi H=>∃kvs,H a=am (.cx o (.dT kvs))/\i < kvs.length,λi H x H'=>H'=H/\∀kvs,H a=am (.cx o (.dT kvs))->∃b k v,x=.ref b/\kvs[i]?=am (k,v)/\H b=am (.tup (k.map kV)),λi H=>∃kvs,H a=am (.cx o (.dT kvs))/\kvs.length<=i⟩
theorem Oi (x:aY P w H h a (.cx o (.dT kvs))) (hd:o.data=.dict es ep) :
  Sw h a es ep/\es.size=kvs.length/\∀(i:Nat) (hi:i < es.size),∃b k v,es[i].key=.ref b/\kvs[i]?=am (k,v)/\H b=am (.tup (k.map kV)):=by
 obtain⟨e,z,hs,xs,r,o',ü,ý,h1,h2,h3,h4,h5⟩:=x;rw [e] at h1;cases h1;rw [hd] at h3;cases h3;have hl:es.size=xs.length:=by have:=congrArg BL h4;simpa using this
 refine⟨⟨o,e,h2,hd⟩,hl.trans (Paired.length r).symm,λi hi=>?_⟩;have hx:xs[i]?=am (xs[i]'∅):=Ad _;have pg:∀{l:List (List Key×V)}{m:List (List Key×ce×bn)}{i:Nat}{q:List Key×ce×bn},KT H l m->m[i]?=am q->∃v,l[i]?=am (q.1,v)/\H q.2.1=am (.tup (q.1.map kV)):=by
  intro l m i q t
  induction t generalizing i with
  | nil=>intro h;simp at h
  | @cons p q' ps qs hq t ih=>
   intro h;cases i with
   | zero=>
    cases h;obtain⟨p1,p2⟩:=p;have e1:=hq.1;subst e1;exact⟨p2,rfl,hq.2.1⟩
   | succ i=>exact ih (by simpa using h)
 obtain⟨v,g1,g2⟩:=pg r hx;refine⟨_,_,v,?_,g1,g2⟩;have:es[i]=entryOfKey (lm (bF P w)) (xs[i]'∅):=by
  have h6:es.toList[i]?=am (entryOfKey (lm (bF P w)) (xs[i]'∅)):=by rw [h4,Aj,hx];rfl
  rw [C9,CO hi] at h6;exact Option.some.inj h6
 rw [this];rfl
theorem Ke {K:Ab} (a it:ce) (o:Obj) (hd:o.data=.dict es ep):Turn P w K tg (aaz a o) [it] it (λi h=>h.IsKeyIter it a i es.size ep) where
 mem:=by simp
 obj:=λi h st b hb=>by
  have e:b=it:=by simpa using hb
  subst e;obtain⟨o,e,c,d⟩:=st;exact⟨o,e,λv z=>by rw [d] at z;cases z⟩
 keep:=λi h h' st k=>st.at λo e=>k it (by simp) o e
 item:=by
  intro X hP hw hK hc i Z s σ H E I hf st hg;subst hP hw hK;obtain⟨kvs,hq,hx⟩:=hg;obtain⟨ą,hl,ky⟩:=Oi (I.bp a _ hq) hd;obtain⟨b,k,v,k1,k2,k3⟩:=ky i ∅;obtain⟨f0,f1,f2,f3,f4,f5⟩:=hf it (by simp);refine Nh st ą ∅ λh' qA sb=>?_;have I1:Inv X Z σ H {s with heap:=h'}:=I.turned (t':=s.toks) (λb o hb e=>(sb.2 b hb).trans e) f0 f1 f3 f4 f5;obtain⟨oi,e,c,d⟩:=id qA;refine⟨_,rfl,zR (s:={s with heap:=h'}) e c d ⋯ ⟨.ref b,H,I1,k1,⟨rfl,λagL ô=>?_⟩,qA,λb hb=>(hf b hb).1⟩⟩;rw [hq] at ô;cases ô;exact⟨b,k,v,rfl,k2,k3⟩
 done:=by
  intro X hP hw hK hc i Z s σ H E I hf st hg;obtain⟨kvs,hq,hx⟩:=hg;obtain⟨ą,hl,ky⟩:=Oi (I.bp a _ hq) hd;obtain⟨f0,f1,f2,f3,f4,f5⟩:=hf it (by simp);exact RX (I.ok.hd hc) st ą ∅ λh' eb=>⟨rfl,I.turned (t':=s.toks) (λb o hb e=>eb b o hb e) f0 f1 f3 f4 f5⟩
 self:=λ_ _ _ _ _ st h=>wpAny_pyIter_keyiter st h
def VS (tl:TE):TI:=λσ H R=>tl σ H λx H1=>∃a o kvs,x=.ref a/\H1 a=am (.cx o (.dT kvs))/\R (aaz a o) H1
def MZ {l:ii} (hl:PE X l tl):PI X tg l (VS tl):=by
 intro Z s σ H R I h;refine bZ (hl Z s σ H _ I h) λv s1 ⟨x,H1,I1,r1,q1⟩=>?_;obtain⟨a,o,kvs,e,hq,q⟩:=q1;subst e;cases r1;obtain⟨eo,z,hs,xs,r,o',es,ep,h1,h2,h3,h4,h5⟩:=(show aY X.prog X.w H1 s1.heap a (.cx o (.dT kvs)) from I1.bp a _ hq);rw [eo] at h1;cases h1;refine NR hs ⟨o,eo,h2,h3⟩ ?_;refine⟨s1.heap.objs.size,[s1.heap.objs.size],_,_,H1,rfl,I1.kept (t':=s1.toks) λb o e=>Ag _ e,Ke a _ o h3,⟨_,Ao _ rfl,rfl,rfl⟩,λb hb=>?_,q⟩;have e:b=s1.heap.objs.size:=by simpa using hb
 subst e;exact I1.xn (An _) (I1.bp.fresh (An _))
end L2
variable {v:PL.PV}{φ:List L2.V->Prop}
noncomputable section
namespace FL
section
open PySem PySem.Spec PyProof.Rows L2 PL
variable {K:Ab}
structure W (α:Type) where
 run:(α->Prop)->Prop
 mono:∀{Q Q':α->Prop},(∀a,Q a->Q' a)->run Q->run Q'
namespace W
variable {α β γ:Type}
def ext' {a b:W α} (h:∀Q,a.run Q↔b.run Q):a=b:=by
 cases a;cases b;congr;funext Q;exact propext (h Q)
noncomputable def ret (a:α):W α:=⟨λQ=>Q a,λh q=>h _ q⟩
noncomputable def bind (w:W α) (k:α->W β):W β:=⟨λQ=>w.run λa=>(k a).run Q,λh q=>w.mono (λa q=>(k a).mono h q) q⟩
def fail:W α:=⟨λ_=>False,λ_ q=>q⟩
def ff (p:Prop) (w:W α):W α:=⟨λQ=>p/\w.run Q,λh q=>⟨q.1,w.mono h q.2⟩⟩
def any (p:α->Prop):W α:=⟨λQ=>∀a,p a->Q a,λh q a pa=>h a (q a pa)⟩
def Jo:Option α->W α
 | some a=>ret a
 | none=>fail
@[simp] theorem ag (a:α) (k:α->W β):bind (ret a) k=k a:=(rfl)
@[simp] theorem bind_assoc (w:W α) (f:α->W β) (g:β->W γ):bind (bind w f) g=bind w λa=>bind (f a) g:=(rfl)
@[simp] theorem aar (w:W α):bind w ret=w:=(rfl)
@[simp] theorem Xn (k:α->W β):bind fail k=fail:=(rfl)
@[simp] theorem aj (a:α) (Q:α->Prop):(ret a).run Q=Q a:=(rfl)
@[simp] theorem run_bind (w:W α) (k:α->W β) (Q:β->Prop):(bind w k).run Q=w.run λa=>(k a).run Q:=(rfl)
@[simp] theorem Yj (Q:α->Prop):(fail:W α).run Q=False:=(rfl)
@[simp] theorem aaM (p Q:α->Prop):(any p).run Q=∀a,p a->Q a:=(rfl)
@[simp] theorem Qf (p:Prop) (w:W α) (Q:α->Prop):(ff p w).run Q=(p/\w.run Q):=(rfl)
@[simp] theorem O0 (p:Prop) (w:W α) (k:α->W β):bind (ff p w) k=ff p (bind w k):=(rfl)
def ar {p:Prop}{w:W α} (h:p):ff p w=w:=ext' λQ=>⟨λq=>q.2,λq=>⟨h,q⟩⟩
@[simp] theorem aam {w:W α}:ff True w=w:=ar trivial
@[simp] theorem aM (a:α):Jo (am a)=ret a:=(rfl)
@[simp] theorem YQ:Jo (bm:Option α)=fail:=(rfl)
end W
inductive SL where
 | val (v:PV) | adr (b:ce) | ol (q:Option ce) (l:List PV) | oll (bs:List ce) (ls:List (List PV)) | od (kvs:List (Key×PV)) | ot (kvs:List (List Key×PV)) | mP (φ:List V->Prop)
abbrev bb:=List (Option SL)
def SL.own:SL->Bool
 | .val _=>false
 | .adr _=>false
 | _=>true
def SL.Ti:SL->List ce
 | .oll bs _=>bs
 | _=>[]
def SL.has (s:SL) (x a:ce):Prop:=a=x\/a∈s.Ti
def j6 (K:Ab) (H:Hp) (a:ce):SL->Prop
 | .val _=>False
 | .adr b=>a=b
 | .oll bs ls=>H a=am (.lst (bs.map V.ref))/\a∉bs/\bs.Nodup/\bs.length=ls.length/\∀(j:Nat) (b:ce) (l:List PV),bs[j]?=am b->ls[j]?=am l->∃ws,H b=am (.lst ws)/\aD K [] H ws l
 | .ol q l=>(∀b,q=am b->a=b)/\∃vs,H a=am (.lst vs)/\aD K [] H vs l
 | .od kvs=>∃vs:List (Key×V),H a=am (.dK vs)/\vs.map (·.1)=kvs.map (·.1)/\aD K [] H (vs.map (·.2)) (kvs.map (·.2))
 | .ot kvs=>∃vs:List (List Key×V),H a=am (.dT vs)/\vs.map (·.1)=kvs.map (·.1)/\aD K [] H (vs.map (·.2)) (kvs.map (·.2))
 | .mP φ=>∃vs,H a=am (.lst vs)/\φ vs
def vn (K:Ab) (H:Hp) (u:V) (s:SL):Prop:=(∃v,s=.val v/\VR K [] H u v)\/∃a,u=.ref a/\j6 K H a s
def dI (σ:L2.St) (fs:bb) (a:ce):Prop:=∃(i:Nat) (s:SL) (x:ce),fs[i]?=am (am s)/\s.own=true/\σ[i]?=am (am (.ref x))/\s.has x a
def hV (σ:L2.St) (fs:bb) (φ:List V->Prop) (a:ce):Prop:=∃i:Nat,fs[i]?=am (am (.mP φ))/\σ[i]?=am (am (.ref a))
structure aR (K:Ab) (H:Hp) (σ:L2.St) (fs:bb):Prop where
 len:σ.length=fs.length
 at':∀(i:Nat) (s:SL),fs[i]?=am (am s)->∃u,σ[i]?=am (am u)/\vn K H u s
 nd:∀(i j:Nat) (s t:SL) (x y a:ce),fs[i]?=am (am s)->fs[j]?=am (am t)->s.own=true->t.own=true->σ[i]?=am (am (.ref x))->σ[j]?=am (am (.ref y))->s.has x a->t.has y a->i=j
structure cD (σ:L2.St) (fs:bb) (H:Hp) (σ':L2.St) (bq:bb) (H':Hp):Prop where
 keep:∀a o,H a=am o->¬dI σ fs a->H' a=am o/\¬dI σ' bq a
 there:∀a,H' a=bm->H a=bm
 pk:∀a φ,hV σ fs φ a->hV σ' bq φ a\/(¬dI σ' bq a/\∃vs,H' a=am (.lst vs)/\φ vs)
structure cP (σ:L2.St) (fs:bb) (H H':Hp):Prop where
 keep:∀a o,H a=am o->(∀φ,¬hV σ fs φ a)->H' a=am o
 there:∀a,H' a=bm->H a=bm
section
variable {σ σ' σ1 σ2:L2.St}{fs bq RM cn:bb}{H H' H1 H2:Hp}
def hV.vU (p:hV σ fs φ a):dI σ fs a:=let ⟨i,e1,e2⟩:=p;⟨i,_,_,e1,rfl,e2,.inl rfl⟩
def cP.refl:cP σ fs H H:=⟨λ_ _ h _=>h,λ_ h=>h⟩
def cP.trans (a:cP σ fs H H1) (b:cP σ fs H1 H2):cP σ fs H H2:=⟨λx o h n=>b.keep x o (a.keep x o h n) n,λx h=>a.there x (b.there x h)⟩
def cP.f (g:cP σ fs H H'):cD σ fs H σ fs H':=⟨λa o h n=>⟨g.keep a o h λφ p=>n p.vU,n⟩,g.there,λa φ p=>.inl p⟩
def cP.uO (g:cP σ fs H H') {o:HO} (h:H a=am o) (n:¬dI σ fs a):H' a=am o:=g.keep a o h λφ p=>n p.vU
def cP.same (h:kR H H'):cP σ fs H H':=⟨λa o e _=>h a o e,λa e=>(by
 cases z:H a with
 | none=>rfl
 | some o=>rw [h a o z] at e;cases e)⟩
def j6.ex {c:ce}{s:SL} (h:j6 K H a s) (ho:s.own=true) (hc:s.has a c):∃o,H c=am o/\(∀vs,o≠.tup vs)/\∀ob u,o≠.cx ob u:=by
 cases s with
 | val _=>exact h.elim
 | adr _=>cases ho
 | ol q l=>obtain⟨_,vs,e,_⟩:=h;rcases hc with rfl | hc;exact⟨_,e,by simp,by simp⟩;cases hc
 | oll bs ls=>
  obtain⟨e,_,_,hl,hb⟩:=h;rcases hc with rfl | hc
  ·exact⟨_,e,by simp,by simp⟩
  ·obtain⟨j,hj⟩:=Du (show c∈bs from hc);have h1:=(Ak.mp hj).1;obtain⟨ws,e,_⟩:=hb j c _ hj (Ad (by rw [<- hl];exact h1));exact⟨_,e,by simp,by simp⟩
 | od l=>obtain⟨vs,e,_⟩:=h;rcases hc with rfl | hc;exact⟨_,e,by simp,by simp⟩;cases hc
 | ot l=>obtain⟨vs,e,_⟩:=h;rcases hc with rfl | hc;exact⟨_,e,by simp,by simp⟩;cases hc
 | mP l=>obtain⟨vs,e,_⟩:=h;rcases hc with rfl | hc;exact⟨_,e,by simp,by simp⟩;cases hc
def aR.ownAt (s:aR K H σ fs) {t:SL} (h1:fs[i]?=am (am t)) (h2:t.own=true) (h3:σ[i]?=am (am (.ref a))):j6 K H a t:=by
 obtain⟨u,e,r⟩:=s.at' i t h1;rw [h3] at e;cases e;rcases r with⟨v,rfl,_⟩ | ⟨b,e,r⟩
 ·cases h2
 ·cases e;exact r
def aR.vU (s:aR K H σ fs) (h:dI σ fs a):∃o,H a=am o/\(∀vs,o≠.tup vs)/\∀ob u,o≠.cx ob u:=by
 obtain⟨i,t,x,h1,h2,h3,h4⟩:=h;exact (s.ownAt h1 h2 h3).ex h2 h4
def aR.noOwn (s:aR K H σ fs) (h:H a=bm):¬dI σ fs a:=λz=>by
 obtain⟨o,e,_⟩:=s.vU z;rw [h] at e;cases e
def aR.Vi (s:aR K H σ fs) (h:H a=am (.tup vs)):¬dI σ fs a:=λz=>by
 obtain⟨o,e,n,_⟩:=s.vU z;rw [h] at e;cases e;exact n vs rfl
def aR.Vj (s:aR K H σ fs) (h:H a=am (.cx ob u)):¬dI σ fs a:=λz=>by
 obtain⟨o,e,_,n⟩:=s.vU z;rw [h] at e;cases e;exact n ob u rfl
def cD.refl:cD σ fs H σ fs H:=⟨λ_ _ h n=>⟨h,n⟩,λ_ h=>h,λ_ _ h=>.inl h⟩
def cD.trans (a:cD σ fs H σ1 RM H1) (b:cD σ1 RM H1 σ2 cn H2):cD σ fs H σ2 cn H2:=
 ⟨λx o h n=>let ⟨h1,n1⟩:=a.keep x o h n;b.keep x o h1 n1,λx h=>a.there x (b.there x h),λx φ h=>(a.pk x φ h).elim (b.pk x φ) λ⟨n,vs,e,p⟩=>.inr (let ⟨h1,n1⟩:=b.keep x _ e n;⟨n1,vs,h1,p⟩)⟩
def cD.d5 (g:cD σ fs H σ' bq H') (s:aR K H σ fs):a9 K H H':=
 ⟨λa vs h=>(g.keep a _ h (s.Vi h)).1,λa o u h=>(g.keep a _ h (s.Vj h)).1⟩
def VR.tk {u:V} (t:a9 K H H') (r:VR K [] H u v):VR K [] H' u v:=r.mono t λ_ _ e=>e
def aD.tk {u:List V}{v:List PV} (t:a9 K H H') (r:aD K [] H u v):aD K [] H' u v:=r.mono t λ_ _ e=>e
def cD.vr (g:cD σ fs H σ' bq H') (s:aR K H σ fs) {u:V} (r:VR K [] H u v):VR K [] H' u v:=VR.tk (g.d5 s) r
def cP.d5 (g:cP σ fs H H') (s:aR K H σ fs):a9 K H H':=g.f.d5 s
def cP.vr (g:cP σ fs H H') (s:aR K H σ fs) {u:V} (r:VR K [] H u v):VR K [] H' u v:=VR.tk (g.d5 s) r
def cP.L1 (g:cP σ fs H H') (s:aR K H σ fs) {u:List V}{v:List PV} (r:aD K [] H u v):aD K [] H' u v:=aD.tk (g.d5 s) r
def j6.mono {s:SL} (t:a9 K H H') (e:∀c o,s.own=true->s.has a c->H c=am o->H' c=am o) (h:j6 K H a s):j6 K H' a s:=by
 cases s with
 | val _=>exact h
 | adr _=>exact h
 | ol _ l=>obtain⟨z,vs,q,r⟩:=h;exact⟨z,vs,e _ _ rfl (.inl rfl) q,aD.tk t r⟩
 | oll bs ls=>
  obtain⟨z,h1,h2,h3,h4⟩:=h;refine⟨e _ _ rfl (.inl rfl) z,h1,h2,h3,λj b l hb hl=>?_⟩;obtain⟨ws,q,r⟩:=h4 j b l hb hl;exact⟨ws,e _ _ rfl (.inr (Bh hb)) q,aD.tk t r⟩
 | od l=>obtain⟨vs,q,k,r⟩:=h;exact⟨vs,e _ _ rfl (.inl rfl) q,k,aD.tk t r⟩
 | ot l=>obtain⟨vs,q,k,r⟩:=h;exact⟨vs,e _ _ rfl (.inl rfl) q,k,aD.tk t r⟩
 | mP φ=>obtain⟨vs,q,k⟩:=h;exact⟨vs,e _ _ rfl (.inl rfl) q,k⟩
def vn.mono {u:V}{s:SL} (t:a9 K H H') (e:∀x a o,u=.ref x->s.own=true->s.has x a->H a=am o->H' a=am o) (h:vn K H u s):vn K H' u s:=by
 rcases h with⟨v,q,r⟩ | ⟨a,q,r⟩
 ·exact .inl ⟨v,q,VR.tk t r⟩
 ·exact .inr ⟨a,q,r.mono t (λc o z y w=>e a c o q z y w)⟩
def aR.same (s:aR K H σ fs) (h:kR H H'):aR K H' σ fs:=⟨s.len,λi t e=>let ⟨u,h1,h2⟩:=s.at' i t e;⟨u,h1,h2.mono h.eL (λ_ a o _ _ _ z=>h a o z)⟩,s.nd⟩
def cD.same (h:kR H H') (s:aR K H σ fs):cD σ fs H σ fs H':=⟨λa o e n=>⟨h a o e,n⟩,λa e=>(by
 cases z:H a with
 | none=>rfl
 | some o=>rw [h a o z] at e;cases e),λa φ p=>.inl p⟩
inductive hX:bb->bb->Prop
 | nil:hX [] []
 | drop {s:Option SL}{a b:bb} (h:hX a b):hX (s::a) (bm::b)
 | keep {s:Option SL}{a b:bb} (h:hX a b):hX (s::a) (s::b)
theorem hX.at {a b:bb} (h:hX a b):∀(i:Nat) (s:SL),b[i]?=am (am s)->a[i]?=am (am s):=by
 induction h with
 | nil=>intro i s e;simp at e
 | drop h ih=>intro i s e;cases i with | zero=>simp at e | succ i=>simp at e ⊢;exact ih i s e
 | keep h ih=>intro i s e;cases i with | zero=>simpa using e | succ i=>simp at e ⊢;exact ih i s e
theorem hX.length {a b:bb} (h:hX a b):a.length=b.length:=by induction h <;> simp_all
theorem hX.refl:∀a:bb,hX a a
 | []=>.nil
 | _::a=>.keep (hX.refl a)
def aR.le (s:aR K H σ fs) (h:hX fs bq):aR K H σ bq:=⟨s.len.trans h.length,λi t e=>s.at' i t (h.at i t e),λi j t u x y a e1 e2=>s.nd i j t u x y a (h.at i t e1) (h.at j u e2)⟩
def dI.le (h:hX fs bq) (o:dI σ bq a):dI σ fs a:=let ⟨i,t,x,e1,e2,e3⟩:=o;⟨i,t,x,h.at i t e1,e2,e3⟩
def cD.le (s:aR K H σ fs) (h:hX fs bq):cD σ fs H σ bq H:=⟨λa o e n=>⟨e,λz=>n (z.le h)⟩,λ_ e=>e,λa φ p=>by
 obtain⟨i,e1,e2⟩:=p;by_cases c:dI σ bq a
 ·obtain⟨j,t,x,c1,c2,c3,c4⟩:=c;have ij:=s.nd i j _ t a x a e1 (h.at j t c1) rfl c2 e2 c3 (.inl rfl) c4;subst ij;have:=h.at i t c1;rw [e1] at this;cases this;exact .inl ⟨i,c1,e2⟩
 ·obtain⟨vs,q,r⟩:=s.ownAt e1 rfl e2;exact .inr ⟨c,vs,q,r⟩⟩
def cL {l:List (Option α)}{x y:α} (h:(l.set i (am x))[j]?=am (am y)):(j=i/\y=x)\/(j≠i/\l[j]?=am (am y)):=by
 by_cases c:j=i
 ·subst c;rw [List.getElem?_set] at h;simp at h;exact .inl ⟨rfl,h.2.symm⟩
 ·rw [BU (λz=>c z.symm)] at h;exact .inr ⟨c,h⟩
def cv {l:List α}{x:α} (h:i < l.length):(l.set i x)[i]?=am x:=by rw [List.getElem?_set];simp [h]
def aL {l:List α}{x:α} (h:j≠i):(l.set i x)[j]?=l[j]?:=BU (λz=>h z.symm)
def aR.put (s:aR K H σ fs) {u:V}{t:SL} (hr:vn K H u t) (hf:∀x a,u=.ref x->t.own=true->t.has x a->∀(j:Nat) (w:SL) (y:ce),j≠i->fs[j]?=am (am w)->w.own=true->σ[j]?=am (am (.ref y))->¬w.has y a):aR K H (σ.set i (am u)) (fs.set i (am t)):=by
 refine⟨by simp [s.len],λj w e=>?_,λj k w x b1 b2 a e1 e2 o1 o2 q1 q2 z1 z2=>?_⟩
 ·rcases cL e with⟨rfl,rfl⟩ | ⟨n,e⟩
  ·have hl:j < σ.length:=by
    have:=(Ak.mp e).1;rw [BK] at this;rw [s.len];exact this
   exact⟨u,cv hl,hr⟩
  ·obtain⟨v,h1,h2⟩:=s.at' j w e;exact⟨v,by rw [aL n];exact h1,h2⟩
 ·rcases cL e1 with⟨y1,y2⟩ | ⟨n1,f1⟩ <;> rcases cL e2 with⟨y3,y4⟩ | ⟨n2,f2⟩
  ·exact y1.trans y3.symm
  ·subst y1;subst y2;rw [aL n2] at q2;have hl:j < σ.length:=by have:=(Ak.mp q1).1;simpa using this
   rw [cv hl] at q1;cases q1;exact absurd z2 (hf _ a rfl o1 z1 k x b2 n2 f2 o2 q2)
  ·subst y3;subst y4;rw [aL n1] at q1;have hl:k < σ.length:=by have:=(Ak.mp q2).1;simpa using this
   rw [cv hl] at q2;cases q2;exact absurd z1 (hf _ a rfl o2 z2 j w b1 n1 f1 o1 q1)
  ·rw [aL n1] at q1;rw [aL n2] at q2;exact s.nd j k w x b1 b2 a f1 f2 o1 o2 q1 q2 z1 z2
def aR.fm (s:aR K H σ fs) {u:V} (hr:VR K [] H u v) (i:Nat):aR K H (σ.set i (am u)) (fs.set i (am (.val v))):=s.put (.inl ⟨v,rfl,hr⟩) λ_ _ _ z=>by cases z
def y9 {u:V}{t:SL} (o:dI (σ.set i (am u)) (fs.set i (am t)) a) (hl:σ.length=fs.length):dI σ fs a\/∃x,u=.ref x/\t.own=true/\t.has x a:=by
 obtain⟨j,w,x,e1,e2,e3,e4⟩:=o;rcases cL e1 with⟨rfl,rfl⟩ | ⟨n,e1⟩
 ·have h2:j < σ.length:=by have:=(Ak.mp e3).1;simpa using this
  rw [cv h2] at e3;cases e3;exact .inr ⟨x,rfl,e2,e4⟩
 ·rw [aL n] at e3;exact .inl ⟨j,w,x,e1,e2,e3,e4⟩
def Jd (s:aR K H σ fs) {u:V}{t:SL} (p:hV σ fs φ a) (hu:∀x,u=.ref x->t.own=true->t.has x a->t=.mP φ):hV (σ.set i (am u)) (fs.set i (am t)) φ a\/¬dI (σ.set i (am u)) (fs.set i (am t)) a:=by
 obtain⟨j,e1,e2⟩:=p;by_cases c:j=i
 ·subst c;by_cases c2:∃x,u=.ref x/\t.own=true/\t.has x a
  ·obtain⟨x,c3,c4,c5⟩:=c2;have hl:=(Ak.mp e2).1;have Px:=(Ak.mp e1).1;have et:=hu x c3 c4 c5;subst et;rcases c5 with rfl | c5
   ·exact .inl ⟨j,by rw [cv Px],by rw [cv hl,c3]⟩
   ·cases c5
  ·refine .inr λo=>?_;obtain⟨k,w,y,q1,q2,q3,q4⟩:=o;rcases cL q1 with⟨rfl,rfl⟩ | ⟨n,q1⟩
   ·have hl:=(Ak.mp e2).1;rw [cv hl] at q3;cases q3;exact c2 ⟨y,rfl,q2,q4⟩
   ·rw [aL n] at q3;exact n (s.nd k j w _ y a a q1 e1 q2 rfl q3 e2 q4 (.inl rfl))
 ·exact .inl ⟨j,by rw [aL c];exact e1,by rw [aL c];exact e2⟩
def cD.fm (s:aR K H σ fs) (u:V) (v:PV) (i:Nat):cD σ fs H (σ.set i (am u)) (fs.set i (am (.val v))) H:=
 ⟨λa o e n=>⟨e,λz=>(y9 z s.len).elim n λ⟨_,_,z,_⟩=>by cases z⟩,λ_ e=>e,λa φ p=>(Jd s p (λ_ _ z=>by cases z)).imp id λn=>⟨n,by
  obtain⟨j,e1,e2⟩:=p;obtain⟨vs,q,r⟩:=s.ownAt e1 rfl e2;exact⟨vs,q,r⟩⟩⟩
def aR.MM (s:aR K H σ fs) {t:SL} (hr:j6 K H a t) (hn:∀c,t.has a c->¬dI σ fs c) (i:Nat):aR K H (σ.set i (am (.ref a))) (fs.set i (am t)):=s.put (.inr ⟨a,rfl,hr⟩) λx c e _ hc j w y n e1 e2 e3 z=>by
 cases e;exact hn c hc ⟨j,w,y,e1,e2,e3,z⟩
def w4 {t:SL} (hi:t.Ti=[]) {c:ce} (h:t.has a c):c=a:=by
 rcases h with h | h
 ·exact h
 ·rw [hi] at h;cases h
def aR.vM (s:aR K H σ fs) {t:SL} (hr:j6 K H a t) (hn:¬dI σ fs a) (i:Nat) (hi:t.Ti=[]:=by rfl):aR K H (σ.set i (am (.ref a))) (fs.set i (am t)):=s.MM hr (λc hc=>by rw [w4 hi hc];exact hn) i
def cD.MM (s:aR K H1 σ fs) (g:cD σ fs H σ fs H1) {t:SL} (hn:∀c,t.has a c->¬dI σ fs c) (h0:∀c,t.has a c->H c=bm) (i:Nat):cD σ fs H (σ.set i (am (.ref a))) (fs.set i (am t)) H1:=by
 refine⟨λb o e n=>⟨(g.keep b o e n).1,λz=>(y9 z s.len).elim n λ⟨x,z,_,y⟩=>?_⟩,g.there,λb φ p=>?_⟩
 ·cases z;rw [h0 b y] at e;cases e
 ·obtain⟨j,e1,e2⟩:=p;obtain⟨vs,q,r⟩:=s.ownAt e1 rfl e2;refine (Jd (t:=t) s ⟨j,e1,e2⟩ (λx z o y=>?_)).imp id λn=>⟨n,vs,q,r⟩;cases z;exact absurd ⟨j,_,_,e1,rfl,e2,.inl rfl⟩ (hn b y)
def cD.vM (s:aR K H1 σ fs) (g:cD σ fs H σ fs H1) {t:SL} (hn:¬dI σ fs a) (h0:H a=bm) (i:Nat) (hi:t.Ti=[]:=by rfl):cD σ fs H (σ.set i (am (.ref a))) (fs.set i (am t)) H1:=cD.MM s g (λc hc=>by rw [w4 hi hc];exact hn) (λc hc=>by rw [w4 hi hc];exact h0) i
def za (s:aR K H σ fs) {t t':SL}{c:ce} (e1:fs[i]?=am (am t)) (o:t.own=true) (np:∀φ,t≠.mP φ) (e2:σ[i]?=am (am (.ref a))) (hc:t.has a c) (Xh:t'.has a c) (ue:∀b,t'.has a b->t.has a b) (o':t'.own=true) (sx:oj c H H') (ht:a9 K H H'->j6 K H' a t'):aR K H' σ (fs.set i (am t'))/\cD σ fs H σ (fs.set i (am t')) H':=by
 have oa:=s.ownAt e1 o e2;obtain⟨ob,q,n1,n2⟩:=oa.ex o hc;have tk:a9 K H H':=⟨λb vs z=>sx b _ (λy=>by subst y;rw [q] at z;cases z;exact n1 _ rfl) z,λb o u z=>sx b _ (λy=>by subst y;rw [q] at z;cases z;exact n2 _ _ rfl) z⟩;have W4:=ht tk;have hi:i < fs.length:=(Ak.mp e1).1;have QJ:∀b,dI σ (fs.set i (am t')) b->dI σ fs b:=λb z=>by
  obtain⟨j,w,x,z1,z2,z3,z4⟩:=z;rcases cL z1 with⟨rfl,rfl⟩ | ⟨n,z1⟩
  ·rw [e2] at z3;cases z3;exact⟨j,t,a,e1,o,e2,ue b z4⟩
  ·exact⟨j,w,x,z1,z2,z3,z4⟩
 refine⟨⟨by simp [s.len],λj w e=>?_,λj k w x b1 b2 b z1 z2 o1 o2 q1 q2 y1 y2=>?_⟩,⟨λb ob e n=>⟨sx b ob (λz=>by subst z;exact n ⟨i,t,a,e1,o,e2,hc⟩) e,λz=>n (QJ b z)⟩,λb e=>?_,λb φ p=>?_⟩⟩
 ·rcases cL e with⟨rfl,rfl⟩ | ⟨n,e⟩
  ·exact⟨_,e2,.inr ⟨a,rfl,W4⟩⟩
  ·obtain⟨u,h1,h2⟩:=s.at' j w e;refine⟨u,h1,h2.mono tk (λx b ob eb ow hb z=>sx b ob (λy=>?_) z)⟩;subst y;subst eb;exact n (s.nd j i w t x a b e e1 ow o h1 e2 hb hc)
 ·have f:∀{j:Nat}{w:SL}{y:ce},(fs.set i (am t'))[j]?=am (am w)->w.own=true->σ[j]?=am (am (.ref y))->w.has y b->∃w',fs[j]?=am (am w')/\w'.own=true/\w'.has y b:=λ{j w y} z ow qy hy=>by
   rcases cL z with⟨rfl,rfl⟩ | ⟨n,z⟩
   ·rw [e2] at qy;cases qy;exact⟨t,e1,o,ue b hy⟩
   ·exact⟨w,z,ow,hy⟩
  obtain⟨w',a1,a2,a3⟩:=f z1 o1 q1 y1;obtain⟨x',c1,c2,c3⟩:=f z2 o2 q2 y2;exact s.nd j k w' x' b1 b2 b a1 c1 a2 c2 q1 q2 a3 c3
 ·cases z:H b with
  | none=>rfl
  | some ob=>
   by_cases cc:b=c
   ·subst cc;obtain⟨o2,y,_⟩:=W4.ex o' Xh;rw [e] at y;cases y
   ·rw [sx b ob cc z] at e;cases e
 ·obtain⟨j,p1,p2⟩:=p;have ji:j≠i:=λz=>by subst z;rw [e1] at p1;cases p1;exact np φ rfl
  exact .inl ⟨j,by rw [aL ji];exact p1,p2⟩
def eN (s:aR K H σ fs) {t t':SL} (e1:fs[i]?=am (am t)) (o:t.own=true) (np:∀φ,t≠.mP φ) (e2:σ[i]?=am (am (.ref a))) (sx:oj a H H') (ht:a9 K H H'->j6 K H' a t') (hi:t'.Ti=t.Ti:=by rfl) (o':t'.own=true:=by rfl):aR K H' σ (fs.set i (am t'))/\cD σ fs H σ (fs.set i (am t')) H':=
 za s e1 o np e2 (.inl rfl) (.inl rfl) (λb h=>by unfold SL.has at h ⊢;rw [hi] at h;exact h) o' sx ht
end
end
end FL
open FL.W renaming bind→ap,ret→bd,run_bind→cr,ag→ga,aj→gl,ar→mo,ext'→ww,aM→wT
local macro_rules | `($a\$b)=>`(ap (bd $a) $b)
variable {x:BX}{u:L2.V}{o b:B2}{fs bq:FL.bb}{es:List B2}{σ':L2.St}{wa wb wc:FL.W PL.PV}{wl:FL.W (List PL.PV)}
namespace FL
section
open PySem PySem.Spec PyProof.Rows L2 PL
variable {K:Ab}
def fE (K:Ab) (fs:bb) (w:W PV):TE:=λσ H Q=>aR K H σ fs/\w.run λv=>∀u H',cP σ fs H H'->aR K H' σ fs->VR K [] H' u v->Q u H'
def fT (K:Ab) (fs:bb) (w:W Bool):TT:=λσ H Q=>aR K H σ fs/\w.run λb=>∀H',cP σ fs H H'->aR K H' σ fs->Q b H'
def fO (K:Ab) (fs:bb) (w:W (Option Int)):TO:=λσ H Q=>aR K H σ fs/\w.run λb=>∀H',cP σ fs H H'->aR K H' σ fs->Q b H'
def fL (K:Ab) (fs:bb) (w:W (List PV)):TE:=λσ H Q=>aR K H σ fs/\w.run λl=>∀a vs H',cP σ fs H H'->aR K H' σ fs->H a=bm->H' a=am (.lst vs)->aD K [] H' vs l->Q (.ref a) H'
def WU (K:Ab) (H:Hp) (u:V) (l:List PV):Prop:=∃a vs,u=.ref a/\(T3 K H a vs\/H a=am (.tup vs))/\aD K [] H vs l
def Su (K:Ab) (σ:L2.St) (fs:bb) (H:Hp) (u:V) (l:List PV):Prop:=WU K H u l\/∃a,u=.ref a/\((¬dI σ fs a/\∃vs,H a=am (.lst vs)/\aD K [] H vs l)\/∃(i:Nat) (q:Option ce),fs[i]?=am (am (.ol q l))/\σ[i]?=am (am (.ref a)))
def fQ (K:Ab) (fs:bb) (w:W (List PV)):TE:=λσ H Q=>aR K H σ fs/\w.run λl=>∀u H',cP σ fs H H'->aR K H' σ fs->Su K σ fs H' u l->Q u H'
def fI (K:Ab) (fs:bb) (w:W (List PV)):TE:=λσ H Q=>aR K H σ fs/\w.run λl=>∀u H',cP σ fs H H'->aR K H' σ fs->WU K H' u l->Q u H'
inductive AK where
 | v | p (φ:List V->Prop) | f (a:ce)
inductive fy (K:Ab) (σ:L2.St) (fs:bb) (H:Hp):List V->List AK->List PV->Prop
 | nil:fy K σ fs H [] [] []
 | v {u:V}{x:PV}{vs:List V}{ks:List AK}{l:List PV} (r:VR K [] H u x) (t:fy K σ fs H vs ks l):fy K σ fs H (u::vs) (.v::ks) (x::l)
 | p {a:ce}{φ:List V->Prop}{vs:List V}{ks:List AK}{l:List PV} (r:hV σ fs φ a) (t:fy K σ fs H vs ks l):fy K σ fs H (.ref a::vs) (.p φ::ks) l
 | f {a:ce}{vs:List V}{ks:List AK}{l:List PV} (t:fy K σ fs H vs ks l):fy K σ fs H (.ref a::vs) (.f a::ks) l
def fA (K:Ab) (fs:bb) (ks:List AK) (w:W (List PV)):TA:=λσ H Q=>aR K H σ fs/\w.run λl=>∀vs H',cP σ fs H H'->aR K H' σ fs->fy K σ fs H' vs ks l->Q vs H'
structure EF (X:Cx) (K:Ab) (fs:bb) (e:ii) (w:W PV):Prop where p:PE X e (fE K fs w)
structure LF (X:Cx) (K:Ab) (fs:bb) (e:ii) (w:W (List PV)):Prop where p:PE X e (fL K fs w)
structure QF (X:Cx) (K:Ab) (fs:bb) (e:ii) (w:W (List PV)):Prop where p:PE X e (fQ K fs w)
structure IF (X:Cx) (K:Ab) (fs:bb) (e:ii) (w:W (List PV)):Prop where p:PE X e (fI K fs w)
structure TF (X:Cx) (K:Ab) (fs:bb) (e:ii) (w:W Bool):Prop where p:PT X e (fT K fs w)
structure Gf (X:Cx) (K:Ab) (fs:bb) (e:ii) (w:W Bool):Prop where p:PW X e (fT K fs w)
structure OF (X:Cx) (K:Ab) (fs:bb) (e:Option ii) (w:W (Option Int)):Prop where p:L2.PO X e (fO K fs w)
structure AF (X:Cx) (K:Ab) (fs:bb) (es:List ii) (ks:List AK) {R:Type} (B:(List PV->W R)->W R):Prop where
 p:∃w:W (List PV),PA X es (fA K fs ks w)/\∀k,B k=ap w k
section
def WU.tk (t:a9 K H H') (h:WU K H u l):WU K H' u l:=by
 obtain⟨a,vs,e,q,r⟩:=h;exact⟨a,vs,e,q.imp (t.f _ _) (t.t _ _),aD.tk t r⟩
def Su.go (h:Su K σ fs H u l) (s:aR K H σ fs) (g:cP σ fs H H'):Su K σ fs H' u l:=by
 rcases h with h | ⟨a,e,⟨n,vs,q,r⟩ | q⟩
 ·exact .inl (h.tk (g.d5 s))
 ·exact .inr ⟨a,e,.inl ⟨n,vs,(g.uO q n),g.L1 s r⟩⟩
 ·exact .inr ⟨a,e,.inr q⟩
def Su.sq (h:Su K σ fs H u l) (s:aR K H σ fs):∃a vs,u=.ref a/\(cR K H a vs\/d4 K H a vs)/\aD K [] H vs l:=by
 rcases h with⟨a,vs,e,q,r⟩ | ⟨a,e,⟨n,vs,q,r⟩ | ⟨i,_,q1,q2⟩⟩
 ·exact⟨a,vs,e,q.elim (λq=>.inl q.sq) λq=>.inr (d4.of q),r⟩
 ·exact⟨a,vs,e,.inl (cR.of q),r⟩
 ·obtain⟨_,vs,q,r⟩:=s.ownAt q1 rfl q2;exact⟨a,vs,e,.inl (cR.of q),r⟩
end
section
variable {a c:ii}{rest:List ii}{w:W PV}
def ae (i:Nat) (hs:fs[i]?=am (am (.val v)):=by rfl) (hN:X.N[i]?=am x:=by rfl) (hv:F5 X.env.scope x:=by first | exact CZ rfl | exact Cy (CZ rfl) | exact Cy (Cy rfl)) (hd:iW x:=by decide) (jq:Gp x:=by decide):EF X K fs (.Name x pos) (.ret v):=
 ⟨PE.imp (d7 hN hv hd jq) λσ H Q ⟨sr,q⟩=>by
  obtain⟨u,e1,r⟩:=sr.at' i _ hs;rcases r with⟨w,e,r⟩ | ⟨a,_,r⟩
  ·cases e;exact⟨u,e1,q u H .refl sr r⟩
  ·exact r.elim⟩
def Xo {v:V}{p:PV} (hv:∀H,VR K [] H v p) (h:PE X e (tC v)):EF X K fs e (.ret p):=⟨PE.imp h λσ H Q ⟨sr,q⟩=>q v H .refl sr (hv _)⟩
def ak {i j}:EF X K fs (.Constant (.int i) j pos) (.ret (.int i)):=Xo (λ_=>.int i) UZ
def HQ {b j}:EF X K fs (.Constant (.bool b) j pos) (.ret (.bl b)):=Xo (λ_=>.bl b) YF
def iO {j}:EF X K fs (.Constant .none j pos) (.ret .aE):=Xo (λ_=>.aE) M3
def u4 {x j}:EF X K fs (.Constant (.str x) j pos) (.ret (.str x)):=Xo (λ_=>.str x) UX
def xD {i:Int}{t:Tok} (hm:X.mg x=am (.int i t)) (hg:Gl X x) (hd:iW x:=by decide):EF X K fs (.Name x pos) (.ret (.int i)):=Xo (λ_=>.int i) (qC hg hm ⟨_,rfl⟩ hd)
def xC {i:Str}{t:Tok} (hm:X.mg x=am (.str i t)) (hg:Gl X x) (hd:iW x:=by decide):EF X K fs (.Name x pos) (.ret (.str i)):=Xo (λ_=>.str i) (qC hg hm ⟨_,rfl⟩ hd)
def of2 (m:M2) (x y:PV):W PV:=⟨λQ=>m.f x y [] λz h=>h=[]/\Q z,λf q=>m.mono (λ_ _ q=>⟨q.1,f _ q.2⟩) q⟩
def hr0 (H:Hp):HR K [] H []:=⟨D2,rfl,λn a o e _=>by simp at e⟩
def pq0 {Q:VK}{z:PV}{h:PH} (sr:aR K H σ fs) (q:h=[]/\∀u H',cP σ fs H H'->aR K H' σ fs->VR K [] H' u z->Q u H'):pQ K [] H Q z h:=λι' v H' g r x=>by
 obtain⟨e,q⟩:=q;subst e;have:ι'=[]:=BV r.len;subst this;have sm:kR H H':=λa o z=>g.keep a o (by simp) z;exact q v H' (cP.same sm) (sr.same sm) x
def Vf {r:R2}{m:M2} (hm:M2.Ok K r m) {Q:VK}{v:V}{x y:PV} (sr:aR K H σ fs) (hu:VR K [] H u x) (hv:VR K [] H v y) (q:(of2 m x y).run λz=>∀u H',cP σ fs H H'->aR K H' σ fs->VR K [] H' u z->Q u H'):r u v H Q:=
 hm (hr0 H) hu hv (m.mono (λz h q=>pq0 sr q) q)
def JO {r:R2}{m:M2} (hm:M2.Ok K r m):∀σ H Q,fE K fs (.bind wa λx=>.bind wb λy=>of2 m x y) σ H Q->Uj r (fE K fs wa) (fE K fs wb) σ H Q:=λσ H Q ⟨sr,q⟩=>
 ⟨sr,wa.mono (λx q1 u1 H1 g1 s1 v1=>⟨s1,wb.mono (λy q2 u2 H2 g2 s2 v2=>Vf hm s2 (g2.vr s1 v1) v2 ((of2 m x y).mono (λz q u3 H3 g3 s3 v3=>q u3 H3 ((g1.trans g2).trans g3) s3 v3) q2)) q1⟩) q⟩
def OP {op:Operator}{r:R2}{m:M2} (ho:iz X (r9 op) r) (hm:M2.Ok K r m) (ha:EF X K fs a wa) (hb:EF X K fs b wb):EF X K fs (.BinOp a op b pos) (.bind wa λx=>.bind wb λy=>of2 m x y):=⟨PE.imp (Jg ho ha.p hb.p) (JO hm)⟩
def u0 (ha:EF X K fs a wa) (hb:EF X K fs b wb):EF X K fs (.BinOp a .Sub b pos) (.bind wa λx=>.bind wb λy=>of2 zd x y):=OP U4 (F4 λ_ _ _ _=>.int _) ha hb
def sS (ha:EF X K fs a wa) (hb:EF X K fs b wb):EF X K fs (.BinOp a .Mult b pos) (.bind wa λx=>.bind wb λy=>of2 oT x y):=OP QN (yb λ_ _ _ _=>.int _) ha hb
def TN (ha:EF X K fs a wa) (hb:EF X K fs b wb):EF X K fs (.BinOp a .FloorDiv b pos) (.bind wa λx=>.bind wb λy=>of2 oDiv x y):=OP QO (yb λ_ _ _ _=>.int _) ha hb
def pR (ha:EF X K fs a wa) (hb:EF X K fs b wb):EF X K fs (.BinOp a .Mod b pos) (.bind wa λx=>.bind wb λy=>of2 oMod x y):=OP U8 (yb λ_ _ _ _=>.int _) ha hb
def TL (ha:EF X K fs a wa) (hb:EF X K fs b wb):EF X K fs (.BinOp a .Pow b pos) (.bind wa λx=>.bind wb λy=>of2 Nc x y):=OP U6 (yb λ_ _ _ _=>.int _) ha hb
def Nj:PV->W PV
 | .int i=>.ret (.int (-i))
 | _=>.fail
def OQ (ha:EF X K fs a wa):EF X K fs (.UnaryOp .USub a pos) (.bind wa Nj):=⟨PE.imp (YC Ud ha.p) λσ H Q ⟨sr,q⟩=>⟨sr,wa.mono (λx q1 u1 H1 g1 s1 v1=>by
 cases v1 with
 | int i=>exact⟨_,rfl,q1 _ H1 g1 s1 (.int _)⟩
 | _=>exact q1.elim) q⟩⟩
def asB:PV->W Bool
 | .bl b=>.ret b
 | _=>.fail
def JT {m:M2} (hc:JC X K op b m) (ha:EF X K fs a wa) (hb:EF X K fs b wb):EF X K fs (.Compare a [op] [b] pos) (.bind wa λx=>.bind wb λy=>of2 m x y):=let ⟨_,h1,h2⟩:=hc.p;⟨PE.imp (Ji h1 ha.p hb.p hc.k) (JO h2)⟩
def Z4 {w:W PV}:∀σ H Q,fT K fs (.bind w asB) σ H Q->(fE K fs w) σ H λx H'=>∃k,x=.bl k/\Q k H':=λσ H Q ⟨sr,q⟩=>⟨sr,w.mono (λx q1 u1 H1 g1 s1 v1=>by
 cases v1 with
 | bl b=>exact⟨b,rfl,q1 H1 g1 s1⟩
 | _=>exact q1.elim) q⟩
def cS {m:M2} (hc:JC X K op b m) (ha:EF X K fs a wa) (hb:EF X K fs b wb):TF X K fs (.Compare a [op] [b] pos) (.bind wa λx=>.bind wb λy=>.bind (of2 m x y) asB):=let ⟨_,h1,h2⟩:=hc.p
 ⟨PT.imp (m9 h1 ha.p hb.p hc.k) λσ H Q q=>JO h2 σ H _ (Z4 (w:=.bind wa λx=>.bind wb λy=>of2 m x y) σ H Q q)⟩
def O1 (z:PV) (w:W PV):W PV:=match z with
 | .bl true=>w
 | .bl false=>.ret (.bl false)
 | _=>.fail
def Sn (x:PV) (w:W PV):W PV:=match x with
 | .bl true=>w
 | .bl false=>.ret (.bl false)
 | _=>.fail
def aah (ha:EF X K fs a wa) (hb:EF X K fs (.BoolOp .And (b::rest) pos) wb):EF X K fs (.BoolOp .And (a::b::rest) pos) (.bind wa λx=>Sn x wb):=⟨PE.imp (U1 ha.p hb.p) λσ H Q ⟨sr,q⟩=>⟨sr,wa.mono (λx q1 u1 H1 g1 s1 v1=>by
 cases v1 with
 | bl k=>
  cases k with
  | true=>exact⟨true,rfl,by rw [if_pos rfl];exact⟨s1,wb.mono (λ_ q u H' g s v=>q u H' (g1.trans g) s v) q1⟩⟩
  | false=>exact⟨false,rfl,by rw [if_neg AX];exact q1 _ H1 g1 s1 (.bl _)⟩
 | _=>exact q1.elim) q⟩⟩
def aaa {op} (h:EF X K fs a wa):EF X K fs (.BoolOp op [a] pos) wa:=⟨UY h.p⟩
variable {ta tb tc:W Bool}
def kW (h:TF X K fs a ta):Gf X K fs (.BoolOp .And [a] pos) ta:=⟨Qq h.p⟩
def Gx (h:TF X K fs a ta):Gf X K fs (.BoolOp .Or [a] pos) ta:=⟨UO h.p⟩
def oE (ha:TF X K fs a ta) (hb:Gf X K fs (.BoolOp .And (b::rest) pos) tb):Gf X K fs (.BoolOp .And (a::b::rest) pos) (.bind ta λk=>if k=true then tb else .ret false):=⟨PW.imp (UP ha.p hb.p) λσ H Q ⟨sr,q⟩=>⟨sr,ta.mono (λk q1 H1 g1 s1=>by
 cases k with
 | true=>exact wQ ⟨s1,tb.mono (λ_ q H' g s=>q H' (g1.trans g) s) q1⟩
 | false=>exact wR (q1 H1 g1 s1)) q⟩⟩
def L5 (ha:TF X K fs a ta) (hb:Gf X K fs (.BoolOp .Or (b::rest) pos) tb):Gf X K fs (.BoolOp .Or (a::b::rest) pos) (.bind ta λk=>if k=true then .ret true else tb):=⟨PW.imp (Yz ha.p hb.p) λσ H Q ⟨sr,q⟩=>⟨sr,ta.mono (λk q1 H1 g1 s1=>by
 cases k with
 | true=>exact wQ (q1 H1 g1 s1)
 | false=>exact wR ⟨s1,tb.mono (λ_ q H' g s=>q H' (g1.trans g) s) q1⟩) q⟩⟩
def Gf.t (h:Gf X K fs a ta):TF X K fs a ta:=⟨PW.pt h.p⟩
def pE (ha:TF X K fs a ta):TF X K fs (.UnaryOp .Not a pos) (.bind ta λk=>.ret (!k)):=⟨PT.imp (UQ ha.p) λσ H Q ⟨sr,q⟩=>⟨sr,q⟩⟩
def qm (hc:TF X K fs c tc) (ha:EF X K fs a wa) (hb:EF X K fs b wb):EF X K fs (.IfExp c a b pos) (.bind tc λk=>if k=true then wa else wb):=⟨PE.imp (y6 hc.p ha.p hb.p) λσ H Q ⟨sr,q⟩=>⟨sr,tc.mono (λk q1 H1 g1 s1=>by
 cases k with
 | true=>exact wQ ⟨s1,wa.mono (λ_ q u H' g s v=>q u H' (g1.trans g) s v) q1⟩
 | false=>exact wR ⟨s1,wb.mono (λ_ q u H' g s v=>q u H' (g1.trans g) s v) q1⟩) q⟩⟩
def Vz {la lb:W (List PV)} (hc:TF X K fs c tc) (ha:LF X K fs a la) (hb:LF X K fs b lb):LF X K fs (.IfExp c a b pos) (.bind tc λk=>if k=true then la else lb):=⟨PE.imp (y6 hc.p ha.p hb.p) λσ H Q ⟨sr,q⟩=>⟨sr,tc.mono (λk q1 H1 g1 s1=>by
 cases k with
 | true=>exact wQ ⟨s1,la.mono (λ_ q a vs H' g s n e v=>q a vs H' (g1.trans g) s (g1.there a n) e v) q1⟩
 | false=>exact wR ⟨s1,lb.mono (λ_ q a vs H' g s n e v=>q a vs H' (g1.trans g) s (g1.there a n) e v) q1⟩) q⟩⟩
def f7:PV->W Bool
 | .aE=>.ret false
 | .bl b=>.ret b
 | .int i=>.ret (i != 0)
 | .str y=>.ff (y.length<=sizeLine) (.ret ((y.length:Int) != 0))
 | .tup l=>.ret (!l.isEmpty)
 | .cl l=>.ret (!l.isEmpty)
 | _=>.fail
def fh (hK:X.K=K) (ha:EF X K fs a wa) (he:∀Æ,isTrue a X.env Æ=(do let v <- Æ;standAt a.pos;xL [v] (truthy v))):TF X K fs a (.bind wa f7):=⟨PT.imp (uC K hK ha.p he) λσ H Q ⟨sr,q⟩=>⟨sr,wa.mono (λx q1 u1 H1 g1 s1 v1=>by
 cases v1 with
 | aE=>exact⟨false,rfl,q1 H1 g1 s1⟩
 | bl b=>exact⟨b,rfl,q1 H1 g1 s1⟩
 | int i=>exact⟨_,rfl,q1 H1 g1 s1⟩
 | str y=>exact⟨_,⟨q1.1,rfl⟩,q1.2 H1 g1 s1⟩
 | ty _=>exact q1.elim
 | dk _ _ _=>exact q1.elim
 | dt _ _ _=>exact q1.elim
 | ref _=>exact q1.elim
 | @tup p vs l e rs=>
  refine⟨!vs.isEmpty,.inr (.inl ⟨_,d4.of e,rfl⟩),?_⟩;rw [<- kB rs];exact q1 H1 g1 s1
 | @cl p vs l e rs=>
  refine⟨!vs.isEmpty,.inl ⟨_,e.sq,rfl⟩,?_⟩;rw [<- kB rs];exact q1 H1 g1 s1) q⟩⟩
def XS (hK:X.K=K) (ha:QF X K fs a wl) (he:∀Æ,isTrue a X.env Æ=(do let v <- Æ;standAt a.pos;xL [v] (truthy v))):TF X K fs a (.bind wl λl=>.ret (!l.isEmpty)):=⟨PT.imp (uC K hK ha.p he) λσ H Q ⟨sr,q⟩=>⟨sr,wl.mono (λl q1 u1 H1 g1 s1 v1=>by
 obtain⟨b,vs,rfl,h,rs⟩:=v1.sq s1;refine⟨!vs.isEmpty,?_,?_⟩
 ·exact h.elim (λh=>.inl ⟨_,h,rfl⟩) λh=>.inr (.inl ⟨_,h,rfl⟩)
 ·rw [<- kB rs];exact q1 H1 g1 s1) q⟩⟩
variable {R:Type}{ks:List AK}{B:(List PV->W R)->W R}
def ai:AF X K fs [] [] (R:=R) (λk=>k []):=⟨.ret [],PA.imp bV λσ H Q ⟨sr,q⟩=>q [] H .refl sr .nil,λk=>rfl⟩
def aa (ha:EF X K fs e w) (hr:AF X K fs es ks B) (hs:gK X e es:=by rfl):AF X K fs (e::es) (.v::ks) (λk=>.bind w λx=>B λl=>k (x::l)):=by
 obtain⟨wr,hp,hB⟩:=hr.p;refine⟨.bind w λx=>.bind wr λl=>.ret (x::l),PA.imp (aW ha.p hp hs) λσ H Q ⟨sr,q⟩=>?_,λk=>?_⟩
 ·exact⟨sr,w.mono (λx q1 u1 H1 g1 s1 v1=>⟨s1,wr.mono (λl q2 vs H2 g2 s2 v2=>q2 _ H2 (g1.trans g2) s2 (.v (g2.vr s1 v1) v2)) q1⟩) q⟩
 ·have:(λx=>B λl=>k (x::l))=λx=>ap wr λl=>k (x::l):=funext λx=>hB _;rw [this];rfl
def bX (i:Nat) (hr:AF X K fs es ks B) (hs:fs[i]?=am (am (.mP φ)):=by rfl) (hN:X.N[i]?=am x:=by rfl) (hv:F5 X.env.scope x:=by first | exact CZ rfl | exact Cy (CZ rfl) | exact Cy (Cy rfl)) (hd:iW x:=by decide) (jq:Gp x:=by decide)
  (qI:f8 (.Name x pos::es) X.env=(false,kw (.Name x pos) X.env)::f8 es X.env:=by rfl):AF X K fs (.Name x pos::es) (.p φ::ks) B:=by
 obtain⟨wr,hp,hB⟩:=hr.p;refine⟨wr,PA.imp (aW (d7 hN hv hd jq) hp qI) λσ H Q ⟨sr,q⟩=>?_,hB⟩;obtain⟨u,e1,r⟩:=sr.at' i _ hs;rcases r with⟨v,e,_⟩ | ⟨a,e,r⟩
 ·cases e
 ·subst e;exact⟨_,e1,sr,wr.mono (λl q2 vs H2 g2 s2 v2=>q2 _ H2 g2 s2 (.p ⟨i,hs,e1⟩ v2)) q⟩
theorem fy.L1:∀{vs:List V}{n:Nat}{l:List PV},fy K σ fs H vs (Am n .v) l->aD K [] H vs l/\l.length=n
 | _,0,_,.nil=>⟨.nil,rfl⟩
 | _,n+1,_,.v r t=>⟨.cons r (fy.L1 t).1,by rw [Ap,(fy.L1 t).2]⟩
def Z9 {x1}{B:(List PV->W PV)->W PV} (h:AF X K fs es (Am n .v) B) (hn:n<=1000:=by decide):EF X K fs (.Tuple es x1 pos) (B λl=>.ret (.tup l)):=by
 obtain⟨w,hp,hB⟩:=h.p;rw [hB];refine⟨PE.imp (QB hp) λσ H Q ⟨sr,q⟩=>⟨sr,w.mono (λl q1 vs H1 g1 s1 v1=>?_) q⟩⟩;obtain⟨v2,hl⟩:=v1.L1;refine⟨by rw [v2.length,hl];exact cu hn,λp H2 s2 e2 n2=>?_⟩;exact q1 _ H2 (g1.trans (cP.same s2)) (s1.same s2) (.tup e2 (aD.tk s2.eL v2))
def Ta {B:(List PV->W (List PV))->W (List PV)} (h:AF X K fs es (Am n .v) B) (hn:n<=1000:=by decide):LF X K fs (.List es pos) (B λl=>.ret l):=by
 obtain⟨w,hp,hB⟩:=h.p;rw [hB];refine⟨PE.imp (QE hp) λσ H Q ⟨sr,q⟩=>⟨sr,w.mono (λl q1 vs H1 g1 s1 v1=>?_) q⟩⟩;obtain⟨v2,hl⟩:=v1.L1;refine⟨by rw [v2.length,hl];exact cu hn,λp H2 s2 e2 n2=>?_⟩;exact q1 _ _ H2 (g1.trans (cP.same s2)) (s1.same s2) (g1.there p n2) e2 (aD.tk s2.eL v2)
end
end
end FL
namespace L2
open PySem PySem.Spec PyProof.Rows
def Inv.JK {σ:St} (I:Inv X Z σ H s) (e:H a=am (.lst vs)):∃o,Inv X Z σ (upd H a (.cx o (.lst vs))) s:=by
 obtain⟨z,aq,n,r,h1⟩:=(show aY X.prog X.w H s.heap a (.lst vs) from I.bp a _ e);exact⟨_,I.write (x:=a) (e:=a) (o:=.cx _ (.lst vs)) (h':=s.heap) (t':=s.toks) (by rw [e];exact B9) (.inl rfl) (λb u _ z=>z) ⟨_,h1⟩ ⟨h1,z,aq,n,r,h1⟩⟩
def Inv.JL {σ:St}{kvs:List (Key×V)} (I:Inv X Z σ H s) (e:H a=am (.dK kvs)):∃o,Inv X Z σ (upd H a (.cx o (.dK kvs))) s:=by
 obtain⟨z,hs,vs,r,o,es,ep,h1,h2⟩:=(show aY X.prog X.w H s.heap a (.dK kvs) from I.bp a _ e);exact⟨o,I.write (x:=a) (e:=a) (o:=.cx o (.dK kvs)) (h':=s.heap) (t':=s.toks) (by rw [e];exact B9) (.inl rfl) (λb u _ z=>z) ⟨o,h1⟩ ⟨h1,z,hs,vs,r,o,es,ep,h1,h2⟩⟩
end L2
variable {t:FL.SL}{m:PL.yA}{ks:List FL.AK}{B:(List PL.PV->FL.W PL.PV)->FL.W PL.PV}{wm:FL.W (List PL.PV)}{q0:Option BB}
namespace FL
section
open PySem PySem.Spec PyProof.Rows L2 PL
variable {K:Ab}
section
def qz (o':HO) (e:H a=am (.lst vs)):a9 K H (upd H a o'):=⟨λb ws q=>by rw [av (Js q e (by intro z;cases z))];exact q,λb o u q=>by rw [av (Js q e (by intro z;cases z))];exact q⟩
def dvK (kvs:List (Key×PV)):PV:=.dv (kvs.map λkv=>kP kv.1) (kvs.map (·.2))
def xR (kvs:List (List Key×PV)):PV:=.dv (kvs.map λkv=>.tup (kv.1.map kP)) (kvs.map (·.2))
def f9 {oh:HO} (o':HO) (e:H a=am oh) (n1:∀vs,oh≠.tup vs) (n2:∀o u,oh≠.cx o u):a9 K H (upd H a o'):=⟨λb ws q=>by rw [av (λz=>by subst z;rw [e] at q;cases q;exact n1 _ rfl)];exact q,λb o u q=>by rw [av (λz=>by subst z;rw [e] at q;cases q;exact n2 _ _ rfl)];exact q⟩
def Tb {vs:List (List Key×V)}{kvs:List (List Key×PV)} (h:vs.map (·.1)=kvs.map (·.1)):(kvs.map λkv=>PV.tup (kv.1.map kP))=vs.map λkv=>PV.tup (kv.1.map kP):=by
 have:=congrArg (FA λk:List Key=>PV.tup (k.map kP)) h;rw [AB,AB] at this;exact this.symm
def Tc {vs:List (Key×V)}{kvs:List (Key×PV)} (h:vs.map (·.1)=kvs.map (·.1)):(kvs.map λkv=>kP kv.1)=vs.map λkv=>kP kv.1:=by
 have:=congrArg (FA kP) h;rw [AB,AB] at this;exact this.symm
def SL.bw:SL->Bool
 | .ol _ _=>true
 | .od _=>true
 | .ot _=>true
 | _=>false
def SL.bv:SL->PV
 | .ol _ l=>.cl l
 | .od kvs=>dvK kvs
 | .ot kvs=>xR kvs
 | _=>.aE
def SL.O5 (h:t.bw=true):t.own=true:=by cases t <;> first | rfl | cases h
def ZS (I:Inv X Z σ' H s) (oa:j6 K H a t) (hb:t.bw=true):∃ob o,H a=am o/\(∀vs,o≠.tup vs)/\(∀ob u,o≠.cx ob u)/\Inv X Z σ' (upd H a (.cx ob o)) s/\VR K [] (upd H a (.cx ob o)) (.ref a) t.bv:=by
 cases t with
 | ol q l=>
  obtain⟨_,vs,e,r⟩:=oa;obtain⟨ob,I2⟩:=I.JK e;exact⟨ob,_,e,by simp,by simp,I2,.cl (.inl ⟨ob,aK⟩) (aD.tk (f9 _ e (by simp) (by simp)) r)⟩
 | od l=>
  obtain⟨vs,e,k,r⟩:=oa;obtain⟨ob,I2⟩:=I.JL e;exact⟨ob,_,e,by simp,by simp,I2,.dk aK (Tc k) (aD.tk (f9 _ e (by simp) (by simp)) r)⟩
 | ot l=>
  obtain⟨vs,e,k,r⟩:=oa;obtain⟨ob,I2⟩:=I.freeze e;exact⟨ob,_,e,by simp,by simp,I2,.dt aK (Tb k) (aD.tk (f9 _ e (by simp) (by simp)) r)⟩
 | _=>cases hb
def aR.ZR {o u:HO} (sr:aR K H σ fs) (hs:fs[i]?=am (am t)) (ho:t.own=true) (e1:σ[i]?=am (am (.ref a))) (h1:H a=am o) (n1:∀vs,o≠.tup vs) (n2:∀ob u,o≠.cx ob u) (vr:VR K [] (upd H a u) (.ref a) v):aR K (upd H a u) σ (fs.set i (am (.val v))):=by
 refine⟨by simp [sr.len],λj t' z=>?_,λj k t' u b1 b2 b z1 z2 o1 o2=>?_⟩
 ·rcases cL z with⟨rfl,rfl⟩ | ⟨n,z⟩
  ·exact⟨_,e1,.inl ⟨_,rfl,vr⟩⟩
  ·obtain⟨u,k1,k2⟩:=sr.at' j t' z;exact⟨u,k1,k2.mono (f9 _ h1 n1 n2) (λx b o eb ow hb zz=>by
    subst eb;rw [av (λy=>by subst y;exact n (sr.nd j i t' _ x b b z hs ow ho k1 e1 hb (.inl rfl)))];exact zz)⟩
 ·rcases cL z1 with⟨rfl,rfl⟩ | ⟨n1,z1⟩
  ·cases o1
  ·rcases cL z2 with⟨rfl,rfl⟩ | ⟨n2,z2⟩
   ·cases o2
   ·exact sr.nd j k t' u b1 b2 b z1 z2 o1 o2
def aR.side (s:aR K H σ fs) (n:¬dI σ fs a) (e:H a=am (.lst vs)) (o':HO):aR K (upd H a o') σ fs:=⟨s.len,λi t q=>by
 obtain⟨u,h1,h2⟩:=s.at' i t q;exact⟨u,h1,h2.mono (qz o' e) (λx b o eb ow hb z=>by subst eb;rw [av (λy:b=a=>n ⟨i,t,x,q,ow,h1,y▸hb⟩)];exact z)⟩,s.nd⟩
def cP.side (g:cP σ fs H H1) (h0:H a=bm) (o':HO):cP σ fs H (upd H1 a o'):=⟨λb o e n=>by rw [av (bj e h0)];exact g.keep b o e n,λb e=>by
 by_cases c:b=a
 ·subst c;exact h0
 ·rw [av c] at e;exact g.there b e⟩
end
section
variable {a:ii}{w:W PV}
def gG (h:LF X K fs e wl):EF X K fs e (.bind wl λl=>.ret (.cl l)):=⟨λZ s σ H Q I ⟨sr,q⟩=>by
 refine bZ (h.p Z s σ H (λu H1=>∃a vs l,u=.ref a/\cP σ fs H H1/\aR K H1 σ fs/\H a=bm/\H1 a=am (.lst vs)/\aD K [] H1 vs l/\∀u H',cP σ fs H H'->aR K H' σ fs->VR K [] H' u (.cl l)->Q u H') I ⟨sr,wl.mono (λl q1 a vs H1 g1 s1 n e v=>⟨a,vs,l,rfl,g1,s1,n,e,v,q1⟩) q⟩) λu s1 ⟨v,H1,I1,r1,a,vs,l,e,g1,Qe,n,ea,vr,q1⟩=>?_;subst e;obtain⟨ob,I2⟩:=I1.JK ea;exact⟨.ref a,_,I2,r1,q1 _ _ (g1.side n _) (Qe.side (λz=>sr.noOwn n z) ea _) (.cl (.inl ⟨ob,aK⟩) (aD.tk (qz _ ea) vr))⟩⟩
def aA:PV->W (List PV)
 | .tup l=>.ret l
 | .cl l=>.ret l
 | _=>.fail
def bO (h:EF X K fs e w):IF X K fs e (.bind w aA):=⟨PE.imp h.p λσ H Q ⟨sr,q⟩=>⟨sr,w.mono (λx q1 u1 H1 g1 s1 v1=>by
 cases v1 with
 | tup e r=>exact q1 _ H1 g1 s1 ⟨_,_,rfl,.inr e,r⟩
 | cl e r=>exact q1 _ H1 g1 s1 ⟨_,_,rfl,.inl e,r⟩
 | _=>exact q1.elim) q⟩⟩
def JH (h:LF X K fs e wl):IF X K fs e wl:=bO (gG h)
theorem IF.q (h:IF X K fs e wl):QF X K fs e wl:=⟨PE.imp h.p λσ H Q ⟨sr,q⟩=>⟨sr,wl.mono (λl q1 u1 H1 g1 s1 v1=>q1 u1 H1 g1 s1 (.inl v1)) q⟩⟩
def aB (h:EF X K fs e w):QF X K fs e (.bind w aA):=(bO h).q
def rB (h:LF X K fs e wl):QF X K fs e wl:=⟨PE.imp h.p λσ H Q ⟨sr,q⟩=>⟨sr,wl.mono (λl q1 a vs H1 g1 s1 n e v=>q1 _ H1 g1 s1 (.inr ⟨a,rfl,.inl ⟨sr.noOwn n,vs,e,v⟩⟩)) q⟩⟩
def cg (i:Nat) (hs:fs[i]?=am (am (.ol q0 l)):=by rfl) (hN:X.N[i]?=am x:=by rfl) (hv:F5 X.env.scope x:=by first | exact CZ rfl | exact Cy (CZ rfl) | exact Cy (Cy rfl)) (hd:iW x:=by decide) (jq:Gp x:=by decide):QF X K fs (.Name x pos) (.ret l):=
 ⟨PE.imp (d7 hN hv hd jq) λσ H Q ⟨sr,q⟩=>by
  obtain⟨u,e1,r⟩:=sr.at' i _ hs;rcases r with⟨w,e,r⟩ | ⟨a,e,r⟩
  ·cases e
  ·subst e;exact⟨_,e1,q _ H .refl sr (.inr ⟨a,rfl,.inr ⟨i,q0,hs,e1⟩⟩)⟩⟩
def Th (l:List PV):PV->W PV
 | .int i=>.Jo (dH l i)
 | _=>.fail
def aV (hK:X.K=K) (ha:QF X K fs a wl) (hb:EF X K fs b wb) (hs:yq b:=by exact λ_ _=>rfl):EF X K fs (.Subscript a b pos) (.bind wl λl=>.bind wb λy=>Th l y):=⟨PE.imp (S1 (Rt K hK) ha.p hb.p hs) λσ H Q ⟨sr,q⟩=>⟨sr,wl.mono (λl q1 u1 H1 g1 s1 v1=>⟨s1,wb.mono (λy q2 u2 H2 g2 s2 v2=>by
 cases v2 with
 | int i=>
  have q2:(W.Jo (dH l i)).run _:=q2;cases z:dH l i with
  | none=>rw [z] at q2;exact q2.elim
  | some x=>
   rw [z] at q2;obtain⟨ad,vs,rfl,h,rs⟩:=(v1.go s1 g2).sq s2;obtain⟨v,e1,e2⟩:=aD.dH rs z;have q3:=q2 v H2 (g1.trans g2) s2 e2;exact h.elim (λh=>.inl ⟨ad,vs,i,v,rfl,rfl,h,e1,q3⟩) λh=>.inr (.inl ⟨ad,vs,i,v,rfl,rfl,h,e1,q3⟩)
 | _=>exact q2.elim) q1⟩) q⟩⟩
def aae (ha:EF X K fs a wa) (hb:EF X K fs b wb) (hs:yq b):EF X K fs (.Subscript a b pos) (.bind wa λx=>.bind wb λy=>of2 Nf x y):=⟨PE.imp (S1 NP ha.p hb.p hs) (JO QX)⟩
def oA (m:yA) (l:List PV):W PV:=⟨λQ=>m.f l [] λz h=>h=[]/\Q z,λf q=>m.mono (λ_ _ q=>⟨q.1,f _ q.2⟩) q⟩
section
variable {id:String}{r:List V->Hp->VK->Prop}
def Na (hm:yA.Ok K r m) {Q:VK}{us:List V} (sr:aR K H σ fs) (hu:aD K [] H us l) (q:(oA m l).run λz=>∀u H',cP σ fs H H'->aR K H' σ fs->VR K [] H' u z->Q u H'):r us H Q:=hm (hr0 H) hu (m.mono (λz h q=>pq0 sr q) q)
def qM (hc:bE X (.builtin id) r) (hB:yA.Ok K r m) (hg:Gl X x) (hm:X.mg x=bm) (hv:lc x=am (.builtin id)) (ha:AF X K fs (e::es) (Am n .v) B) (hn:x≠"__name__":=by decide) (nP:iW x:=by decide)
  (he:gK X e es:=by rfl) (dw:lH X pos es:=by rfl):EF X K fs (.Call (.Name x p) (e::es) [] pos) (B (oA m)):=by
 obtain⟨w,hp,ġ⟩:=ha.p;rw [ġ];exact⟨PE.imp (d8 hc hg hm hv hp hn nP he dw) λσ H Q ⟨sr,q⟩=>⟨sr,w.mono (λl q1 vs H1 g1 s1 v1=>Na hB s1 v1.L1.1 ((oA m l).mono (λz q u H' g s v=>q u H' (g1.trans g) s v) q1)) q⟩⟩
def OU (hc:bE X (.type id) r) (hB:yA.Ok K r m) (hg:Gl X x) (hm:X.mg x=bm) (hv:lc x=am (.type id)) (ha:AF X K fs (e::es) (Am n .v) B) (hn:x≠"__name__":=by decide) (nP:iW x:=by decide)
  (he:gK X e es:=by rfl) (dw:lH X pos es:=by rfl):EF X K fs (.Call (.Name x p) (e::es) [] pos) (B (oA m)):=by
 obtain⟨w,hp,ġ⟩:=ha.p;rw [ġ];exact⟨PE.imp (k6 hc hg hm hv hp hn nP he dw) λσ H Q ⟨sr,q⟩=>⟨sr,w.mono (λl q1 vs H1 g1 s1 v1=>Na hB s1 v1.L1.1 ((oA m l).mono (λz q u H' g s v=>q u H' (g1.trans g) s v) q1)) q⟩⟩
def CQ (K:Ab) (r:List V->Hp->VK->Prop) (m:List PV->W PV):Prop:=∀{fs:bb}{σ:L2.St}{H:Hp}{Q:VK}{u:V}{l:List PV},aR K H σ fs->Su K σ fs H u l->((m l).run λz=>∀u H',cP σ fs H H'->aR K H' σ fs->VR K [] H' u z->Q u H')->r [u] H Q
def CL (K:Ab) (r:List V->Hp->VK->Prop) (m:List PV->W (List PV)):Prop:=∀{fs:bb}{σ:L2.St}{H:Hp}{Q:VK}{u:V}{l:List PV},aR K H σ fs->Su K σ fs H u l->((m l).run λz=>∀a vs H',cP σ fs H H'->aR K H' σ fs->H a=bm->H' a=am (.lst vs)->aD K [] H' vs z->Q (.ref a) H')->r [u] H Q
def OV {m:List PV->W PV} (hc:bE X (.builtin id) r) (hB:CQ K r m) (hg:Gl X x) (hm:X.mg x=bm) (hv:lc x=am (.builtin id)) (ha:QF X K fs e wl) (hn:x≠"__name__":=by decide) (nP:iW x:=by decide)
  (he:gK X e []:=by rfl) (dw:lH X pos []:=by rfl):EF X K fs (.Call (.Name x p) [e] [] pos) (.bind wl m):=⟨PE.imp (d8 hc hg hm hv (aW ha.p bV he) hn nP he dw) λσ H Q ⟨sr,q⟩=>⟨sr,wl.mono (λl q1 u H1 g1 s1 v1=>hB s1 v1 ((m l).mono (λz q u H' g s v=>q u H' (g1.trans g) s v) q1)) q⟩⟩
def Lk {m:List PV->W PV} (hc:bE X (.type id) r) (hB:CQ K r m) (hg:Gl X x) (hm:X.mg x=bm) (hv:lc x=am (.type id)) (ha:QF X K fs e wl) (hn:x≠"__name__":=by decide) (nP:iW x:=by decide)
  (he:gK X e []:=by rfl) (dw:lH X pos []:=by rfl):EF X K fs (.Call (.Name x p) [e] [] pos) (.bind wl m):=⟨PE.imp (k6 hc hg hm hv (aW ha.p bV he) hn nP he dw) λσ H Q ⟨sr,q⟩=>⟨sr,wl.mono (λl q1 u H1 g1 s1 v1=>hB s1 v1 ((m l).mono (λz q u H' g s v=>q u H' (g1.trans g) s v) q1)) q⟩⟩
def aaY {m:List PV->W (List PV)} (hc:bE X (.builtin id) r) (hB:CL K r m) (hg:Gl X x) (hm:X.mg x=bm) (hv:lc x=am (.builtin id)) (ha:QF X K fs e wl) (hn:x≠"__name__":=by decide) (nP:iW x:=by decide)
  (he:gK X e []:=by rfl) (dw:lH X pos []:=by rfl):LF X K fs (.Call (.Name x p) [e] [] pos) (.bind wl m):=⟨PE.imp (d8 hc hg hm hv (aW ha.p bV he) hn nP he dw) λσ H Q ⟨sr,q⟩=>⟨sr,wl.mono (λl q1 u H1 g1 s1 v1=>hB s1 v1 ((m l).mono (λz q a vs H' g s n e v=>q a vs H' (g1.trans g) s (g1.there a n) e v) q1)) q⟩⟩
def Nx {m:List PV->W (List PV)} (hc:bE X (.type id) r) (hB:CL K r m) (hg:Gl X x) (hm:X.mg x=bm) (hv:lc x=am (.type id)) (ha:QF X K fs e wl) (hn:x≠"__name__":=by decide) (nP:iW x:=by decide)
  (he:gK X e []:=by rfl) (dw:lH X pos []:=by rfl):LF X K fs (.Call (.Name x p) [e] [] pos) (.bind wl m):=⟨PE.imp (k6 hc hg hm hv (aW ha.p bV he) hn nP he dw) λσ H Q ⟨sr,q⟩=>⟨sr,wl.mono (λl q1 u H1 g1 s1 v1=>hB s1 v1 ((m l).mono (λz q a vs H' g s n e v=>q a vs H' (g1.trans g) s (g1.there a n) e v) q1)) q⟩⟩
end
def zB (l:List PV):W PV:=.ret (.int l.length)
def Ra (K:Ab):CQ K (UJ K) zB:=λ{fs σ H Q u l} s v q=>by
 obtain⟨a,vs,rfl,h,rs⟩:=v.sq s;refine⟨_,vs.length,rfl,?_,?_⟩
 ·exact h.elim (λh=>.inl ⟨_,h,rfl⟩) λh=>.inr ⟨_,h,rfl⟩
 ·rw [rs.length];exact q _ H .refl s (.int _)
def lI (l:List PV):W PV:=.ret (.tup l)
def P0 (K:Ab):CQ K (Mz K) lI:=λ{fs σ H Q u l} s v q=>by
 have fresh:∀{a:ce}{vs:List V},cR K H a vs->aD K [] H vs l->Mz K [.ref a] H Q:=λ{a vs} h rs=>⟨a,vs,rfl,.inl ⟨h,λp H2 s2 e2 n2=>q _ H2 (cP.same s2) (s.same s2) (.tup e2 (aD.tk s2.eL rs))⟩⟩;rcases v with⟨a,vs,rfl,h | h,rs⟩ | ⟨a,rfl,⟨n,vs,h,rs⟩ | ⟨i,_,q1,q2⟩⟩
 ·exact fresh h.sq rs
 ·exact⟨a,vs,rfl,.inr ⟨d4.of h,q _ H .refl s (.tup h rs)⟩⟩
 ·exact fresh (cR.of h) rs
 ·obtain⟨_,vs,h,rs⟩:=s.ownAt q1 rfl q2;exact fresh (cR.of h) rs
end
end
end FL
variable {R:Type}{m:List PL.PV->FL.W PL.PV}
namespace FL
section
open PySem PySem.Spec PyProof.Rows L2 PL
variable {K:Ab}
def yp (vs:List V) (ks:List AK) (φ:List V->Prop) (a:ce):Prop:=∃i:Nat,ks[i]?=am (.p φ)/\vs[i]?=am (.ref a)
structure GoC (vs:List V) (ks:List AK) (H H':Hp):Prop where
 keep:∀a o,H a=am o->(∀φ,¬yp vs ks φ a)->H' a=am o
 there:∀a,H' a=bm->H a=bm
 UT:∀a φ,yp vs ks φ a->∃ws,H' a=am (.lst ws)/\φ ws
inductive iy (K:Ab) (H:Hp):List V->List AK->List PV->Prop
 | nil:iy K H [] [] []
 | v {u:V}{x:PV}{vs:List V}{ks:List AK}{l:List PV} (r:VR K [] H u x) (t:iy K H vs ks l):iy K H (u::vs) (.v::ks) (x::l)
 | p {a:ce}{φ:List V->Prop}{ws vs:List V}{ks:List AK}{l:List PV} (e:H a=am (.lst ws)) (r:φ ws) (t:iy K H vs ks l):iy K H (.ref a::vs) (.p φ::ks) l
 | f {a:ce}{vs:List V}{ks:List AK}{l:List PV} (t:iy K H vs ks l):iy K H (.ref a::vs) (.f a::ks) l
def gI (K:Ab) (ks:List AK) (m:List PV->W PV):Sp:=λvs H Q _=>∃l,iy K H vs ks l/\(m l).run λv=>∀u H',GoC vs ks H H'->VR K [] H' u v->Q u H'
def fi (K:Ab) (ks:List AK) (m:List PV->W (List PV)):Sp:=λvs H Q _=>∃l,iy K H vs ks l/\(m l).run λz=>∀a ws H',GoC vs ks H H'->H a=bm->H' a=am (.lst ws)->aD K [] H' ws z->Q (.ref a) H'
def SH (R:Type):Nat->Type
 | 0=>W R
 | n+1=>PV->SH R n
def cq:(n:Nat)->SH R n->List PV->W R
 | 0,m,[]=>m
 | n+1,m,x::l=>cq n (m x) l
 | 0,_,_::_=>.fail
 | _+1,_,[]=>.fail
section
def fy.mP (h:fy K σ fs H vs ks l) (p:yp vs ks φ a):hV σ fs φ a:=by
 obtain⟨i,e1,e2⟩:=p
 induction h generalizing i with
 | nil=>simp at e1
 | v r t ih=>cases i with | zero=>simp at e1 | succ i=>exact ih i (by simpa using e1) (by simpa using e2)
 | p r t ih=>
  cases i with
  | zero=>simp at e1 e2;subst e1;subst e2;exact r
  | succ i=>exact ih i (by simpa using e1) (by simpa using e2)
 | f t ih=>cases i with | zero=>simp at e1 | succ i=>exact ih i (by simpa using e1) (by simpa using e2)
def fy.c (h:fy K σ fs H vs ks l) (s:aR K H σ fs):iy K H vs ks l:=by
 induction h with
 | nil=>exact .nil
 | v r t ih=>exact .v r ih
 | p r t ih=>
  obtain⟨i,e1,e2⟩:=r;obtain⟨ws,q,x⟩:=s.ownAt e1 rfl e2;exact .p q x ih
 | f t ih=>exact .f ih
def GoC.caller (g:GoC vs ks H H') (h:fy K σ fs H vs ks l) (s:aR K H σ fs):aR K H' σ fs/\cP σ fs H H':=by
 have gf:cP σ fs H H':=⟨λa o e n=>g.keep a o e λφ p=>n φ (h.mP p),g.there⟩;have tk:=gf.d5 s;refine⟨⟨s.len,λi t e=>?_,s.nd⟩,gf⟩;obtain⟨u,h1,h2⟩:=s.at' i t e;refine⟨u,h1,?_⟩;rcases h2 with⟨v,q,r⟩ | ⟨a,q,r⟩
 ·exact .inl ⟨v,q,VR.tk tk r⟩
 ·subst q;refine .inr ⟨a,rfl,?_⟩;by_cases c:(∃φ,yp vs ks φ a)/\t.own=true
  ·obtain⟨⟨φ,p⟩,ow⟩:=c;obtain⟨j,e1,e2⟩:=h.mP p;have ij:=s.nd i j t _ a a a e e1 ow rfl h1 e2 (.inl rfl) (.inl rfl);subst ij;rw [e] at e1;cases e1;exact g.UT a φ p
  ·refine r.mono tk (λb o ow hb z=>g.keep b o z λφ p=>?_);obtain⟨j,e1,e2⟩:=h.mP p;have ij:=s.nd i j t _ a b b e e1 ow rfl h1 e2 hb (.inl rfl);subst ij;rw [h1] at e2;cases e2;exact c ⟨⟨φ,p⟩,ow⟩
end
section
def Ww (G:SI X.prog X.w X.K X.mg X.base x k ps (gI K ks m)) (hr:cB k' X.A) (hk:k<=k') (hg:Gl X x) (ha:AF X K fs (e::es) ks B) (nP:iW x:=by decide)
  (he:gK X e es:=by rfl) (dw:lH X pos es:=by rfl):EF X K fs (.Call (.Name x p) (e::es) [] pos) (B m):=by
 obtain⟨w,hp,hB⟩:=ha.p;rw [hB];exact⟨PE.imp (M5 G hr hk hg hp nP he dw) λσ H Q ⟨sr,q⟩=>⟨sr,w.mono (λl q1 vs H1 g1 s1 v1=>⟨l,v1.c s1,(m l).mono (λz q2 u H2 g2 r2=>let ⟨s2,g3⟩:=g2.caller v1 s1;q2 u H2 (g1.trans g3) s2 r2) q1⟩) q⟩⟩
def VA {m:List PV->W (List PV)}{B:(List PV->W (List PV))->W (List PV)} (G:SI X.prog X.w X.K X.mg X.base x k ps (fi K ks m)) (hr:cB k' X.A) (hk:k<=k') (hg:Gl X x) (ha:AF X K fs (e::es) ks B) (nP:iW x:=by decide)
  (he:gK X e es:=by rfl) (dw:lH X pos es:=by rfl):LF X K fs (.Call (.Name x p) (e::es) [] pos) (B m):=by
 obtain⟨w,hp,hB⟩:=ha.p;rw [hB];exact⟨PE.imp (M5 G hr hk hg hp nP he dw) λσ H Q ⟨sr,q⟩=>⟨sr,w.mono (λl q1 vs H1 g1 s1 v1=>⟨l,v1.c s1,(m l).mono (λz q2 a ws H2 g2 n2 e2 r2=>let ⟨s2,g3⟩:=g2.caller v1 s1;q2 a ws H2 (g1.trans g3) s2 (g1.there a n2) e2 r2) q1⟩) q⟩⟩
end
end
end FL
variable {x:Bool}{T:Type}{p':B7}
namespace FL
section
open PySem PySem.Spec PyProof.Rows L2 PL
variable {K:Ab}
inductive End where
 | nx (fs:bb) | nc (fs:bb) | ct (fs:bb) | rt (v:PV) | rl (l:List PV) | bk (fs:bb) | ro (v:PV) (a:ce) (l:List PV)
def yu (σ:L2.St) (fs:bb) (H:Hp) (a:ce):Prop:=H a=bm\/∃(i:Nat) (s:SL) (x:ce),fs[i]?=am (am s)/\s.own=true/\(∀φ,s≠.mP φ)/\σ[i]?=am (am (.ref x))/\s.has x a
def bD (K:Ab) (x:Bool) (σ:L2.St) (fs:bb) (H:Hp) (D:Ends):End->Prop
 | .nx bq=>x=false->∀σ' H',cD σ fs H σ' bq H'->aR K H' σ' bq->D.nx σ' H'
 | .nc bq=>∀σ' H',cD σ fs H σ' bq H'->aR K H' σ' bq->(x=false->D.nx σ' H')/\D.ct σ' H'
 | .ct bq=>∀σ' H',cD σ fs H σ' bq H'->aR K H' σ' bq->D.ct σ' H'
 | .bk bq=>∀σ' H',cD σ fs H σ' bq H'->aR K H' σ' bq->D.bk σ' H'
 | .rt v=>∀u σ' bq H',cD σ fs H σ' bq H'->aR K H' σ' bq->VR K [] H' u v->D.rt u H'
 | .ro v a l=>∀u σ' bq H',cD σ fs H σ' bq H'->aR K H' σ' bq->(∃i:Nat,bq[i]?=am (am (.ol (am a) l)))->VR K [] H' u v->D.rt u H'
 | .rl l=>∀a ws σ' bq H',cD σ fs H σ' bq H'->aR K H' σ' bq->yu σ fs H a->H' a=am (.lst ws)->aD K [] H' ws l->D.rt (.ref a) H'
def fS (K:Ab) (x:Bool) (fs:bb) (w:W T) (out:T->End):TS:=λD σ H=>aR K H σ fs/\w.run λt=>bD K x σ fs H D (out t)
structure SF (X:Cx) (K:Ab) (x:Bool) (fs:bb) (Uq:List sn) {T:Type} (w:W T) (out:T->End):Prop where p:qQ X Uq (fS K x fs w out)
section
variable {σ1:L2.St}{RM:bb}
def yu.go (g:cD σ fs H σ1 RM H1) (s:aR K H σ fs) (s1:aR K H1 σ1 RM) (h:yu σ1 RM H1 a):yu σ fs H a:=by
 rcases h with h | ⟨i,t,x,e1,e2,np,e3,e4⟩
 ·exact .inl (g.there a h)
 ·cases z:H a with
  | none=>exact .inl z
  | some o=>
   by_cases c:dI σ fs a
   ·obtain⟨j,t',y,c1,c2,c3,c4⟩:=c;by_cases d:∃φ,t'=.mP φ
    ·obtain⟨φ,rfl⟩:=d;rcases c4 with rfl | c4
     ·rcases g.pk a φ ⟨j,c1,c3⟩ with⟨k,k1,k2⟩ | ⟨n,_⟩
      ·have:=s1.nd i k t _ x a a e1 k1 e2 rfl e3 k2 e4 (.inl rfl);subst this;rw [e1] at k1;cases k1;exact absurd rfl (np φ)
      ·exact absurd ⟨i,t,x,e1,e2,e3,e4⟩ n
     ·cases c4
    ·exact .inr ⟨j,t',y,c1,c2,λφ e=>d ⟨φ,e⟩,c3,c4⟩
   ·exact absurd ⟨i,t,x,e1,e2,e3,e4⟩ (g.keep a o z c).2
def bD.go (g:cD σ fs H σ1 RM H1) (s:aR K H σ fs) (s1:aR K H1 σ1 RM) {E:End} (h:bD K x σ fs H D E):bD K x σ1 RM H1 D E:=by
 cases E with
 | nx bq=>exact λhx σ' H' g' s'=>h hx σ' H' (g.trans g') s'
 | nc bq=>exact λσ' H' g' s'=>h σ' H' (g.trans g') s'
 | bk bq=>exact λσ' H' g' s'=>h σ' H' (g.trans g') s'
 | ct bq=>exact λσ' H' g' s'=>h σ' H' (g.trans g') s'
 | rt v=>exact λu σ' bq H' g' s' r=>h u σ' bq H' (g.trans g') s' r
 | ro v a l=>exact λu σ' bq H' g' s' o r=>h u σ' bq H' (g.trans g') s' o r
 | rl l=>exact λa ws σ' bq H' g' s' f e r=>h a ws σ' bq H' (g.trans g') s' (f.go g s s1) e r
def bD.exit {D':Ends} (h1:D'.rt=D.rt) (h2:D'.ct=D.ct) (h3:D'.bk=D.bk) {E:End} (h:bD K x σ fs H D E):bD K true σ fs H D' E:=by
 cases E with
 | nx bq=>exact λhx=>nomatch hx
 | nc bq=>exact λσ' H' g' s'=>⟨λhx=>(nomatch hx),h2▸(h σ' H' g' s').2⟩
 | bk bq=>exact λσ' H' g' s'=>h3▸h σ' H' g' s'
 | ct bq=>exact λσ' H' g' s'=>h2▸h σ' H' g' s'
 | rt v=>exact λu σ' bq H' g' s' r=>h1▸h u σ' bq H' g' s' r
 | ro v a l=>exact λu σ' bq H' g' s' o r=>h1▸h u σ' bq H' g' s' o r
 | rl l=>exact λa ws σ' bq H' g' s' f e r=>h1▸h a ws σ' bq H' g' s' f e r
end
section
variable {X:Cx}{a b c e o:ii}{pos p:Pos}{fs bq:bb}{st:sn}{Uq rest sa sb:List sn}{T T1:Type}{w wk:W T}{out:T->End}{we:W PV}{wl:W (List PV)}{x:Bool}
def End.NT:End->Prop
 | .rt _=>True
 | .rl _=>True
 | .ro _ _ _=>True
 | _=>False
def bD.acC {D':Ends}{y:Bool}{E:End} (ho:E.NT) (e:D'.rt=D.rt) (h:bD K x σ fs H D E):bD K y σ fs H D' E:=by
 cases E with
 | rt v=>exact λu σ' bq H' g s r=>e▸h u σ' bq H' g s r
 | rl v=>exact λa ws σ' bq H' g s f ea r=>e▸h a ws σ' bq H' g s f ea r
 | ro v a l=>exact λu σ' bq H' g s o r=>e▸h u σ' bq H' g s o r
 | _=>exact ho.elim
def yF (X:Cx) (K:Ab) (x:Bool) (rest:List sn) {T:Type} (out:T->End):TS:=λD σ H=>∃bq w',SF X K x bq rest w' out/\fS K x bq w' out D σ H
def Qi:qQ X rest (yF X K x rest out):=λZ s σ H D I ⟨bq,w',h,q⟩=>h.p Z s σ H D I q
def Ni:qQ X rest Uk:=λ_ _ _ _ _ _ h=>h.elim
def SF.step {t:TS} (h:PS X st t) (hq:∀D σ H,fS K x fs w out D σ H->t {D with nx:=yF X K x rest out D} σ H):SF X K x fs (st::rest) w out:=⟨qQ.imp (yT h Qi) λD σ H q=>hq D σ H q⟩
def SF.last {t:TS} (h:PS X st t) (hq:∀D σ H,fS K x fs w out D σ H->t {D with nx:=λ_ _=>False} σ H):SF X K x fs (st::rest) w out:=⟨qQ.imp (yT h Ni) λD σ H q=>hq D σ H q⟩
def SF.nil {t:T} (h:out t=.nx bq) (hl:hX fs bq):SF X K false fs [] (.ret t) out:=⟨qQ.imp vN λD σ H ⟨sr,q⟩=>by
 have q:bD K false σ fs H D (out t):=q;rw [h] at q;exact q rfl σ H (cD.le sr hl) (sr.le hl)⟩
def SF.fP {t:T} (h:out t=.nc bq) (hl:hX fs bq):SF X K false fs [] (.ret t) out:=⟨qQ.imp vN λD σ H ⟨sr,q⟩=>by
 have q:bD K false σ fs H D (out t):=q;rw [h] at q;exact (q σ H (cD.le sr hl) (sr.le hl)).1 rfl⟩
def SF.cont {t:T} (h:out t=.nc bq\/out t=.ct bq) (hl:hX fs bq):SF X K x fs (.Continue pos::rest) (.ret t) out:=SF.last yV λD σ H ⟨sr,q⟩=>by
 have q:bD K x σ fs H D (out t):=q;rcases h with h | h
 ·rw [h] at q;exact (q σ H (cD.le sr hl) (sr.le hl)).2
 ·rw [h] at q;exact q σ H (cD.le sr hl) (sr.le hl)
def SF.ret {k:PV->T} (he:EF X K fs e we) (h:∀v,out (k v)=.rt v):SF X K x fs (.Return (am e) pos::rest) (.bind we λv=>.ret (k v)) out:=SF.last (vO he.p) λD σ H ⟨sr,q⟩=>⟨sr,we.mono (λv q1 u H1 g1 s1 v1=>by
 have q1:bD K x σ fs H D (out (k v)):=q1;rw [h] at q1;exact q1 u σ fs H1 g1.f s1 v1) q⟩
def SF.dh {out:PV->End} (he:EF X K fs e we) (h:∀v,out v=.rt v):SF X K x fs (.Return (am e) pos::rest) we out:=SF.ret (k:=λv=>v) he h
def SF.acv {k:List PV->T} (he:LF X K fs e wl) (h:∀l,out (k l)=.rl l):SF X K x fs (.Return (am e) pos::rest) (.bind wl λl=>.ret (k l)) out:=SF.last (vO he.p) λD σ H ⟨sr,q⟩=>⟨sr,wl.mono (λl q1 a ws H1 g1 s1 n e v1=>by
 have q1:bD K x σ fs H D (out (k l)):=q1;rw [h] at q1;exact q1 a ws σ fs H1 g1.f s1 (.inl n) e v1) q⟩
def SF.gT {out:List PV->End} (he:LF X K fs e wl) (h:∀v,out v=.rl v):SF X K x fs (.Return (am e) pos::rest) wl out:=SF.acv (k:=λv=>v) he h
def SF.UA (i:Nat) {y:Str}{t:T} (hs:fs[i]?=am (am (.ol q0 l))) (h:out t=.rl l) (hN:X.N[i]?=am y:=by rfl) (hv:F5 X.env.scope y:=by first | exact CZ rfl | exact Cy (CZ rfl) | exact Cy (Cy rfl)) (hd:iW y:=by decide) (jq:Gp y:=by decide):SF X K x fs (.Return (am (.Name y p)) pos::rest) (.ret t) out:=SF.last (vO (d7 hN hv hd jq)) λD σ H ⟨sr,q⟩=>by
 have q:bD K x σ fs H D (out t):=q;rw [h] at q;obtain⟨u,e1,r⟩:=sr.at' i _ hs;rcases r with⟨v,e,_⟩ | ⟨a,e,r⟩
 ·cases e
 ·subst e;obtain⟨_,ws,q1,q2⟩:=r;exact⟨_,e1,q a ws σ fs H .refl sr (.inr ⟨i,_,_,hs,rfl,by simp,e1,.inl rfl⟩) q1 q2⟩
def SF.Yl (i:Nat) {ad:ce}{k:PV->T} (hs:fs[i]?=am (am (.ol (am ad) l))) (he:EF X K fs e we) (h:∀v,out (k v)=.ro v ad l):SF X K x fs (.Return (am e) pos::rest) (.bind we λv=>.ret (k v)) out:=SF.last (vO he.p) λD σ H ⟨sr,q⟩=>⟨sr,we.mono (λv q1 u H1 g1 s1 v1=>by
 have q1:bD K x σ fs H D (out (k v)):=q1;rw [h] at q1;exact q1 u σ fs H1 g1.f s1 ⟨i,hs⟩ v1) q⟩
def SF.expr {k:PV->W T} (he:EF X K fs e we) (hr:∀v,SF X K x fs rest (k v) out) (hs:im e bm pos.line X.env=pure false:=by rfl):SF X K x fs (.Expr e pos::rest) (.bind we k) out:=SF.step (qB he.p hs) λD σ H ⟨sr,q⟩=>
 ⟨sr,we.mono (λv q1 u H1 g1 s1 v1=>⟨fs,k v,hr v,s1,(k v).mono (λt q2=>q2.go g1.f sr s1) q1⟩) q⟩
def SF.set {y:Str}{k:PV->W T} (hN:X.N.Nodup) (hi:X.N[i]?=am y) (hx:Loc X.env.scope y) (he:EF X K fs e we) (hr:∀v,SF X K x (fs.set i (am (.val v))) rest (k v) out) (hs:im e (am (.Name y p')) pos.line X.env=pure false:=by rfl)
  (hf:LQ X y:=by first | exact .inl rfl | exact .inr rfl | assumption):SF X K x fs (.Assign [.Name y p'] e pos::rest) (.bind we k) out:=SF.step (rC hN hi hx he.p hs hf) λD σ H ⟨sr,q⟩=>
 ⟨sr,we.mono (λv q1 u H1 g1 s1 v1=>⟨_,k v,hr v,s1.fm v1 i,(k v).mono (λt q2=>q2.go (g1.f.trans (cD.fm s1 u v i)) sr (s1.fm v1 i)) q1⟩) q⟩
def SF.acs {y:Str}{k:List PV->W T} (hN:X.N.Nodup) (hi:X.N[i]?=am y) (hx:Loc X.env.scope y) (he:LF X K fs e wl) (hr:∀l,SF X K x (fs.set i (am (.ol bm l))) rest (k l) out) (hs:im e (am (.Name y p')) pos.line X.env=pure false:=by rfl)
  (hf:LQ X y:=by first | exact .inl rfl | exact .inr rfl | assumption):SF X K x fs (.Assign [.Name y p'] e pos::rest) (.bind wl k) out:=SF.step (rC hN hi hx he.p hs hf) λD σ H ⟨sr,q⟩=>by
 refine⟨sr,wl.mono (λl q1 a ws H1 g1 s1 n e v1=>?_) q⟩;have no:=sr.noOwn n;have s2:=s1.vM (t:=.ol bm l) ⟨by simp,ws,e,v1⟩ no i;exact⟨_,k l,hr l,s2,(k l).mono (λt q2=>q2.go (cD.vM s1 g1.f no n i) sr s2) q1⟩
def SF.cx (i:Nat) {t:SL} (hs:fs[i]?=am (am t)) (hr:SF X K x (fs.set i (am (.val t.bv))) Uq w out) (hb:t.bw=true:=by rfl):SF X K x fs Uq w out:=⟨λZ s σ H D I ⟨sr,q⟩=>by
 obtain⟨u,e1,r⟩:=sr.at' i _ hs;have ho:=SL.O5 hb;rcases r with⟨v,e,_⟩ | ⟨a,e,oa⟩
 ·subst e;cases hb
 ·subst e;obtain⟨ob,o,h1,n1,n2,I2,vr⟩:=ZS I oa hb;have ow:∀b,dI σ (fs.set i (am (.val t.bv))) b->dI σ fs b:=λb z=>by
   obtain⟨j,t,x,z1,z2,z3,z4⟩:=z;rcases cL z1 with⟨rfl,rfl⟩ | ⟨n,z1⟩
   ·cases z2
   ·exact⟨j,t,x,z1,z2,z3,z4⟩
  have s2:=sr.ZR hs ho e1 h1 n1 n2 vr;have g2:cD σ fs H σ (fs.set i (am (.val t.bv))) (upd H a (.cx ob o)):=by
   refine⟨λb o z n=>⟨?_,λy=>n (ow b y)⟩,λb z=>?_,λb φ z=>?_⟩
   ·rw [av (λy=>by subst y;exact n ⟨i,_,_,hs,ho,e1,.inl rfl⟩)];exact z
   ·by_cases c:b=a
    ·subst c;rw [aK] at z;cases z
    ·rw [av c] at z;exact z
   ·obtain⟨j,z1,z2⟩:=z;have:j≠i:=λy=>by subst y;rw [hs] at z1;cases z1;cases hb
    exact .inl ⟨j,by rw [aL this];exact z1,z2⟩
  exact hr.p Z s σ _ D I2 ⟨s2,w.mono (λt q3=>q3.go g2 sr s2) q⟩⟩
variable {tc:W Bool}
def SF.Zg (hc:TF X K fs c tc) (ha:SF X K x fs sa w out) (hb:SF X K x fs sb wk out):SF X K x fs [.If c sa sb pos] (.bind tc λb=>if b=true then w else wk) out:=⟨qQ.imp (Qs (MR hc.p ha.p hb.p)) λD σ H ⟨sr,q⟩=>⟨sr,tc.mono (λk q1 H1 g1 s1=>by
 cases k with
 | true=>exact wQ ⟨s1,w.mono (λt q2=>q2.go g1.f sr s1) q1⟩
 | false=>exact wR ⟨s1,wk.mono (λt q2=>q2.go g1.f sr s1) q1⟩) q⟩⟩
def SF.RC (hc:TF X K fs c tc) (ha:SF X K true fs sa w out) (hb:SF X K x fs rest wk out):SF X K x fs (.If c sa [] pos::rest) (.bind tc λb=>if b=true then w else wk) out:=SF.step (MR hc.p ha.p vN) λD σ H ⟨sr,q⟩=>⟨sr,tc.mono (λk q1 H1 g1 s1=>by
 cases k with
 | true=>exact wQ ⟨s1,w.mono (λt q2=>bD.exit (D:=D) (D':={D with nx:=yF X K x rest out D}) rfl rfl rfl (q2.go g1.f sr s1)) q1⟩
 | false=>exact wR ⟨fs,wk,hb,s1,wk.mono (λt q2=>q2.go g1.f sr s1) q1⟩) q⟩
def WZ (X:Cx) (K:Ab) (x:Bool) (rest:List sn) {T:Type} (w:W T) (out:T->End):End->Prop
 | .nx bq=>SF X K x bq rest w out
 | .nc bq=>False
 | .bk bq=>∃t,w=.ret t/\out t=.bk bq
 | .ct bq=>∃t,w=.ret t/\(out t=.ct bq\/out t=.nc bq)
 | .rt v=>∃t,w=.ret t/\out t=.rt v
 | .rl l=>∃t,w=.ret t/\out t=.rl l
 | .ro v a l=>∃t,w=.ret t/\out t=.ro v a l
def WZ.r {E:End} (sr:aR K H σ fs) (h:WZ X K x rest w out E) (q:w.run λt=>bD K x σ fs H D (out t)):bD K false σ fs H {D with nx:=yF X K x rest out D} E:=by
 cases E with
 | nx bq=>exact λ_ σ' H' g' s'=>⟨bq,w,h,s',w.mono (λt q2=>q2.go g' sr s') q⟩
 | nc bq=>exact h.elim
 | bk bq=>
  obtain⟨t,rfl,h⟩:=h;have q:bD K x σ fs H D (out t):=q;rw [h] at q;exact q
 | ct bq=>
  obtain⟨t,rfl,h⟩:=h;have q:bD K x σ fs H D (out t):=q;rcases h with h | h
  ·rw [h] at q;exact q
  ·rw [h] at q;exact λσ' H' g s=>(q σ' H' g s).2
 | rt v=>
  obtain⟨t,rfl,h⟩:=h;have q:bD K x σ fs H D (out t):=q;rw [h] at q;exact q
 | rl v=>
  obtain⟨t,rfl,h⟩:=h;have q:bD K x σ fs H D (out t):=q;rw [h] at q;exact q
 | ro v a l=>
  obtain⟨t,rfl,h⟩:=h;have q:bD K x σ fs H D (out t):=q;rw [h] at q;exact q
variable {w1 w2:W T1}{out1:T1->End}{k:T1->W T}
def SF.ifS (hc:TF X K fs c tc) (ha:SF X K false fs sa w1 out1) (hb:SF X K false fs sb w2 out1) (hr:∀t,WZ X K x rest (k t) out (out1 t)):SF X K x fs (.If c sa sb pos::rest) (.bind tc λb=>.bind (if b=true then w1 else w2) k) out:=SF.step (MR hc.p ha.p hb.p) λD σ H ⟨sr,q⟩=>⟨sr,tc.mono (λb q1 H1 g1 s1=>by
 have fin:∀t,(k t).run (λt=>bD K x σ fs H D (out t))->bD K false σ fs H {D with nx:=yF X K x rest out D} (out1 t):=λt q=>(hr t).r sr q;cases b with
 | true=>exact wQ ⟨s1,w1.mono (λt q2=>(fin t q2).go g1.f sr s1) q1⟩
 | false=>exact wR ⟨s1,w2.mono (λt q2=>(fin t q2).go g1.f sr s1) q1⟩) q⟩
end
end
end FL
variable {is:List Nat}
namespace FL
section
open PySem PySem.Spec PyProof.Rows L2 PL
variable {K:Ab}
def JF (K:Ab) (H:Hp) (J:It) (l:List PV):Prop:=l.length<=sizeLine/\∀H',a9 K H H'->(∀(i:Nat) (p:PV),l[i]?=am p->J.go i H'/\∀x H2,J.SK i H' x H2->kR H' H2/\VR K [] H2 x p)/\J.stop l.length H'
def JF.tk {J:It} (t:a9 K H H') (h:JF K H J l):JF K H' J l:=⟨h.1,λH2 t2=>h.2 H2 (a9.trans t t2)⟩
def fIt (K:Ab) (fs:bb) (w:W (List PV)):TI:=λσ H R=>aR K H σ fs/\w.run λl=>∀J H',cP σ fs H H'->aR K H' σ fs->JF K H' J l->R J H'
structure qv (X:Cx) (K:Ab) (fs:bb) (tg e:ii) (w:W (List PV)):Prop where p:PI X tg e (fIt K fs w)
section
variable {a c:ii}
def SA {ad:ce} (h:T3 K H ad vs) (r:aD K [] H vs l) (hz:l.length<=sizeLine):JF K H (Itl K ad) l:=⟨hz,λH' t=>by
 have e1:=(t.f _ _ h).sq;have e2:=aD.tk t r;refine⟨λi p hp=>?_,vs,e1,by rw [e2.length];exact An _⟩;obtain⟨v,h3,h4⟩:=e2.get hp;refine⟨⟨vs,v,e1,h3⟩,λx H3 y=>?_⟩;obtain⟨rfl,y⟩:=y;have:=y vs e1;rw [h3] at this;cases this;exact⟨kR.refl _,h4⟩⟩
def WW {ad:ce} (h:H ad=am (.tup vs)) (r:aD K [] H vs l) (hz:l.length<=sizeLine):JF K H (Itt K ad) l:=⟨hz,λH' t=>by
 have e1:=d4.of (K:=K) (t.t _ _ h);have e2:=aD.tk t r;refine⟨λi p hp=>?_,vs,e1,by rw [e2.length];exact An _⟩;obtain⟨v,h3,h4⟩:=e2.get hp;refine⟨⟨vs,v,e1,h3⟩,λx H3 y=>?_⟩;obtain⟨rfl,y⟩:=y;have:=y vs e1;rw [h3] at this;cases this;exact⟨kR.refl _,h4⟩⟩
def bI (hK:X.K=K) (h:IF X K fs e wl):qv X K fs tg e wl:=⟨by
 subst hK;intro Z s σ H R I ⟨sr,q⟩;refine bZ (h.p Z s σ H (λu H1=>∃l,WU X.K H1 u l/\∀J,JF X.K H1 J l->R J H1) I ⟨sr,wl.mono (λl q1 u H1 g1 s1 v1=>⟨l,v1,λJ j=>q1 J H1 g1 s1 j⟩) q⟩) λv s1 ⟨x,H1,I1,r1,l,⟨ad,vs,e,hh,rs⟩,q1⟩=>?_;subst e;cases r1;rcases hh with hh | hh
 ·obtain⟨aq,rv,pl,hz⟩:=I1.list hh.sq;refine CC pl.isList ?_;refine⟨s1.heap.objs.size,[s1.heap.objs.size],_,_,H1,rfl,I1.kept (t':=s1.toks) λb o e=>Ag _ e,uv ad _,⟨_,Ao _ rfl,rfl,rfl⟩,λb hb=>?_,q1 _ (SA hh rs (by rw [<- rs.length];exact hz))⟩;have e:b=s1.heap.objs.size:=by simpa using hb
  subst e;exact I1.xn (An _) (I1.bp.fresh (An _))
 ·obtain⟨aq,rv,pl,hz⟩:=I1.tuple (d4.of hh);refine DW (show s1.heap.IsTuple ad aq.toArray from pl) ?_;refine⟨s1.heap.objs.size,[s1.heap.objs.size],_,_,H1,rfl,I1.kept (t':=s1.toks) λb o e=>Ag _ e,Gy ad _,⟨_,Ao _ rfl,rfl,rfl⟩,λb hb=>?_,q1 _ (WW hh rs (by rw [<- rs.length];exact hz))⟩;have e:b=s1.heap.objs.size:=by simpa using hb
  subst e;exact I1.xn (An _) (I1.bp.fresh (An _))⟩
def okN (i j:Int):Prop:=-(2 ^ 62)<=i/\i < 2 ^ 62/\-(2 ^ 62)<=j/\j < 2 ^ 62/\(j-i).toNat<=sizeLine
def fJ:PV->W (List PV)
 | .int j=>.ff (okN 0 j) (.ret (iL 0 j.toNat))
 | _=>.fail
def Mu:PV->PV->PV->W (List PV)
 | .int i,.int j,.int k=>.ff (k = -1/\okN j i) (.ret (pS i (i-j).toNat))
 | _,_,_=>.fail
def WX (lo:Int) (n:Nat) (hz:n<=sizeLine):JF K H (Itr lo n) (iL lo n):=⟨by rw [iK];exact hz,λH' t=>⟨λi p hp=>by
  obtain⟨h1,rfl⟩:=pd hp;refine⟨h1,λx H2 y=>?_⟩;obtain⟨rfl,rfl⟩:=y;exact⟨kR.refl _,.int _⟩,by show n<=(iL lo n).length;rw [iK];exact An _⟩⟩
theorem c9 (hg:Gl X "range") (hm:X.mg "range"=bm) (ha:EF X K fs a wa) (hs:f8 [a] X.env=[(false,kw a X.env)]:=by rfl):qv X K fs tg (.Call (.Name "range" p) [a] [] pos) (.bind wa fJ):=
 ⟨PI.imp (Ky hg hm (aW ha.p bV hs) hs) λσ H R ⟨sr,q⟩=>⟨sr,wa.mono (λx q1 u1 H1 g1 s1 v1=>by
  cases v1 with
  | int j=>exact⟨_,rfl,q1.1.2.2.1,q1.1.2.2.2.1,q1.2 _ H1 g1 s1 (WX _ _ (by have:=q1.1.2.2.2.2;omega))⟩
  | _=>exact q1.elim) q⟩⟩
def Rv (hg:Gl X "range") (hm:X.mg "range"=bm) (ha:EF X K fs a wa) (hb:EF X K fs b wb) (hc:EF X K fs c wc) (hs:f8 [a,b,c] X.env=[(false,kw a X.env),(false,kw b X.env),(false,kw c X.env)]:=by rfl) (qJ:f8 [b,c] X.env=[(false,kw b X.env),(false,kw c X.env)]:=by rfl) (hs3:f8 [c] X.env=[(false,kw c X.env)]:=by rfl):qv X K fs tg (.Call (.Name "range" p) [a,b,c] [] pos) (.bind wa λx=>.bind wb λy=>.bind wc λz=>Mu x y z):=
 ⟨PI.imp (Kx hg hm (aW ha.p (aW hb.p (aW hc.p bV hs3) (by show f8 _ _=_;rw [qJ,hs3])) (by show f8 _ _=_;rw [hs,qJ])) hs qJ) λσ H R ⟨sr,q⟩=>⟨sr,wa.mono (λx q1 u1 H1 g1 s1 v1=>⟨s1,wb.mono (λy q2 u2 H2 g2 s2 v2=>⟨s2,wc.mono (λz q3 u3 H3 g3 s3 v3=>by
  cases v1 with
  | int i=>
   cases v2 with
   | int j=>
    cases v3 with
    | int k=>
     obtain⟨⟨rfl,k1,k2,k3,k4,k5⟩,q3⟩:=q3;refine⟨_,_,rfl,⟨k3,k4,k1,k2⟩,q3 _ H3 ((g1.trans g2).trans g3) s3 ⟨by rw [u7];exact k5,λH' t=>⟨λi p hp=>?_,?_⟩⟩⟩
     ·obtain⟨h1,rfl⟩:=u9 hp;refine⟨h1,λx H2 y=>?_⟩;obtain⟨rfl,rfl⟩:=y;exact⟨kR.refl _,.int _⟩
     ·exact Nat.le_of_eq (u7 _ _).symm
    | _=>exact q3.elim
   | _=>exact q3.elim
  | _=>exact q3.elim) q2⟩) q1⟩) q⟩⟩
def nJ (hK:X.K=K) {kk:Nat} (hg:Gl X "enumerate") (hm:X.mg "enumerate"=bm) (h:IF X K fs e wl) (Gj:gK X e []:=by rfl):qv X K fs (.Tuple Î kk tp) (.Call (.Name "enumerate" p1) [e] [] p2) (.bind wl λl=>.ff (l.length<=sizeLine) (.ret (dF 0 l))):=
 ⟨PI.imp (MY K hK hg hm h.p Gj) λσ H R ⟨sr,q⟩=>⟨sr,wl.mono (λl q1 u1 H1 g1 s1 v1=>by
  obtain⟨ad,vs,rfl,hh,rs⟩:=v1;have yl:∀{H':Hp}{i:Nat}{x v:V}{y:PV}{pp:ce},H' pp=bm->VR K [] H' v y->kR H' (upd H' pp (.tup [.int (i:Int),v]))/\VR K [] (upd H' pp (.tup [.int (i:Int),v])) (.ref pp) (.tup [.int ((0+i:Nat):Int),y]):=λ{H' i x v y pp} hn h4=>
   have sm:=iD hn (.tup [.int (i:Int),v])
   ⟨sm,.tup aK (.cons (by rw [AG];exact .int _) (.cons (VR.tk sm.eL h4) .nil))⟩
  refine⟨ad,rfl,?_⟩;rcases hh with hh | hh
  ·refine .inl ⟨⟨vs,hh.sq⟩,q1.2 _ H1 g1 s1 ⟨by rw [cj];exact q1.1,λH' t=>⟨λi p hp=>?_,vs,(t.f _ _ hh).sq,by rw [rs.length,cj];exact An _⟩⟩⟩;obtain⟨y,hy,rfl⟩:=f6 hp;obtain⟨v,h3,h4⟩:=(aD.tk t rs).get hy;refine⟨⟨vs,v,(t.f _ _ hh).sq,h3⟩,λx H3 z=>?_⟩;obtain⟨pp,x0,rfl,hn,rfl,hz⟩:=z;have:=hz vs (t.f _ _ hh).sq;rw [h3] at this;cases this;exact yl (x:=.aE) hn h4
  ·refine .inr ⟨⟨vs,d4.of hh⟩,q1.2 _ H1 g1 s1 ⟨by rw [cj];exact q1.1,λH' t=>⟨λi p hp=>?_,vs,d4.of (t.t _ _ hh),by rw [rs.length,cj];exact An _⟩⟩⟩;obtain⟨y,hy,rfl⟩:=f6 hp;obtain⟨v,h3,h4⟩:=(aD.tk t rs).get hy;refine⟨⟨vs,v,d4.of (t.t _ _ hh),h3⟩,λx H3 z=>?_⟩;obtain⟨pp,x0,rfl,hn,rfl,hz⟩:=z;have:=hz vs (d4.of (t.t _ _ hh));rw [h3] at this;cases this;exact yl (x:=.aE) hn h4) q⟩⟩
end
def rk:List Nat->List V->L2.St->L2.St
 | i::is,u::us,σ=>rk is us (σ.set i (am u))
 | _,_,σ=>σ
def fG (K:Ab) (fs:bb) (is:List Nat) (wt:PV->W T) (cn:T->bb):TG:=λv σ H Q=>∃p,aR K H σ fs/\VR K [] H v p/\(wt p).run λt=>∀us,cD σ fs H (rk is us σ) (cn t) H->aR K H (rk is us σ) (cn t)->Q (rk is us σ) H
structure GF (X:Cx) (K:Ab) (fs:bb) (tg:ii) (is:List Nat) {T:Type} (wt:PV->W T) (cn:T->bb):Prop where p:PG X tg (fG K fs is wt cn)
def ur:PV->W (PV×PV)
 | .tup [a,b]=>.ret (a,b)
 | _=>.fail
def XQ:PV->W (PV×PV×PV×PV)
 | .tup [a,b,c,d]=>.ret (a,b,c,d)
 | _=>.fail
section
def Tw (h:PG X tg (dZ i)):GF X K fs tg [i] .ret (λp=>fs.set i (am (.val p))):=⟨PG.imp h λv σ H Q ⟨p,sr,r,q⟩=>q [v] (cD.fm sr v p i) (sr.fm r i)⟩
def PC (hK:X.K=K) (h:PG X tg (V8 X.K 2 (sH (dZ i) (sH (dZ j) V9)))):GF X K fs tg [i,j] ur (λt=>(fs.set i (am (.val t.1))).set j (am (.val t.2))):=⟨PG.imp h λv σ H Q ⟨p,sr,r,q⟩=>by
 unfold ur at q
 split at q
 ·cases r with
  | tup e rs=>
   cases rs with
   | cons ra t=>
   cases t with
   | cons rb t=>
   cases t;have s1:=sr.fm ra i;exact⟨_,_,rfl,d4.of e,rfl,_,_,rfl,_,_,rfl,rfl,q [_,_] ((cD.fm sr _ _ i).trans (cD.fm s1 _ _ j)) (s1.fm rb j)⟩
 ·exact q.elim⟩
def g_4 {l:Nat} (hK:X.K=K) (h:PG X tg (V8 X.K 4 (sH (dZ i) (sH (dZ j) (sH (dZ k) (sH (dZ l) V9)))))):GF X K fs tg [i,j,k,l] XQ (λt=>(((fs.set i (am (.val t.1))).set j (am (.val t.2.1))).set k (am (.val t.2.2.1))).set l (am (.val t.2.2.2))):=⟨PG.imp h λv σ H Q ⟨p,sr,r,q⟩=>by
 unfold XQ at q
 split at q
 ·cases r with
  | tup e rs=>
   cases rs with
   | cons ra t=>
   cases t with
   | cons rb t=>
   cases t with
   | cons rc t=>
   cases t with
   | cons rd t=>
   cases t;have s1:=sr.fm ra i;have s2:=s1.fm rb j;have s3:=s2.fm rc k;exact⟨_,_,rfl,d4.of e,rfl,_,_,rfl,_,_,rfl,_,_,rfl,_,_,rfl,rfl,q [_,_,_,_] ((((cD.fm sr _ _ i).trans (cD.fm s1 _ _ j)).trans (cD.fm s2 _ _ k)).trans (cD.fm s3 _ _ l)) (s3.fm rd l)⟩
 ·exact q.elim⟩
end
section
variable {S T:Type}
def cy:List PV->S->(PV->S->W S)->W S
 | [],s,_=>.ret s
 | x::r,s,f=>.bind (f x s) λs'=>cy r s' f
inductive Lp (S T:Type) where
 | go (s:S) | out (t:T)
def lL:List PV->S->(PV->S->W (Lp S T))->W (Lp S T)
 | [],s,_=>.ret (.go s)
 | x::r,s,f=>.bind (f x s) λo=>match o with
  | .go s'=>lL r s' f
  | .out t=>.ret (.out t)
def Lb (k:S->W T) (inj:R->T):Lp S R->W T
 | .go s=>k s
 | .out r=>.ret (inj r)
@[simp] theorem adQ (k:S->W T) (inj:R->T) (s:S):Lb k inj (.go s)=k s:=(rfl)
@[simp] theorem abf (k:S->W T) (inj:R->T) (r:R):Lb k inj (.out r)=.ret (inj r):=(rfl)
def lpE (hd:S->bb) (out:R->End):Lp S R->End
 | .go s=>.nc (hd s)
 | .out r=>out r
def mn (c:S->W Bool) (b:S->W S):Nat->S->W S
 | 0,_=>.fail
 | n+1,s=>.bind (c s) λk=>if k=true then .bind (b s) (mn c b n) else .ret s
def Gv (c:S->W Bool) (b:S->W S) (s:S):W S:=⟨λQ=>∃n,(mn c b n s).run Q,λh ⟨n,q⟩=>⟨n,(mn c b n s).mono h q⟩⟩
end
section
variable {c:ii}{rest:List sn}{S T T2:Type}{hd:S->bb}{s0:S}{wt:PV->W T2}{cn:S->T2->bb}{k:S->W T}{out:T->End}{R:Type}{inj:R->T}
theorem SF.for {f:PV->S->W S}{wb:T2->S->W S} (hp:v4 (dL X.prog X.w) X.A X.env X.xe) (hc:X.calm=true) (hi:qv X K fs tg iter wl) (hl:hX fs (hd s0)) (hg:∀s,GF X K (hd s) tg is wt (cn s)) (hf:∀p s,f p s=.bind (wt p) λt=>wb t s)
  (hb:∀s t,SF X K false (cn s t) body (wb t s) λs'=>.nc (hd s')) (hr:∀s,SF X K x (hd s) rest (k s) out) (hs:tJ X iter:=by intro _;rfl) :
  SF X K x fs (.For tg iter body [] pos::rest) (.bind wl λl=>.bind (cy l s0 f) k) out:=by
 refine SF.step (GP (g:=λv σ H Q=>∃s,fG K (hd s) is wt (cn s) v σ H Q) (tb:=λD σ H=>∃s t,fS K false (cn s t) (wb t s) (λs'=>.nc (hd s')) D σ H) hp hc hi.p (λZ s σ H v u Q I r ⟨s1,q⟩=>(hg s1).p Z s σ H v u Q I r q) (λZ s σ H D I ⟨s1,t1,q⟩=>(hb s1 t1).p Z s σ H D I q) hs) λD σ H ⟨sr,q⟩=>?_;refine⟨sr,wl.mono (λl q1 J H1 g1 s1 jf=>?_) q⟩;refine⟨λi m σ' H'=>∃s,aR K H' σ' (hd s)/\cD σ fs H σ' (hd s) H'/\JF K H' J l/\m=l.length-i/\i<=l.length/\(cy (l.drop i) s f).run λs'=>(k s').run λt=>bD K x σ fs H D (out t),⟨l.length,s0,s1.le hl,g1.f.trans (cD.le s1 hl),jf,by simp,Ba _,by simpa using q1⟩,?_⟩;rintro i m σ2 H2 ⟨s,s2,g2,Rr,rfl,hi,q2⟩;obtain⟨j1,j2⟩:=Rr.2 H2 (a9.refl H2);by_cases gZ:i < l.length
 ·obtain⟨go,yl⟩:=j1 i _ (Ad gZ);have ed:=Bi gZ;rw [ed] at q2;refine .inr ⟨go,λσ3 H3=>∃s',aR K H3 σ3 (hd s')/\cD σ fs H σ3 (hd s') H3/\JF K H3 J l/\(cy (l.drop (i+1)) s' f).run λs'=>(k s').run λt=>bD K x σ fs H D (out t),λσ3 H3 ⟨s',a1,a2,a3,a4⟩=>⟨l.length-(i+1),by omega,s',a1,a2,a3,rfl,gZ,a4⟩,λv H3 y=>?_⟩;obtain⟨sm,vx⟩:=yl v H3 y;have q2:(f l[i] s).run λs'=>(cy (l.drop (i+1)) s' f).run λs'=>(k s').run λt=>bD K x σ fs H D (out t):=q2;rw [hf] at q2;have s3:=s2.same sm;have g3:=g2.trans (cD.same sm s2);refine⟨s,_,s3,vx,(wt l[i]).mono (λt q4 us g4 s4=>?_) q2⟩;refine⟨s,t,s4,(wb t s).mono (λs' q5 σ5 H5 g5 s5=>?_) q4⟩;have fin:∃s',aR K H5 σ5 (hd s')/\cD σ fs H σ5 (hd s') H5/\JF K H5 J l/\(cy (l.drop (i+1)) s' f).run λs'=>(k s').run λt=>bD K x σ fs H D (out t):=⟨s',s5,(g3.trans g4).trans g5,Rr.tk (a9.trans sm.eL (a9.trans (g4.d5 s3) (g5.d5 s4))),q5⟩;exact⟨λ_=>fin,fin⟩
 ·have e:i=l.length:=by omega
  subst e;rw [Dj] at q2;exact .inl ⟨j2,hd s,k s,hr s,s2,(k s).mono (λt q3=>q3.go g2 sr s2) q2⟩
theorem SF.lL {f:PV->S->W (Lp S R)}{wb:T2->S->W (Lp S R)} (hp:v4 (dL X.prog X.w) X.A X.env X.xe) (hc:X.calm=true) (hi:qv X K fs tg iter wl) (hl:hX fs (hd s0)) (hg:∀s,GF X K (hd s) tg is wt (cn s)) (hf:∀p s,f p s=.bind (wt p) λt=>wb t s)
  (ho:∀t,(out (inj t)).NT)
  (hb:∀s t,SF X K false (cn s t) body (wb t s) (lpE hd λr=>out (inj r))) (hr:∀s,SF X K x (hd s) rest (k s) out) (hs:tJ X iter:=by intro _;rfl) :
  SF X K x fs (.For tg iter body [] pos::rest) (.bind wl λl=>.bind (FL.lL l s0 f) (Lb k inj)) out:=by
 refine SF.step (GP (g:=λv σ H Q=>∃s,fG K (hd s) is wt (cn s) v σ H Q) (tb:=λD σ H=>∃s t,fS K false (cn s t) (wb t s) (lpE hd λr=>out (inj r)) D σ H) hp hc hi.p (λZ s σ H v u Q I r ⟨s1,q⟩=>(hg s1).p Z s σ H v u Q I r q) (λZ s σ H D I ⟨s1,t1,q⟩=>(hb s1 t1).p Z s σ H D I q) hs) λD σ H ⟨sr,q⟩=>?_;refine⟨sr,wl.mono (λl q1 J H1 g1 s1 jf=>?_) q⟩;have lo:∀(D':Ends) (y:Bool) (t:R),D'.rt=D.rt->bD K x σ fs H D (out (inj t))->bD K y σ fs H D' (out (inj t)):=λD' y t e h=>bD.acC (ho t) e h;refine⟨λi m σ' H'=>∃s,aR K H' σ' (hd s)/\cD σ fs H σ' (hd s) H'/\JF K H' J l/\m=l.length-i/\i<=l.length/\(FL.lL (l.drop i) s f).run λo=>(Lb k inj o).run λt=>bD K x σ fs H D (out t),⟨l.length,s0,s1.le hl,g1.f.trans (cD.le s1 hl),jf,by simp,Ba _,by simpa using q1⟩,?_⟩;rintro i m σ2 H2 ⟨s,s2,g2,Rr,rfl,hi,q2⟩;obtain⟨j1,j2⟩:=Rr.2 H2 (a9.refl H2);by_cases gZ:i < l.length
 ·obtain⟨go,yl⟩:=j1 i _ (Ad gZ);have ed:=Bi gZ;rw [ed] at q2;refine .inr ⟨go,λσ3 H3=>∃s',aR K H3 σ3 (hd s')/\cD σ fs H σ3 (hd s') H3/\JF K H3 J l/\(FL.lL (l.drop (i+1)) s' f).run λo=>(Lb k inj o).run λt=>bD K x σ fs H D (out t),λσ3 H3 ⟨s',a1,a2,a3,a4⟩=>⟨l.length-(i+1),by omega,s',a1,a2,a3,rfl,gZ,a4⟩,λv H3 y=>?_⟩;obtain⟨sm,vx⟩:=yl v H3 y;have q2:(f l[i] s).run λo=>(match o with | .go s'=>FL.lL (l.drop (i+1)) s' f | .out t=>bd (.out t)).run λo=>(Lb k inj o).run λt=>bD K x σ fs H D (out t):=q2;rw [hf] at q2;have s3:=s2.same sm;have g3:=g2.trans (cD.same sm s2);refine⟨s,_,s3,vx,(wt l[i]).mono (λt q4 us g4 s4=>?_) q2⟩;refine⟨s,t,s4,(wb t s).mono (λo q5=>?_) q4⟩;cases o with
  | out t5=>
   refine bD.go (g3.trans g4) sr s4 (lo _ false t5 ?_ q5);rfl
  | go s'=>
   intro σ5 H5 g5 s5;have fin:∃s',aR K H5 σ5 (hd s')/\cD σ fs H σ5 (hd s') H5/\JF K H5 J l/\(FL.lL (l.drop (i+1)) s' f).run λo=>(Lb k inj o).run λt=>bD K x σ fs H D (out t):=⟨s',s5,(g3.trans g4).trans g5,Rr.tk (a9.trans sm.eL (a9.trans (g4.d5 s3) (g5.d5 s4))),q5⟩;exact⟨λ_=>fin,fin⟩
 ·have e:i=l.length:=by omega
  subst e;rw [Dj] at q2;exact .inl ⟨j2,hd s,k s,hr s,s2,(k s).mono (λt q3=>q3.go g2 sr s2) q2⟩
def SF.XJ {cw:S->W Bool}{b:S->W S} (hp:v4 (dL X.prog X.w) X.A X.env X.xe) (hl:hX fs (hd s0)) (hc:∀s,TF X K (hd s) c (cw s)) (hb:∀s,SF X K false (hd s) body (b s) λs'=>.nc (hd s')) (hr:∀s,SF X K x (hd s) rest (k s) out) :
  SF X K x fs (.While c body [] pos::rest) (.bind (Gv cw b s0) k) out:=by
 refine SF.step (MP (tc:=λσ H Q=>∃s,fT K (hd s) (cw s) σ H Q) (tb:=λD σ H=>∃s,fS K false (hd s) (b s) (λs'=>.nc (hd s')) D σ H) hp (λZ s σ H Q I ⟨s1,q⟩=>(hc s1).p Z s σ H Q I q) (λZ s σ H D I ⟨s1,q⟩=>(hb s1).p Z s σ H D I q)) λD σ H ⟨sr,n,q⟩=>?_;refine⟨λm σ' H'=>∃s,aR K H' σ' (hd s)/\cD σ fs H σ' (hd s) H'/\(mn cw b m s).run λs'=>(k s').run λt=>bD K x σ fs H D (out t),⟨n,s0,sr.le hl,cD.le sr hl,q⟩,?_⟩;rintro m σ1 H1 ⟨s,s1,g1,q1⟩;cases m with
 | zero=>exact q1.elim
 | succ m=>
  refine⟨s,s1,(cw s).mono (λkk q2 H2 g2 s2=>?_) q1⟩;cases kk with
  | false=>
   refine wR ?_;exact⟨hd s,k s,hr s,s2,(k s).mono (λt q3=>q3.go (g1.trans g2.f) sr s2) q2⟩
  | true=>
   refine wQ ?_;refine⟨λσ3 H3=>∃s,aR K H3 σ3 (hd s)/\cD σ fs H σ3 (hd s) H3/\(mn cw b m s).run λs'=>(k s').run λt=>bD K x σ fs H D (out t),λσ3 H3 a=>⟨m,Ej m,a⟩,s,s2,(b s).mono (λs' q5 σ5 H5 g5 s5=>?_) q2⟩;have fin:∃s,aR K H5 σ5 (hd s)/\cD σ fs H σ5 (hd s) H5/\(mn cw b m s).run λs'=>(k s').run λt=>bD K x σ fs H D (out t):=⟨s',s5,(g1.trans g2.f).trans g5,q5⟩;exact⟨λ_=>fin,fin⟩
end
end
end FL
variable {f:PL.PV->FL.W (Option PL.PV)}{mQ:FL.bb}
namespace FL
section
open PySem PySem.Spec PyProof.Rows L2 PL
variable {K:Ab}
def lY:List PV->(PV->W (Option PV))->W (List PV)
 | [],_=>.ret []
 | x::r,f=>.bind (f x) λo=>.bind (lY r f) λl=>.ret (o.toList++l)
def bz:List PV->(PV->W PV)->W (List PV)
 | [],_=>.ret []
 | x::r,f=>.bind (f x) λy=>.bind (bz r f) λl=>.ret (y::l)
theorem vZ (f:PV->W PV):∀l,bz l f=lY l λp=>.bind (f p) λv=>.ret (am v)
 | []=>rfl
 | x::r=>by
  show ap (f x) (λy=>ap (bz r f) λl=>bd (y::l))=ap (f x) λy=>ap (lY r _) λl=>bd (y::l);rw [vZ f r]
def bf (ix:List (Option Nat)) (fs:bb):bb:=ix.map λo=>match o with | some j=>(fs[j]?).getD bm | none=>bm
section
def n8 {s:SL} (h:(bf ix fs)[i]?=am (am s)):∃j,ix[i]?=am (am j)/\fs[j]?=am (am s):=by
 unfold bf at h;rw [Aj] at h;cases q:ix[i]? with
 | none=>rw [q] at h;cases h
 | some o=>
  rw [q] at h;cases o with
  | none=>cases h
  | some j=>
   refine⟨j,rfl,?_⟩;have h:(fs[j]?).getD bm=am s:=Option.some.inj h;cases z:fs[j]? with
   | none=>rw [z] at h;cases h
   | some y=>rw [z] at h;exact congrArg am h
def lF (h:ix[i]?=am (am j)) (e:σ[j]?=am (am u)):(n6 ix σ)[i]?=am (am u):=by
 unfold n6;rw [Aj,h];show am ((σ[j]?).getD bm)=_;rw [e];rfl
def aR.fg (s:aR K H σ fs) (inj:∀i i' j:Nat,ix[i]?=am (am j)->ix[i']?=am (am j)->i=i'):aR K H (n6 ix σ) (bf ix fs):=by
 refine⟨by unfold n6 bf;simp,λi t e=>?_,λi i' t u x y a e1 e2 o1 o2 q1 q2 z1 z2=>?_⟩
 ·obtain⟨j,h1,h2⟩:=n8 e;obtain⟨u,h3,h4⟩:=s.at' j t h2;exact⟨u,lF h1 h3,h4⟩
 ·obtain⟨j,h1,h2⟩:=n8 e1;obtain⟨j',gB,qK⟩:=n8 e2;obtain⟨u1,h3,_⟩:=s.at' j t h2;obtain⟨u2,Oc,_⟩:=s.at' j' u qK;rw [lF h1 h3] at q1;rw [lF gB Oc] at q2;cases q1;cases q2;have:=s.nd j j' t u x y a h2 qK o1 o2 h3 Oc z1 z2;subst this;exact inj i i' j h1 gB
structure SD (ix:List (Option Nat)) (σ:L2.St) (fs:bb) (σ':L2.St) (bq:bb):Prop where
 own:∀(i:Nat) (t:SL),bq[i]?=am (am t)->t.own=true->∃j,ix[i]?=am (am j)/\fs[j]?=am (am t)/\σ'[i]?=σ[j]?
def SD.vU (h:SD ix σ fs σ' bq) (o:dI σ' bq a):dI σ fs a:=by
 obtain⟨i,t,x,e1,e2,e3,e4⟩:=o;obtain⟨j,h1,h2,h3⟩:=h.own i t e1 e2;exact⟨j,t,x,h2,e2,h3▸e3,e4⟩
def SD.mP (h:SD ix σ fs σ' bq) (o:hV σ' bq φ a):hV σ fs φ a:=by
 obtain⟨i,e1,e3⟩:=o;obtain⟨j,h1,h2,h3⟩:=h.own i _ e1 rfl;exact⟨j,h2,h3▸e3⟩
def SD.out (h:SD ix σ fs σ' bq) (s:aR K H1 σ fs) (g:cP σ' bq H1 H2) (s2:aR K H2 σ' bq):aR K H2 σ fs/\cP σ fs H1 H2:=by
 have gf:cP σ fs H1 H2:=⟨λa o e n=>g.keep a o e λφ z=>n φ (h.mP z),g.there⟩;refine⟨⟨s.len,λj t e=>?_,s.nd⟩,gf⟩;obtain⟨u,h1,h2⟩:=s.at' j t e;refine⟨u,h1,?_⟩;have tk:=gf.d5 s;rcases h2 with⟨v,q,r⟩ | ⟨a,q,r⟩
 ·exact .inl ⟨v,q,VR.tk tk r⟩
 ·subst q;refine .inr ⟨a,rfl,?_⟩;by_cases c:∃b,t.own=true/\t.has a b/\dI σ' bq b
  ·obtain⟨b,ow,hb,i,t',x,c1,c2,c3,c4⟩:=c;obtain⟨j',k1,k2,k3⟩:=h.own i t' c1 c2;have jj:=s.nd j j' t t' a x b e k2 ow c2 h1 (k3▸c3) hb c4;subst jj;rw [e] at k2;cases k2;exact s2.ownAt c1 c2 (k3.trans h1)
  ·exact r.mono tk (λb o ow hb z=>g.uO z λy=>c ⟨b,ow,hb,y⟩)
theorem rj:∀{is:List Nat}{us:List V}{σ:L2.St}{i:Nat},i∉is->(rk is us σ)[i]?=σ[i]?
 | [],us,σ,i,_=>by cases us <;> rfl
 | j::is,[],σ,i,_=>rfl
 | j::is,u::us,σ,i,h=>by
  rw [rk,rj (λz=>h (AR _ z))];exact aL (λz=>h (by rw [z];exact Bs))
end
section
variable {T2:Type}{wt:PV->W T2}{cn:T2->bb}{tf:T2->W Bool}{te:T2->W PV}
structure FF (X:Cx) (K:Ab) (fs:bb) (Ê:List ii) (w:W Bool):Prop where p:Xv X Ê (fT K fs w)
def HD:FF X K fs [] (.ret true):=⟨λZ s σ H Q I ⟨sr,q⟩=>QA Z s σ H Q I (q H .refl sr)⟩
def xu {c:ii}{w:W Bool} (h:TF X K fs c w):FF X K fs [c] w:=⟨Qz h.p⟩
def qu (is:List Nat) (mQ:bb) (cn:T2->bb):Prop:=∀t,(cn t).length=mQ.length/\∀(i:Nat) (s:SL),(cn t)[i]?=am (am s)->(i∈is/\s.own=false)\/(i∉is/\mQ[i]?=am (am s))
theorem Ow (S:aw X.env.scope X.N sc N' ix) (hb:mQ=bf ix fs) (hf:∀p,f p=.bind (wt p) λt=>.bind (tf t) λk=>if k=true then .bind (te t) λv=>.ret (am v) else .ret bm) (hl:qu is mQ cn) (hr:∀t,hX (cn t) mQ) (ue:∀j∈is,ix[j]?=am bm) :
  ∀σ H Q,fL K fs (.bind wl λl=>lY l f) σ H Q->tLc ix (fIt K fs wl) (λv σ H Q=>fG K mQ is wt cn v σ H Q) (λσ H Q=>∃t,fT K (cn t) (tf t) σ H Q) (λσ H Q=>∃t,fE K (cn t) (te t) σ H Q) σ H Q:=by
 subst hb;rintro σ H Q ⟨sr,q⟩;refine⟨sr,wl.mono (λl q1 J H1 g1 s1 jf D hD=>?_) q⟩;have inj:∀i i' j:Nat,ix[i]?=am (am j)->ix[i']?=am (am j)->i=i':=λi i' j h1 h2=>by
  have hi:i < N'.length:=by rw [<- S.len];exact (Ak.mp h1).1
  have wZ:i' < N'.length:=by rw [<- S.len];exact (Ak.mp h2).1
  have e1:=(S.at h1 (Ad hi)).1;have e2:=(S.at h2 (Ad wZ)).1;rw [e1] at e2;exact (List.getElem_inj S.nd).mp (Option.some.inj e2)
 have nD:=s1.noOwn hD;refine⟨λi m σ' ys H'=>∃Å,aR K H' σ fs/\cP σ fs H H'/\aR K H' σ' (bf ix fs)/\SD ix σ fs σ' (bf ix fs)/\JF K H' J l/\H' D=am (.lst ys)/\aD K [] H' ys Å/\Å.length<=i/\m=l.length-i/\i<=l.length/\
  (lY (l.drop i) f).run λr=>∀a vs H',cP σ fs H H'->aR K H' σ fs->H a=bm->H' a=am (.lst vs)->aD K [] H' vs (Å++r)->Q (.ref a) H',⟨l.length,[],?_⟩,?_⟩
 ·have sm:=iD hD (.lst []);refine⟨s1.same sm,g1.trans (cP.same sm),(s1.same sm).fg inj,⟨λi t e o=>?_⟩,jf.tk sm.eL,aK,.nil,Ba _,by simp,Ba _,by simpa using q1⟩;obtain⟨j,h1,h2⟩:=n8 e;obtain⟨u,h3,_⟩:=s1.at' j t h2;exact⟨j,h1,h2,by rw [lF h1 h3,h3]⟩
 rintro i m σ2 ys H2 ⟨Å,sO,gO,s2,Ti,Rr,hy,vy,ZL,rfl,hi,q2⟩;refine⟨hy,?_⟩;obtain⟨j1,j2⟩:=Rr.2 H2 (a9.refl H2);by_cases gZ:i < l.length
 ·obtain⟨go,yl⟩:=j1 i _ (Ad gZ);have ed:=Bi gZ;rw [ed] at q2;refine .inr ⟨go,λv H3 y=>?_⟩;obtain⟨sm,vx⟩:=yl v H3 y;have q2:(f l[i]).run λo=>(lY (l.drop (i+1)) f).run λr=>∀a vs H',cP σ fs H H'->aR K H' σ fs->H a=bm->H' a=am (.lst vs)->aD K [] H' vs (Å++(o.toList++r))->Q (.ref a) H':=q2;rw [hf] at q2;have s3:=s2.same sm;have sO3:=sO.same sm;have gO3:=gO.trans (cP.same sm);have hy3:=sm _ _ hy;have vy3:=aD.tk sm.eL vy;have jf3:=Rr.tk sm.eL;refine⟨_,s3,vx,(wt l[i]).mono (λt q4 us g4 s4=>?_) q2⟩;have RA:SD ix σ fs (rk is us σ2) (cn t):=⟨λj u e o=>by
   rcases (hl t).2 j u e with⟨_,z⟩ | ⟨n,z⟩
   ·rw [z] at o;cases o
   ·obtain⟨j',k1,k2,k3⟩:=Ti.own j u z o;exact⟨j',k1,k2,by rw [rj n];exact k3⟩⟩
  refine⟨t,s4,(tf t).mono (λkk q5 H5 g5 s5=>?_) q4⟩;obtain⟨sO5,adT⟩:=RA.out sO3 g5 s5;have gO5:=gO3.trans adT;have tk5:=g5.d5 s4;have nD4:¬dI (rk is us σ2) (cn t) D:=λz=>nD (RA.vU z);have hy5:=g5.uO hy3 nD4;have vy5:=aD.tk tk5 vy3;have jf5:=jf3.tk (g5.d5 s4);have Ë:∀{H6:Hp},aR K H6 (rk is us σ2) (cn t)->aR K H6 (rk is us σ2) (bf ix fs)/\SD ix σ fs (rk is us σ2) (bf ix fs):=λ{H6} z=>⟨z.le (hr t),⟨λj u e o=>RA.own j u ((hr t).at j u e) o⟩⟩;cases kk with
  | false=>
   refine wR ⟨l.length-(i+1),by omega,Å,sO5,gO5,(Ë s5).1,(Ë s5).2,jf5,hy5,vy5,by omega,rfl,gZ,?_⟩;exact q5
  | true=>
   refine wQ ⟨t,s5,(te t).mono (λv6 q6 u6 H6 g6 s6 v6'=>?_) q5⟩;obtain⟨sO6,adS⟩:=RA.out sO5 g6 s6;have gO6:=gO5.trans adS;have tk6:=g6.d5 s5;have Zn:=g6.uO hy5 nD4;have vy6:=aD.tk tk6 vy5;have tkD:=qz (K:=K) (.lst (ys++[u6])) Zn;have hD0:=g1.there D hD;refine⟨Zn,by rw [vy6.length];have:=Rr.1;omega,l.length-(i+1),by omega,Å++[v6],sO6.side nD Zn _,gO6.side hD0 _,((Ë s6).1).side (λz=>nD ((Ë s6).2.vU z)) Zn _,(Ë s6).2,(jf5.tk (g6.d5 s5)).tk (qz _ Zn),aK,aD.tk tkD (vy6.append (.cons v6' .nil)),by rw [Ah];simp;omega,rfl,gZ,?_⟩;refine (lY (l.drop (i+1)) f).mono (λr q7 a vs H7 g7 s7 n e v7=>q7 a vs H7 g7 s7 n e ?_) q6;simpa using v7
 ·have e:i=l.length:=by omega
  subst e;rw [Dj] at q2;exact .inl ⟨j2,q2 D ys H2 gO sO (g1.there D hD) hy (by simpa using vy)⟩
end
end
end FL
namespace L2
open PySem PySem.Spec PyProof.Rows
def qg (l:ce) (items:Array bn) (n:Nat) (b:ce) (bH:Array bn) (n2:Nat) (sl:Array (Option bn)) (hc0:¬(!items.isEmpty&&Builtin.List.listTooLong (items.size+bH.size))=true) (hc1:items.size<=sizeLine) (qJ:items.size+bH.size<=sizeLine+1) :
  Meets (ut.«list.extend» ⟨[.ref l,.ref b],[]⟩) (λ_ R s=>s.heap.get? l=am {cls:=.type "list",dict:=bm,data:=.seq items n,slots:=#[]}/\s.heap.get? b=am {cls:=.type "list",dict:=bm,data:=.seq bH n2,slots:=sl}/\R (.ok (.ret AM)) {s with heap:=s.heap.update l (Bj λx=>x++bH),toks:=s.toks}):=
 .of_wp λprog w A R s h=>by
  obtain⟨hp,g,d,tk,os⟩:=s;obtain⟨hl,hb,h⟩:=h;have f1:=Es;have f2:=Df;have f3:=Dy;have f4:=Dn;have f5:=Dp;have K5:(items++bH).size<=sizeLine+1:=by rw [Array.size_append];exact qJ
  wp_walk using (Cr hl rfl (hz:=hc1) (_hz':=K5)),BQ hl,BQ hb;exact⟨_,rfl,h⟩
def Yv (K:Ab):V->List V->Hp->VK->Prop:=λx vs H Q=>∃l b xs zs,x=.ref l/\vs=[.ref b]/\H l=am (.lst xs)/\(cR K H b zs\/d4 K H b zs)/\xs.length+zs.length<=sizeLine/\yE H l (.lst (xs++zs)) (Q .aE)
theorem Q4 (K:Ab) (hK:X.K=K):J6 X "list.extend" (Yv K):=by
 subst hK;intro Z s σ H x vs v us Q I rx rv h;obtain⟨l,b,xs,zs,rfl,rfl,hH,hB | hB,hz,q⟩:=h
 ·cases rx;obtain⟨u,rfl,ru⟩:=rv.one;cases ru;obtain⟨z,aq,n,r,hl,e⟩:=I.qb hH;obtain⟨cH,r2,⟨⟨cls,dd,data,sl⟩,n2,e2,hc,hd,nQ⟩,z2⟩:=I.list hB;simp only at hc hd nQ;subst hc hd nQ;have Px:=r2.length;have hsz:aq.toArray.size+cH.toArray.size<=sizeLine:=by rw [Ai,Ai];omega
  have sA:¬(!aq.toArray.isEmpty&&Builtin.List.listTooLong (aq.toArray.size+cH.toArray.size))=true:=by
   rw [nr hsz,D4];exact AX
  refine sB DS ⟨_,e,rfl⟩ DB (Dm _ _)
   (qg l aq.toArray n b cH.toArray n2 sl sA (by rw [Ai];omega) ∅) ⟨e,e2,?_⟩
  refine⟨.aE,_,I.G6 (its':=aq++cH) hH e (by simp) (r.append r2) ?_,rfl,q.at⟩;rw [Ah];omega
 ·exact zk Z s σ H _ _ v us Q I rx rv ⟨l,b,xs,zs,rfl,rfl,hH,hB,hz,q⟩
end L2
variable {y z:BX}{wi we:FL.W PL.PV}
namespace FL
section
open PySem PySem.Spec PyProof.Rows L2 PL
variable {K:Ab}
section
variable {T2:Type}{wt:PV->W T2}{cn:T2->bb}{tf:T2->W Bool}{te:T2->W PV}
def Vy (hc:X.calm=true) (S:aw X.env.scope X.N sc N' ix) (hi:qv X K fs tg iter wl) (hg:∀cl C s2 H2 fp,GF (fg X sc N' cl C s2 H2 fp) K (bf ix fs) tg is wt cn) (ZE:∀cl C s2 H2 fp t,FF (fg X sc N' cl C s2 H2 fp) K (cn t) Ê (tf t)) (he:∀cl C s2 H2 fp t,EF (fg X sc N' cl C s2 H2 fp) K (cn t) Ä (te t))
  (hf:∀p,f p=.bind (wt p) λt=>.bind (tf t) λk=>if k=true then .bind (te t) λv=>.ret (am v) else .ret bm) (hl:qu is (bf ix fs) cn/\∀t,hX (cn t) (bf ix fs)) (ue:∀j∈is,ix[j]?=am bm) (hs:tJ X iter:=by intro _;rfl) :
  LF X K fs (.ListComp Ä [⟨tg,iter,Ê,0⟩] sc pos) (.bind wl λl=>lY l f):=
 ⟨PE.imp (YD hc S hi.p (λcl C s2 H2 fp=>(hg cl C s2 H2 fp).p) (λcl C s2 H2 fp Z s σ H Q I ⟨t,q⟩=>(ZE cl C s2 H2 fp t).p Z s σ H Q I q) (λcl C s2 H2 fp Z s σ H Q I ⟨t,q⟩=>(he cl C s2 H2 fp t).p Z s σ H Q I q) hs) (Ow S rfl hf hl.1 hl.2 ue)⟩
def S9 {f:PV->W PV} (hc:X.calm=true) (S:aw X.env.scope X.N sc N' ix) (hi:qv X K fs tg iter wl) (hg:∀cl C s2 H2 fp,GF (fg X sc N' cl C s2 H2 fp) K (bf ix fs) tg is wt cn) (he:∀cl C s2 H2 fp t,EF (fg X sc N' cl C s2 H2 fp) K (cn t) Ä (te t))
  (hf:∀p,f p=.bind (wt p) te) (hl:qu is (bf ix fs) cn/\∀t,hX (cn t) (bf ix fs)) (ue:∀j∈is,ix[j]?=am bm) (hs:tJ X iter:=by intro _;rfl) :
  LF X K fs (.ListComp Ä [⟨tg,iter,[],0⟩] sc pos) (.bind wl λl=>bz l f):=by
 have:(λl=>bz l f)=λl=>lY l λp=>.bind (wt p) λt=>.bind (.ret true) λk=>if k=true then .bind (te t) λv=>.ret (am v) else .ret bm:=funext λl=>by
  rw [vZ];congr 1;funext p;rw [hf];rfl
 rw [this];exact Vy (tf:=λ_=>.ret true) hc S hi hg (λ_ _ _ _ _ _=>HD) he (λp=>rfl) hl ue hs
def SF.Mn {rest:List sn}{out:T->End}{k:List PV->W T} (hc:X.calm=true) (hN:X.N.Nodup) (wZ:X.N[i]?=am y) (hx:X.env.scope.names.lookup y=am .local) (S:aw X.env.scope X.N sc N' ix) (hi:qv X K fs tg iter wl) (hg:∀cl C s2 H2 fp,GF (fg X sc N' cl C s2 H2 fp) K (bf ix fs) tg is wt cn) (ZE:∀cl C s2 H2 fp t,FF (fg X sc N' cl C s2 H2 fp) K (cn t) Ê (tf t)) (he:∀cl C s2 H2 fp t,EF (fg X sc N' cl C s2 H2 fp) K (cn t) Ä (te t))
  (hf:∀p,f p=.bind (wt p) λt=>.bind (tf t) λk=>if k=true then .bind (te t) λv=>.ret (am v) else .ret bm) (hl:qu is (bf ix fs) cn/\∀t,hX (cn t) (bf ix fs)) (ue:∀j∈is,ix[j]?=am bm) (hr:∀l,SF X K x (fs.set i (am (.ol bm l))) rest (k l) out)
  (nM:im (.ListComp Ä [⟨tg,iter,Ê,0⟩] sc pos) (am (.Name y px)) j9.line X.env=pure true:=by rfl) (hs:tJ X iter:=by intro _;rfl) :
  SF X K x fs (.Assign [.Name y px] (.ListComp Ä [⟨tg,iter,Ê,0⟩] sc pos) j9::rest) (.bind (.bind wl λl=>lY l f) k) out:=
 SF.step (yU hc hN wZ hx S hi.p (λcl C s2 H2 fp=>(hg cl C s2 H2 fp).p) (λcl C s2 H2 fp Z s σ H Q I ⟨t,q⟩=>(ZE cl C s2 H2 fp t).p Z s σ H Q I q) (λcl C s2 H2 fp Z s σ H Q I ⟨t,q⟩=>(he cl C s2 H2 fp t).p Z s σ H Q I q) nM hs) λD σ H ⟨sr,q⟩=>
  Ow (K:=K) S rfl hf hl.1 hl.2 ue σ H _ ⟨sr,(ap wl λl=>lY l f).mono (λl q1 a ws H1 g1 s1 n e v1=>by
   have no:=sr.noOwn n;have s2:=s1.vM (t:=.ol bm l) ⟨by simp,ws,e,v1⟩ no i;exact⟨_,k l,hr l,s2,(k l).mono (λt q2=>q2.go (cD.vM s1 g1.f no n i) sr s2) q1⟩) q⟩
theorem wo:∀{l:bb}{i:Nat} (s:Option SL),l[i]?=am bm->hX (l.set i s) l
 | [],_,_,h=>by simp at h
 | x::l,0,s,h=>by
  simp at h;subst h;exact .drop (hX.refl l)
 | x::l,i+1,s,h=>by
  rw [List.set_cons_succ];exact .keep (wo s (by simpa using h))
def hX.trans {a b c:bb} (h1:hX a b) (h2:hX b c):hX a c:=by
 induction h1 generalizing c with
 | nil=>exact h2
 | drop h ih=>cases h2 with | drop h2=>exact .drop (ih h2) | keep h2=>exact .drop (ih h2)
 | keep h ih=>cases h2 with | drop h2=>exact .drop (ih h2) | keep h2=>exact .keep (ih h2)
def sf {l:bb}{is:List Nat} (hl:l.length=mQ.length/\∀(j:Nat) (s:SL),l[j]?=am (am s)->(j∈is/\s.own=false)\/(j∉is/\mQ[j]?=am (am s))) (hi:mQ[i]?=am bm) :
  (l.set i (am (.val v))).length=mQ.length/\∀(j:Nat) (s:SL),(l.set i (am (.val v)))[j]?=am (am s)->(j∈is++[i]/\s.own=false)\/(j∉is++[i]/\mQ[j]?=am (am s)):=by
 refine⟨by rw [BK];exact hl.1,λj s e=>?_⟩;rcases cL e with⟨rfl,rfl⟩ | ⟨n,e⟩
 ·exact .inl ⟨by simp,rfl⟩
 ·rcases hl.2 j s e with⟨h1,h2⟩ | ⟨h1,h2⟩
  ·exact .inl ⟨by simp [h1],h2⟩
  ·exact .inr ⟨by simp [h1,n],h2⟩
def S7 (mQ:bb):mQ.length=mQ.length/\∀(j:Nat) (s:SL),mQ[j]?=am (am s)->(j∈([]:List Nat)/\s.own=false)\/(j∉([]:List Nat)/\mQ[j]?=am (am s)):=⟨rfl,λj s e=>.inr ⟨by simp,e⟩⟩
def Nu (hi:mQ[i]?=am bm):qu [i] mQ (λp=>mQ.set i (am (.val p)))/\∀t,hX (mQ.set i (am (.val t))) mQ:=⟨λt=>sf (is:=[]) (S7 mQ) hi,λt=>wo _ hi⟩
def Mo {l:bb}{s:Option SL} (h:l[j]?=am bm) (n:j≠i):(l.set i s)[j]?=am bm:=by rw [aL n];exact h
def Rb (hi:mQ[i]?=am bm) (hj:mQ[j]?=am bm) (n:j≠i):qu [i,j] mQ (λt:PV×PV=>(mQ.set i (am (.val t.1))).set j (am (.val t.2)))/\∀t:PV×PV,hX ((mQ.set i (am (.val t.1))).set j (am (.val t.2))) mQ:=
 ⟨λt=>sf (is:=[i]) (sf (is:=[]) (S7 mQ) hi) hj,λt=>(wo _ (Mo hj n)).trans (wo _ hi)⟩
end
section
variable {rest:List sn}{T:Type}{out:T->End}
def di (sr:aR K H σ fs) (hs:fs[i]?=am (am (.ol q0 l))):∃a ws,σ[i]?=am (am (.ref a))/\H a=am (.lst ws)/\aD K [] H ws l:=by
 obtain⟨u,e1,r⟩:=sr.at' i _ hs;rcases r with⟨v,e,_⟩ | ⟨a,e,z,ws,q1,q2⟩
 ·cases e
 ·subst e;exact⟨a,ws,e1,q1,q2⟩
def ng {qU:List V}{l':List PV} (sr:aR K H σ fs) (hs:fs[i]?=am (am (.ol q0 l))) (e1:σ[i]?=am (am (.ref a))) (sx:oj a H H') (h':H' a=am (.lst qU)) (r:aD K [] H qU l'):aR K H' σ (fs.set i (am (.ol q0 l')))/\cD σ fs H σ (fs.set i (am (.ol q0 l'))) H':=
 eN (t':=.ol q0 l') sr hs rfl (by simp) e1 sx λtk=>⟨(sr.ownAt hs rfl e1).1,qU,h',aD.tk tk r⟩
def gP (l:List PV) (v:PV):W (List PV):=.ff (l.length < sizeLine) (.ret (l++[v]))
theorem SF.append (i:Nat) {k:List PV->W T} (hs:fs[i]?=am (am (.ol q0 l))) (hK:X.K=K) (hN:X.N[i]?=am y) (hv:F5 X.env.scope y) (he:EF X K fs e we) (hr:∀l',SF X K x (fs.set i (am (.ol q0 l'))) rest (k l') out)
  (hd:iW y:=by decide) (jq:Gp y:=by decide) (eI:nw (.Name y p) "append" X.env (kw (.Name y p) X.env)=kw (.Name y p) X.env:=by rfl)
  (pe:WY X bC [e]:=by rfl)
  (eG:PM Ã bC:=by rfl) (qI:gK X e []:=by rfl) (eU:lH X bC []:=by rfl)
  (nM:im (.Call (.Attribute (.Name y p) "append" Ã) [e] [] bC) bm pos.line X.env=pure false:=by rfl) :
  SF X K x fs (.Expr (.Call (.Attribute (.Name y p) "append" Ã) [e] [] bC) pos::rest) (.bind we λv=>.bind (gP l v) k) out:=
 SF.step (qB (rE K hK BW PySem.F.slot_list_append PySem.F.type_list_append G1 (d7 hN hv hd jq) (aW he.p bV qI) eI pe eG qI eU) nM) λD σ H ⟨sr,q⟩=>by
  obtain⟨a,ws,e1,h1,r1⟩:=di sr hs;refine⟨_,e1,.inl ⟨rfl,_,cR.of h1⟩,sr,we.mono (λv q1 u H1 g1 s1 v1=>?_) q⟩;obtain⟨a',qU,qp,gB,tV⟩:=di s1 hs;rw [e1] at qp;cases qp;refine⟨a,qU,u,rfl,rfl,gB,by rw [tV.length];exact q1.1,λH2 sx h2=>?_⟩;obtain⟨s2,g2⟩:=ng s1 hs e1 sx h2 (tV.append (.one v1));exact⟨_,k _,hr _,s2,(k _).mono (λt q2=>q2.go (g1.f.trans g2) sr s2) q1.2⟩
def Wh (l m:List PV):W (List PV):=.ff (l.length+m.length<=sizeLine) (.ret (l++m))
theorem SF.extend (i:Nat) {k:List PV->W T} (hs:fs[i]?=am (am (.ol q0 l))) (hK:X.K=K) (hN:X.N[i]?=am y) (hv:F5 X.env.scope y) (he:QF X K fs e wl) (hr:∀l',SF X K x (fs.set i (am (.ol q0 l'))) rest (k l') out)
  (hd:iW y:=by decide) (jq:Gp y:=by decide) (eI:nw (.Name y p) "extend" X.env (kw (.Name y p) X.env)=kw (.Name y p) X.env:=by rfl)
  (pe:WY X bC [e]:=by rfl)
  (eG:PM Ã bC:=by rfl) (qI:gK X e []:=by rfl) (eU:lH X bC []:=by rfl)
  (nM:im (.Call (.Attribute (.Name y p) "extend" Ã) [e] [] bC) bm pos.line X.env=pure false:=by rfl) :
  SF X K x fs (.Expr (.Call (.Attribute (.Name y p) "extend" Ã) [e] [] bC) pos::rest) (.bind wl λm=>.bind (Wh l m) k) out:=
 SF.step (qB (rE K hK BW PySem.F.slot_list_extend PySem.F.type_list_extend (Q4 K hK) (d7 hN hv hd jq) (aW he.p bV qI) eI pe eG qI eU) nM) λD σ H ⟨sr,q⟩=>by
  obtain⟨a,ws,e1,h1,r1⟩:=di sr hs;refine⟨_,e1,.inl ⟨rfl,_,cR.of h1⟩,sr,wl.mono (λm q1 u H1 g1 s1 v1=>?_) q⟩;obtain⟨a',qU,qp,gB,tV⟩:=di s1 hs;rw [e1] at qp;cases qp;obtain⟨b,zs,rfl,hb,rb⟩:=v1.sq s1;refine⟨a,b,qU,zs,rfl,rfl,gB,hb,by rw [tV.length,rb.length];exact q1.1,λH2 sx h2=>?_⟩;obtain⟨s2,g2⟩:=ng s1 hs e1 sx h2 (tV.append rb);exact⟨_,k _,hr _,s2,(k _).mono (λt q2=>q2.go (g1.f.trans g2) sr s2) q1.2⟩
def yX (l:List PV):W (List PV×PV):=match l.getLast? with
 | some v=>.ret (l.dropLast,v)
 | none=>.fail
def Mk {l:List PV} (h:l.getLast?=am v):l=l.dropLast++[v]:=by
 rw [List.getLast?_eq_some_iff] at h;obtain⟨ys,rfl⟩:=h;simp
theorem aD.snoc:∀{ws:List V}{l:List PV}{v:PV},aD K [] H ws (l++[v])->∃W0 u,ws=W0++[u]/\aD K [] H W0 l/\VR K [] H u v
 | _,[],_,.cons r .nil=>⟨[],_,rfl,.nil,r⟩
 | _,x::l,v,.cons r t=>by
  obtain⟨W0,u,rfl,h1,h2⟩:=aD.snoc t;exact⟨_::W0,u,rfl,.cons r h1,h2⟩
def SF.GQ (i j:Nat) {k:List PV×PV->W T} (hs:fs[i]?=am (am (.ol q0 l))) (ZC:j≠i) (hK:X.K=K) (hN:X.N[i]?=am y) (hv:F5 X.env.scope y) (ğ:X.N.Nodup) (hj:X.N[j]?=am z) (hx:Loc X.env.scope z) (hr:∀t:List PV×PV,SF X K x ((fs.set i (am (.ol q0 t.1))).set j (am (.val t.2))) rest (k t) out)
  (hd:iW y:=by decide) (jq:Gp y:=by decide) (eI:nw (.Name y p) "pop" X.env (kw (.Name y p) X.env)=kw (.Name y p) X.env:=by rfl) (eG:PM Ã bC:=by rfl)
  (nM:im (.Call (.Attribute (.Name y p) "pop" Ã) [] [] bC) (am (.Name z p')) pos.line X.env=pure false:=by rfl) (hf:LQ X z:=by first | exact .inl rfl | exact .inr rfl | assumption) :
  SF X K x fs (.Assign [.Name z p'] (.Call (.Attribute (.Name y p) "pop" Ã) [] [] bC) pos::rest) (.bind (yX l) k) out:=
 SF.step (rC ğ hj hx (QG K hK BW ET ES Q2 (d7 hN hv hd jq) eI eG) nM hf) λD σ H ⟨sr,q⟩=>by
  obtain⟨a,ws,e1,h1,r1⟩:=di sr hs;have q:(yX l).run λt=>(k t).run λt=>bD K x σ fs H D (out t):=q;unfold yX at q;cases hl:l.getLast? with
  | none=>rw [hl] at q;exact q.elim
  | some v=>
   rw [hl] at q;have el:=Mk hl;rw [el] at r1;obtain⟨W0,u,rfl,r0,ru⟩:=aD.snoc r1;refine⟨_,e1,.inl ⟨rfl,_,cR.of h1⟩,a,W0,u,rfl,rfl,h1,λH2 sx h2=>?_⟩;obtain⟨s2,g2⟩:=ng sr hs e1 sx h2 r0;have ru2:VR K [] H2 u v:=g2.vr sr ru;have s3:=s2.fm ru2 j;exact⟨_,k _,hr (l.dropLast,v),s3,(k _).mono (λt q2=>q2.go (g2.trans (cD.fm s2 _ _ j)) sr s3) q⟩
def ka (l:List PV) (i v:PV):W (List PV):=match i with
 | .int k=>match uQ l.length k with
  | some j=>.ret (l.set j v)
  | none=>.fail
 | _=>.fail
def SF.GI (i:Nat) {ei:ii}{k:List PV->W T} (hs:fs[i]?=am (am (.ol q0 l))) (hN:X.N[i]?=am y) (hv:F5 X.env.scope y) (he:EF X K fs e we) (hi:EF X K fs ei wi) (hr:∀l',SF X K x (fs.set i (am (.ol q0 l'))) rest (k l') out)
  (ha:∀v,Da (.Subscript (.Name y p) ei vz) X.env v=(do
   let ov <- xL [v] (kw (.Name y p) X.env)
   let iv <- xL [v,ov] (kw ei X.env)
   standAt vz
   xL [v,ov,iv] (setItem ov iv v)
   release [v,ov,iv] []):=by intro _;rfl)
  (hd:iW y:=by decide) (jq:Gp y:=by decide) (hss:BT [.Subscript (.Name y p) ei vz] e pos.line X.env=pure false:=by rfl) (hw:Ch [.Subscript (.Name y p) ei vz] e X.env=pure bm:=by rfl)
  (h1:(wE [.Subscript (.Name y p) ei vz] X.env).map (·.2)=[Da (.Subscript (.Name y p) ei vz) X.env]:=by rfl) :
  SF X K x fs (.Assign [.Subscript (.Name y p) ei vz] e pos::rest) (.bind we λv=>.bind wi λn=>.bind (ka l n v) k) out:=
 SF.step (MU he.p (UW (d7 hN hv hd jq) hi.p Kn ha) hss hw h1) λD σ H ⟨sr,q⟩=>by
  refine⟨sr,we.mono (λv q1 u H1 g1 s1 v1=>?_) q⟩;obtain⟨a,ws,e1,h1,r1⟩:=di s1 hs;refine⟨_,e1,s1,wi.mono (λn q2 u2 H2 g2 s2 v2=>?_) q1⟩;obtain⟨a',qU,qp,gB,tV⟩:=di s2 hs;rw [e1] at qp;cases qp;cases v2 with
  | int kk=>
   have q2:(match uQ l.length kk with | some j=>bd (l.set j v) | none=>W.fail).run _:=q2;cases hj:uQ l.length kk with
   | none=>rw [hj] at q2;exact q2.elim
   | some j=>
    rw [hj] at q2;refine⟨a,qU,kk,j,rfl,rfl,gB,by rw [tV.length];exact hj,λH3 sx h3=>?_⟩;obtain⟨s3,g3⟩:=ng s2 hs e1 sx h3 (tV.set (g2.vr s1 v1) j);exact⟨_,k _,hr _,s3,(k _).mono (λt q3=>q3.go ((g1.trans g2).f.trans g3) sr s3) q2⟩
  | _=>exact q2.elim
end
end
end FL
variable {x:BX}
namespace FL
section
open PySem PySem.Spec PyProof.Rows L2 PL
variable {K:Ab}
def gN:List AK->List PV->bb
 | [],_=>[]
 | .v::ks,x::l=>am (.val x)::gN ks l
 | .v::_,[]=>[]
 | .p φ::ks,l=>am (.mP φ)::gN ks l
 | .f a::ks,l=>am (.adr a)::gN ks l
def gM (ks:List AK) (l:List PV) (n:Nat):bb:=gN ks l++Am (n-ks.length) bm
def iT (ks:List AK):Prop:=∀i j:Nat,(∃φ,ks[i]?=am (.p φ))->(∃φ,ks[j]?=am (.p φ))->i=j
theorem kU:∀{n:Nat}{m:SH R n}{l:List PV}{Q:R->Prop},(cq n m l).run Q->l.length=n
 | 0,_,[],_,_=>rfl
 | 0,_,_::_,_,h=>h.elim
 | n+1,_,[],_,h=>h.elim
 | n+1,m,x::l,Q,h=>by rw [Ap,kU (n:=n) (m:=m x) h]
section
theorem iy.len (h:iy K H vs ks l):vs.length=ks.length:=by induction h <;> simp_all
def iy.slot (h:iy K H vs ks l):(gN ks l).length=vs.length/\∀(i:Nat) (s:SL),(gN ks l)[i]?=am (am s)->∃u,vs[i]?=am u/\vn K H u s/\(s.own=true->∃φ,s=.mP φ/\ks[i]?=am (.p φ)):=by
 induction h with
 | nil=>exact⟨rfl,λi s e=>by simp [gN] at e⟩
 | @v u x vs ks l r t ih=>
  refine⟨by simp [gN,ih.1],λi s e=>?_⟩;cases i with
  | zero=>simp [gN] at e;subst e;exact⟨u,rfl,.inl ⟨x,rfl,r⟩,λz=>by cases z⟩
  | succ i=>simp [gN] at e;obtain⟨w,h1,h2,h3⟩:=ih.2 i s e;exact⟨w,by simpa using h1,h2,by simpa using h3⟩
 | @p a φ ws vs ks l e0 r t ih=>
  refine⟨by simp [gN,ih.1],λi s e=>?_⟩;cases i with
  | zero=>simp [gN] at e;subst e;exact⟨_,rfl,.inr ⟨a,rfl,ws,e0,r⟩,λ_=>⟨φ,rfl,rfl⟩⟩
  | succ i=>simp [gN] at e;obtain⟨w,h1,h2,h3⟩:=ih.2 i s e;exact⟨w,by simpa using h1,h2,by simpa using h3⟩
 | @f a vs ks l t ih=>
  refine⟨by simp [gN,ih.1],λi s e=>?_⟩;cases i with
  | zero=>simp [gN] at e;subst e;exact⟨_,rfl,.inr ⟨a,rfl,rfl⟩,λz=>by cases z⟩
  | succ i=>simp [gN] at e;obtain⟨w,h1,h2,h3⟩:=ih.2 i s e;exact⟨w,by simpa using h1,h2,by simpa using h3⟩
def iy.UT (h:iy K H vs ks l) (e:ks[i]?=am (.p φ)):(gN ks l)[i]?=am (am (.mP φ)):=by
 induction h generalizing i with
 | nil=>simp at e
 | v r t ih=>cases i with | zero=>simp at e | succ i=>simp [gN];exact ih (by simpa using e)
 | p e0 r t ih=>cases i with | zero=>simp at e;subst e;rfl | succ i=>simp [gN];exact ih (by simpa using e)
 | f t ih=>cases i with | zero=>simp at e | succ i=>simp [gN];exact ih (by simpa using e)
theorem n9 {s:SL} (h:(gM ks l n)[i]?=am (am s)):(gN ks l)[i]?=am (am s):=by
 unfold gM at h;by_cases c:i < (gN ks l).length
 ·rw [AL c] at h;exact h
 ·rw [AU ∅,Bp] at h
  split at h <;> cases h
def kY {N:List Str} (h:vs[i]?=am u):(L2.start N vs)[i]?=am (am u):=by
 unfold L2.start;rw [AL (by rw [Af];exact (Ak.mp h).1),Aj,h];rfl
def uz {N:List Str} (h:(L2.start N vs)[i]?=am (am u)):vs[i]?=am u:=by
 unfold L2.start at h;by_cases c:i < vs.length
 ·rw [AL (by simpa using c),Aj] at h;cases z:vs[i]? with
  | none=>rw [z] at h;cases h
  | some q=>rw [z] at h;cases h;rfl
 ·rw [AU (by simpa using c),Bp] at h
  split at h <;> cases h
def iy.beg (h:iy K H vs ks l) (one:iT ks) (N:List Str):aR K H (L2.start N vs) (gM ks l N.length):=by
 obtain⟨hl,hs⟩:=h.slot;refine⟨?_,λi s e=>?_,λi j s t x y a e1 e2 o1 o2 q1 q2 z1 z2=>?_⟩
 ·unfold L2.start gM;rw [Ah,Ah,Af,hl,Bn,Bn,h.len]
 ·obtain⟨u,h1,h2,_⟩:=hs i s (n9 e);exact⟨u,kY h1,h2⟩
 ·obtain⟨_,_,_,h3⟩:=hs i s (n9 e1);obtain⟨_,_,_,h4⟩:=hs j t (n9 e2);obtain⟨φ,_,k1⟩:=h3 o1;obtain⟨ψ,_,k2⟩:=h4 o2;exact one i j ⟨φ,k1⟩ ⟨ψ,k2⟩
def iy.go (h:iy K H vs ks l) {N:List Str} (g:cD (L2.start N vs) (gM ks l N.length) H σ' bq H') (s':aR K H' σ' bq):GoC vs ks H H':=by
 obtain⟨hl,hs⟩:=h.slot;refine⟨λa o e n=>(g.keep a o e λz=>?_).1,g.there,λa φ p=>?_⟩
 ·obtain⟨i,s,x,e1,e2,e3,e4⟩:=z;obtain⟨u,h1,h2,h3⟩:=hs i s (n9 e1);obtain⟨φ,rfl,k⟩:=h3 e2;rcases e4 with rfl | e4
  ·exact n φ ⟨i,k,uz e3⟩
  ·cases e4
 ·obtain⟨i,e1,e2⟩:=p;have e3:=h.UT e1;have hi:=(Ak.mp e3).1;have e4:(gM ks l N.length)[i]?=am (am (.mP φ)):=by unfold gM;rw [AL hi];exact e3
  rcases g.pk a φ ⟨i,e4,kY e2⟩ with⟨j,k1,k2⟩ | ⟨_,k⟩
  ·exact s'.ownAt k1 rfl k2
  ·exact k
end
section
variable {st:sn}{f:ce}{N:List Str}
def fnV {m:SH PV n} (Fn:PK K x qual st f fd) (S:ao N ps (af st)) (nN:ks.length=ps.length) (one:iT ks)
  (Á:∀l:List PV,l.length=n->∀(bT:bn) (A:nn) (outer:List Env) (s:ci) (H:Hp) (E:XK),cB k (A.deeper (re qual (af st) s.heap.objs.size f bT))->SF (gL mm P w K mg base N qual (af st) f bT A outer s H E).uE K false (gM ks l N.length) (aX st) (cq n m l) .rt) :
  iU P w K mg base mm (k+1) f fd ps (gI K ks (cq n m)):=by
 refine Fn.ok S (λvs H Q E h=>?_) (λbT A outer s H vs Q E hr h=>?_)
 ·obtain⟨l,h,_⟩:=h;rw [h.len];exact nN
 obtain⟨l,h,q⟩:=h;refine⟨_,(Á l (kU q) bT A outer s H E hr).p,h.beg one N,(cq n m l).mono (λv q1 u σ' bq H' g s' r=>q1 u H' (h.go g s') r) q⟩
def fnL {m:SH (List PV) n} (Fn:PK K x qual st f fd) (S:ao N ps (af st)) (nN:ks.length=ps.length) (one:iT ks)
  (Á:∀l:List PV,l.length=n->∀(bT:bn) (A:nn) (outer:List Env) (s:ci) (H:Hp) (E:XK),cB k (A.deeper (re qual (af st) s.heap.objs.size f bT))->SF (gL mm P w K mg base N qual (af st) f bT A outer s H E).uE K false (gM ks l N.length) (aX st) (cq n m l) .rl) :
  iU P w K mg base mm (k+1) f fd ps (fi K ks (cq n m)):=by
 refine Fn.ok S (λvs H Q E h=>?_) (λbT A outer s H vs Q E hr h=>?_)
 ·obtain⟨l,h,_⟩:=h;rw [h.len];exact nN
 obtain⟨l,h,q⟩:=h;have sr:=h.beg one N;refine⟨_,(Á l (kU q) bT A outer s H E hr).p,sr,(cq n m l).mono (λz q1 a ws σ' bq H' g s' fr e r=>q1 a ws H' (h.go g s') ?_ e r) q⟩;rcases fr with fr | ⟨i,t,x,e1,e2,np,e3,e4⟩
 ·exact fr
 ·obtain⟨_,_,_,h3⟩:=h.slot.2 i t (n9 e1);obtain⟨φ,e,_⟩:=h3 e2;exact absurd e (np φ)
end
def cM:iT []:=λi j ⟨_,h⟩=>by simp at h
def gV (h:iT ks):iT (.v::ks):=λi j ⟨φ,a⟩ ⟨ψ,b⟩=>by
 cases i with
 | zero=>simp at a
 | succ i=>
  cases j with
  | zero=>simp at b
  | succ j=>rw [h i j ⟨φ,by simpa using a⟩ ⟨ψ,by simpa using b⟩]
def au:iT (.p φ::Am n .v):=λi j ⟨χ,a⟩ ⟨ψ,b⟩=>by
 have z:∀{i:Nat}{χ:List V->Prop},(AK.p φ::Am n .v)[i]?=am (.p χ)->i=0:=λ{i χ} a=>by
  cases i with
  | zero=>rfl
  | succ i=>
   have a:(Am n AK.v)[i]?=am (.p χ):=by simpa using a
   rw [Bp] at a
   split at a <;> simp at a
 rw [z a,z b]
end
end FL
namespace L2
open PySem PySem.Spec PyProof.Rows
def Yx (K:Ab):R2:=λx y H Q=>∃a b xs zs,x=.ref a/\y=.ref b/\cR K H a xs/\cR K H b zs/\xs.length+zs.length<=sizeLine/\lJ H (.lst (xs++zs)) Q
theorem QQ (K:Ab) (hK:X.K=K):iz X (r9 .Add) (Yx K):=by
 subst hK;intro Z s σ H x y v u Q I rx ry h;obtain⟨l,b,xs,zs,rfl,rfl,hH,hB,hz,q⟩:=h;cases rx;cases ry;obtain⟨aq,r,⟨⟨cls,dd,data,sl⟩,n,ho,hc,hd,nQ⟩,_⟩:=I.list hH;obtain⟨cH,r2,⟨⟨WD,R7,data2,Pr⟩,n2,K7,N6,Ò,Tu⟩,_⟩:=I.list hB;simp only at hc hd nQ N6 Ò Tu;subst hc hd nQ N6 Ò Tu;have e:aq.toArray++cH.toArray=(aq++cH).toArray:=by simp
 have hl:=r.length;have Px:=r2.length;refine concat_meets ⟨_,ho,rfl⟩ ⟨_,K7,rfl⟩ noFill_list_add seq_list_add PySem.F.slot_list_add PySem.F.entry_list_add (PySem.F.args_list_add_2 _ _) (list_addW l b aq.toArray cH.toArray n n2 bm bm sl Pr (by simp;omega)) ⟨ho,K7,?_⟩;rw [e];exact⟨.ref _,_,I.Vs (t':=s.toks) (r.append r2) (by rw [Ah];omega),rfl,q.at _ I.fresh⟩
end L2
variable {hi:FL.W (Option Int)}{neg:Bool}
namespace FL
section
open PySem PySem.Spec PyProof.Rows L2 PL
variable {K:Ab}
section
variable {a c:ii}{w:W PV}
def mK (l m:List PV):W (List PV):=.ff (l.length+m.length<=sizeLine) (.ret (l++m))
def fQL (K:Ab) (fs:bb) (w:W (List PV)):TE:=λσ H Q=>aR K H σ fs/\w.run λl=>∀u H',cP σ fs H H'->aR K H' σ fs->Su K σ fs H' u l->(∀Ā,cP σ fs H' Ā->aR K Ā σ fs->∃a vs,u=.ref a/\cR K Ā a vs/\aD K [] Ā vs l)->Q u H'
structure Gn (X:Cx) (K:Ab) (fs:bb) (e:ii) (w:W (List PV)):Prop where p:PE X e (fQL K fs w)
def cF (h:LF X K fs e wl):Gn X K fs e wl:=⟨PE.imp h.p λσ H Q ⟨sr,q⟩=>⟨sr,wl.mono (λl q1 a vs H1 g1 s1 n e v=>q1 _ H1 g1 s1 (.inr ⟨a,rfl,.inl ⟨sr.noOwn n,vs,e,v⟩⟩) λH2 g2 s2=>⟨a,vs,rfl,cR.of (g2.uO e (sr.noOwn n)),g2.L1 s1 v⟩) q⟩⟩
def MJ (i:Nat) (hs:fs[i]?=am (am (.ol q0 l)):=by rfl) (hN:X.N[i]?=am x:=by rfl) (hv:F5 X.env.scope x:=by first | exact CZ rfl | exact Cy (CZ rfl) | exact Cy (Cy rfl)) (hd:iW x:=by decide) (jq:Gp x:=by decide):Gn X K fs (.Name x pos) (.ret l):=
 ⟨PE.imp (d7 hN hv hd jq) λσ H Q ⟨sr,q⟩=>by
  obtain⟨a,ws,e1,h1,r1⟩:=di sr hs;refine⟨_,e1,q _ H .refl sr (.inr ⟨a,rfl,.inr ⟨i,q0,hs,e1⟩⟩) λH2 g2 s2=>?_⟩;obtain⟨a',qU,qp,gB,tV⟩:=di s2 hs;rw [e1] at qp;cases qp;exact⟨a,qU,rfl,cR.of gB,tV⟩⟩
def rR:PV->W (List PV)
 | .cl l=>.ret l
 | _=>.fail
def jb (h:EF X K fs e w):Gn X K fs e (.bind w rR):=⟨PE.imp h.p λσ H Q ⟨sr,q⟩=>⟨sr,w.mono (λx q1 u1 H1 g1 s1 v1=>by
 cases v1 with
 | cl e r=>exact q1 _ H1 g1 s1 (.inl ⟨_,_,rfl,.inl e,r⟩) λH2 g2 s2=>⟨_,_,rfl,((g2.d5 s1).f _ _ e).sq,g2.L1 s1 r⟩
 | _=>exact q1.elim) q⟩⟩
def lZ (hK:X.K=K) (ha:Gn X K fs a wl) (hb:Gn X K fs b wm):LF X K fs (.BinOp a .Add b pos) (.bind wl λl=>.bind wm λm=>mK l m):=⟨PE.imp (Jg (QQ K hK) ha.p hb.p) λσ H Q ⟨sr,q⟩=>⟨sr,wl.mono (λl q1 u1 H1 g1 s1 _ v1=>⟨s1,wm.mono (λm q2 u2 H2 g2 s2 _ v2=>by
 obtain⟨a,vs,rfl,h1,r1⟩:=v1 H2 g2 s2;obtain⟨b,ws,rfl,h2,r2⟩:=v2 H2 .refl s2;refine⟨a,b,vs,ws,rfl,rfl,h1,h2,by rw [r1.length,r2.length];exact q2.1,λp H3 s3 h3 n3=>?_⟩;have gg:=g1.trans g2;exact q2.2 p _ H3 (gg.trans (cP.same s3)) (s2.same s3) (gg.there p n3) h3 (aD.tk s3.eL (r1.append r2))) q1⟩) q⟩⟩
def Jr {Q:VK} (g1:cP σ fs H H1) (s1:aR K H1 σ fs) (r:aD K [] H1 vs l) (q:∀a vs H',cP σ fs H H'->aR K H' σ fs->H a=bm->H' a=am (.lst vs)->aD K [] H' vs l->Q (.ref a) H'):lJ H1 (.lst vs) Q:=λp H2 s2 h2 n2=>q p vs H2 (g1.trans (cP.same s2)) (s1.same s2) (g1.there p n2) h2 (aD.tk s2.eL r)
def Nn (K:Ab):CL K (MC K) .ret:=λ{fs σ H Q u l} s v q=>by
 obtain⟨a,vs,rfl,h,rs⟩:=v.sq s;exact⟨a,vs,rfl,h,Jr .refl s rs q⟩
def Vx (hK:X.K=K) (hg:Gl X "list") (hm:X.mg "list"=bm) (ha:QF X K fs e wl) (he:gK X e []:=by rfl) (dw:lH X pos []:=by rfl):LF X K fs (.Call (.Name "list" p) [e] [] pos) wl:=Nx (m:=.ret) (Ib K hK) (Nn K) hg hm boot_list ha ⋯ ⋯ he dw
def df (hK:X.K=K) (hg:Gl X "tuple") (hm:X.mg "tuple"=bm) (ha:QF X K fs e wl) (he:gK X e []:=by rfl) (dw:lH X pos []:=by rfl):EF X K fs (.Call (.Name "tuple" p) [e] [] pos) (.bind wl lI):=Lk (Ls K hK) (P0 K) hg hm boot_tuple ha ⋯ ⋯ he dw
def sT (hK:X.K=K) (hg:Gl X "len") (hm:X.mg "len"=bm) (ha:QF X K fs e wl) (he:gK X e []:=by rfl) (dw:lH X pos []:=by rfl):EF X K fs (.Call (.Name "len" p) [e] [] pos) (.bind wl zB):=OV (vd K hK) (Ra K) hg hm boot_len ha ⋯ ⋯ he dw
def Pg (ha:EF X K fs e w) (he:f8 [e] X.env=(false,kw e X.env)::f8 [] X.env):AF X K fs [e] (Am 1 .v) (R:=R) (λk=>.bind w λx=>k [x]):=aa ha ai he
def dG (hK:X.K=K) (hg:Gl X "len") (hm:X.mg "len"=bm) (ha:EF X K fs e w) (he:gK X e []:=by rfl) (dw:lH X pos []:=by rfl):EF X K fs (.Call (.Name "len" p) [e] [] pos) (.bind w λx=>oA dq [x]):=qM (n:=1) (vd K hK) (Sf K) hg hm boot_len (Pg ha he) ⋯ ⋯ he dw
def TQ (hg:Gl X "abs") (hm:X.mg "abs"=bm) (ha:EF X K fs e w) (he:gK X e []:=by rfl) (dw:lH X pos []:=by rfl):EF X K fs (.Call (.Name "abs" p) [e] [] pos) (.bind w λx=>oA FZ [x]):=qM (n:=1) O4 Si hg hm boot_abs (Pg ha he) ⋯ ⋯ he dw
def RY (hg:Gl X "int") (hm:X.mg "int"=bm) (ha:EF X K fs e w) (he:gK X e []:=by rfl) (dw:lH X pos []:=by rfl):EF X K fs (.Call (.Name "int" p) [e] [] pos) (.bind w λx=>oA Ii [x]):=OU (n:=1) Ly Sg hg hm boot_int (Pg ha he) ⋯ ⋯ he dw
def aac (hc:X.calm=true) (hg:Gl X "max") (hm:X.mg "max"=bm) (ha:EF X K fs a wa) (hb:EF X K fs b wb) (he:f8 [a,b] X.env=(false,kw a X.env)::f8 [b] X.env:=by rfl) (V2:gK X b []:=by rfl) (dw:(u8 pos (f8 [b] X.env)).any (·.1)=false:=by rfl):EF X K fs (.Call (.Name "max" p) [a,b] [] pos) (.bind wa λx=>.bind wb λy=>oA LC [x,y]):=qM (n:=2) (Lv hc) Se hg hm boot_max (aa ha (aa hb ai V2) he) ⋯ ⋯ he dw
def aab (hc:X.calm=true) (hg:Gl X "min") (hm:X.mg "min"=bm) (ha:EF X K fs a wa) (hb:EF X K fs b wb) (he:f8 [a,b] X.env=(false,kw a X.env)::f8 [b] X.env:=by rfl) (V2:gK X b []:=by rfl) (dw:(u8 pos (f8 [b] X.env)).any (·.1)=false:=by rfl):EF X K fs (.Call (.Name "min" p) [a,b] [] pos) (.bind wa λx=>.bind wb λy=>oA LB [x,y]):=qM (n:=2) (Lu hc) Sd hg hm boot_min (aa ha (aa hb ai V2) he) ⋯ ⋯ he dw
def Y4 (hK:X.K=K) (hc:X.calm=true) (ę:Gl X "list") (ù:X.mg "list"=bm) (Ę:Gl X "reversed") (Xc:X.mg "reversed"=bm) (he:Gn X K fs e wl)
  (Gj:f8 [.Call (.Name "reversed" p3) [e] [] p4] X.env=(false,kw (.Call (.Name "reversed" p3) [e] [] p4) X.env)::f8 [] X.env:=by rfl) (qJ:gK X e []:=by rfl) :
  LF X K fs (.Call (.Name "list" p1) [.Call (.Name "reversed" p3) [e] [] p4] [] p2) (.bind wl λl=>.ret l.reverse):=⟨PE.imp (GR K hK hc ę ù Ę Xc he.p Gj qJ) λσ H Q ⟨sr,q⟩=>⟨sr,wl.mono (λl q1 u1 H1 g1 s1 _ v1=>by
 obtain⟨a,vs,rfl,h1,r1⟩:=v1 H1 .refl s1;exact⟨a,vs,rfl,h1,Jr g1 s1 r1.reverse q1⟩) q⟩⟩
def bsW:List PV->W (List Bool)
 | []=>.ret []
 | .bl b::r=>.bind (bsW r) λl=>.ret (b::l)
 | _=>.fail
theorem JZ:∀{l:List PV}{Q:List Bool->Prop},(bsW l).run Q->∃bs:List Bool,l=bs.map PV.bl/\Q bs
 | [],Q,h=>⟨[],rfl,h⟩
 | .bl b::r,Q,h=>by
  obtain⟨bs,e,q⟩:=JZ (l:=r) h;exact⟨b::bs,by rw [e];rfl,q⟩
 | .aE::r,Q,h=>h.elim
 | .int _::r,Q,h=>h.elim
 | .str _::r,Q,h=>h.elim
 | .tup _::r,Q,h=>h.elim
 | .ref _::r,Q,h=>h.elim
 | .ty _::r,Q,h=>h.elim
 | .cl _::r,Q,h=>h.elim
@[simp] theorem J0:∀bs:List Bool,bsW (bs.map PV.bl)=.ret bs
 | []=>rfl
 | b::bs=>by
  show ap (bsW (bs.map PV.bl)) _=_;rw [J0 bs];rfl
def Pd (l:List PV):W PV:=.bind (bsW l) λbs=>.ret (.bl (bs.any id))
def aag (hK:X.K=K) (hc:X.calm=true) (hg:Gl X "any") (hm:X.mg "any"=bm) (ha:Gn X K fs e wl) (he:gK X e []:=by rfl) (dw:lH X pos []:=by rfl):EF X K fs (.Call (.Name "any" p) [e] [] pos) (.bind wl Pd):=⟨PE.imp (d8 (Lz K hK hc) hg hm boot_any (aW ha.p bV he) ⋯ ⋯ he dw) λσ H Q ⟨sr,q⟩=>⟨sr,wl.mono (λl q1 u1 H1 g1 s1 _ v1=>by
 obtain⟨bs,e,q2⟩:=JZ (l:=l) q1;obtain⟨a,vs,rfl,h1,r1⟩:=v1 H1 .refl s1;rw [e] at r1;have:=vf r1;subst this;exact⟨a,bs,rfl,h1,q2 _ H1 g1 s1 (.bl _)⟩) q⟩⟩
def ig (k:Kd) (x:PV):W PV:=match x with
 | .ref _=>.fail
 | .ty _=>.fail
 | x=>.ret (.bl (k.is x))
def SY (K:Ab):List V->Hp->VK->Prop:=λxs H Q=>∃x c t b,xs=[x,.ty c]/\(lN K H x t\/(t=.type "tuple"/\∃a vs,x=.ref a/\d4 K H a vs)\/(t=.type "list"/\∃a vs,x=.ref a/\cR K H a vs)\/(t=.type "dict"/\∃a,x=.ref a/\IsD H a))/\Bq K t (.type c)=am b/\Q (.bl b) H
def Lx (hK:X.K=K):bE X (.builtin "isinstance") (SY K):=by
 subst hK;intro Z s σ H xs us Q I r h;obtain⟨x,c,t,b,rfl,ty | ty | ⟨rfl,a,vs,rfl,hL⟩ | ⟨rfl,a,rfl,hD⟩,e,q⟩:=h
 ·exact pT Z s σ H _ us Q I r ⟨x,c,t,b,rfl,ty,e,q⟩
 ·exact Lw X.K rfl Z s σ H _ us Q I r ⟨x,c,t,b,rfl,.inr ty,e,q⟩
 ·obtain⟨u,w,rfl,r1,r2⟩:=vals2 r;cases r1;cases r2;obtain⟨aq,_,⟨o,n,h1,h2,_⟩,_⟩:=I.list hL;exact A7 D7 I.uP ⟨o,h1,h2⟩ e (λz=>nomatch z) λtk=>⟨.bl b,H,I.tok _,rfl,q⟩
 ·obtain⟨u,w,rfl,r1,r2⟩:=vals2 r;cases r1;cases r2;have:∃o,s.heap.get? a=am o/\o.cls=.type "dict":=by
   rcases hD with⟨kvs,e⟩ | ⟨kvs,e⟩
   ·obtain⟨_,_,vs,_,o,_,_,h1,h2,_⟩:=va I.bp e;exact⟨o,h1,h2.1⟩
   ·obtain⟨_,_,xs,_,o,_,_,h1,h2,_⟩:=u5 I.bp e;exact⟨o,h1,h2.1⟩
  obtain⟨o,h1,h2⟩:=this;exact A7 D8 I.uP ⟨o,h1,h2⟩ e (λz=>nomatch z) λtk=>⟨.bl b,H,I.tok _,rfl,q⟩
def iP (hK:X.K=K) (k:Kd) (hg:Gl X "isinstance") (hm:X.mg "isinstance"=bm) (ha:EF X K fs a wa) (hgx:Gl X x) (hmx:X.mg x=bm) (hv:lc x=am (.type k.name)) (hn:x≠"__name__":=by decide) (hd:iW x:=by decide)
  (he:f8 [a,.Name x p2] X.env=(false,kw a X.env)::f8 [.Name x p2] X.env:=by rfl) (V2:f8 [Expr.Name x p2] X.env=(false,kw (.Name x p2) X.env)::f8 [] X.env:=by rfl)
  (dw:(u8 pos (f8 [Expr.Name x p2] X.env)).any (·.1)=false:=by rfl):EF X K fs (.Call (.Name "isinstance" p) [a,.Name x p2] [] pos) (.bind wa (ig k)):=
 ⟨PE.imp (d8 (Lx hK) hg hm boot_isinstance (aW ha.p (aW (QH (v:=.ty k.name) hgx hmx hv rfl hn hd) bV V2) he) ⋯ ⋯ he dw) λσ H Q ⟨sr,q⟩=>⟨sr,wa.mono (λx q1 u1 H1 g1 s1 v1=>by
  have fin:∀{t:bn}{y:PV},lN K H1 u1 t->Bq K t (.type k.name)=am (k.is y)->Q (.bl (k.is y)) H1->SY K [u1,.ty k.name] H1 Q:=λty e q=>⟨_,_,_,_,rfl,.inl ty,e,q⟩;cases v1 with
  | aE=>exact fin (y:=.aE) .aE (by rw [(qG K).1 k];cases k <;> rfl) (q1 _ H1 g1 s1 (.bl _))
  | bl b=>exact fin (.bl b) (VD K b k) (q1 _ H1 g1 s1 (.bl _))
  | int b=>exact fin (.int b) (Rm K b k) (q1 _ H1 g1 s1 (.bl _))
  | str b=>exact fin (.str b) (Rl K b k) (q1 _ H1 g1 s1 (.bl _))
  | ty n=>exact q1.elim
  | ref n=>exact q1.elim
  | @dk a o kvs ks l e k1 r=>exact⟨_,_,_,_,rfl,.inr (.inr (.inr ⟨rfl,_,rfl,.inl ⟨_,.inr ⟨_,e⟩⟩⟩)),(show _=am (k.is (.dv ks l)) by rw [(qG K).2.2 k];cases k <;> rfl),q1 _ H1 g1 s1 (.bl _)⟩
  | @dt a o kvs ks l e k1 r=>exact⟨_,_,_,_,rfl,.inr (.inr (.inr ⟨rfl,_,rfl,.inr ⟨_,.inr ⟨_,e⟩⟩⟩)),(show _=am (k.is (.dv ks l)) by rw [(qG K).2.2 k];cases k <;> rfl),q1 _ H1 g1 s1 (.bl _)⟩
  | @cl p vs l e r=>exact⟨_,_,_,_,rfl,.inr (.inr (.inl ⟨rfl,_,_,rfl,e.sq⟩)),(show _=am (k.is (.cl l)) by rw [(qG K).2.1 k];cases k <;> rfl),q1 _ H1 g1 s1 (.bl _)⟩
  | @tup p vs l e r=>exact⟨_,_,_,_,rfl,.inr (.inl ⟨rfl,_,_,rfl,d4.of e⟩),Rk K _ k,q1 _ H1 g1 s1 (.bl _)⟩) q⟩⟩
def Qj (l:List PV):PV->W (List PV)
 | .int k=>.ff (-(2 ^ 63)<=k/\k < 2 ^ 63/\l.length*k.toNat<=sizeLine) (.ret (Am k.toNat l).flatten)
 | _=>.fail
def Y5 (ha:LF X K fs a wl) (hb:EF X K fs b wb):LF X K fs (.BinOp a .Mult b pos) (.bind wl λl=>.bind wb λy=>Qj l y):=⟨PE.imp (Jg U5 ha.p hb.p) λσ H Q ⟨sr,q⟩=>⟨sr,wl.mono (λl q1 a vs H1 g1 s1 n e v=>⟨s1,wb.mono (λy q2 u2 H2 g2 s2 v2=>by
 cases v2 with
 | int k=>
  have no:=sr.noOwn n;have e2:=(g2.uO e no);have r2:=g2.L1 s1 v;refine⟨a,k,vs,rfl,rfl,e2,q2.1.1,q2.1.2.1,by rw [r2.length];exact q2.1.2.2,λp hp=>?_⟩;have sm:=iD hp (.lst (Am k.toNat vs).flatten);have gg:=g1.trans g2;exact q2.2 p _ _ (gg.trans (cP.same sm)) (s2.same sm) (gg.there p hp) aK (aD.tk sm.eL (r2.rep k.toNat))
 | _=>exact q2.elim) q1⟩) q⟩⟩
def part:PV->W (Option Int)
 | .int i=>.ret (am i)
 | _=>.fail
def Nb:OF X K fs bm (.ret bm):=⟨PO.imp Qv λσ H Q ⟨sr,q⟩=>q H .refl sr⟩
def Vg (h:EF X K fs e w):OF X K fs (am e) (.bind w part):=⟨PO.imp (Qu h.p) λσ H Q ⟨sr,q⟩=>⟨sr,w.mono (λx q1 u1 H1 g1 s1 v1=>by
 cases v1 with
 | int i=>exact⟨_,rfl,q1 H1 g1 s1⟩
 | _=>exact q1.elim) q⟩⟩
def pP (h:Gn X K fs e wl):∀σ H Q,fE K fs (.bind wl λl=>.ret (.bl (if neg then !l.isEmpty else l.isEmpty))) σ H Q->Uj (λx y H Q=>∃p q xs,x=.ref p/\y=.ref q/\cR K H p xs/\cR K H q []/\Q (.bl (if neg then !xs.isEmpty else xs.isEmpty)) H) (fQL K fs wl) (fL K fs (.ret [])) σ H Q:=λσ H Q ⟨sr,q⟩=>
 ⟨sr,wl.mono (λl q1 u1 H1 g1 s1 _ v1=>⟨s1,λa2 vs2 H2 g2 s2 n2 e2 r2=>by
  cases r2;obtain⟨a,vs,rfl,h1,r1⟩:=v1 H2 g2 s2;refine⟨a,a2,vs,rfl,rfl,h1,cR.of e2,?_⟩;rw [OL r1];exact q1 _ H2 (g1.trans g2) s2 (.bl _)⟩) q⟩
def S8:LF X K fs (.List [] pos) (.ret []):=Ta (n:=0) ai
theorem afi (hK:X.K=K) (hu:X.A.units+200 < o0) (h:Gn X K fs e wl) (hk:pc .Eq (.List [] p2)=false:=by rfl):EF X K fs (.Compare e [.Eq] [.List [] p2] pos) (.bind wl λl=>.ret (.bl l.isEmpty)):=⟨PE.imp (Ji (GV K hK ∅) h.p S8.p hk) (pP (neg:=false) h)⟩
theorem XT (hK:X.K=K) (hu:X.A.units+200 < o0) (h:Gn X K fs e wl) (hk:pc .NotEq (.List [] p2)=false:=by rfl):TF X K fs (.Compare e [.NotEq] [.List [] p2] pos) (.bind wl λl=>.ret (!l.isEmpty)):=⟨PT.imp (m9 (GU K hK ∅) h.p S8.p hk) λσ H Q q=>pP (neg:=true) h σ H _ (Z4 (w:=.bind wl λl=>.ret (.bl (!l.isEmpty))) σ H Q q)⟩
def md:List PV->W (List Int)
 | []=>.ret []
 | .int i::r=>.bind (md r) λl=>.ret (i::l)
 | _=>.fail
theorem fY:∀{l:List PV}{Q:List Int->Prop},(md l).run Q->∃ns:List Int,l=ns.map PV.int/\Q ns
 | [],Q,h=>⟨[],rfl,h⟩
 | .int b::r,Q,h=>by
  obtain⟨bs,e,q⟩:=fY (l:=r) h;exact⟨b::bs,by rw [e];rfl,q⟩
 | .aE::r,Q,h=>h.elim
 | .bl _::r,Q,h=>h.elim
 | .str _::r,Q,h=>h.elim
 | .tup _::r,Q,h=>h.elim
 | .ref _::r,Q,h=>h.elim
 | .ty _::r,Q,h=>h.elim
 | .cl _::r,Q,h=>h.elim
@[simp] theorem fZ:∀bs:List Int,md (bs.map PV.int)=.ret bs
 | []=>rfl
 | b::bs=>by
  show ap (md (bs.map PV.int)) _=_;rw [fZ bs];rfl
end
end
end FL
variable {k2:Nat}
namespace FL
section
open PySem PySem.Spec PyProof.Rows L2 PL
variable {K:Ab}
abbrev b2 (m:M2) (wa wb:W PV):W PV:=.bind wa λx=>.bind wb λy=>of2 m x y
abbrev t2 (m:M2) (wa wb:W PV):W Bool:=.bind wa λx=>.bind wb λy=>.bind (of2 m x y) asB
abbrev c1 (m:yA) (w:W PV):W PV:=.bind w λx=>oA m [x]
abbrev cG (wl:W (List PV)) (wb:W PV):W PV:=.bind wl λl=>.bind wb λy=>Th l y
abbrev Kf (a b:W Bool):W Bool:=.bind a λk=>if k=true then b else .ret false
abbrev tor (a b:W Bool):W Bool:=.bind a λk=>if k=true then .ret true else b
abbrev yI (a:W Bool):W Bool:=.bind a λk=>.ret (!k)
abbrev dQ {α:Type} (t:W Bool) (a b:W α):W α:=.bind t λk=>if k=true then a else b
section
variable {a c:ii}{rest:List sn}{S T T2:Type}{hd:S->bb}{s0:S}{w:W PV}{wt:PV->W T2}{cn:S->T2->bb}{k:S->W T}{out:T->End}{x:Bool}
def SF.pw {f:PV->S->W S} (hp:v4 (dL X.prog X.w) X.A X.env X.xe) (hc:X.calm=true) (hi:qv X K fs tg iter wl) (hl:hX fs (hd s0)) (hg:PG X tg (dZ i)) (hb:∀s p,SF X K false ((hd s).set i (am (.val p))) body (f p s) λs'=>.nc (hd s')) (hr:∀s,SF X K x (hd s) rest (k s) out) (hs:tJ X iter:=by intro _;rfl) :
  SF X K x fs (.For tg iter body [] pos::rest) (.bind wl λl=>.bind (cy l s0 f) k) out:=SF.for (wt:=.ret) (wb:=λp s=>f p s) hp hc hi hl (λs=>Tw hg) (λ_ _=>rfl) hb hr hs
def SF.Wb {wb:T2->S->W S} (hp:v4 (dL X.prog X.w) X.A X.env X.xe) (hc:X.calm=true) (hi:qv X K fs tg iter wl) (hl:hX fs (hd s0)) (hg:∀s,GF X K (hd s) tg is wt (cn s)) (hb:∀s t,SF X K false (cn s t) body (wb t s) λs'=>.nc (hd s')) (hr:∀s,SF X K x (hd s) rest (k s) out) (hs:tJ X iter:=by intro _;rfl) :
  SF X K x fs (.For tg iter body [] pos::rest) (.bind wl λl=>.bind (cy l s0 λp s=>.bind (wt p) λt=>wb t s) k) out:=SF.for hp hc hi hl hg (λ_ _=>rfl) hb hr hs
def SF.Ol {inj:R->T}{f:PV->S->W (Lp S R)} (hp:v4 (dL X.prog X.w) X.A X.env X.xe) (hc:X.calm=true) (hi:qv X K fs tg iter wl) (hl:hX fs (hd s0)) (hg:PG X tg (dZ i)) (ho:∀t,(out (inj t)).NT) (hb:∀s p,SF X K false ((hd s).set i (am (.val p))) body (f p s) (lpE hd λr=>out (inj r))) (hr:∀s,SF X K x (hd s) rest (k s) out) (hs:tJ X iter:=by intro _;rfl) :
  SF X K x fs (.For tg iter body [] pos::rest) (.bind wl λl=>.bind (FL.lL l s0 f) (Lb k inj)) out:=SF.lL (wt:=.ret) (wb:=λp s=>f p s) hp hc hi hl (λs=>Tw hg) (λ_ _=>rfl) ho hb hr hs
def SF.Mp {fs3:T2->bb}{k:T2->W T} (he:EF X K fs e we) (hg:GF X K fs tg is wt fs3) (hr:∀t,SF X K x (fs3 t) rest (k t) out) (hs:BT [tg] e pos.line X.env=pure false:=by rfl) (hw:Ch [tg] e X.env=pure bm:=by rfl)
  (h1:(wE [tg] X.env).map (·.2)=[Da tg X.env]:=by rfl):SF X K x fs (.Assign [tg] e pos::rest) (.bind we λv=>.bind (wt v) k) out:=SF.step (MU he.p hg.p hs hw h1) λD σ H ⟨sr,q⟩=>
 ⟨sr,we.mono (λv q1 u H1 g1 s1 v1=>⟨v,s1,v1,(wt v).mono (λt q2 us g2 s2=>⟨_,k t,hr t,s2,(k t).mono (λt' q3=>q3.go (g1.f.trans g2) sr s2) q2⟩) q1⟩) q⟩
def SF.par {UR:Pos}{kt:Nat}{k:PV->PV->W T} (hc:X.calm=true) (hN:X.N.Nodup) (hi:X.N[i]?=am y) (hj:X.N[j]?=am z) (ZC:i≠j) (hx:X.env.scope.names.lookup y=am .local) (hy:X.env.scope.names.lookup z=am .local)
  (ha:EF X K fs a wa) (hb:EF X K fs b wb) (hr:∀u v,SF X K x ((fs.set i (am (.val u))).set j (am (.val v))) rest (k u v) out)
  (hw:Ch [.Tuple [.Name y px,.Name z py] kt pt] (.Tuple [a,b] k2 UR) X.env=pure (am [y,z]):=by rfl) (hs:BT [.Tuple [.Name y px,.Name z py] kt pt] (.Tuple [a,b] k2 UR) pos.line X.env=pure false:=by rfl)
  (he:f8 [a,b] X.env=(false,kw a X.env)::f8 [b] X.env:=by rfl) (V2:gK X b []:=by rfl) :
  SF X K x fs (.Assign [.Tuple [.Name y px,.Name z py] kt pt] (.Tuple [a,b] k2 UR) pos::rest) (.bind wa λu=>.bind wb λv=>k u v) out:=
 SF.step (US hc hN hi hj ZC hx hy (aW ha.p (aW hb.p bV V2) he) hw hs) λD σ H ⟨sr,q⟩=>⟨sr,wa.mono (λu q1 u1 H1 g1 s1 v1=>⟨s1,wb.mono (λv q2 u2 H2 g2 s2 v2=>by
  have s3:=s2.fm (g2.vr s1 v1) i;have s4:=s3.fm v2 j;exact⟨_,_,rfl,_,k u v,hr u v,s4,(k u v).mono (λt q3=>q3.go (((g1.trans g2).f.trans (cD.fm s2 _ _ i)).trans (cD.fm s3 _ _ j)) sr s4) q2⟩) q1⟩) q⟩
def L7 (v:PV):W PV:=.ff (v.dat=true) (.ret v)
def uw (l:List PV):W (List PV):=.ff (sW l=true) (.ret l)
mutual
theorem VR.jx {ι:List ce}{H H':Hp} (t:∀p vs,H p=am (.tup vs)->H' p=am (.tup vs)):∀{v:V}{q:PV},VR K ι H v q->q.dat=true->VR K [] H' v q
 | _,_,.aE,_=>.aE
 | _,_,.bl b,_=>.bl b
 | _,_,.int i,_=>.int i
 | _,_,.str x,_=>.str x
 | _,_,.ty n,h=>by rw [PV.dat] at h;cases h
 | _,_,.tup e r,h=>.tup (t _ _ e) (aD.jx t r (by rw [PV.dat] at h;exact h))
 | _,_,.cl e r,h=>by rw [PV.dat] at h;cases h
 | _,_,.dk _ _ _,h=>by rw [PV.dat] at h;cases h
 | _,_,.dt _ _ _,h=>by rw [PV.dat] at h;cases h
 | _,_,.ref e,h=>by rw [PV.dat] at h;cases h
theorem aD.jx {ι:List ce}{H H':Hp} (t:∀p vs,H p=am (.tup vs)->H' p=am (.tup vs)):∀{v:List V}{q:List PV},aD K ι H v q->sW q=true->aD K [] H' v q
 | _,_,.nil,_=>.nil
 | _,_,.cons r s,h=>by
  rw [sW,AN] at h;exact .cons (VR.jx t r h.1) (aD.jx t s h.2)
end
def bor (I:Inv X Z σ H s) (sr:aR K H σ fs) (hs:fs[i]?=am (am t)) (hb:t.bw=true):∃a o ob,Inv X Z σ (upd H a (.cx ob o)) s/\aR K (upd H a (.cx ob o)) σ (fs.set i (am (.val t.bv)))/\
  ∀σ' s' H1,Inv X Z σ' H1 s'->cP σ (fs.set i (am (.val t.bv))) (upd H a (.cx ob o)) H1->aR K H1 σ (fs.set i (am (.val t.bv)))->Inv X Z σ' (upd H1 a o) s'/\cP σ fs H (upd H1 a o)/\aR K (upd H1 a o) σ fs/\(∀p vs,H1 p=am (.tup vs)->upd H1 a o p=am (.tup vs))/\∀p vs,p≠a->H1 p=am (.lst vs)->upd H1 a o p=am (.lst vs):=by
 have ho:=SL.O5 hb;obtain⟨u,e1,⟨v,e,_⟩ | ⟨a,e,oa⟩⟩:=sr.at' i _ hs
 ·subst e;cases hb
 subst e;obtain⟨ob,o,h1,n1,n2,I2,vr⟩:=ZS I oa hb;have h0:∀o u,X.H₀ a≠am (.cx o u):=λo u z=>by
  have:=I.base.sJ a o u z;rw [h1] at this;exact n2 _ _ (Option.some.inj this)
 refine⟨a,o,ob,I2,sr.ZR hs ho e1 h1 n1 n2 vr,λσ' s' H1 J g s1=>?_⟩;have pf:∀φ b,hV σ (fs.set i (am (.val t.bv))) φ b->hV σ fs φ b:=λφ b ⟨j,z1,z3⟩=>by
  rcases cL z1 with⟨_,z⟩ | ⟨n,z1⟩
  ·cases z
  ·exact⟨j,z1,z3⟩
 have npa:∀φ,¬hV σ fs φ a:=λφ ⟨j,z1,z3⟩=>by
  have:=sr.nd j i _ _ a a a z1 hs rfl ho z3 e1 (.inl rfl) (.inl rfl);subst this;rw [hs] at z1;cases z1;cases hb
 have e2:=g.keep a _ aK λφ p=>npa φ (pf φ a p);have hk:=N2 J.bp e2;have ge:cP σ fs H (upd H1 a o):=by
  refine⟨λb o z n=>?_,λb z=>?_⟩
  ·by_cases c:b=a
   ·subst c;rw [h1] at z;cases z;exact aK
   ·rw [av c];exact g.keep b o (by rw [av c];exact z) λφ p=>n φ (pf φ b p)
  ·by_cases c:b=a
   ·subst c;rw [aK] at z;cases z
   ·rw [av c] at z;have:=g.there b z;rw [av c] at this;exact this
 refine⟨J.ab8 e2 h0 (hk a _ aK) hk,ge,⟨sr.len,λj t z=>?_,sr.nd⟩,λp vs z=>?_,λp vs n z=>by rw [av n];exact z⟩
 ·obtain⟨u,k1,k2⟩:=sr.at' j t z;refine⟨u,k1,?_⟩;by_cases c:∃φ,t=.mP φ
  ·obtain⟨φ,rfl⟩:=c;have ji:j≠i:=λy=>by subst y;rw [hs] at z;cases z;cases hb
   rcases k2 with⟨v,y,_⟩ | ⟨b,rfl,_⟩
   ·cases y
   ·obtain⟨vs,y1,y2⟩:=s1.ownAt (t:=.mP φ) (i:=j) (by rw [aL ji];exact z) rfl k1;refine .inr ⟨b,rfl,vs,?_,y2⟩;rw [av (λy=>by subst y;exact npa φ ⟨j,z,k1⟩)];exact y1
  ·refine k2.mono (ge.d5 sr) (λx b o eb ow hb zz=>ge.keep b o zz λφ ⟨j',p1,p3⟩=>?_);subst eb;have:=sr.nd j j' t _ x b b z p1 ow rfl k1 p3 hb (.inl rfl);subst this;rw [z] at p1;cases p1;exact c ⟨φ,rfl⟩
 ·rw [av (λy=>by subst y;rw [e2] at z;cases z)];exact z
def aaf (i:Nat) (hs:fs[i]?=am (am t)) (h:EF X K (fs.set i (am (.val t.bv))) e w) (hb:t.bw=true:=by rfl):EF X K fs e (.bind w L7):=⟨λZ s σ H Q I ⟨sr,q⟩=>by
 obtain⟨a,o,ob,I2,s2,Ë⟩:=bor I sr hs hb;refine bZ (h.p Z s σ _ (λu H1=>∃v,cP σ (fs.set i (am (.val t.bv))) (upd H a (.cx ob o)) H1/\aR K H1 σ (fs.set i (am (.val t.bv)))/\VR K [] H1 u v/\v.dat=true/\∀u H',cP σ fs H H'->aR K H' σ fs->VR K [] H' u v->Q u H') I2 ⟨s2,w.mono (λv q1 u H1 g1 s1 v1=>⟨v,g1,s1,v1,q1.1,q1.2⟩) q⟩) λu s1 ⟨x,H1,I1,r1,v,g1,Qe,v1,d,q1⟩=>?_;obtain⟨I3,g3,s3,t3,_⟩:=Ë σ s1 H1 I1 g1 Qe;exact⟨x,_,I3,r1,q1 x _ g3 s3 (VR.jx t3 v1 d)⟩⟩
def Y7 (i:Nat) (hs:fs[i]?=am (am t)) (h:LF X K (fs.set i (am (.val t.bv))) e wl) (hb:t.bw=true:=by rfl):LF X K fs e (.bind wl uw):=⟨λZ s σ H Q I ⟨sr,q⟩=>by
 obtain⟨a,o,ob,I2,s2,Ë⟩:=bor I sr hs hb;refine bZ (h.p Z s σ _ (λu H1=>∃b vs l',u=.ref b/\cP σ (fs.set i (am (.val t.bv))) (upd H a (.cx ob o)) H1/\aR K H1 σ (fs.set i (am (.val t.bv)))/\upd H a (.cx ob o) b=bm/\H1 b=am (.lst vs)/\aD K [] H1 vs l'/\sW l'=true/\∀a vs H',cP σ fs H H'->aR K H' σ fs->H a=bm->H' a=am (.lst vs)->aD K [] H' vs l'->Q (.ref a) H') I2 ⟨s2,wl.mono (λl' q1 b vs H1 g1 s1 n e v1=>⟨b,vs,l',rfl,g1,s1,n,e,v1,q1.1,q1.2⟩) q⟩) λu s1 ⟨x,H1,I1,r1,b,vs,l',e,g1,Qe,n,eb,v1,d,q1⟩=>?_;subst e;obtain⟨I3,g3,s3,t3,k3⟩:=Ë σ s1 H1 I1 g1 Qe;have nb:b≠a:=λy=>by subst y;rw [aK] at n;cases n
 exact⟨_,_,I3,r1,q1 b vs _ g3 s3 (by rw [av nb] at n;exact n) (k3 b vs nb eb) (aD.jx t3 v1 d)⟩⟩
end
end
end FL
variable {G:List Int->Prop}
namespace FL
section
open PySem PySem.Spec PyProof.Rows L2 PL
variable {K:Ab}
def Ye (K:Ab) (m:List PV->List PV->W (PV×List PV)):Sp:=λvs H Q _=>∃a LK ws lo l,vs=.ref a::LK/\H a=am (.lst ws)/\aD K [] H ws lo/\aD K [] H LK l/\(m lo l).run λt=>∀u qU H',oj a H H'->(∀b,H' b=bm->H b=bm)->H' a=am (.lst qU)->aD K [] H' qU t.2->VR K [] H' u t.1->Q u H'
section
variable {st:sn}{f:ce}{N:List Str}
def O7 (a:ce) (lo l:List PV) (n:Nat):bb:=am (.ol (am a) lo)::(l.map λv=>am (SL.val v))++Am (n-1-l.length) bm
def aD.slot (r:aD K [] H vs l) {s:SL} (h:(l.map λv=>am (SL.val v))[i]?=am (am s)):∃u v,vs[i]?=am u/\s=.val v/\VR K [] H u v:=by
 rw [Aj] at h;cases e:l[i]? with
 | none=>rw [e] at h;cases h
 | some v=>
  rw [e] at h;obtain⟨u,h1,h2⟩:=r.get e;cases h;exact⟨u,v,h1,rfl,h2⟩
theorem fnO {m:List PV->SH (PV×List PV) n} (Fn:PK K x qual st f fd) (S:ao N ps (af st)) (hn:n+1=ps.length)
  (Á:∀(a:ce) (lo l:List PV),l.length=n->∀(bT:bn) (A:nn) (outer:List Env) (s:ci) (H:Hp) (E:XK),cB k (A.deeper (re qual (af st) s.heap.objs.size f bT))->SF (gL mm P w K mg base N qual (af st) f bT A outer s H E).uE K false (O7 a lo l N.length) (aX st) (cq n (m lo) l) λt=>.ro t.1 a t.2) :
  iU P w K mg base mm (k+1) f fd ps (Ye K λlo l=>cq n (m lo) l):=by
 refine Fn.ok S (λvs H Q E h=>?_) (λbT A outer s H vs Q E hr h=>?_)
 ·obtain⟨a,LK,ws,lo,l,rfl,_,_,r,q⟩:=h;rw [Ap,r.length,kU q];exact hn
 obtain⟨a,LK,ws,lo,l,rfl,ha,vL,r,q⟩:=h;have hl:=kU q;have hr2:=r.length;have RK:∀{i:Nat}{s:SL},(O7 a lo l N.length)[i]?=am (am s)->(i=0/\s=.ol (am a) lo)\/∃j u v,i=j+1/\LK[j]?=am u/\s=.val v/\VR K [] H u v:=λ{i s} e=>by
  unfold O7 at e;cases i with
  | zero=>simp at e;exact .inl ⟨rfl,e.symm⟩
  | succ j=>
   rw [B8,List.getElem?_cons_succ] at e;by_cases c:j < l.length
   ·rw [AL (by simpa using c)] at e;obtain⟨u,v,h1,h2,h3⟩:=aD.slot r e;exact .inr ⟨j,u,v,rfl,h1,h2,h3⟩
   ·rw [AU (by simpa using c),Bp] at e
    split at e <;> cases e
 have sr:aR K H (L2.start N (.ref a::LK)) (O7 a lo l N.length):=by
  refine⟨?_,λi s e=>?_,λi j s t x y b e1 e2 o1 o2 q1 q2 _ _=>?_⟩
  ·unfold L2.start O7;rw [Ah,Af,Bn,Ah,Ap,Ap,Af,Bn];omega
  ·rcases RK e with⟨rfl,rfl⟩ | ⟨j,u,v,rfl,h1,rfl,h3⟩
   ·exact⟨.ref a,kY rfl,.inr ⟨a,rfl,λb z=>Option.some.inj z,ws,ha,vL⟩⟩
   ·exact⟨u,kY (by simpa using h1),.inl ⟨v,rfl,h3⟩⟩
  ·rcases RK e1 with⟨rfl,rfl⟩ | ⟨j1,u,v,rfl,h1,rfl,h3⟩
   ·rcases RK e2 with⟨rfl,rfl⟩ | ⟨j1,u,v,rfl,h1,rfl,h3⟩
    ·rfl
    ·cases o2
   ·cases o1
 refine⟨_,(Á a lo l hl bT A outer s H E hr).p,sr,(cq n (m lo) l).mono (λt q1 u σ' bq H' g s' ho rv=>?_) q⟩;obtain⟨i,e⟩:=ho;obtain⟨u',e',r'⟩:=s'.at' i _ e;rcases r' with⟨v,z,_⟩ | ⟨b,rfl,hb,qU,h1,h2⟩
 ·cases z
 have hba:=hb a rfl;subst hba;refine q1 u qU H' (λc o nc e=>(g.keep c o e λz=>?_).1) g.there h1 h2 rv;obtain⟨j,t',x,z1,z2,z3,z4⟩:=z;rcases RK z1 with⟨rfl,rfl⟩ | ⟨j1,u,v,rfl,_,rfl,_⟩
 ·have:=uz z3;simp at this;rcases z4 with rfl | z4
  ·exact nc this.symm
  ·cases z4
 ·cases z2
def kS (G:List Int->Prop):List V->Prop:=λws=>∃ns:List Int,ws=ns.map V.int/\G ns
def UU {m:List PV->List PV->W (PV×List PV)}{mp:List PV->W PV} (F:iU P w K mg base mm k f fd ps (Ye K m)) (hm:∀ns l Q,G ns->(mp l).run Q->(m (ns.map PV.int) l).run λt=>Q t.1/\∃zh:List Int,t.2=zh.map PV.int/\G zh) :
  iU P w K mg base mm k f fd ps (gI K (.p (kS G)::Am n .v) mp):=F.imp λvs H Q E h=>by
 obtain⟨l,ha,q⟩:=h;cases ha with
 | @p a φ ws vs ks l e r t=>
  obtain⟨ns,rfl,hG⟩:=r;have tv:∀{n:Nat}{vs:List V}{l:List PV},iy K H vs (Am n .v) l->aD K [] H vs l:=by
   intro n
   induction n with
   | zero=>intro vs l h;cases h;exact .nil
   | succ n ih=>intro vs l h;cases h with | v r t=>exact .cons r (ih t)
  refine⟨a,vs,ns.map V.int,ns.map PV.int,l,rfl,e,nK _ _ ns,tv t,(m _ _).mono (λt q1 u qU H' sx hth e' r' rv=>?_) (hm ns l _ hG q)⟩;obtain⟨q1,zh,et,hG'⟩:=q1;rw [et] at r';have:=jo r';subst this;refine q1 u H' ⟨λb o eb nb=>sx b o (λz=>?_) eb,hth,λb φ p=>?_⟩ rv
  ·subst z;exact nb _ ⟨0,rfl,rfl⟩
  ·obtain⟨i,e1,e2⟩:=p;cases i with
   | zero=>simp at e1 e2;subst e1;subst e2;exact⟨_,e',zh,rfl,hG'⟩
   | succ i=>
    simp at e1;rw [Bp] at e1
    split at e1 <;> simp at e1
end
section
variable {Uq:List sn}{T:Type}{w:W T}{out:T->End}{x:Bool}
def YA (G:List Int->Prop) (l:List PV) (w:W T):W T:=.ff (∃ns:List Int,l=ns.map PV.int/\G ns) w
def SF.mP (i:Nat) (hs:fs[i]?=am (am (.ol bm l))) (hr:SF X K x (fs.set i (am (.mP (kS G)))) Uq w out):SF X K x fs Uq (YA G l w) out:=⟨λZ s σ H D I ⟨sr,q⟩=>by
 obtain⟨⟨ns,el,hG⟩,q⟩:=q;obtain⟨a,ws,e1,h1,r1⟩:=di sr hs;subst el;have:=jo r1;subst this;obtain⟨s2,g2⟩:=eN (t':=.mP (kS G)) sr hs rfl (by simp) e1 (λ_ _ _ z=>z:oj a H H) λtk=>⟨_,h1,ns,rfl,hG⟩;exact hr.p Z s σ H D I ⟨s2,w.mono (λt q2=>q2.go g2 sr s2) q⟩⟩
end
end
section
open PySem PySem.Spec PyProof.Rows L2 PL
variable {K:Ab}
abbrev aea (wa wb:W PV):W PV:=.bind wa λx=>Sn x wb
abbrev nS (wl:W (List PV)):W PV:=.bind wl λl=>.ret (.cl l)
abbrev Nt (t:W Bool) (w:W PV):W (Option PV):=.bind t λk=>if k=true then .bind w λv=>.ret (am v) else .ret bm
section
variable {c:ii}{W':W PV}{WL:W (List PV)}
def R3 (G:SI X.prog X.w X.K X.mg X.base x k ps (gI K ks m)) (hr:cB k' X.A) (hk:k<=k') (hg:Gl X x) (ha:AF X K fs (e::es) ks B) (hW:W'=B m) (nP:iW x:=by decide)
  (he:gK X e es:=by rfl) (dw:lH X pos es:=by rfl):EF X K fs (.Call (.Name x p) (e::es) [] pos) W':=hW▸Ww G hr hk hg ha nP he dw
def Rh {m:List PV->W (List PV)}{B:(List PV->W (List PV))->W (List PV)} (G:SI X.prog X.w X.K X.mg X.base x k ps (fi K ks m)) (hr:cB k' X.A) (hk:k<=k') (hg:Gl X x) (ha:AF X K fs (e::es) ks B) (hW:WL=B m) (nP:iW x:=by decide)
  (he:gK X e es:=by rfl) (dw:lH X pos es:=by rfl):LF X K fs (.Call (.Name x p) (e::es) [] pos) WL:=hW▸VA G hr hk hg ha nP he dw
def ay {x1} (h:AF X K fs es (Am n .v) B) (hW:W'=B λl=>.ret (.tup l)) (hn:n<=1000:=by decide):EF X K fs (.Tuple es x1 pos) W':=hW▸Z9 h hn
def aN {B:(List PV->W (List PV))->W (List PV)} (h:AF X K fs es (Am n .v) B) (hW:WL=B λl=>.ret l) (hn:n<=1000:=by decide):LF X K fs (.List es pos) WL:=hW▸Ta h hn
variable {T2:Type}{wt:PV->W T2}{cn:T2->bb}{tf:T2->W Bool}{te:T2->W PV}
def gw {f:PV->W PV} (hc:X.calm=true) (S:aw X.env.scope X.N sc N' ix) (hi:qv X K fs tg iter wl) (hg:∀cl C s2 H2 fp,PG (fg X sc N' cl C s2 H2 fp) tg (dZ i)) (he:∀cl C s2 H2 fp t,EF (fg X sc N' cl C s2 H2 fp) K ((bf ix fs).set i (am (.val t))) Ä (f t)) (h0:ix[i]?=am bm) (hs:tJ X iter:=by intro _;rfl) :
  LF X K fs (.ListComp Ä [⟨tg,iter,[],0⟩] sc pos) (.bind wl λl=>bz l f):=
 have h1:(bf ix fs)[i]?=am bm:=by unfold bf;rw [Aj,h0];rfl
 S9 hc S hi (λcl C s2 H2 fp=>Tw (hg cl C s2 H2 fp)) he (λ_=>rfl) (Nu h1) (λj hj=>by rw [AW] at hj;subst hj;exact h0) hs
def Nw {tf:PV->W Bool}{te:PV->W PV} (hc:X.calm=true) (S:aw X.env.scope X.N sc N' ix) (hi:qv X K fs tg iter wl) (hg:∀cl C s2 H2 fp,PG (fg X sc N' cl C s2 H2 fp) tg (dZ i)) (hf:∀cl C s2 H2 fp t,TF (fg X sc N' cl C s2 H2 fp) K ((bf ix fs).set i (am (.val t))) c (tf t)) (he:∀cl C s2 H2 fp t,EF (fg X sc N' cl C s2 H2 fp) K ((bf ix fs).set i (am (.val t))) Ä (te t)) (h0:ix[i]?=am bm) (hs:tJ X iter:=by intro _;rfl) :
  LF X K fs (.ListComp Ä [⟨tg,iter,[c],0⟩] sc pos) (.bind wl λl=>lY l λp=>Nt (tf p) (te p)):=
 have h1:(bf ix fs)[i]?=am bm:=by unfold bf;rw [Aj,h0];rfl
 Vy (wt:=.ret) (tf:=tf) (te:=te) hc S hi (λcl C s2 H2 fp=>Tw (hg cl C s2 H2 fp)) (λcl C s2 H2 fp t=>xu (hf cl C s2 H2 fp t)) he (λ_=>rfl) (Nu h1) (λj hj=>by rw [AW] at hj;subst hj;exact h0) hs
def Vw (hc:X.calm=true) (S:aw X.env.scope X.N sc N' ix) (hi:qv X K fs tg iter wl) (hg:∀cl C s2 H2 fp,GF (fg X sc N' cl C s2 H2 fp) K (bf ix fs) tg is wt cn) (he:∀cl C s2 H2 fp t,EF (fg X sc N' cl C s2 H2 fp) K (cn t) Ä (te t))
  (hl:qu is (bf ix fs) cn/\∀t,hX (cn t) (bf ix fs)) (ue:∀j∈is,ix[j]?=am bm) (hs:tJ X iter:=by intro _;rfl) :
  LF X K fs (.ListComp Ä [⟨tg,iter,[],0⟩] sc pos) (.bind wl λl=>bz l λp=>.bind (wt p) te):=S9 hc S hi hg he (λ_=>rfl) hl ue hs
def Y6 (hc:X.calm=true) (S:aw X.env.scope X.N sc N' ix) (hi:qv X K fs tg iter wl) (hg:∀cl C s2 H2 fp,GF (fg X sc N' cl C s2 H2 fp) K (bf ix fs) tg is wt cn) (hf:∀cl C s2 H2 fp t,TF (fg X sc N' cl C s2 H2 fp) K (cn t) c (tf t)) (he:∀cl C s2 H2 fp t,EF (fg X sc N' cl C s2 H2 fp) K (cn t) Ä (te t))
  (hl:qu is (bf ix fs) cn/\∀t,hX (cn t) (bf ix fs)) (ue:∀j∈is,ix[j]?=am bm) (hs:tJ X iter:=by intro _;rfl) :
  LF X K fs (.ListComp Ä [⟨tg,iter,[c],0⟩] sc pos) (.bind wl λl=>lY l λp=>.bind (wt p) λt=>Nt (tf t) (te t)):=Vy hc S hi hg (λcl C s2 H2 fp t=>xu (hf cl C s2 H2 fp t)) he (λ_=>rfl) hl ue hs
variable {rest:List sn}{T:Type}{out:T->End}{x0:Bool}{kk:List PV->W T}
def SF.Uv {tf:PV->W Bool}{te:PV->W PV} (hc:X.calm=true) (hN:X.N.Nodup) (wZ:X.N[i]?=am y) (hx:X.env.scope.names.lookup y=am .local) (S:aw X.env.scope X.N sc N' ix) (hi:qv X K fs tg iter wl) (hg:∀cl C s2 H2 fp,PG (fg X sc N' cl C s2 H2 fp) tg (dZ j)) (hf:∀cl C s2 H2 fp t,TF (fg X sc N' cl C s2 H2 fp) K ((bf ix fs).set j (am (.val t))) c (tf t)) (he:∀cl C s2 H2 fp t,EF (fg X sc N' cl C s2 H2 fp) K ((bf ix fs).set j (am (.val t))) Ä (te t)) (h0:ix[j]?=am bm) (hr:∀l,SF X K x0 (fs.set i (am (.ol bm l))) rest (kk l) out)
  (nM:im (.ListComp Ä [⟨tg,iter,[c],0⟩] sc pos) (am (.Name y px)) j9.line X.env=pure true:=by rfl) (hs:tJ X iter:=by intro _;rfl) :
  SF X K x0 fs (.Assign [.Name y px] (.ListComp Ä [⟨tg,iter,[c],0⟩] sc pos) j9::rest) (.bind (.bind wl λl=>lY l λp=>Nt (tf p) (te p)) kk) out:=
 have h1:(bf ix fs)[j]?=am bm:=by unfold bf;rw [Aj,h0];rfl
 SF.Mn (wt:=.ret) (tf:=tf) (te:=te) hc hN wZ hx S hi (λcl C s2 H2 fp=>Tw (hg cl C s2 H2 fp)) (λcl C s2 H2 fp t=>xu (hf cl C s2 H2 fp t)) he (λ_=>rfl) (Nu h1) (λm hj=>by rw [AW] at hj;subst hj;exact h0) hr nM hs
def Jw {wt:PV->W T2}{te:T2->W PV}:(λl=>bz l λp=>.bind (wt p) te)=λl=>lY l λp=>.bind (wt p) λt=>.bind (.ret true) λk=>if k=true then .bind (te t) λv=>.ret (am v) else .ret bm:=funext λl=>by
 rw [vZ];rfl
def SF.I0 (hc:X.calm=true) (hN:X.N.Nodup) (wZ:X.N[i]?=am y) (hx:X.env.scope.names.lookup y=am .local) (S:aw X.env.scope X.N sc N' ix) (hi:qv X K fs tg iter wl) (hg:∀cl C s2 H2 fp,GF (fg X sc N' cl C s2 H2 fp) K (bf ix fs) tg is wt cn) (he:∀cl C s2 H2 fp t,EF (fg X sc N' cl C s2 H2 fp) K (cn t) Ä (te t))
  (hl:qu is (bf ix fs) cn/\∀t,hX (cn t) (bf ix fs)) (ue:∀j∈is,ix[j]?=am bm) (hr:∀l,SF X K x0 (fs.set i (am (.ol bm l))) rest (kk l) out)
  (nM:im (.ListComp Ä [⟨tg,iter,[],0⟩] sc pos) (am (.Name y px)) j9.line X.env=pure true:=by rfl) (hs:tJ X iter:=by intro _;rfl) :
  SF X K x0 fs (.Assign [.Name y px] (.ListComp Ä [⟨tg,iter,[],0⟩] sc pos) j9::rest) (.bind (.bind wl λl=>bz l λp=>.bind (wt p) te) kk) out:=by
 rw [Jw];exact SF.Mn (tf:=λ_=>.ret true) hc hN wZ hx S hi hg (λ_ _ _ _ _ _=>HD) he (λp=>rfl) hl ue hr nM hs
def SF.mX {f:PV->W PV} (hc:X.calm=true) (hN:X.N.Nodup) (wZ:X.N[i]?=am y) (hx:X.env.scope.names.lookup y=am .local) (S:aw X.env.scope X.N sc N' ix) (hi:qv X K fs tg iter wl) (hg:∀cl C s2 H2 fp,PG (fg X sc N' cl C s2 H2 fp) tg (dZ j)) (he:∀cl C s2 H2 fp t,EF (fg X sc N' cl C s2 H2 fp) K ((bf ix fs).set j (am (.val t))) Ä (f t)) (h0:ix[j]?=am bm) (hr:∀l,SF X K x0 (fs.set i (am (.ol bm l))) rest (kk l) out)
  (nM:im (.ListComp Ä [⟨tg,iter,[],0⟩] sc pos) (am (.Name y px)) j9.line X.env=pure true:=by rfl) (hs:tJ X iter:=by intro _;rfl) :
  SF X K x0 fs (.Assign [.Name y px] (.ListComp Ä [⟨tg,iter,[],0⟩] sc pos) j9::rest) (.bind (.bind wl λl=>bz l f) kk) out:=
 have h1:(bf ix fs)[j]?=am bm:=by unfold bf;rw [Aj,h0];rfl
 SF.I0 (wt:=.ret) hc hN wZ hx S hi (λcl C s2 H2 fp=>Tw (hg cl C s2 H2 fp)) he (Nu h1) (λm hj=>by rw [AW] at hj;subst hj;exact h0) hr nM hs
def SF.Uu (hc:X.calm=true) (hN:X.N.Nodup) (wZ:X.N[i]?=am y) (hx:X.env.scope.names.lookup y=am .local) (S:aw X.env.scope X.N sc N' ix) (hi:qv X K fs tg iter wl) (hg:∀cl C s2 H2 fp,GF (fg X sc N' cl C s2 H2 fp) K (bf ix fs) tg is wt cn) (hf:∀cl C s2 H2 fp t,TF (fg X sc N' cl C s2 H2 fp) K (cn t) c (tf t)) (he:∀cl C s2 H2 fp t,EF (fg X sc N' cl C s2 H2 fp) K (cn t) Ä (te t))
  (hl:qu is (bf ix fs) cn/\∀t,hX (cn t) (bf ix fs)) (ue:∀j∈is,ix[j]?=am bm) (hr:∀l,SF X K x0 (fs.set i (am (.ol bm l))) rest (kk l) out)
  (nM:im (.ListComp Ä [⟨tg,iter,[c],0⟩] sc pos) (am (.Name y px)) j9.line X.env=pure true:=by rfl) (hs:tJ X iter:=by intro _;rfl) :
  SF X K x0 fs (.Assign [.Name y px] (.ListComp Ä [⟨tg,iter,[c],0⟩] sc pos) j9::rest) (.bind (.bind wl λl=>lY l λp=>.bind (wt p) λt=>Nt (tf t) (te t)) kk) out:=SF.Mn hc hN wZ hx S hi hg (λcl C s2 H2 fp t=>xu (hf cl C s2 H2 fp t)) he (λ_=>rfl) hl ue hr nM hs
end
def ZY {f:ce} (h:∀vs H Q E,¬sp vs H Q E):iU P w K mg base mm k f fd ps sp:=⟨λvs H Q E q=>(h _ _ _ _ q).elim,λA outer s H args us vs Q E _ _ _ _ q=>(h _ _ _ _ q).elim⟩
def Qa {m:SH (List PV) n} (h:∀l Q,l.length=n->¬(cq n m l).run Q):∀vs H Q E,¬fi K ks (cq n m) vs H Q E:=λvs H Q E ⟨l,_,q⟩=>h l _ (kU q) q
theorem a6 (hr:cB k A):A.units+200 < o0:=by have:=hr.un;omega
end
end FL
variable {m:List PL.PV}
namespace FL
section
open PySem PySem.Spec PyProof.Rows L2 PL
variable {K:Ab}
mutual
def PV.g8:PV->Bool
 | .tup l=>eV l
 | .cl l=>eV l
 | .ref _=>false
 | .ty _=>false
 | .dv _ _=>false
 | _=>true
def eV:List PV->Bool
 | []=>true
 | x::l=>PV.g8 x&&eV l
end
mutual
def PV.eW:PV->Nat
 | .tup l=>dE l+1
 | .cl l=>dE l+1
 | _=>0
def dE:List PV->Nat
 | []=>0
 | x::l=>max (PV.eW x) (dE l)
end
mutual
def iV:PV->PV->Bool
 | .aE,.aE=>true
 | .bl a,.bl b=>a==b
 | .bl a,.int b=>(if a then 1 else 0)==b
 | .int a,.bl b=>a==(if b then 1 else 0)
 | .int a,.int b=>a==b
 | .str a,.str b=>a==b
 | .tup l,.tup m=>fD l m
 | .cl l,.cl m=>fD l m
 | _,_=>false
def fD:List PV->List PV->Bool
 | [],[]=>true
 | x::l,y::m=>iV x y&&fD l m
 | _,_=>false
end
theorem sN:∀{l:List PV}{j:Nat}{x:PV},eV l=true->l[j]?=am x->PV.g8 x=true
 | [],_,_,_,e=>by simp at e
 | y::l,0,x,h,e=>by
  simp at e;subst e;rw [eV,AN] at h;exact h.1
 | y::l,j+1,x,h,e=>by
  rw [eV,AN] at h;exact sN h.2 (by simpa using e)
theorem uY:∀{l:List PV}{j:Nat}{x:PV},l[j]?=am x->PV.eW x<=dE l
 | [],_,_,e=>by simp at e
 | y::l,0,x,e=>by
  simp at e;subst e;rw [dE];omega
 | y::l,j+1,x,e=>by
  have:=uY (l:=l) (j:=j) (x:=x) (by simpa using e);rw [dE];omega
mutual
theorem Ou:∀(x:PV),PV.g8 x=true->iV x x=true
 | .aE,_=>by rw [iV]
 | .bl b,_=>by rw [iV];simp
 | .int i,_=>by rw [iV];simp
 | .str i,_=>by rw [iV];simp
 | .tup l,h=>by rw [iV];exact lx l (by rw [PV.g8] at h;exact h)
 | .cl l,h=>by rw [iV];exact lx l (by rw [PV.g8] at h;exact h)
 | .ref _,h=>by rw [PV.g8] at h;cases h
 | .ty _,h=>by rw [PV.g8] at h;cases h
 | .dv _ _,h=>by rw [PV.g8] at h;cases h
theorem lx:∀(l:List PV),eV l=true->fD l l=true
 | [],_=>by rw [fD]
 | x::l,h=>by
  rw [eV,AN] at h;rw [fD,Ou x h.1,lx l h.2];rfl
end
def OG (l m:List PV) (j:Nat):Bool:=match l[j]?,m[j]? with | some x,am y=>iV x y | _,_=>true
theorem nU:∀(l m:List PV),((AI (min l.length m.length)).all (OG l m)&&l.length==m.length)=fD l m
 | [],[]=>by rw [fD];rfl
 | [],_::_=>by
  rw [fD]
  ·simp
  ·intros;simp_all
  ·intros;simp_all
 | _::_,[]=>by
  rw [fD]
  ·simp
  ·intros;simp_all
  ·intros;simp_all
 | x::l,y::m=>by
  rw [fD,<- nU l m];have e:min (x::l).length (y::m).length=min l.length m.length+1:=by simp only [Ap];omega
  rw [e,List.range_succ_eq_map,List.all_cons,List.all_map];have e2:((x::l).length==(y::m).length)=(l.length==m.length):=by simp
  rw [e2,Bool.and_assoc];rfl
def Ot (h:l.length≠m.length):fD l m=false:=by
 rw [<- nU];have:(l.length==m.length)=false:=by simpa using h
 rw [this,D4]
section
mutual
theorem VR.Om (I:Inv X Z σ H s):∀{v:V}{x y:PV},VR X.K [] H v x->VR X.K [] H v y->x=y
 | _,_,_,.aE,h=>by cases h;rfl
 | _,_,_,.bl b,h=>by cases h;rfl
 | _,_,_,.int b,h=>by cases h;rfl
 | _,_,_,.str b,h=>by cases h;rfl
 | _,_,_,.ty b,h=>by cases h;rfl
 | _,_,_,.ref e,h=>by simp at e
 | _,_,_,.tup e r,h=>by
  cases h with
  | tup e' r'=>
   have ee:=I.kX (d4.of e) (d4.of e');subst ee;rw [aD.Om I r r']
  | ref e=>simp at e
  | cl e' r'=>
   obtain⟨aq,_,⟨o,n,h1,h2,_⟩,_⟩:=I.list e'.sq;obtain⟨its',_,⟨o',gB,qK,_⟩,_⟩:=I.tuple (d4.of e);rw [h1] at gB;cases gB;rw [h2] at qK;simp at qK
  | dk e' _ _=>rw [e] at e';cases e'
  | dt e' _ _=>rw [e] at e';cases e'
 | _,_,_,.dk e k r,h=>by
  cases h with
  | dk e' k' r'=>rw [e] at e';cases e';rw [k,k',aD.Om I r r']
  | dt e' _ _=>rw [e] at e';cases e'
  | ref e=>simp at e
  | tup e' _=>rw [e] at e';cases e'
  | cl e' r'=>
   obtain⟨aq,_,⟨o,n,h1,h2,_⟩,_⟩:=I.list e'.sq;obtain⟨_,_,vs,_,o',_,_,gB,qK,_⟩:=va I.bp (.inr ⟨_,e⟩);rw [h1] at gB;cases gB;have h3:=qK.1;rw [h2] at h3;simp at h3
 | _,_,_,.dt e k r,h=>by
  cases h with
  | dt e' k' r'=>rw [e] at e';cases e';rw [k,k',aD.Om I r r']
  | dk e' _ _=>rw [e] at e';cases e'
  | ref e=>simp at e
  | tup e' _=>rw [e] at e';cases e'
  | cl e' r'=>
   obtain⟨aq,_,⟨o,n,h1,h2,_⟩,_⟩:=I.list e'.sq;obtain⟨_,_,vs,_,o',_,_,gB,qK,_⟩:=u5 I.bp (.inr ⟨_,e⟩);rw [h1] at gB;cases gB;have h3:=qK.1;rw [h2] at h3;simp at h3
 | _,_,_,.cl e r,h=>by
  cases h with
  | dk e' _ _=>
   obtain⟨aq,_,⟨o,n,h1,h2,_⟩,_⟩:=I.list e.sq;obtain⟨_,_,vs,_,o',_,_,gB,qK,_⟩:=va I.bp (.inr ⟨_,e'⟩);rw [h1] at gB;cases gB;have h3:=qK.1;rw [h2] at h3;simp at h3
  | dt e' _ _=>
   obtain⟨aq,_,⟨o,n,h1,h2,_⟩,_⟩:=I.list e.sq;obtain⟨_,_,vs,_,o',_,_,gB,qK,_⟩:=u5 I.bp (.inr ⟨_,e'⟩);rw [h1] at gB;cases gB;have h3:=qK.1;rw [h2] at h3;simp at h3
  | cl e' r'=>
   obtain⟨aq,k,⟨o,n,h1,h2,h3,h4⟩,_⟩:=I.list e.sq;obtain⟨its',k',⟨o',n',gB,qK,Oc,V5⟩,_⟩:=I.list e'.sq;rw [h1] at gB;cases gB;rw [h4] at V5;have:aq=its':=by injection V5 with a b;simpa using a
   subst this;have ee:=Vals.inj k k';subst ee;rw [aD.Om I r r']
  | ref e=>simp at e
  | tup e' r'=>
   obtain⟨aq,_,⟨o,n,h1,h2,_⟩,_⟩:=I.list e.sq;obtain⟨its',_,⟨o',gB,qK,_⟩,_⟩:=I.tuple (d4.of e');rw [h1] at gB;cases gB;rw [h2] at qK;simp at qK
theorem aD.Om (I:Inv X Z σ H s):∀{v:List V}{x y:List PV},aD X.K [] H v x->aD X.K [] H v y->x=y
 | _,_,_,.nil,h=>by cases h;rfl
 | _,_,_,.cons r t,h=>by
  cases h with
  | cons r' t'=>rw [VR.Om I r r',aD.Om I t t']
end
structure Cmp (A:nn) (s:ci) (w w':bn) (b:Bool):Prop where
 rc:SeqAt.RcAt A s w w' b
 ne:SeqAt.RcNeAt A s w w' (!b)
 eq:Dc A s w w' b
def Z8 (I:Inv X Z σ H s) {ws:List V} (r:Vals vs aq) (r':Vals ws its') (r1:aD X.K [] H vs l) (r2:aD X.K [] H ws m)
  (ih:∀(j:Nat) (x y:PV) (v v':V) (w w':bn),l[j]?=am x->m[j]?=am y->VR X.K [] H v x->VR X.K [] H v' y->RelV v w->RelV v' w'->Dc A s w w' (iV x y)) :
  ∀j (g1:j < aq.toArray.size) (g2:j < its'.toArray.size),Dc A s aq.toArray[j] its'.toArray[j] (OG l m j):=λj g1 g2=>by
 have h1:j < aq.length:=by simpa using g1
 have h2:j < its'.length:=by simpa using g2
 have hl:j < l.length:=by rw [<- r1.length,r.length];exact h1
 have hm:j < m.length:=by rw [<- r2.length,r'.length];exact h2
 obtain⟨v,v1,v2⟩:=r1.get (Ad hl);obtain⟨v',XM,v2'⟩:=r2.get (Ad hm);obtain⟨u,u1,u2⟩:=r.get v1;obtain⟨u',u1',u2'⟩:=r'.get XM;rw [Ad h1] at u1;rw [Ad h2] at u1';cases u1;cases u1';unfold OG;rw [Ad hl,Ad hm];have:=ih j _ _ v v' _ _ (Ad hl) (Ad hm) v2 v2' u2 u2';simpa using this
inductive Sh (X:Cx) (H:Hp) (s:ci):PV->bn->Prop
 | aE:Sh X H s .aE .none
 | bl (b:Bool):Sh X H s (.bl b) (.bool b)
 | int (i:Int) (t:Tok):Sh X H s (.int i) (.int i t)
 | str (x:Str) (t:Tok):Sh X H s (.str x) (.str x t)
 | tup {p:ce}{vs:List V}{aq:List bn}{l:List PV} (e:VR X.K [] H (.ref p) (.tup l)) (k:Vals vs aq) (r:aD X.K [] H vs l) (h:s.heap.IsTuple p aq.toArray):Sh X H s (.tup l) (.ref p)
 | cl {p:ce}{vs:List V}{aq:List bn}{l:List PV} (e:VR X.K [] H (.ref p) (.cl l)) (k:Vals vs aq) (r:aD X.K [] H vs l) (h:s.heap.IsList p aq.toArray):Sh X H s (.cl l) (.ref p)
def Sh.of (I:Inv X Z σ H s) {v:V}{x:PV}{w:bn} (h:VR X.K [] H v x) (r:RelV v w) (d:PV.g8 x=true):Sh X H s x w:=by
 cases h with
 | ref e=>simp at e
 | aE=>cases r;exact .aE
 | bl a=>cases r;exact .bl a
 | int a=>obtain⟨t,rfl⟩:=r;exact .int a t
 | str a=>obtain⟨t,rfl⟩:=r;exact .str a t
 | tup e q=>
  cases r;obtain⟨aq,k,ht,_⟩:=I.tuple (d4.of e);exact .tup (.tup e q) k q ht
 | cl e q=>
  cases r;obtain⟨aq,k,pl,_⟩:=I.list e.sq;exact .cl (.cl e q) k q pl.isList
 | _=>rw [PV.g8] at d;cases d
set_option maxHeartbeats 8000000 in
theorem WC (hK:X.K=K) (I:Inv X Z σ H s):∀(n:Nat) (x y:PV) (A:nn) (v v':V) (w w':bn),PV.eW x<=n->PV.g8 x=true->PV.g8 y=true->VR K [] H v x->VR K [] H v' y->RelV v w->RelV v' w'->A.units+n+1 < o0->Cmp A s w w' (iV x y):=by
 subst hK;intro n
 induction n using EL with
 | ind n ih=>
 intro x y A v v' w w' hd dx dy hv hv' r1 r2 hu;have a:=Sh.of I hv r1 dx;have b:=Sh.of I hv' r2 dy;clear hv hv' r1 r2;have el:∀{l m:List PV}{vs ws:List V}{aq cH:List bn},eV l=true->eV m=true->dE l < n->Vals vs aq->Vals ws cH->aD X.K [] H vs l->aD X.K [] H ws m->aq.toArray.size=l.length/\cH.toArray.size=m.length/\∀j (g1:j < aq.toArray.size) (g2:j < cH.toArray.size),Dc A.in1 s aq.toArray[j] cH.toArray[j] (OG l m j):=λd1 d2 hd k1 k2 r r'=>⟨by rw [Ai,<- k1.length,r.length],by rw [Ai,<- k2.length,r'.length],Z8 I (A:=A.in1) k1 k2 r r' λj x y v v' w w' hx hy vx vy rx ry=>(ih _ hd x y A.in1 v v' w w' (uY hx) (sN d1 hx) (sN d2 hy) vx vy rx ry (by show A.units+1+_+1 < _;omega)).eq⟩;have fin:∀{pa pb:ce}{l m:List PV},(pa=pb->l=m)->eV l=true->SeqAt.RcAt A s (.ref pa) (.ref pb) (fD l m)->Dc A s (.ref pa) (.ref pb) (fD l m):=λ{pa pb l m} h d q=>by
  by_cases Oa:pa=pb
  ·rw [h Oa,lx _ (h Oa▸d),Oa];exact Fw _
  ·exact Fg Oa q
 cases a <;> cases b
 case tup.tup pa vs aq l e k r ht pb ws cH m e2 k2 r2 Hr=>
  rw [PV.eW] at hd;obtain⟨z1,z2,ie⟩:=el dx dy ∅ k k2 r r2;have q1:=Fi ht Hr (A:=A) ∅ ie;have q2:=SeqAt.RcNeAt.tuples ht Hr (A:=A) ∅ ie;rw [z1,z2,nU] at q1 q2;exact⟨q1,q2,fin (λz=>by subst z;have:=VR.Om I e e2;injection this) dx q1⟩
 case cl.cl pa vs aq l e k r ht pb ws cH m e2 k2 r2 Hr=>
  rw [PV.eW] at hd;obtain⟨z1,z2,ie⟩:=el dx dy ∅ k k2 r r2;by_cases hz:l.length=m.length
  ·have q1:=Fs ht Hr (by rw [z1,z2];exact hz) (A:=A) ∅ ie;have q2:=Ff ht Hr (by rw [z1,z2];exact hz) (A:=A) ∅ ie;have ef:(AI l.length).all (OG l m)=fD l m:=by rw [<- nU,hz,Nat.min_self,beq_self_eq_true,Bool.and_true]
   rw [z1,ef] at q1 q2;exact⟨q1,q2,fin (λz=>by subst z;have:=VR.Om I e e2;injection this) dx q1⟩
  ·have q1:=Ec (A:=A) ht Hr (by rw [z1,z2];simpa using hz) ∅;have q2:=DQ (A:=A) ht Hr (by rw [z1,z2];simpa using hz) ∅;have ef:=Ot hz;rw [<- ef] at q1;have q2:SeqAt.RcNeAt A s (.ref pa) (.ref pb) (!fD l m):=by rw [ef];exact q2
   exact⟨q1,q2,fin (λz=>by subst z;have:=VR.Om I e e2;injection this) dx q1⟩
 all_goals
  clear ih el fin;rw [iV] <;> try (intros;simp_all;done)
  refine⟨?_,?_,?_⟩ <;> (try simp only [Cv,E5]) <;> first | with_reducible exact .none_none | with_reducible exact .none_bool _ | with_reducible exact .none_int _ _ | with_reducible exact .none_str _ _ | with_reducible exact .none_tuple ‹_› ∅ | with_reducible exact .none_list ‹_› ∅ | with_reducible exact .bool_none _ | with_reducible exact .bool_str _ _ _ | with_reducible exact .bool_tuple _ ‹_› ∅ | with_reducible exact .bool_list _ ‹_› ∅ | with_reducible exact .int_none _ _ | with_reducible exact .int_str _ _ _ _ | with_reducible exact .int_tuple _ _ ‹_› ∅ | with_reducible exact .int_list _ _ ‹_› ∅ | with_reducible exact .str_none _ _ | with_reducible exact .str_bool _ _ _ | with_reducible exact .str_int _ _ _ _ | with_reducible exact .str_tuple _ _ ‹_› ∅ | with_reducible exact .str_list _ _ ‹_› ∅ | with_reducible exact .tuple_none ‹_› ∅ | with_reducible exact .tuple_bool _ ‹_› ∅ | with_reducible exact .tuple_int _ _ ‹_› ∅ | with_reducible exact .tuple_str _ _ ‹_› ∅ | with_reducible exact .tuple_list ‹_› ‹_› ∅ | with_reducible exact .list_none ‹_› ∅ | with_reducible exact .list_bool _ ‹_› ∅ | with_reducible exact .list_int _ _ ‹_› ∅ | with_reducible exact .list_str _ _ ‹_› ∅ | with_reducible exact .list_tuple ‹_› ‹_› ∅ | exact .same _ | exact .bool_bool _ _ | exact .bool_int _ _ _ | exact .int_bool _ _ _ | exact .int_int _ _ _ _ | exact .str_str _ _ _ _
end
end
section
open PySem PySem.Spec PyProof.Rows L2 PL
variable {K:Ab}
mutual
theorem VR.nt {ι:List ce}{H:Hp}:∀{v:V}{q:PV},VR K ι H v q->PV.g8 q=true->VR K [] H v q
 | _,_,.aE,_=>.aE
 | _,_,.bl b,_=>.bl b
 | _,_,.int i,_=>.int i
 | _,_,.str x,_=>.str x
 | _,_,.ty n,h=>by rw [PV.g8] at h;cases h
 | _,_,.dk _ _ _,h=>by rw [PV.g8] at h;cases h
 | _,_,.dt _ _ _,h=>by rw [PV.g8] at h;cases h
 | _,_,.tup e r,h=>.tup e (aD.nt r (by rw [PV.g8] at h;exact h))
 | _,_,.cl e r,h=>.cl e (aD.nt r (by rw [PV.g8] at h;exact h))
 | _,_,.ref e,h=>by rw [PV.g8] at h;cases h
theorem aD.nt {ι:List ce}{H:Hp}:∀{v:List V}{q:List PV},aD K ι H v q->eV q=true->aD K [] H v q
 | _,_,.nil,_=>.nil
 | _,_,.cons r s,h=>by
  rw [eV,AN] at h;exact .cons (VR.nt r h.1) (aD.nt s h.2)
end
def HF (x y:PV):Prop:=PV.g8 x=true/\PV.g8 y=true/\PV.eW x<=150
def kd:M2:=⟨λx y h Q=>HF x y/\Q (.bl (iV x y)) h,λf q=>⟨q.1,f _ _ q.2⟩⟩
def vV:M2:=⟨λx y h Q=>HF x y/\Q (.bl (!iV x y)) h,λf q=>⟨q.1,f _ _ q.2⟩⟩
def Qo (K:Ab) (neg:Bool):R2:=λu v H Q=>∃x y,VR K [] H u x/\VR K [] H v y/\HF x y/\Q (.bl (if neg then !iV x y else iV x y)) H
section
theorem Va (hK:X.K=K) (hu:X.A.units+200 < o0):iz X (lw .Eq) (Qo K false):=λZ s σ H u v w w' Q I r1 r2 ⟨x,y,h1,h2,⟨o1,o2,o3⟩,q⟩=>by
 exact EI (WC hK I 150 x y X.A u v w w' o3 o1 o2 h1 h2 r1 r2 ∅).rc ⟨.bl _,H,I,rfl,q⟩
theorem U7 (hK:X.K=K) (hu:X.A.units+200 < o0):iz X (lw .NotEq) (Qo K true):=λZ s σ H u v w w' Q I r1 r2 ⟨x,y,h1,h2,⟨o1,o2,o3⟩,q⟩=>by
 exact D9 (WC hK I 150 x y X.A u v w w' o3 o1 o2 h1 h2 r1 r2 ∅).ne ⟨.bl _,H,I,rfl,q⟩
def QZ:M2.Ok K (Qo K false) kd:=λ{ι H h u v x y Q} hr hu hv q=>⟨x,y,VR.nt hu q.1.1,VR.nt hv q.1.2.1,q.1,q.2 ι _ H (Go.refl _ _) hr (.bl _)⟩
def QW:M2.Ok K (Qo K true) vV:=λ{ι H h u v x y Q} hr hu hv q=>⟨x,y,VR.nt hu q.1.1,VR.nt hv q.1.2.1,q.1,q.2 ι _ H (Go.refl _ _) hr (.bl _)⟩
def kz (hK:X.K=K) (hu:X.A.units+200 < o0):JC X K .Eq b kd:=⟨⟨_,Va hK hu,QZ⟩,ko _⟩
def NM (hK:X.K=K) (hu:X.A.units+200 < o0):JC X K .NotEq b vV:=⟨⟨_,U7 hK hu,QW⟩,ko _⟩
end
end
end FL
variable {x:AZ}{b b1:Bool}{ys:Array AZ}{z i1 i2 a1 a2:BB}{k1:Nat}
namespace L2
open PySem PySem.Spec PyProof.Rows
def tE (b:Bool) (h:lf) (it a:ce) (k:Nat):Prop:=match b with
 | true=>h.IsListIter it a k
 | false=>h.IsTupleIter it a k
def iu (b:Bool) (h:lf) (a:ce) (xs:Array bn):Prop:=match b with
 | true=>h.IsList a xs
 | false=>h.IsTuple a xs
def tE.move (x:tE b h it a k) (g:∀o,h.get? it=am o->h'.get? it=am o):tE b h' it a k:=by
 cases b with
 | true=>obtain⟨o,e,p⟩:=(show h.IsListIter it a k from x);exact (show h'.IsListIter it a k from⟨o,g o e,p⟩)
 | false=>obtain⟨o,e,p⟩:=(show h.IsTupleIter it a k from x);exact (show h'.IsTupleIter it a k from⟨o,g o e,p⟩)
def iu.move (x:iu b h a xs) (g:∀o,h.get? a=am o->h'.get? a=am o):iu b h' a xs:=by
 cases b with
 | true=>obtain⟨o,e,p⟩:=(show h.IsList a xs from x);exact (show h'.IsList a xs from⟨o,g o e,p⟩)
 | false=>obtain⟨o,e,p⟩:=(show h.IsTuple a xs from x);exact (show h'.IsTuple a xs from⟨o,g o e,p⟩)
def tE.obj (x:tE b h it a k):∃o,h.get? it=am o/\∀v,o.data≠.cell v:=by
 cases b with
 | true=>obtain⟨o,e,_,d⟩:=(show h.IsListIter it a k from x);exact⟨o,e,λv z=>by rw [d] at z;cases z⟩
 | false=>obtain⟨o,e,_,d⟩:=(show h.IsTupleIter it a k from x);exact⟨o,e,λv z=>by rw [d] at z;cases z⟩
def iu.lt (x:iu b h a xs):a < h.objs.size:=by
 cases b with
 | true=>obtain⟨o,e,p⟩:=(show h.IsList a xs from x);exact Aq e
 | false=>obtain⟨o,e,p⟩:=(show h.IsTuple a xs from x);exact Aq e
section
def kq {t:ce} (h:tE b s.heap it t i) (ht:iu b s.heap t items) (hx:items[i]?=am x)
  (q:∀h':lf,tE b h' it t (i+1)->B6 it s.heap h'->Q x {s with heap:=h'}):db (dL prog w) A (Builtin.SmallTypes.nextOf (.ref it)) Q E s:=by
 cases b with
 | true=>exact wpAny_nextOf_list_item h ht hx λh' a b=>q h' a b
 | false=>exact gW h ht hx q
def rM {t:ce} (hA:A.handled=bm) (h:tE b s.heap it t i) (ht:iu b s.heap t items) (hx:items[i]?=bm)
  (q:∀(h':lf) (e:ce),Fv it s.heap h'->(∃o,h'.get? e=am o/\o.cls=.type "StopIteration")->E (.ref e) {s with heap:=h'}):db (dL prog w) A (Builtin.SmallTypes.nextOf (.ref it)) Q E s:=by
 cases b with
 | true=>exact wpAny_nextOf_list_end hA h ht hx λh' e a b=>q h' e a b
 | false=>exact iG hA h ht hx q
def K0:Bool->String
 | true=>"list_iterator"
 | false=>"tuple_iterator"
def uB (h:iu b s.heap a xs) (q:Q (.ref s.heap.objs.size) {s with heap:=s.heap.push {cls:=.type (K0 b),data:=.fields #[.ref a,.int 0 0]}}):db (dL prog w) A (pyIter (.ref a)) Q E s:=by
 cases b with
 | true=>exact CC h q
 | false=>exact DW h q
def IQ (e:h.get? it=am {cls:=.type (K0 b),data:=.fields #[.ref a,.int 0 0]}):tE b h it a 0:=by
 cases b with
 | true=>exact (show h.IsListIter it a 0 from⟨_,e,rfl,rfl⟩)
 | false=>exact (show h.IsTupleIter it a 0 from⟨_,e,rfl,rfl⟩)
end
structure jO (b1 b2:Bool) (h:lf) (z TI TO i1 i2 a1 a2:ce) (f0:bn) (k1 k2:Nat):Prop where
 zip:IsZip h z TI TO f0
 ti:IsPair h TI (.ref i1) (.ref i2)
 to:∃a b,IsPair h TO a b
 it1:tE b1 h i1 a1 k1
 it2:tE b2 h i2 a2 k2
def qR {E:bn->ci->Prop}{b2:Bool}{TI TO:ce}{y:bn} (hA:ZipApart z TI TO i1 i2 a1 a2)
  (hz:jO b1 b2 s.heap z TI TO i1 i2 a1 a2 .none k1 k2) (Tp:iu b1 s.heap a1 xs) (Hr:iu b2 s.heap a2 ys) (hx:xs[k1]?=am x) (hy:ys[k2]?=am y)
  (q:∀h':lf,jO b1 b2 h' z TI TO i1 i2 a1 a2 (t0 s.heap.objs.size) (k1+1) (k2+1)->IsPair h' s.heap.objs.size x y->(∀c o,c≠z->c≠TO->c≠i1->c≠i2->s.heap.get? c=am o->h'.get? c=am o)->Q (.ref s.heap.objs.size) {s with heap:=h'}) :
  db (dL prog w) A (ut.«zip.__next__» {pos:=[.ref z]}) (λfin s'=>∃v,fin=EY (Fx v)/\Q v s') E s:=by
 obtain⟨hz,RD,⟨ta,tb,Ď⟩,ú,Xf⟩:=hz;show db _ _ (field (.ref z) 2 >>= λr=>_) _ _ s;refine Aa (A4 hz rfl rfl ?_);refine Aa (A4 hz rfl rfl ?_);refine Aa (Br RD rfl ?_);refine Aa ?_;refine Aa (A4 hz rfl rfl ?_);refine Ae ?_;refine Aa (CY ?_);refine Aa (A4 hz rfl rfl ?_);show db _ _ (wf (.ref z) 0 .ellipsis >>= λr=>_) _ _ s;refine Aa (AV hz (show 0 < 5 by decide) λh1 z1 b1=>?_);show db _ _ ((forIn [(Ax i1,0),(Ax i2,1)] _ _) >>= λr=>_) _ _ _;refine Aa ?_;rw [BM];have uf:=b1.2;refine Aa ?_;refine Aa (Ee ?_);refine Aa (kq (ú.move λo e=>(uf _ hA.i1z).trans e) (Tp.move λo e=>(uf _ hA.l1z).trans e) hx λh2 j2 b2=>Ae ?_);have Od:∀b,b≠z->b≠i1->h2.get? b=s.heap.get? b:=λb n1 n2=>(b2.2 b n2).trans (uf b n1);have à:=(Od _ hA.TOz hA.TOi1).trans Ď;refine Aa (Br à rfl ?_);refine Aa (Dq à λh3 t3 b3=>?_);have Í:∀b,b≠z->b≠i1->b≠TO->h3.get? b=s.heap.get? b:=λb n1 n2 n3=>(b3.2 b n3).trans (Od b n1 n2);refine Aa (Cp (Ae ?_));show db _ _ (forIn [(Ax i2,1)] _ _) _ _ _;rw [BM];refine Aa ?_;refine Aa (Ee ?_);refine Aa (kq (Xf.move λo e=>(Í _ hA.i2z hA.i12.symm hA.TOi2.symm).trans e) (Hr.move λo e=>(Í _ hA.l2z hA.l2i1 hA.l2TO).trans e) hy λh4 j4 b4=>Ae ?_);have to4:=(b4.2 _ hA.TOi2).trans t3;refine Aa (Br to4 rfl ?_);refine Aa (Dq to4 λh5 t5 b5=>?_);have to5:=t5;refine Aa (Cp (Ae ?_));refine Ae ?_;refine Aa (Br to5 rfl ?_);have ă:=b5.1.trans (b4.1.trans (b3.1.trans (b2.1.trans b1.1)));refine Aa (CI ?_ (by show 2<=sizeLine;decide));have ZP:∀b,b≠z->b≠i1->b≠TO->b≠i2->h5.get? b=s.heap.get? b:=λb n1 n2 n3 n4=>(b5.2 b n3).trans ((b4.2 b n4).trans (Í b n1 n2 n3));have z5:h5.get? z=am {cls:=.type "zip",data:=.fields #[.ellipsis,.bool false,.bool false,.ref TI,.ref TO]}:=(b5.2 _ hA.TOz.symm).trans ((b4.2 _ hA.i2z.symm).trans ((b3.2 _ hA.TOz.symm).trans ((b2.2 _ hA.i1z.symm).trans z1)));have kp:∀b o,h5.get? b=am o->(h5.push {cls:=.type "tuple",data:=.seq #[x,y]}).get? b=am o:=λb o e=>Ag _ e;have acI:(h5.push {cls:=.type "tuple",data:=.seq #[x,y]}).get? h5.objs.size=am {cls:=.type "tuple",data:=.seq #[x,y]}:=Ao _ rfl;refine Aa ?_;show db _ _ (wf (.ref z) 0 (t0 h5.objs.size) >>= λ_=>wf (.ref z) 1 (.bool false)) _ _ _;refine Aa (AV (kp _ _ z5) (show 0 < 5 by decide) λh7 z7 b7=>?_);refine AV z7 (show 1 < 5 by decide) λh8 z8 b8=>?_;have Lc:∀b,b≠z->h8.get? b=(h5.push {cls:=.type "tuple",data:=.seq #[x,y]}).get? b:=λb n=>(b8.2 b n).trans (b7.2 b n);have nz:s.heap.objs.size≠z:=λe=>by have:=Aq hz;rw [<- e] at this;exact AQ _ this
 refine Ae ⟨.ref h5.objs.size,rfl,?_⟩;rw [ă];refine q h8 ⟨?_,?_,?_,?_,?_⟩ ?_ ?_
 ·rw [<- ă];exact z8
 ·rw [IsPair,Lc _ hA.TIz];exact kp _ _ ((ZP _ hA.TIz hA.TIi1 hA.TITO hA.TIi2).trans RD)
 ·exact⟨x,y,by rw [IsPair,Lc _ hA.TOz];exact kp _ _ to5⟩
 ·refine j2.move λo e=>?_;rw [Lc _ hA.i1z];exact kp _ _ ((b5.2 _ hA.TOi1.symm).trans ((b4.2 _ hA.i12).trans ((b3.2 _ hA.TOi1.symm).trans e)))
 ·refine j4.move λo e=>?_;rw [Lc _ hA.i2z];exact kp _ _ ((b5.2 _ hA.TOi2.symm).trans e)
 ·rw [IsPair,Lc _ nz,<- ă];exact acI
 ·intro c o n1 n2 n3 n4 e;rw [Lc _ n1];exact kp _ _ ((ZP _ n1 n3 n2 n4).trans e)
def tK {b2:Bool}{TI TO:ce}{Q:PySem.Fin->ci->Prop} (hh:A.handled=bm) (hA:ZipApart z TI TO i1 i2 a1 a2)
  (hz:jO b1 b2 s.heap z TI TO i1 i2 a1 a2 .none k1 k2) (Tp:iu b1 s.heap a1 xs) (Hr:iu b2 s.heap a2 ys) (hx:xs[k1]?=bm\/ys[k2]?=bm)
  (q:∀(h':lf) (e:ce),(∀c o,c≠z->c≠TO->c≠i1->c≠i2->s.heap.get? c=am o->h'.get? c=am o)->(∃o,h'.get? e=am o/\o.cls=.type "StopIteration")->E (.ref e) {s with heap:=h'}) :
  db (dL prog w) A (ut.«zip.__next__» {pos:=[.ref z]}) Q E s:=by
 obtain⟨hz,RD,⟨ta,tb,Ď⟩,ú,Xf⟩:=hz;show db _ _ (field (.ref z) 2 >>= λr=>_) _ _ s;refine Aa (A4 hz rfl rfl ?_);refine Aa (A4 hz rfl rfl ?_);refine Aa (Br RD rfl ?_);refine Aa ?_;refine Aa (A4 hz rfl rfl ?_);refine Ae ?_;refine Aa (CY ?_);refine Aa (A4 hz rfl rfl ?_);show db _ _ (wf (.ref z) 0 .ellipsis >>= λr=>_) _ _ s;refine Aa (AV hz (show 0 < 5 by decide) λh1 z1 b1'=>?_);show db _ _ ((forIn [(Ax i1,0),(Ax i2,1)] _ _) >>= λr=>_) _ _ _;refine Aa ?_;rw [BM];have uf:=b1'.2;refine Aa ?_;refine Aa (Ee ?_);have fin:∀{h2:lf}{e:ce},h2.get? z=am {cls:=.type "zip",data:=.fields #[.ellipsis,.bool false,.bool false,.ref TI,.ref TO]}->(∃o,h2.get? e=am o/\o.cls=.type "StopIteration")->(∀c o,c≠z->c≠TO->c≠i1->c≠i2->s.heap.get? c=am o->h2.get? c=am o)->db (dL prog w) A (wf (.ref z) 0 .none) (λ_ s'=>E (.ref e) s') (λ_ _=>True) {s with heap:=h2}:=λ{h2 e} z2 ex k=>by
  refine AV z2 (show 0 < 5 by decide) λh3 z3 b3=>?_;refine q h3 e (λc o n1 n2 n3 n4 ec=>?_) ?_
  ·rw [b3.2 _ n1];exact k c o n1 n2 n3 n4 ec
  ·obtain⟨o,eo,hc⟩:=ex;by_cases he:e=z
   ·subst he;rw [z2] at eo;cases eo;exact absurd (show BP "zip"=BP "StopIteration" from hc) ⋯
   ·exact⟨o,(b3.2 _ he).trans eo,hc⟩
 cases hx1:xs[k1]? with
 | none=>
  refine Aa (rM hh (ú.move λo e=>(uf _ hA.i1z).trans e) (Tp.move λo e=>(uf _ hA.l1z).trans e) hx1 λh2 e k ex=>?_);have z2:h2.get? z=am {cls:=.type "zip",data:=.fields #[.ellipsis,.bool false,.bool false,.ref TI,.ref TO]}:=k _ _ hA.i1z.symm z1;refine AV z2 (show 0 < 5 by decide) λh3 z3 b3=>?_;refine q h3 e (λc o n1 n2 n3 n4 ec=>?_) ?_
  ·rw [b3.2 _ n1];exact k _ _ n3 ((uf _ n1).trans ec)
  ·obtain⟨o,eo,hc⟩:=ex;by_cases he:e=z
   ·subst he;rw [z2] at eo;cases eo;exact absurd (show BP "zip"=BP "StopIteration" from hc) ⋯
   ·exact⟨o,(b3.2 _ he).trans eo,hc⟩
 | some x=>
  have hy:ys[k2]?=bm:=by
   rcases hx with h | h
   ·rw [hx1] at h;cases h
   ·exact h
  refine Aa (kq (ú.move λo e=>(uf _ hA.i1z).trans e) (Tp.move λo e=>(uf _ hA.l1z).trans e) hx1 λh2 j2 b2'=>Ae ?_);have Od:∀b,b≠z->b≠i1->h2.get? b=s.heap.get? b:=λb n1 n2=>(b2'.2 b n2).trans (uf b n1);have à:=(Od _ hA.TOz hA.TOi1).trans Ď;refine Aa (Br à rfl ?_);refine Aa (Dq à λh3 t3 b3=>?_);have Í:∀b,b≠z->b≠i1->b≠TO->h3.get? b=s.heap.get? b:=λb n1 n2 n3=>(b3.2 b n3).trans (Od b n1 n2);refine Aa (Cp (Ae ?_));refine Aa ?_;refine Aa (Ee ?_);show db _ _ (Builtin.SmallTypes.nextOf (.ref i2) >>= λv=>pure (am v)) _ _ _;refine Aa (rM hh (Xf.move λo e=>(Í _ hA.i2z hA.i12.symm hA.TOi2.symm).trans e) (Hr.move λo e=>(Í _ hA.l2z hA.l2i1 hA.l2TO).trans e) hy λh4 e k ex=>?_);have z4:h4.get? z=am {cls:=.type "zip",data:=.fields #[.ellipsis,.bool false,.bool false,.ref TI,.ref TO]}:=k _ _ hA.i2z.symm ((b3.2 _ hA.TOz.symm).trans ((b2'.2 _ hA.i1z.symm).trans z1));refine AV z4 (show 0 < 5 by decide) λh5 z5 b5=>?_;refine q h5 e (λc o n1 n2 n3 n4 ec=>?_) ?_
  ·rw [b5.2 _ n1];exact k _ _ n4 ((Í _ n1 n3 n2).trans ec)
  ·obtain⟨o,eo,hc⟩:=ex;by_cases he:e=z
   ·subst he;rw [z4] at eo;cases eo;exact absurd (show BP "zip"=BP "StopIteration" from hc) ⋯
   ·exact⟨o,(b5.2 _ he).trans eo,hc⟩
def oM {b2:Bool}{TI TO:ce}{y:bn}{Q:Option bn->ci->Prop} (hA:ZipApart z TI TO i1 i2 a1 a2)
  (hz:jO b1 b2 s.heap z TI TO i1 i2 a1 a2 .none k1 k2) (Tp:iu b1 s.heap a1 xs) (Hr:iu b2 s.heap a2 ys) (hx:xs[k1]?=am x) (hy:ys[k2]?=am y)
  (q:∀h':lf,jO b1 b2 h' z TI TO i1 i2 a1 a2 (t0 s.heap.objs.size) (k1+1) (k2+1)->IsPair h' s.heap.objs.size x y->(∀c o,c≠z->c≠TO->c≠i1->c≠i2->s.heap.get? c=am o->h'.get? c=am o)->Q (am (.ref s.heap.objs.size)) {s with heap:=h'}) :
  db (dL prog w) A (pyNext (.ref z)) Q E s:=by
 have ty:s.TypeIs (.ref z) "zip":=⟨_,hz.zip,rfl⟩;refine Aa (CU (A5 ty Dw (Bm Dw ty F.entry_zip_next ?_ (F.args_zip_next_1 _))));exact qR hA hz Tp Hr hx hy λh' a b c=>Ae (q h' a b c)
def pY {b2:Bool}{TI TO:ce}{Q:Option bn->ci->Prop} (hh:A.handled=bm) (hA:ZipApart z TI TO i1 i2 a1 a2)
  (hz:jO b1 b2 s.heap z TI TO i1 i2 a1 a2 .none k1 k2) (Tp:iu b1 s.heap a1 xs) (Hr:iu b2 s.heap a2 ys) (hx:xs[k1]?=bm\/ys[k2]?=bm)
  (q:∀h':lf,(∀c o,c≠z->c≠TO->c≠i1->c≠i2->s.heap.get? c=am o->h'.get? c=am o)->Q bm {s with heap:=h'}) :
  db (dL prog w) A (pyNext (.ref z)) Q E s:=by
 have ty:s.TypeIs (.ref z) "zip":=⟨_,hz.zip,rfl⟩;refine Aa (CU (A5 ty Dw (Bm Dw ty F.entry_zip_next ?_ (F.args_zip_next_1 _))));refine tK (A:=A.in1) hh hA hz Tp Hr hx λh' e k ex=>?_;obtain⟨o,eo,hc⟩:=ex;refine Aa (Dg (T:="StopIteration") ⟨o,eo,hc⟩ isSubtype_stop ?_);exact Ae (q h' k)
def rQ (b1 b2:Bool) (a1 a2:ce) (xs ys:Array bn):Meets (ut.«zip.__new__» {pos:=[.type "zip",.ref a1,.ref a2]}) (λ_ R s=>iu b1 s.heap a1 xs/\iu b2 s.heap a2 ys/\
  ∀h':lf,jO b1 b2 h' (s.heap.objs.size+4) (s.heap.objs.size+2) (s.heap.objs.size+3) s.heap.objs.size (s.heap.objs.size+1) a1 a2 .none 0 0->(∀b o,s.heap.get? b=am o->h'.get? b=am o)->R (.ok (.ret (.ref (s.heap.objs.size+4)))) {s with heap:=h'}):=
 .of_wp λprog w A R s h=>by
  obtain⟨h1,h2,q⟩:=h;refine Aa ?_;refine Aa (Co (a:=true) rfl ?_);refine Aa (Co sub_zip ?_);refine Ae ?_;refine Aa ?_;refine Aa ?_;rw [BM];refine Aa ?_;refine Aa (Bl (uB h1 (Ae ?_)));have k1:∀b o,s.heap.get? b=am o->(s.heap.push {cls:=.type (K0 b1),data:=.fields #[.ref a1,.int 0 0]}).get? b=am o:=λb o e=>Ag _ e;have g1:(s.heap.push {cls:=.type (K0 b1),data:=.fields #[.ref a1,.int 0 0]}).get? s.heap.objs.size=am {cls:=.type (K0 b1),data:=.fields #[.ref a1,.int 0 0]}:=Ao _ rfl;have z1:(s.heap.push {cls:=.type (K0 b1),data:=.fields #[.ref a1,.int 0 0]}).objs.size=s.heap.objs.size+1:=Ck ..;generalize s.heap.push {cls:=.type (K0 b1),data:=.fields #[.ref a1,.int 0 0]}=wX at k1 g1 z1 ⊢;show db _ _ (forIn [Ax a2] _ _) _ _ _;rw [BM];refine Aa ?_;refine Aa (Bl (uB (xs:=ys) (h2.move λo e=>k1 _ _ e) (Ae ?_)));show db _ _ (forIn [] _ _) _ _ _;rw [List.forIn_nil];refine Ae (Ae ?_);have k2:∀b o,wX.get? b=am o->(wX.push {cls:=.type (K0 b2),data:=.fields #[.ref a2,.int 0 0]}).get? b=am o:=λb o e=>Ag _ e;have g2:(wX.push {cls:=.type (K0 b2),data:=.fields #[.ref a2,.int 0 0]}).get? wX.objs.size=am {cls:=.type (K0 b2),data:=.fields #[.ref a2,.int 0 0]}:=Ao _ rfl;have z2:(wX.push {cls:=.type (K0 b2),data:=.fields #[.ref a2,.int 0 0]}).objs.size=wX.objs.size+1:=Ck ..;show db _ _ (newTuple [.ref s.heap.objs.size,.ref wX.objs.size] >>= λr=>_) _ _ {s with heap:=wX.push {cls:=.type (K0 b2),data:=.fields #[.ref a2,.int 0 0]}};generalize wX.push {cls:=.type (K0 b2),data:=.fields #[.ref a2,.int 0 0]}=wW at k2 g2 z2 ⊢;refine Aa (CI ?_ (by show 2<=sizeLine;decide));have k3:∀b o,wW.get? b=am o->(wW.push {cls:=.type "tuple",data:=.seq [Ax s.heap.objs.size,Ax wX.objs.size].toArray}).get? b=am o:=λb o e=>Ag _ e;have g3:(wW.push {cls:=.type "tuple",data:=.seq [Ax s.heap.objs.size,Ax wX.objs.size].toArray}).get? wW.objs.size=am {cls:=.type "tuple",data:=.seq #[.ref s.heap.objs.size,.ref wX.objs.size]}:=Ao _ rfl;have z3:(wW.push {cls:=.type "tuple",data:=.seq [Ax s.heap.objs.size,Ax wX.objs.size].toArray}).objs.size=wW.objs.size+1:=Ck ..;show db _ _ (newTuple [.none,.none] >>= λr=>_) _ _ {s with heap:=wW.push {cls:=.type "tuple",data:=.seq [Ax s.heap.objs.size,Ax wX.objs.size].toArray}};generalize wW.push {cls:=.type "tuple",data:=.seq [Ax s.heap.objs.size,Ax wX.objs.size].toArray}=K6 at k3 g3 z3 ⊢;refine Aa (CI ?_ (by show 2<=sizeLine;decide));have k4:∀b o,K6.get? b=am o->(K6.push {cls:=.type "tuple",data:=.seq [AM,AM].toArray}).get? b=am o:=λb o e=>Ag _ e;have g4:(K6.push {cls:=.type "tuple",data:=.seq [AM,AM].toArray}).get? K6.objs.size=am {cls:=.type "tuple",data:=.seq #[.none,.none]}:=Ao _ rfl;have z4:(K6.push {cls:=.type "tuple",data:=.seq [AM,AM].toArray}).objs.size=K6.objs.size+1:=Ck ..;show db _ _ (newObj (.type "zip") (.fields #[.none,.bool false,.bool false,.ref wW.objs.size,.ref K6.objs.size]) >>= λr=>_) _ _ {s with heap:=K6.push {cls:=.type "tuple",data:=.seq [AM,AM].toArray}};generalize K6.push {cls:=.type "tuple",data:=.seq [AM,AM].toArray}=Xb at k4 g4 z4 ⊢;refine Aa (A1 ?_ (by simp [sizeOk];decide));have k5:∀b o,Xb.get? b=am o->(Xb.push {cls:=.type "zip",data:=.fields #[.none,.bool false,.bool false,.ref wW.objs.size,.ref K6.objs.size]}).get? b=am o:=λb o e=>Ag _ e;have g5:(Xb.push {cls:=.type "zip",data:=.fields #[.none,.bool false,.bool false,.ref wW.objs.size,.ref K6.objs.size]}).get? Xb.objs.size=am {cls:=.type "zip",data:=.fields #[.none,.bool false,.bool false,.ref wW.objs.size,.ref K6.objs.size]}:=Ao _ rfl;have e1:=z1;have e2:wW.objs.size=s.heap.objs.size+2:=by rw [z2,e1]
  have e3:K6.objs.size=s.heap.objs.size+3:=by rw [z3,e2]
  have e4:Xb.objs.size=s.heap.objs.size+4:=by rw [z4,e3]
  refine Ae ⟨.ref Xb.objs.size,rfl,?_⟩;rw [e2,e3] at g5 k5 ⊢;rw [e4] at g5 ⊢;rw [e3] at g4;rw [e1,e2] at g3;rw [e1] at g2;refine q _ ⟨g5,k5 _ _ (k4 _ _ g3),⟨_,_,k5 _ _ g4⟩,IQ (k5 _ _ (k4 _ _ (k3 _ _ (k2 _ _ g1)))),IQ (k5 _ _ (k4 _ _ (k3 _ _ g2)))⟩ λb o e=>k5 _ _ (k4 _ _ (k3 _ _ (k2 _ _ (k1 _ _ e))))
def Lr {b2:Bool} (h1:iu b1 s.heap a1 xs) (h2:iu b2 s.heap a2 ys)
  (q:∀h':lf,jO b1 b2 h' (s.heap.objs.size+4) (s.heap.objs.size+2) (s.heap.objs.size+3) s.heap.objs.size (s.heap.objs.size+1) a1 a2 .none 0 0->(∀b o,s.heap.get? b=am o->h'.get? b=am o)->Q (.ref (s.heap.objs.size+4)) {s with heap:=h'}) :
  db (dL prog w) A (call (.type "zip") [.ref a1,.ref a2]) Q E s:=
 callType_new F.called_zip ⋯ (F.typeCall_zip_2 _ _) (F.newCall_zip_2 _ _) (λo=>F.args_object_init_3 o _ _) F.entry_zip_new (rQ b1 b2 a1 a2 xs ys) ⟨h1,h2,λh' z k=>⟨⟨_,z.zip,rfl⟩,q h' z k⟩⟩
def LP (b:Bool) (K:Ab) (H:Hp) (a:ce) (xs:List V):Prop:=match b with
 | true=>cR K H a xs
 | false=>d4 K H a xs
def Inv.W2 {xs:List V} (I:Inv X Z σ H s) (h:LP b X.K H a xs):∃aq:List bn,Vals xs aq/\iu b s.heap a aq.toArray/\xs.length<=sizeLine:=by
 cases b with
 | true=>obtain⟨aq,r,p,z⟩:=I.list (show cR X.K H a xs from h);exact⟨aq,r,p.isList,z⟩
 | false=>obtain⟨aq,r,p,z⟩:=I.tuple (show d4 X.K H a xs from h);exact⟨aq,r,p,z⟩
def Inv.IP {xs ys:List V} (I:Inv X Z σ H s) (h:LP b X.K H a xs) (h':LP b X.K H a ys):xs=ys:=by
 cases b with
 | true=>
  obtain⟨aq,k,⟨o,n,h1,h2,h3,h4⟩,_⟩:=I.list (show cR X.K H a xs from h);obtain⟨its',k',⟨o',n',gB,qK,Oc,V5⟩,_⟩:=I.list (show cR X.K H a ys from h');rw [h1] at gB;cases gB;rw [h4] at V5;have:aq=its':=by injection V5 with a b;simpa using a
  subst this;exact Vals.inj k k'
 | false=>exact I.kX h h'
def aax (b1 b2:Bool) (K:Ab) (a1 a2:ce):It where
 go:=λi H=>∃xs ys x y,LP b1 K H a1 xs/\LP b2 K H a2 ys/\xs[i]?=am x/\ys[i]?=am y
 SK:=λi H v H'=>∃p x y,v=.ref p/\H p=bm/\H'=upd H p (.tup [x,y])/\(∀xs,LP b1 K H a1 xs->xs[i]?=am x)/\∀ys,LP b2 K H a2 ys->ys[i]?=am y
 stop:=λi H=>∃xs ys,LP b1 K H a1 xs/\LP b2 K H a2 ys/\(xs.length<=i\/ys.length<=i)
theorem Kb {K:Ab}{b2:Bool}{kk:Nat}{TI TO:ce} (hA:ZipApart z TI TO i1 i2 a1 a2):Turn P w K (.Tuple Î kk pos) (aax b1 b2 K a1 a2) [z,TI,TO,i1,i2] z (λi h=>jO b1 b2 h z TI TO i1 i2 a1 a2 .none i i) where
 mem:=by simp
 obj:=λi h st b hb=>by
  simp only [Aw,Bt,or_false] at hb;rcases hb with rfl | rfl | rfl | rfl | rfl
  ·exact⟨_,st.zip,λv z=>by cases z⟩
  ·exact⟨_,st.ti,λv z=>by cases z⟩
  ·obtain⟨_,_,e⟩:=st.to;exact⟨_,e,λv z=>by cases z⟩
  ·exact st.it1.obj
  ·exact st.it2.obj
 keep:=λi h h' st k=>⟨k z (by simp) _ st.zip,k TI (by simp) _ st.ti,let ⟨a,b,e⟩:=st.to;⟨a,b,k TO (by simp) _ e⟩,st.it1.move λo e=>k i1 (by simp) _ e,st.it2.move λo e=>k i2 (by simp) _ e⟩
 item:=by
  intro X hP hw hK hc i Z s σ H E I hf st hg;subst hP hw hK;obtain⟨xs,ys,x,y,hx,hy,gx,gy⟩:=hg;obtain⟨aq,rx,tx,_⟩:=I.W2 hx;obtain⟨cH,ry,ty,_⟩:=I.W2 hy;obtain⟨u,gu,ru⟩:=mS rx gx;obtain⟨v,gv,rv⟩:=mS ry gy;refine oM hA st tx ty (by simpa using gu) (by simpa using gv) λh' zt np k=>?_;refine⟨_,rfl,?_⟩;refine Aa (wpAny_load zt.zip ?_);show db _ _ (if ((["enumerate","zip","dict_itemiterator","dict_reverseitemiterator","odict_iterator","itertools.zip_longest","itertools.pairwise"].contains "zip"&&(am (t0 s.heap.objs.size)==am (t0 s.heap.objs.size)))=true) then (do rule "for.unpacks-the-owned-tuple";wf (.ref z) 0 .none) else pure ()) _ _ _;rw [if_pos (by rw [beq_self_eq_true];decide)];refine Aa (CY ?_);refine AV zt.zip (show 0 < 5 by decide) λh2 z2 b2=>?_;have lt:∀b∈[z,TI,TO,i1,i2],b < s.heap.objs.size:=λb hb=>by
   simp only [Aw,Bt,or_false] at hb;rcases hb with rfl | rfl | rfl | rfl | rfl
   ·exact Aq st.zip
   ·exact Aq st.ti
   ·obtain⟨_,_,e⟩:=st.to;exact Aq e
   ·obtain⟨o,e,_⟩:=st.it1.obj;exact Aq e
   ·obtain⟨o,e,_⟩:=st.it2.obj;exact Aq e
  have nz:s.heap.objs.size≠z:=λe=>AQ _ (by have:=lt z (by simp);rw [<- e] at this;exact this);have Zb:∀b o,b∉[z,TI,TO,i1,i2]->s.heap.get? b=am o->h2.get? b=am o:=λb o hb e=>by
   have K5:b≠z:=λq=>hb (by simp [q]);rw [b2.2 b K5];exact k b o K5 (λq=>hb (by simp [q])) (λq=>hb (by simp [q])) (λq=>hb (by simp [q])) e
  have YS:h2.get? s.heap.objs.size=am {cls:=.type "tuple",data:=.seq #[u,v]}:=(b2.2 _ nz).trans np;have ZF:=I.bp.fresh (An s.heap.objs.size);refine⟨.ref s.heap.objs.size,upd H s.heap.objs.size (.tup [x,y]),I.qZ (t':=s.toks) hf Zb (An _) ⟨by show 2<=sizeLine;decide,[u,v],.cons ru (.cons rv .nil),⟨_,YS,rfl,_,rfl⟩⟩,rfl,⟨_,x,y,rfl,ZF,rfl,λxs' h'=>?_,λys' h'=>?_⟩,⟨z2,(b2.2 _ hA.TIz).trans zt.ti,let ⟨p,q,e⟩:=zt.to;⟨p,q,(b2.2 _ hA.TOz).trans e⟩,zt.it1.move λo e=>(b2.2 _ hA.i1z).trans e,zt.it2.move λo e=>(b2.2 _ hA.i2z).trans e⟩,λb hb=>?_⟩
  ·rw [I.IP h' hx];exact gx
  ·rw [I.IP h' hy];exact gy
  ·rw [av (Az (lt b hb))];exact (hf b hb).1
 done:=by
  intro X hP hw hK hc i Z s σ H E I hf st hg;subst hP hw hK;obtain⟨xs,ys,hx,hy,hl⟩:=hg;obtain⟨aq,rx,tx,_⟩:=I.W2 hx;obtain⟨cH,ry,ty,_⟩:=I.W2 hy;have el:=rx.length;have el2:=ry.length;refine pY (I.ok.hd hc) hA st tx ty ?_ λh' k=>⟨rfl,I.vv (t':=s.toks) hf λb o hb e=>k b o (λz=>hb (by simp [z])) (λz=>hb (by simp [z])) (λz=>hb (by simp [z])) (λz=>hb (by simp [z])) e⟩;rcases hl with hl | hl
  ·exact .inl (by simp;omega)
  ·exact .inr (by simp;omega)
 self:=λA i s Q E st h=>wpAny_pyIter_zip st.zip h
def Zh (K:Ab) (t1 t2:TE):TI:=λσ H R=>t1 σ H λx H1=>t2 σ H1 λy H2=>∃b1 b2 a b,x=.ref a/\y=.ref b/\(∃xs,LP b1 K H2 a xs)/\(∃ys,LP b2 K H2 b ys)/\R (aax b1 b2 K a b) H2
def Qw (K:Ab) (hK:X.K=K) {e1 e2:ii}{t2:TE}{kk:Nat} (hg:Gl X "zip") (hm:X.mg "zip"=bm) (h1:PE X e1 t1) (h2:PE X e2 t2)
  (Gj:f8 [e1,e2] X.env=(false,kw e1 X.env)::f8 [e2] X.env:=by rfl) (qJ:gK X e2 []:=by rfl) (dw:(u8 p2 (f8 [e2] X.env)).any (·.1)=false:=by rfl) :
  PI X (.Tuple Î kk tp) (.Call (.Name "zip" p1) [e1,e2] [] p2) (Zh K t1 t2):=by
 subst hK;intro Z s σ H R I h;refine BC (ic I hg hm boot_zip ?_ ⋯ ⋯);refine Bd ?_ Gj dw;rw [Gj,qJ];refine Cb (bZ (h1 Z s σ H _ I h) λu1 s1 ⟨x,H1,I1,r1,q1⟩=>?_);refine Cb (bZ (h2 Z s1 σ H1 _ I1 q1) λu2 s2 ⟨y,H2,I2,r2,b1,b2,a,b,ex,ey,⟨xs,hx⟩,⟨ys,hy⟩,q⟩=>CA ?_);subst ex;subst ey;cases r1;cases r2;obtain⟨aq,rx,tx,_⟩:=I2.W2 hx;obtain⟨cH,ry,ty,_⟩:=I2.W2 hy;have l1:=tx.lt;have l2:=ty.lt;refine Lr tx ty λh' zt k=>?_;refine wpAny_pyIter_zip zt.zip ?_;have dd:∀i j:Nat,i≠j->s2.heap.objs.size+i≠s2.heap.objs.size+j:=λi j n e=>n (Nat.add_left_cancel e);have na:∀i:Nat,a≠s2.heap.objs.size+i:=λi=>Az (AE l1 (BD _ _));have nb:∀i:Nat,b≠s2.heap.objs.size+i:=λi=>Az (AE l2 (BD _ _));have hA:ZipApart (s2.heap.objs.size+4) (s2.heap.objs.size+2) (s2.heap.objs.size+3) s2.heap.objs.size (s2.heap.objs.size+1) a b:=
  ⟨dd 2 4 ⋯,dd 3 4 ⋯,dd 0 4 ⋯,dd 1 4 ⋯,dd 2 3 ⋯,dd 2 0 ⋯,dd 2 1 ⋯,dd 3 0 ⋯,dd 3 1 ⋯,dd 0 1 ⋯,na 4,na 3,na 0,na 1,nb 4,nb 3,nb 0,nb 1⟩
 refine⟨_,_,_,_,H2,rfl,I2.kept (t':=s2.toks) k,Kb hA,zt,λc hc=>?_,q⟩;have Û:s2.heap.objs.size<=c:=by
  simp only [Aw,Bt,or_false] at hc;rcases hc with rfl | rfl | rfl | rfl | rfl
  ·exact BD _ _
  ·exact BD _ _
  ·exact BD _ _
  ·exact An _
  ·exact BD _ _
 exact I2.xn Û (I2.bp.fresh Û)
def Yw (K:Ab):R2:=λx y H Q=>∃a b xs ys,x=.ref a/\y=.ref b/\d4 K H a xs/\d4 K H b ys/\xs.length+ys.length<=sizeLine/\
 (xs=[]->Q (.ref b) H)/\(xs≠[]->ys=[]->Q (.ref a) H)/\(xs≠[]->ys≠[]->lJ H (.tup (xs++ys)) Q)
def QP (K:Ab) (hK:X.K=K):iz X (r9 .Add) (Yw K):=by
 subst hK;intro Z s σ H x y v u Q I rx ry h;obtain⟨a,b,xs,ys,rfl,rfl,ha,hb,hz,q0,q1,q2⟩:=h;by_cases c:xs=[]
 ·cases rx;cases ry;obtain⟨aq,r1,p1,_⟩:=I.tuple ha;obtain⟨cH,r2,p2,_⟩:=I.tuple hb;obtain⟨⟨cls,dd,data,sl⟩,ho,hc,n,hd⟩:=id p1;obtain⟨⟨WD,R7,data2,Pr⟩,K7,N6,n2,Ò⟩:=id p2;simp only at hc hd N6 Ò;subst hc hd N6 Ò;exact concat_meets ⟨_,ho,rfl⟩ ⟨_,K7,rfl⟩ noFill_tuple_add seq_tuple_add C1 C0 (CS _ _)
   (tuple_addW0 a b aq.toArray cH.toArray n n2 dd R7 sl Pr (by rw [r1.je.mpr c];rfl)) ⟨ho,K7,.ref b,H,I,rfl,q0 c⟩
 ·exact Jl Z s σ H _ _ v u Q I rx ry ⟨a,b,xs,ys,rfl,rfl,ha,hb,c,hz,q1 c,λn p hp=>(q2 c n).at p hp⟩
end L2
namespace FL
section
open PySem PySem.Spec PyProof.Rows L2 PL
variable {K:Ab}
section
variable {a b:ii}
def addW:PV->PV->W PV
 | .int i,.int j=>.ret (.int (i+j))
 | .str a,.str b=>.ff (a.length+b.length<=sizeLine) (.ret (.str (a++b)))
 | .tup a,.tup b=>.ff (a.length+b.length<=sizeLine) (.ret (.tup (a++b)))
 | _,_=>.fail
def cJ (hK:X.K=K) (ha:EF X K fs a wa) (hb:EF X K fs b wb):EF X K fs (.BinOp a .Add b pos) (.bind wa λx=>.bind wb λy=>addW x y):=
 ⟨PE.imp (Jg ((QR K hK).or (QP K hK)) ha.p hb.p) λσ H Q ⟨sr,q⟩=>⟨sr,wa.mono (λx q1 u1 H1 g1 s1 v1=>⟨s1,wb.mono (λy q2 u2 H2 g2 s2 v2=>by
  have XM:=g2.vr s1 v1;cases XM with
  | int i=>
   cases v2 with
   | int j=>exact .inl ⟨_,rfl,q2 _ H2 (g1.trans g2) s2 (.int _)⟩
   | _=>exact q2.elim
  | str i=>
   cases v2 with
   | str j=>exact .inl ⟨_,rfl,q2.1,q2.2 _ H2 (g1.trans g2) s2 (.str _)⟩
   | _=>exact q2.elim
  | @tup p vs l e r=>
   cases v2 with
   | @tup p' LK l' e' r'=>
    refine .inr ⟨p,p',vs,LK,rfl,rfl,d4.of e,d4.of e',by rw [r.length,r'.length];exact q2.1,λz=>?_,λ_ z=>?_,λ_ _ q H3 s3 h3 n3=>?_⟩
    ·have z':=(PL.aD.je r).mp z;subst z';exact q2.2 _ H2 (g1.trans g2) s2 (.tup e' r')
    ·have z':=(PL.aD.je r').mp z;subst z';have q2:=q2.2;rw [Ct] at q2;exact q2 _ H2 (g1.trans g2) s2 (.tup e r)
    ·exact q2.2 _ H3 ((g1.trans g2).trans (cP.same s3)) (s2.same s3) (.tup h3 (aD.tk s3.eL (r.append r')))
   | _=>exact q2.elim
  | _=>exact q2.elim) q1⟩) q⟩⟩
theorem mR:∀(l m:List PV),(oB l m).length=min l.length m.length
 | [],m=>by rw [oB];simp;intros;simp_all
 | x::l,[]=>by rw [oB];simp;intros;simp_all
 | x::l,y::m=>by rw [oB,Ap,mR l m];simp only [Ap];omega
def J7 (l m:List PV):W (List PV):=.ff (l.length<=sizeLine) (.ret (oB l m))
def SQ (h:WU K H u l):∃(b:Bool) (a:ce) (vs:List V),u=.ref a/\aD K [] H vs l/\∀H',a9 K H H'->LP b K H' a vs:=by
 obtain⟨a,vs,e,h | h,r⟩:=h
 ·exact⟨true,a,vs,e,r,λH' t=>(t.f _ _ h).sq⟩
 ·exact⟨false,a,vs,e,r,λH' t=>d4.of (t.t _ _ h)⟩
theorem NS (hK:X.K=K) {kk:Nat} (hg:Gl X "zip") (hm:X.mg "zip"=bm) (ha:IF X K fs a wl) (hb:IF X K fs b wm)
  (Gj:f8 [a,b] X.env=(false,kw a X.env)::f8 [b] X.env:=by rfl) (qJ:gK X b []:=by rfl) (dw:(u8 p2 (f8 [b] X.env)).any (·.1)=false:=by rfl) :
  qv X K fs (.Tuple Î kk tp) (.Call (.Name "zip" p1) [a,b] [] p2) (.bind wl λl=>.bind wm λm=>J7 l m):=
 ⟨PI.imp (Qw K hK hg hm ha.p hb.p Gj qJ dw) λσ H R ⟨sr,q⟩=>⟨sr,wl.mono (λl q1 u1 H1 g1 s1 v1=>⟨s1,wm.mono (λm q2 u2 H2 g2 s2 v2=>by
  obtain⟨b1,a1,vs,rfl,r1,x1⟩:=SQ (v1.tk (g2.d5 s1));obtain⟨b2,a2,ws,rfl,r2,x2⟩:=SQ v2;have tr:a9 K H2 H2:=a9.refl H2;refine⟨b1,b2,a1,a2,rfl,rfl,⟨vs,x1 H2 tr⟩,⟨ws,x2 H2 tr⟩,q2.2 _ H2 (g1.trans g2) s2 ⟨by rw [mR];have:=q2.1;omega,λH' t=>⟨λi pp hp=>?_,vs,ws,x1 H' t,x2 H' t,?_⟩⟩⟩
  ·obtain⟨x,y,hx,hy,rfl⟩:=qS hp;obtain⟨v,h3,h4⟩:=(aD.tk t r1).get hx;obtain⟨v',Oc,V5⟩:=(aD.tk t r2).get hy;refine⟨⟨vs,ws,v,v',x1 H' t,x2 H' t,h3,Oc⟩,λz H3 yl=>?_⟩;obtain⟨p,x',y',rfl,hn,rfl,e1,e2⟩:=yl;have e1:=e1 vs (x1 H' t);have e2:=e2 ws (x2 H' t);rw [h3] at e1;rw [Oc] at e2;cases e1;cases e2;have sm:=iD hn (.tup [v,v']);exact⟨sm,.tup aK (.cons (VR.tk sm.eL h4) (.cons (VR.tk sm.eL V5) .nil))⟩
  ·rw [mR,r1.length,r2.length];omega) q1⟩) q⟩⟩
end
end
end FL
variable {vs:List AZ}
namespace L2
open PySem PySem.Spec PyProof.Rows
def agx:List Int->Int
 | []=>0
 | x::l=>l.foldl max x
def oU:List Int->Int
 | []=>0
 | x::l=>l.foldl min x
theorem xt (l:List Int) (x:Int):l.foldl min x<=x/\(∀y∈l,l.foldl min x<=y)/\(l.foldl min x=x\/l.foldl min x∈l):=by
 induction l generalizing x with
 | nil=>exact⟨Dv _,by simp,.inl rfl⟩
 | cons y l ih=>
  obtain⟨h1,h2,h3⟩:=ih (min x y);refine⟨by rw [CV];omega,λz hz=>?_,?_⟩
  ·rw [CV];rcases Aw.mp hz with rfl | hz
   ·omega
   ·exact h2 z hz
  ·rw [CV];rcases h3 with h3 | h3
   ·rw [h3];by_cases c:y<=x
    ·right;rw [Int.min_eq_right c];exact .head _
    ·left;omega
   ·exact .inr (.tail _ h3)
def vY {l:List Int}{x:Int} (h:x∈l):oU l<=x:=by
 cases l with
 | nil=>cases h
 | cons y l=>
  rcases Aw.mp h with rfl | h
  ·exact (xt l _).1
  ·exact (xt l y).2.1 x h
def rO {l:List Int} (h:l≠[]):oU l∈l:=by
 cases l with
 | nil=>exact absurd rfl h
 | cons y l=>
  rcases (xt l y).2.2 with e | e
  ·show l.foldl min y∈_;rw [e];exact .head _
  ·exact .tail _ e
def MD (K:Ab) (C:List Int->Prop) (g:List Int->Int):List V->Hp->VK->Prop:=λxs H Q=>∃(p:ce) (ns:List Int),xs=[.ref p]/\cR K H p (ns.map V.int)/\C ns/\Q (.int (g ns)) H
section
theorem Jv {xs:Array (Int×Tok)} (Gk:ns=xs.toList.map (·.1)) (RJ:ns≠[]):numAt xs (argBest (λi j=>decide (numAt xs i < numAt xs j)) (xs.size-1))=oU ns:=by
 have hsz:0 < xs.size:=by
  have h3:0 < ns.length:=Cj.mpr RJ;rw [Gk,Af,B4] at h3;exact h3
 obtain⟨h1,h2⟩:=argBest_lt (numAt xs) (xs.size-1);apply EO
 ·have hm:=rO RJ;rw [Gk] at hm;obtain⟨j,hj,ej⟩:=mem_getD hm;rw [Af,B4] at hj;rw [<- Gk] at ej;rw [<- ej,Gk,<- numAt_eq];exact h2 j ∅
 ·refine vY ?_;rw [Gk,numAt_eq];exact getD_mem (by rw [Af,B4];omega)
def KG {l:ce} (hh:A.handled=bm) (hl:s.heap.IsList l vs.toArray) (hi:tt vs ns) (RJ:ns≠[])
  (h:∀(h':lf) (t:Tok) tk,(∀b o,s.heap.get? b=am o->h'.get? b=am o)->Q (.int (oU ns) t) {s with heap:=h',toks:=tk}):db (dL prog w) A (call (.builtin "min") [.ref l]) Q E s:=by
 obtain⟨xs,e⟩:=hi.allInts.items;have Gk:ns=xs.toList.map (·.1):=by rw [<- hi.numsOf,<- nums_intItems,<- e]
 have hsz:0 < xs.size:=by
  have h3:0 < ns.length:=Cj.mpr RJ;rw [Gk,Af,B4] at h3;exact h3
 rw [e] at hl;refine min_intList hh hl hsz λv h' tk hv hk=>?_;obtain⟨t,rfl⟩:=intItems_at hv;rw [Jv Gk RJ];exact h h' t tk hk
def Kg {l:ce} (hh:A.handled=bm) (hl:s.heap.IsList l vs.toArray) (hi:tt vs ns)
  (h:∀(h':lf) (t:Tok) tk,(∀b o,s.heap.get? b=am o->h'.get? b=am o)->Q (.int ns.sum t) {s with heap:=h',toks:=tk}):db (dL prog w) A (call (.builtin "sum") [.ref l]) Q E s:=by
 obtain⟨xs,e⟩:=hi.allInts.items;have Gk:ns=xs.toList.map (·.1):=by rw [<- hi.numsOf,<- nums_intItems,<- e]
 rw [e] at hl;refine sum_intListG hh hl λh' tk t' hk=>?_;have:=h h' t' tk hk;rw [preSum_eq,Ex (by simp),<- Gk];exact this
end
def ve {b:String}{C:List Int->Prop}{g:List Int->Int} (K:Ab) (hK:X.K=K) (hc:X.calm=true)
  (Ù:∀{s:ci}{l:ce}{vs:List bn}{ns:List Int}{Q:bn->ci->Prop},X.A.handled=bm->s.heap.IsList l vs.toArray->tt vs ns->C ns->(∀(h':lf) (t:Tok) tk,(∀b o,s.heap.get? b=am o->h'.get? b=am o)->Q (.int (g ns) t) {s with heap:=h',toks:=tk})->db (dL X.prog X.w) X.A (call (.builtin b) [.ref l]) Q X.xe s):bE X (.builtin b) (MD K C g):=by
 subst hK;intro Z s σ H xs us Q I r h;obtain⟨p,ns,rfl,hq,hC,q⟩:=h;obtain⟨u,rfl,rx⟩:=vals1 r;cases rx;obtain⟨aq,r',pl,hz⟩:=I.list hq;exact Ù (I.ok.hd hc) pl.isList (intsAre_of r') hC λh' t tk hk=>⟨.int _,H,I.kept (t':=tk) hk,⟨t,rfl⟩,q⟩
end L2
variable {x:PL.PV}
namespace FL
section
open PySem PySem.Spec PyProof.Rows L2 PL
variable {K:Ab}
section
open Classical in
noncomputable def Lg (K:Ab) (H:Hp) (x:PV) (w:bn):Bool:=decide (∃p v,RelV v w/\VR K [] H v p/\iV p x=true)
open Classical in
def OH (hK:X.K=K) (I:Inv X Z σ H s) {x p:PV}{v:V}{w:bn} (r:RelV v w) (h:VR K [] H v p):Lg K H x w=iV p x:=by
 subst hK;cases e:iV p x with
 | true=>exact decide_eq_true ⟨p,v,r,h,e⟩
 | false=>
  refine decide_eq_false ?_;rintro⟨p',v',r',h',e'⟩;have:=Mv r r';subst this;rw [VR.Om I h h',e'] at e;cases e
theorem xA (hK:X.K=K) (I:Inv X Z σ H s):∀{vs:List V}{aq:List bn}{l:List PV},Vals vs aq->aD K [] H vs l->aq.map (Lg K H x)=l.map λy=>iV y x
 | _,_,_,.nil,.nil=>rfl
 | _,_,_,.cons r t,.cons q z=>by rw [Ar,Ar,OH hK I r q,xA hK I t z]
def RB (x:PV) (l:List PV):Prop:=PV.g8 x=true/\eV l=true/\dE l<=150
theorem sQ (hK:X.K=K) (I:Inv X Z σ H s) {v:V}{w:bn} (hx:VR K [] H v x) (rx:RelV v w) (dx:PV.g8 x=true) (hu:A.units+150+1 < o0) :
  ∀{vs:List V}{aq:List bn}{l:List PV},Vals vs aq->aD K [] H vs l->eV l=true->dE l<=150->∀u∈aq,Dc A s u w (Lg K H x u)
 | _,_,_,.nil,.nil,_,_,u,hu=>by cases hu
 | _,_,_,.cons r t,.cons q z,d,dd,u,hm=>by
  rw [eV,AN] at d;rw [dE] at dd;rcases Aw.mp hm with rfl | hm
  ·rw [OH hK I r q];exact (WC hK I 150 _ x A _ v _ w ∅ d.1 dx q hx r rx hu).eq
  ·exact sQ hK I hx rx dx hu t z d.2 ∅ u hm
end
def sD (x:PV) (l:List PV):Bool:=l.any λy=>iV y x
def UL (K:Ab) (neg:Bool):R2:=λx y H Q=>∃p vs l xp,y=.ref p/\(cR K H p vs\/d4 K H p vs)/\aD K [] H vs l/\VR K [] H x xp/\RB xp l/\Q (.bl (if neg then !sD xp l else sD xp l)) H
section
theorem any_map' (f:α->Bool):∀l:List α,l.any f=(l.map f).any id
 | []=>rfl
 | x::l=>by rw [Bw,Ar,Bw,any_map' f l];rfl
theorem M8 (K:Ab) (hK:X.K=K) (hu:X.A.units+200 < o0):iz X (lw .In) (UL K false):=by
 intro Z s σ H x y v u Q I rx ry h;obtain⟨p,vs,l,xp,rfl,hq,hl,hx,ok,q⟩:=h;cases ry;have Zq:X.A.in1.units+150+1 < o0:=by show X.A.units+1+150+1 < _;omega
 have fin:∀{aq:List bn},Vals vs aq->aq.toArray.any (Lg K H xp)=sD xp l:=λ{aq} r=>by
  rw [show aq.toArray.any (Lg K H xp)=aq.any (Lg K H xp) by simp,any_map',xA hK I r hl,<- any_map'];rfl
 rcases hq with hq | hq
 ·obtain⟨aq,r,pl,hz⟩:=I.list (show cR X.K H p vs by rw [hK];exact hq);refine SeqAt.in_listAt (Lg K H xp) pl.isList (λw hw=>sQ hK I hx rx ok.1 Zq r hl ok.2.1 ok.2.2 w (by simpa using hw)) ⟨.bl _,H,I,rfl,?_⟩;rw [fin r];exact q
 ·obtain⟨aq,r,pl,hz⟩:=I.tuple (show d4 X.K H p vs by rw [hK];exact hq);refine SeqAt.in_tupleAt (Lg K H xp) pl (λw hw=>sQ hK I hx rx ok.1 Zq r hl ok.2.1 ok.2.2 w (by simpa using hw)) ⟨.bl _,H,I,rfl,?_⟩;rw [fin r];exact q
theorem QM (K:Ab) (hK:X.K=K) (hu:X.A.units+200 < o0):iz X (lw .NotIn) (UL K true):=by
 intro Z s σ H x y v u Q I rx ry h;obtain⟨p,vs,l,xp,rfl,hq,hl,hx,ok,q⟩:=h;cases ry;have Zq:X.A.in1.units+150+1 < o0:=by show X.A.units+1+150+1 < _;omega
 have fin:∀{aq:List bn},Vals vs aq->aq.toArray.any (Lg K H xp)=sD xp l:=λ{aq} r=>by
  rw [show aq.toArray.any (Lg K H xp)=aq.any (Lg K H xp) by simp,any_map',xA hK I r hl,<- any_map'];rfl
 rcases hq with hq | hq
 ·obtain⟨aq,r,pl,hz⟩:=I.list (show cR X.K H p vs by rw [hK];exact hq);refine SeqAt.notIn_listAt (Lg K H xp) pl.isList (λw hw=>sQ hK I hx rx ok.1 Zq r hl ok.2.1 ok.2.2 w (by simpa using hw)) ⟨.bl _,H,I,rfl,?_⟩;rw [fin r];exact q
 ·obtain⟨aq,r,pl,hz⟩:=I.tuple (show d4 X.K H p vs by rw [hK];exact hq);refine SeqAt.notIn_tupleAt (Lg K H xp) pl (λw hw=>sQ hK I hx rx ok.1 Zq r hl ok.2.1 ok.2.2 w (by simpa using hw)) ⟨.bl _,H,I,rfl,?_⟩;rw [fin r];exact q
end
end
end FL
namespace L2
open PySem PySem.Spec PyProof.Rows
theorem yZ (xs:List bn):∀k≤xs.length,((AI k).filterMap λ(m:Nat)=>xs.toArray[(((xs.length:Int)-1)+(m:Int)*(-1)).toNat]?)=(xs.drop (xs.length-k)).reverse
 | 0,_=>by simp
 | k+1,h=>by
  have ih:=yZ xs k ∅;rw [List.range_succ,List.filterMap_append,ih];have e:(((xs.length:Int)-1)+(k:Int)*(-1)).toNat=xs.length-(k+1):=by omega
  have h1:xs.length-(k+1) < xs.length:=by omega
  simp only [A6,List.filterMap_nil,e];have e2:xs.toArray[xs.length-(k+1)]?=am xs[xs.length-(k+1)]:=by simp [h1]
  rw [e2];have e3:xs.drop (xs.length-(k+1))=xs[xs.length-(k+1)]::xs.drop (xs.length-k):=by
   rw [Bi h1];congr 2;omega
  rw [e3,CD]
section
variable {st:ii}{tl th ts:TO}{lo hi:Option ii}
def XZ (K:Ab) (te:TE) (tl th ts:TO):TE:=λσ H Q=>te σ H λx H1=>tl σ H1 λl H2=>th σ H2 λu H3=>ts σ H3 λs H4=>∃a xs,x=.ref a/\d4 K H4 a xs/\l=bm/\u=bm/\s=am (-1)/\lJ H4 (.tup xs.reverse) Q
theorem QC (K:Ab) (hK:X.K=K) (he:PE X e te) (hl:PO X lo tl) (hu:PO X hi th) (hs:PO X (am st) ts):PE X (.Subscript e (.Slice lo hi (am st) p2) pos) (XZ K te tl th ts):=by
 subst hK;intro Z s σ H Q I h;refine Subscript_ (bZ (he Z s σ H _ I h) λv s1 ⟨x,H1,I1,r1,q1⟩=>?_);refine wpAny_Slice (bZ (hl Z s1 σ H1 _ I1 q1) λvl s2 ⟨l,H2,I2,pl,q2⟩=>bZ (hu Z s2 σ H2 _ I2 q2) λvu s3 ⟨u,H3,I3,pu,q3⟩=>bZ (hs Z s3 σ H3 _ I3 q3) λvs s4 ⟨c,H4,I4,ps,a,xs,ea,hx,el,eu,ec,q⟩=>?_);subst ea;subst el;subst eu;subst ec;cases r1;cases pl;cases pu;cases ps with
 | int i t=>
 have I5:Inv X Z σ H4 {s4 with heap:=s4.heap.push {cls:=.type "slice",data:=.fields #[.none,.none,.int (-1) t]}}:=I4.kept (t':=s4.toks) λb ob q=>Ag _ q;obtain⟨aq,r,ht,hz⟩:=I5.tuple hx;have Â:=r.length;refine tail_any (ops:=[.ref a,.ref s4.heap.objs.size]) ht.typeIs Cg.lookup ?_ (by with_unfolding_all rfl);have hs:Heap.IsSliceOf {s4 with heap:=s4.heap.push {cls:=.type "slice",data:=.fields #[.none,.none,.int (-1) t]}}.heap s4.heap.objs.size .none .none (.int (-1) t):=Heap.IsSliceOf.new ..;generalize {s4 with heap:=s4.heap.push {cls:=.type "slice",data:=.fields #[.none,.none,.int (-1) t]}}=s5 at I5 ht hs;obtain⟨os,õ,hcs,ě⟩:=id hs;have hTs:s5.TypeIs (.ref s4.heap.objs.size) "slice":=⟨os,õ,hcs⟩;unfold getItem
 try with_reducible refine Bl ?_
 first | refine Aa (Ae ?_) | skip
 refine Aa (wpAny_sequenceKey ht.typeIs ⋯ ?_);refine Aa (A5 (name:=B5 "__getitem__") ht.typeIs Cg
  (Bm Cg ht.typeIs entry_tuple_getitem ?_ (args_tuple_getitem _ _)))
 show db _ _ (Builtin.Tuple.tupleItemsOf (.ref a) >>= _) _ _ s5;refine Aa (tupleItemsOf_ ht ?_);refine Aa (Et hTs ?_);rw [if_pos ⋯];have app:∀{Q:Int×Int×Nat->ci->Prop}{E:bn->ci->Prop}{A:nn} (n:Nat),Q ((n:Int)-1,-1,n) s5->db (dL X.prog X.w) A (Builtin.Slice.sliceApplied (.ref s4.heap.objs.size) (pure (n:Int))) Q E s5:=λ{Q E A} n hq=>by
  unfold Builtin.Slice.sliceApplied Builtin.Slice.sliceFields;refine Aa (Aa (A4 õ ě (x:=.none) rfl (Aa (A4 õ ě (x:=.none) rfl (Aa (A4 õ ě (x:=.int (-1) t) rfl (Ae ?_)))))));refine Aa (HT.mr (.int (-1) t) ?_);show db _ _ (if (((-1:Int))==0)=true then _ else _) _ _ s5;rw [if_neg ⋯];refine Aa (HT.mr .none (Aa (HT.mr .none (Aa (Ae ?_)))));show db _ _ (match Builtin.Slice.sliceAdjust bm bm (-1) (n:Int) with | (lo,hi)=>pure (lo,(-1:Int),Builtin.Slice.slicePlaces lo hi (-1))) _ _ s5;have e1:Builtin.Slice.sliceAdjust bm bm (-1) (n:Int)=((n:Int)-1,-1):=by unfold Builtin.Slice.sliceAdjust;simp
  rw [e1];have e2:Builtin.Slice.slicePlaces ((n:Int)-1) (-1) (-1)=n:=by
   unfold Builtin.Slice.slicePlaces;rw [if_neg ⋯];by_cases h0:(n:Int)-1 > -1
   ·rw [if_pos h0];show (((n:Int)-1 - -1-1) / 1+1).toNat=n;rw [Int.ediv_one];omega
   ·rw [if_neg h0];show (0:Int).toNat=n;omega
  show db _ _ (pure ((n:Int)-1,(-1:Int),Builtin.Slice.slicePlaces ((n:Int)-1) (-1) (-1))) _ _ s5;rw [e2];exact Ae hq
 refine Aa (app aq.toArray.size ?_);show db _ _ (if (((aq.toArray.size:Int)-1)==0&&(-1:Int)==1&&aq.toArray.size==aq.toArray.size)=true then _ else _) _ _ s5;rw [if_neg (by simp)];have hp:=yZ aq aq.length (An _);rw [C3,List.drop_zero] at hp;have Ĕ:((AI aq.toArray.size).filterMap λ(m:Nat)=>aq.toArray[(((aq.toArray.size:Int)-1)+(m:Int)*(-1)).toNat]?).toArray=aq.reverse.toArray:=by
  rw [Ai,hp]
 rw [Ĕ];have hsz:sizeOk (.seq aq.reverse.toArray):=by
  show aq.reverse.toArray.size<=sizeLine;rw [Ai,B3];omega
 have fin:EP X Z σ Q (.ref s5.heap.objs.size) {s5 with heap:=s5.heap.push {cls:=.type "tuple",data:=.seq aq.reverse.toArray}}:=
  ⟨.ref s5.heap.objs.size,_,I5.laid (t':=s5.toks) (o:=.tup xs.reverse) (λb ob q=>Ag _ q) (An _) ⟨by rw [B3];exact hz,_,r.rA,Fu _ _⟩,rfl,q.at _ (I5.bp.fresh (An _))⟩
 first
  | exact Aa (m:=Builtin.Tuple.tupleExact _) (A1 (Ae ⟨_,rfl,Ae fin⟩) hsz)
  | exact Aa (m:=Builtin.Tuple.tupleExact _) (A1 (Aa (Ae (Ae ⟨_,rfl,Ae fin⟩))) hsz)
  | exact Aa (Aa (m:=Builtin.Tuple.tupleExact _) (A1 (Ae (Ae ⟨_,rfl,Ae fin⟩)) hsz))
  | exact Aa (Aa (m:=Builtin.Tuple.tupleExact _) (A1 (Ae ⟨_,rfl,Ae fin⟩) hsz))
end
end L2
variable {Q:PL.PV->Prop}
namespace FL
section
open PySem PySem.Spec PyProof.Rows L2 PL
variable {K:Ab}
section
variable {a b c:ii}{w:W PV}
def qj (neg:Bool) (x:PV) (l:List PV):W Bool:=.ff (RB x l) (.ret (if neg then !sD x l else sD x l))
def Ov:∀σ H Q,fT K fs (.bind wa λx=>.bind wl λl=>qj neg x l) σ H Q->Uj (UL K neg) (fE K fs wa) (fQ K fs wl) σ H λx H'=>∃k,x=.bl k/\Q k H':=λσ H Q ⟨sr,q⟩=>
 ⟨sr,wa.mono (λx q1 u1 H1 g1 s1 v1=>⟨s1,wl.mono (λl q2 u2 H2 g2 s2 v2=>by
  obtain⟨ad,vs,rfl,h,rs⟩:=v2.sq s2;exact⟨ad,vs,l,x,rfl,h,rs,g2.vr s1 v1,q2.1,_,rfl,q2.2 H2 (g1.trans g2) s2⟩) q1⟩) q⟩
def XW (hK:X.K=K) (hu:X.A.units+200 < o0) (ha:EF X K fs a wa) (hb:QF X K fs b wl) (hk:pc .In b=false:=by rfl):TF X K fs (.Compare a [.In] [b] pos) (.bind wa λx=>.bind wl λl=>qj false x l):=⟨PT.imp (m9 (M8 K hK hu) ha.p hb.p hk) (Ov (neg:=false))⟩
def vC (hK:X.K=K) (hu:X.A.units+200 < o0) (ha:EF X K fs a wa) (hb:QF X K fs b wl) (hk:pc .NotIn b=false:=by rfl):TF X K fs (.Compare a [.NotIn] [b] pos) (.bind wa λx=>.bind wl λl=>qj true x l):=⟨PT.imp (m9 (QM K hK hu) ha.p hb.p hk) (Ov (neg:=true))⟩
abbrev NW (neg:Bool) (wa:W PV) (wl:W (List PV)):W Bool:=.bind wa λx=>.bind wl λl=>qj neg x l
def zq (l:List PV):W PV:=.bind (md l) λns=>.ff (ns≠[]) (.ret (.int (oU ns)))
def IJ (l:List PV):W PV:=.bind (md l) λns=>.ret (.int ns.sum)
def uT {C:List Int->Prop}{g:List Int->Int}{f:List PV->W PV} (hf:∀{l:List PV}{Q:PV->Prop},(f l).run Q->∃ns:List Int,l=ns.map PV.int/\C ns/\Q (.int (g ns))):∀σ H Q,fE K fs (.bind wl f) σ H Q->tCB (MD K C g) (SN (fQL K fs wl) X1) σ H Q:=λσ H Q ⟨sr,q⟩=>⟨sr,wl.mono (λl q1 u1 H1 g1 s1 _ v1=>by
 obtain⟨ns,el,hC,q2⟩:=hf q1;obtain⟨a,vs,rfl,h1,r1⟩:=v1 H1 .refl s1;rw [el] at r1;have:=jo r1;subst this;exact⟨a,ns,rfl,h1,hC,q2 _ H1 g1 s1 (.int _)⟩) q⟩
def KH (h:(zq l).run Q):∃ns:List Int,l=ns.map PV.int/\ns≠[]/\Q (.int (oU ns)):=let ⟨ns,e,q⟩:=fY h;⟨ns,e,q.1,q.2⟩
def Kh (h:(IJ l).run Q):∃ns:List Int,l=ns.map PV.int/\True/\Q (.int ns.sum):=let ⟨ns,e,q⟩:=fY h;⟨ns,e,trivial,q⟩
def Wt (hK:X.K=K) (hc:X.calm=true) (hg:Gl X "min") (hm:X.mg "min"=bm) (ha:Gn X K fs e wl) (he:gK X e []:=by rfl) (dw:lH X pos []:=by rfl):EF X K fs (.Call (.Name "min" p) [e] [] pos) (.bind wl zq):=⟨PE.imp (d8 (ve (C:=λns=>ns≠[]) (g:=oU) K hK hc λa b c d q=>KG a b c d q) hg hm boot_min (aW ha.p bV he) ⋯ ⋯ he dw) (uT KH)⟩
def Wq (hK:X.K=K) (hc:X.calm=true) (hg:Gl X "sum") (hm:X.mg "sum"=bm) (ha:Gn X K fs e wl) (he:gK X e []:=by rfl) (dw:lH X pos []:=by rfl):EF X K fs (.Call (.Name "sum" p) [e] [] pos) (.bind wl IJ):=⟨PE.imp (d8 (ve (C:=λ_=>True) (g:=λns=>ns.sum) K hK hc λa b c _ q=>Kg a b c q) hg hm (show lc "sum"=am (.builtin "sum") by rfl) (aW ha.p bV he) ⋯ ⋯ he dw) (uT Kh)⟩
def sortI (ns:List Int):List Int:=ns.mergeSort (λa b=>decide (a<=b))
theorem Mh (h1:ms.Perm ns) (h2:ms.Pairwise (·<=·)):ms=sortI ns:=by
 have h3:(sortI ns).Perm ns:=CP ns _;have h4:(sortI ns).Pairwise (λa b=>decide (a<=b)=true):=El (λa b c=>by simp;omega) (λa b=>by simp;omega) ns;exact List.Perm.eq_of_pairwise (le:=λa b=>a<=b) (λa b _ _ h h'=>EO h h') h2 (h4.imp (by simp)) (h1.trans h3.symm)
def vG (l:List PV):W (List PV):=.bind (md l) λns=>.ff (ns.length < 64) (.ret ((sortI ns).map PV.int))
def Rg (hK:X.K=K) (hg:Gl X "sorted") (hm:X.mg "sorted"=bm) (ha:Gn X K fs e wl) (he:gK X e []:=by rfl) (dw:lH X pos []:=by rfl):LF X K fs (.Call (.Name "sorted" p) [e] [] pos) (.bind wl vG):=⟨PE.imp (d8 (Ia K hK) hg hm boot_sorted (aW ha.p bV he) ⋯ ⋯ he dw) λσ H Q ⟨sr,q⟩=>⟨sr,wl.mono (λl q1 u1 H1 g1 s1 _ v1=>by
 obtain⟨ns,el,hC,q2⟩:=fY (l:=l) q1;obtain⟨a,vs,rfl,h1,r1⟩:=v1 H1 .refl s1;rw [el] at r1;have:=jo r1;subst this;refine⟨a,ns,rfl,h1,hC,λms a2 a3=>?_⟩;rw [Mh a2 a3];exact Jr g1 s1 (nK _ _ _) q2) q⟩⟩
variable {el eh:Option ii}{st:ii}{lo ws:W (Option Int)}
def Ml (x:PV) (i j k:Option Int):W PV:=match x with
 | .tup l=>.ff (i=bm/\j=bm/\k=am (-1)) (.ret (.tup l.reverse))
 | _=>.fail
def Wr (hK:X.K=K) (he:EF X K fs e w) (hl:OF X K fs el lo) (hh:OF X K fs eh hi) (hs:OF X K fs (am st) ws):EF X K fs (.Subscript e (.Slice el eh (am st) p2) pos) (.bind w λx=>.bind lo λi=>.bind hi λj=>.bind ws λk=>Ml x i j k):=⟨PE.imp (QC K hK he.p hl.p hh.p hs.p) λσ H Q ⟨sr,q⟩=>⟨sr,w.mono (λx q1 u1 H1 g1 s1 v1=>⟨s1,lo.mono (λi q2 H2 g2 s2=>⟨s2,hi.mono (λj q3 H3 g3 s3=>⟨s3,ws.mono (λk q4 H4 g4 s4=>by
 have XM:=g4.vr s3 (g3.vr s2 (g2.vr s1 v1));have gg:=((g1.trans g2).trans g3).trans g4;cases XM with
 | @tup p vs l e r=>
  have q4:(W.ff (i=bm/\j=bm/\k=am (-1)) (bd (PV.tup l.reverse))).run _:=q4;exact⟨p,vs,rfl,d4.of e,q4.1.1,q4.1.2.1,q4.1.2.2,λq H5 s5 h5 n5=>q4.2 _ H5 (gg.trans (cP.same s5)) (s4.same s5) (.tup h5 (aD.tk s5.eL r.reverse))⟩
 | _=>exact q4.elim) q3⟩) q2⟩) q1⟩) q⟩⟩
end
end
section
open PySem PySem.Spec PyProof.Rows L2 PL
variable {K:Ab}
section
variable {rest:List sn}{T:Type}{out:T->End}{x:Bool}
def agQ (l:List PV):PV->W PV
 | .int k=>.ff (0<=k/\k < 1000) (.Jo l[k.toNat]?)
 | _=>.fail
def UC (l:List PV) (v:PV):W (List PV):=match v with
 | .int k=>.bind (md l) λns=>.ff (k∈ns) (.ret ((ns.erase k).map PV.int))
 | _=>.fail
theorem SF.remove (i:Nat) {k:List PV->W T} (hs:fs[i]?=am (am (.ol q0 l))) (hK:X.K=K) (hN:X.N[i]?=am y) (hv:F5 X.env.scope y) (he:EF X K fs e we) (hr:∀l',SF X K x (fs.set i (am (.ol q0 l'))) rest (k l') out)
  (hd:iW y:=by decide) (jq:Gp y:=by decide) (eI:nw (.Name y p) "remove" X.env (kw (.Name y p) X.env)=kw (.Name y p) X.env:=by rfl)
  (pe:WY X bC [e]:=by rfl)
  (eG:PM Ã bC:=by rfl) (qI:gK X e []:=by rfl) (eU:lH X bC []:=by rfl)
  (nM:im (.Call (.Attribute (.Name y p) "remove" Ã) [e] [] bC) bm pos.line X.env=pure false:=by rfl) :
  SF X K x fs (.Expr (.Call (.Attribute (.Name y p) "remove" Ã) [e] [] bC) pos::rest) (.bind we λv=>.bind (UC l v) k) out:=
 SF.step (qB (rE K hK BW PySem.F.slot_list_remove PySem.F.type_list_remove GZ (d7 hN hv hd jq) (aW he.p bV qI) eI pe eG qI eU) nM) λD σ H ⟨sr,q⟩=>by
  obtain⟨a,ws,e1,h1,r1⟩:=di sr hs;refine⟨_,e1,.inl ⟨rfl,_,cR.of h1⟩,sr,we.mono (λv q1 u H1 g1 s1 v1=>?_) q⟩;obtain⟨a',qU,qp,gB,tV⟩:=di s1 hs;rw [e1] at qp;cases qp;cases v1 with
  | int kk=>
   obtain⟨ns,el,hk,q2⟩:=fY (l:=l) q1;subst el;have:=jo tV;subst this;refine⟨a,ns,kk,rfl,rfl,gB,hk,λH2 sx h2=>?_⟩;obtain⟨s2,g2⟩:=ng s1 hs e1 sx h2 (nK _ _ (ns.erase kk));exact⟨_,k _,hr _,s2,(k _).mono (λt q3=>q3.go (g1.f.trans g2) sr s2) q2⟩
  | _=>exact q1.elim
end
end
end FL
variable {vs:List (L2.Key×L2.V)}{kvs:List (L2.Key×PL.PV)}
namespace FL
section
open PySem PySem.Spec PyProof.Rows L2 PL
variable {K:Ab}
abbrev w2 (f:PV->PV->W PV) (wa wb:W PV):W PV:=.bind wa λx=>.bind wb λy=>f x y
def adI (kvs:List (Key×PV)) (k:Key):Bool:=kvs.any λkv=>decide (kv.1=k)
def qk (kvs:List (Key×PV)) (k:Key):Option PV:=(kvs.find? λkv=>decide (kv.1=k)).map (·.2)
def iw (K:Ab) (H:Hp) (vs:List (Key×V)) (kvs:List (Key×PV)):Prop:=vs.map (·.1)=kvs.map (·.1)/\aD K [] H (vs.map (·.2)) (kvs.map (·.2))
section
def iw.cons_inv {p:Key×V}{q:Key×PV} (h:iw K H (p::vs) (q::kvs)):p.1=q.1/\VR K [] H p.2 q.2/\iw K H vs kvs:=by
 obtain⟨h1,h2⟩:=h;injection h1 with a b;cases h2 with
 | cons r t=>exact⟨a,r,b,t⟩
theorem iw.ind {C:List (Key×V)->List (Key×PV)->Prop} (h0:C [] []) (h1:∀p q vs kvs,p.1=q.1->VR K [] H p.2 q.2->iw K H vs kvs->C vs kvs->C (p::vs) (q::kvs)):∀{vs kvs},iw K H vs kvs->C vs kvs
 | [],[],_=>h0
 | [],_::_,h=>by simp [iw] at h
 | _::_,[],h=>by simp [iw] at h
 | p::vs,q::kvs,h=>let ⟨a,b,c⟩:=h.cons_inv;h1 p q vs kvs a b c (iw.ind h0 h1 c)
def iw.has (h:iw K H vs kvs) (k:Key):(hZ vs k).isSome=adI kvs k:=by
 rw [<- qX];refine iw.ind (C:=λvs kvs=>(vs.any λkv=>decide (kv.1=k))=kvs.any λkv=>decide (kv.1=k)) rfl (λp q vs kvs e _ _ ih=>?_) h;rw [Bw,Bw,ih,e]
def iw.get (h:iw K H vs kvs) (k:Key) (g:qk kvs k=am v):∃u,hZ vs k=am u/\VR K [] H u v:=by
 refine iw.ind (C:=λvs kvs=>qk kvs k=am v->∃u,hZ vs k=am u/\VR K [] H u v) (λg=>by simp [qk] at g) (λp q vs kvs e r _ ih g=>?_) h g;by_cases c:p.1=k
 ·rw [kg c];have c':=e▸c;have:qk (q::kvs) k=am q.2:=by simp [qk,Be,c']
  rw [this] at g;cases g;exact⟨_,rfl,r⟩
 ·rw [kh c];have c':=e▸c;have:qk (q::kvs) k=qk kvs k:=by simp [qk,Be,c']
  exact ih (this▸g)
end
end
section
open PySem PySem.Spec PyProof.Rows L2 PL
variable {K:Ab}
def fAs (K:Ab) (fs:bb) (i:Nat) (w:W (List PV)):TS:=λD σ H=>aR K H σ fs/\w.run λl=>∀a vs H',cP σ fs H H'->aR K H' σ fs->H a=bm->H' a=am (.lst vs)->aD K [] H' vs l->D.nx (σ.set i (am (.ref a))) H'
structure AS (X:Cx) (K:Ab) (fs:bb) (st:sn) (i:Nat) (w:W (List PV)):Prop where p:PS X st (fAs K fs i w)
section
variable {st:sn}{rest:List sn}{T:Type}{out:T->End}{x:Bool}{k:List PV->W T}
def SF.as (h:AS X K fs st i wl) (hr:∀l,SF X K x (fs.set i (am (.ol bm l))) rest (k l) out):SF X K x fs (st::rest) (.bind wl k) out:=SF.step h.p λD σ H ⟨sr,q⟩=>⟨sr,wl.mono (λl q1 a ws H1 g1 s1 n e v1=>by
 have no:=sr.noOwn n;have s2:=s1.vM (t:=.ol bm l) ⟨by simp,ws,e,v1⟩ no i;exact⟨_,k l,hr l,s2,(k l).mono (λt q2=>q2.go (cD.vM s1 g1.f no n i) sr s2) q1⟩) q⟩
def WM (b:Nat) (hs:fs[b]?=am (am t)) (h:AS X K (fs.set b (am (.val t.bv))) st i wl) (hb:t.bw=true:=by rfl):AS X K fs st i (.bind wl uw):=⟨λZ s σ H D I ⟨sr,q⟩=>by
 obtain⟨a,o,ob,I2,s2,Ë⟩:=bor I sr hs hb;refine bZ (h.p Z s σ _ {nx:=λσ' H1=>∃b vs l',σ'=σ.set i (am (.ref b))/\cP σ (fs.set _ (am (.val t.bv))) (upd H a (.cx ob o)) H1/\aR K H1 σ (fs.set _ (am (.val t.bv)))/\upd H a (.cx ob o) b=bm/\H1 b=am (.lst vs)/\aD K [] H1 vs l'/\sW l'=true/\∀a vs H',cP σ fs H H'->aR K H' σ fs->H a=bm->H' a=am (.lst vs)->aD K [] H' vs l'->D.nx (σ.set i (am (.ref a))) H',rt:=D.rt,bk:=D.bk,ct:=D.ct} I2 ⟨s2,wl.mono (λl' q1 b vs H1 g1 s1 n e v1=>⟨b,vs,l',rfl,g1,s1,n,e,v1,q1.1,q1.2⟩) q⟩) λf s1 q1=>?_;cases f with
 | next=>
  obtain⟨σ',H1,I1,b,vs,l',rfl,g1,Qe,n,eb,v1,d,q1⟩:=q1;obtain⟨I3,g3,s3,t3,k3⟩:=Ë _ s1 H1 I1 g1 Qe;have nb:b≠a:=λy=>by subst y;rw [aK] at n;cases n
  exact⟨_,_,I3,q1 b vs _ g3 s3 (by rw [av nb] at n;exact n) (k3 b vs nb eb) (aD.jx t3 v1 d)⟩
 | ret v=>exact q1
 | brk=>exact q1
 | cont=>exact q1⟩
end
section
variable {T2:Type}{wt:PV->W T2}{cn:T2->bb}{tf:T2->W Bool}{te:T2->W PV}
def aat (hc:X.calm=true) (hN:X.N.Nodup) (wZ:X.N[i]?=am y) (hx:X.env.scope.names.lookup y=am .local) (S:aw X.env.scope X.N sc N' ix) (hi:qv X K fs tg iter wl) (hg:∀cl C s2 H2 fp,GF (fg X sc N' cl C s2 H2 fp) K (bf ix fs) tg is wt cn) (ZE:∀cl C s2 H2 fp t,FF (fg X sc N' cl C s2 H2 fp) K (cn t) Ê (tf t)) (he:∀cl C s2 H2 fp t,EF (fg X sc N' cl C s2 H2 fp) K (cn t) Ä (te t))
  (hf:∀p,f p=.bind (wt p) λt=>.bind (tf t) λk=>if k=true then .bind (te t) λv=>.ret (am v) else .ret bm) (hl:qu is (bf ix fs) cn/\∀t,hX (cn t) (bf ix fs)) (ue:∀j∈is,ix[j]?=am bm)
  (nM:im (.ListComp Ä [⟨tg,iter,Ê,0⟩] sc pos) (am (.Name y px)) j9.line X.env=pure true:=by rfl) (hs:tJ X iter:=by intro _;rfl) :
  AS X K fs (.Assign [.Name y px] (.ListComp Ä [⟨tg,iter,Ê,0⟩] sc pos) j9) i (.bind wl λl=>lY l f):=
 ⟨PS.imp (yU hc hN wZ hx S hi.p (λcl C s2 H2 fp=>(hg cl C s2 H2 fp).p) (λcl C s2 H2 fp Z s σ H Q I ⟨t,q⟩=>(ZE cl C s2 H2 fp t).p Z s σ H Q I q) (λcl C s2 H2 fp Z s σ H Q I ⟨t,q⟩=>(he cl C s2 H2 fp t).p Z s σ H Q I q) nM hs) λD σ H ⟨sr,q⟩=>
  Ow (K:=K) S rfl hf hl.1 hl.2 ue σ H _ ⟨sr,q⟩⟩
def Sk (hc:X.calm=true) (hN:X.N.Nodup) (wZ:X.N[i]?=am y) (hx:X.env.scope.names.lookup y=am .local) (S:aw X.env.scope X.N sc N' ix) (hi:qv X K fs tg iter wl) (hg:∀cl C s2 H2 fp,GF (fg X sc N' cl C s2 H2 fp) K (bf ix fs) tg is wt cn) (he:∀cl C s2 H2 fp t,EF (fg X sc N' cl C s2 H2 fp) K (cn t) Ä (te t))
  (hl:qu is (bf ix fs) cn/\∀t,hX (cn t) (bf ix fs)) (ue:∀j∈is,ix[j]?=am bm)
  (nM:im (.ListComp Ä [⟨tg,iter,[],0⟩] sc pos) (am (.Name y px)) j9.line X.env=pure true:=by rfl) (hs:tJ X iter:=by intro _;rfl) :
  AS X K fs (.Assign [.Name y px] (.ListComp Ä [⟨tg,iter,[],0⟩] sc pos) j9) i (.bind wl λl=>bz l λp=>.bind (wt p) te):=by
 rw [Jw];exact aat (tf:=λ_=>.ret true) hc hN wZ hx S hi hg (λ_ _ _ _ _ _=>HD) he (λp=>rfl) hl ue nM hs
def Sl {f:PV->W PV} (hc:X.calm=true) (hN:X.N.Nodup) (wZ:X.N[i]?=am y) (hx:X.env.scope.names.lookup y=am .local) (S:aw X.env.scope X.N sc N' ix) (hi:qv X K fs tg iter wl) (hg:∀cl C s2 H2 fp,PG (fg X sc N' cl C s2 H2 fp) tg (dZ j)) (he:∀cl C s2 H2 fp t,EF (fg X sc N' cl C s2 H2 fp) K ((bf ix fs).set j (am (.val t))) Ä (f t)) (h0:ix[j]?=am bm)
  (nM:im (.ListComp Ä [⟨tg,iter,[],0⟩] sc pos) (am (.Name y px)) j9.line X.env=pure true:=by rfl) (hs:tJ X iter:=by intro _;rfl) :
  AS X K fs (.Assign [.Name y px] (.ListComp Ä [⟨tg,iter,[],0⟩] sc pos) j9) i (.bind wl λl=>bz l f):=
 have h1:(bf ix fs)[j]?=am bm:=by unfold bf;rw [Aj,h0];rfl
 Sk (wt:=.ret) hc hN wZ hx S hi (λcl C s2 H2 fp=>Tw (hg cl C s2 H2 fp)) he (Nu h1) (λm hj=>by rw [AW] at hj;subst hj;exact h0) nM hs
end
end
end FL
variable {kvs:List (List L2.Key×PL.PV)}
namespace FL
section
open PySem PySem.Spec PyProof.Rows L2 PL
variable {K:Ab}
def bG (K:Ab) (H:Hp) (vs:List (List Key×V)) (kvs:List (List Key×PV)):Prop:=vs.map (·.1)=kvs.map (·.1)/\aD K [] H (vs.map (·.2)) (kvs.map (·.2))
def SG (K:Ab) (H:Hp) (ob:HO) (v:PV):Prop:=(∃vs kvs,ob=.dK vs/\v=dvK kvs/\iw K H vs kvs)\/∃vs kvs,ob=.dT vs/\v=xR kvs/\bG K H vs kvs
def fDv (K:Ab) (fs:bb) (w:W PV):TE:=λσ H Q=>aR K H σ fs/\w.run λv=>∀a ob H',cP σ fs H H'->aR K H' σ fs->H a=bm->H' a=am ob->SG K H' ob v->Q (.ref a) H'
structure DVF (X:Cx) (K:Ab) (fs:bb) (e:ii) (w:W PV):Prop where p:PE X e (fDv K fs w)
section
variable {σ:L2.St}{fs:bb}{H:Hp}{a:ce}{ob:HO}{v:PV}
def aR.Yf (s:aR K H σ fs) (n:¬dI σ fs a) (e:H a=am ob) (n1:∀vs,ob≠.tup vs) (n2:∀o u,ob≠.cx o u) (o':HO):aR K (upd H a o') σ fs:=⟨s.len,λi t q=>by
 obtain⟨u,h1,h2⟩:=s.at' i t q;exact⟨u,h1,h2.mono (f9 o' e n1 n2) (λx b o eb ow hb z=>by subst eb;rw [av (λy:b=a=>n ⟨i,t,x,q,ow,h1,y▸hb⟩)];exact z)⟩,s.nd⟩
def SG.cx {X:Cx}{Z:List (ce×Obj)}{s:ci}{σ':L2.St} (I:Inv X Z σ' H s) (e:H a=am ob) (d:SG K H ob v):∃u,Inv X Z σ' (upd H a u) s/\VR K [] (upd H a u) (.ref a) v/\(∀vs,ob≠.tup vs)/\∀o u,ob≠.cx o u:=by
 rcases d with⟨vs,kvs,rfl,rfl,d1,d2⟩ | ⟨vs,kvs,rfl,rfl,d1,d2⟩
 ·obtain⟨o,I2⟩:=I.JL e;exact⟨_,I2,.dk aK (Tc d1) (aD.tk (f9 _ e (by simp) (by simp)) d2),by simp,by simp⟩
 ·obtain⟨o,I2⟩:=I.freeze e;exact⟨_,I2,.dt aK (Tb d1) (aD.tk (f9 _ e (by simp) (by simp)) d2),by simp,by simp⟩
end
section
variable {a b c:ii}{w:W PV}
def ad7 (h:DVF X K fs e w):EF X K fs e w:=⟨λZ s σ H Q I ⟨sr,q⟩=>by
 refine bZ (h.p Z s σ H (λu H1=>∃a ob v,u=.ref a/\cP σ fs H H1/\aR K H1 σ fs/\H a=bm/\H1 a=am ob/\SG K H1 ob v/\∀u H',cP σ fs H H'->aR K H' σ fs->VR K [] H' u v->Q u H') I ⟨sr,w.mono (λv q1 a ob H1 g1 s1 n e d=>⟨a,ob,v,rfl,g1,s1,n,e,d,q1⟩) q⟩) λu s1 ⟨v,H1,I1,r1,a,ob,v',e,g1,Qe,n,ea,d,q1⟩=>?_;subst e;obtain⟨o',I2,vr,n1,n2⟩:=d.cx I1 ea;exact⟨.ref a,_,I2,r1,q1 _ _ (g1.side n _) (Qe.Yf (λz=>sr.noOwn n z) ea n1 n2 _) vr⟩⟩
def Jj (kv:List Key×PV):PV:=.tup [.tup (kv.1.map kP),kv.2]
theorem NL (H:Hp):∀k:List Key,aD K [] H (k.map kV) (k.map kP)
 | []=>.nil
 | .inl i::k=>.cons (.int i) (NL H k)
 | .inr i::k=>.cons (.str i) (NL H k)
theorem zP:∀{k:List Key}{vs:List V},aD K [] H vs (k.map kP)->vs=k.map kV
 | [],_,h=>by cases h;rfl
 | .inl i::k,_,h=>by
  cases h with
  | cons x t=>cases x;rw [zP t];rfl
 | .inr i::k,_,h=>by
  cases h with
  | cons x t=>cases x;rw [zP t];rfl
theorem y7:∀{kvs:List (List Key×PV)}{vs:List V},aD K [] H vs (kvs.map Jj)->∃zs:List Pz,vs=zs.map (λz=>V.ref z.pa)/\(∀z∈zs,z.At H)/\zs.map (·.k)=kvs.map (·.1)/\aD K [] H (zs.map (·.v)) (kvs.map (·.2))
 | [],_,h=>by cases h;exact⟨[],rfl,by simp,rfl,.nil⟩
 | kv::kvs,_,h=>by
  cases h with
  | cons x t=>
  obtain⟨zs,z1,z2,z3,z4⟩:=y7 t;cases x with
  | @tup p ws _ e r=>
  cases r with
  | cons x1 t1=>
  cases t1 with
  | cons x2 t2=>
  cases t2;cases x1 with
  | @tup b us _ e1 r1=>
  have:=zP r1;subst this;refine⟨⟨p,kv.1,b,_⟩::zs,by rw [Ar,z1],λz hz=>?_,by rw [Ar,Ar,z3],.cons x2 z4⟩;rcases Aw.mp hz with rfl | hz
  ·exact⟨e,e1⟩
  ·exact z2 z hz
def HW (l:List PV):W PV:=⟨λQ=>∃kvs:List (List Key×PV),l=kvs.map Jj/\(kvs.map (·.1)).Nodup/\kvs.length<=1000/\Q (xR kvs),λf q=>q.imp λkvs h=>⟨h.1,h.2.1,h.2.2.1,f _ h.2.2.2⟩⟩
theorem R9 (hK:X.K=K) (hc:X.calm=true) (hu:X.A.units+200 < o0) (hg:Gl X "dict") (hm:X.mg "dict"=bm) (ha:Gn X K fs e wl) (he:gK X e []:=by rfl) (dw:lH X pos []:=by rfl) :
  DVF X K fs (.Call (.Name "dict" p) [e] [] pos) (.bind wl HW):=⟨PE.imp (k6 (Ig K hK hc ∅) hg hm boot_dict (aW ha.p bV he) ⋯ ⋯ he dw) λσ H Q ⟨sr,q⟩=>⟨sr,wl.mono (λl q1 u H1 g1 s1 v0 v1=>by
  obtain⟨kvs,rfl,nd,hl,q1⟩:=q1;obtain⟨a,vs,rfl,e3,e4⟩:=v1 H1 .refl s1;obtain⟨zs,rfl,z2,z3,z4⟩:=y7 e4;have hzl:zs.length=kvs.length:=by have:=congrArg BL z3;simpa using this
  refine⟨a,zs,rfl,e3,z2,by rw [z3];exact nd,by omega,λp H2 s2 h2 n2=>?_⟩;exact q1 _ _ H2 (g1.trans (cP.same s2)) (s1.same s2) (g1.there _ n2) h2 (.inr ⟨_,_,rfl,rfl,by rw [AB,<- z3];rfl,by rw [AB];exact aD.tk s2.eL z4⟩)) q⟩⟩
def Ll (nd:(kvs.map (·.1)).Nodup) (hl:kvs.length<=1000) (q:Q (xR kvs)):(HW (kvs.map Jj)).run Q:=⟨kvs,rfl,nd,hl,q⟩
def cI (kvs:List (List Key×PV)) (k:List Key):Option PV:=(kvs.find? λkv=>decide (kv.1=k)).map (·.2)
theorem bG.get {k:List Key}:∀{vs:List (List Key×V)}{kvs:List (List Key×PV)},bG K H vs kvs->(cI kvs k=bm->hZ vs k=bm)/\∀{v},cI kvs k=am v->∃u,hZ vs k=am u/\VR K [] H u v
 | [],[],_=>⟨λ_=>rfl,λg=>by simp [cI] at g⟩
 | [],_::_,h=>by simp [bG] at h
 | _::_,[],h=>by simp [bG] at h
 | p::vs,q::kvs,h=>by
  obtain⟨h1,h2⟩:=h;rw [Ar,Ar] at h1 h2;injection h1 with e b;cases h2 with
  | cons r t=>
  have ih:=bG.get (k:=k) (vs:=vs) (kvs:=kvs) ⟨b,t⟩;by_cases c:p.1=k
  ·rw [kg c];have c':=e▸c;have:cI (q::kvs) k=am q.2:=by simp [cI,Be,c']
   rw [this];refine⟨λz=>(by cases z),λ{v} z=>?_⟩;cases z;exact⟨_,rfl,r⟩
  ·rw [kh c];have c':=e▸c;have:cI (q::kvs) k=cI kvs k:=by simp [cI,Be,c']
   rw [this];exact ih
def iw.get' {k:Key}:∀{vs:List (Key×V)}{kvs:List (Key×PV)},iw K H vs kvs->(qk kvs k=bm->hZ vs k=bm)/\∀{v},qk kvs k=am v->∃u,hZ vs k=am u/\VR K [] H u v:=λ{vs kvs} h=>⟨λz=>by
 have:=h.has k;cases e:hZ vs k with
 | none=>rfl
 | some u=>
  rw [e] at this;have h2:=this.symm;unfold qk at z;rw [Eu,List.find?_eq_none] at z;obtain⟨x,hx,hx2⟩:=List.any_eq_true.mp h2;exact absurd hx2 (z x hx),λz=>h.get k z⟩
def Tf (k:Key) (l:List PV):kP k≠.tup l:=by cases k <;> exact PV.noConfusion
def VJ {a b:Key} (h:kP a=kP b):a=b:=by
 cases a <;> cases b <;> simp [kP] at h <;> rw [h]
theorem wM:∀{a b:List Key},a.map kP=b.map kP->a=b
 | [],[],_=>rfl
 | [],_::_,h=>by simp at h
 | _::_,[],h=>by simp at h
 | x::a,y::b,h=>by
  rw [Ar,Ar] at h;injection h with h1 h2;rw [VJ h1,wM h2]
inductive Gh:PV->PV->Option PV->Prop
 | k (kvs:List (Key×PV)) (k:Key):kvs≠[]->Gh (dvK kvs) (kP k) (qk kvs k)
 | t (kvs:List (List Key×PV)) (k:List Key):kvs≠[]->Gh (xR kvs) (.tup (k.map kP)) (cI kvs k)
def Ua {kvs:List (Key×PV)} (h0:kvs≠[]) (h:VR K [] H u (dvK kvs)):∃a o vs,u=.ref a/\H a=am (.cx o (.dK vs))/\iw K H vs kvs:=by
 have Þ:∀{vs:List (Key×V)}{kvs:List (Key×PV)},(kvs.map λkv=>kP kv.1)=(vs.map λkv=>kP kv.1)->vs.map (·.1)=kvs.map (·.1):=λ{vs kvs} e=>by
  have e:(kvs.map (·.1)).map kP=(vs.map (·.1)).map kP:=by rw [AB,AB];exact e
  exact (wM e).symm
 cases h with
 | @dk a o vs _ _ e k r=>exact⟨a,o,vs,rfl,e,Þ k,r⟩
 | @dt a o vs _ _ e k r=>
  cases kvs with
  | nil=>exact absurd rfl h0
  | cons x l=>cases vs with
   | nil=>simp at k
   | cons y m=>simp at k;exact absurd k.1 (Tf _ _)
def L3 (h0:kvs≠[]) (h:VR K [] H u (xR kvs)):∃a o vs,u=.ref a/\H a=am (.cx o (.dT vs))/\bG K H vs kvs:=by
 have Þ:∀{vs:List (List Key×V)}{kvs:List (List Key×PV)},(kvs.map λkv=>PV.tup (kv.1.map kP))=(vs.map λkv=>PV.tup (kv.1.map kP))->vs.map (·.1)=kvs.map (·.1):=λ{vs kvs} e=>by
  induction kvs generalizing vs with
  | nil=>cases vs with
   | nil=>rfl
   | cons y m=>simp at e
  | cons x l ih=>cases vs with
   | nil=>simp at e
   | cons y m=>
    injection e with e1 e2;injection e1 with e1;rw [Ar,Ar,wM e1,ih e2]
 cases h with
 | @dt a o vs _ _ e k r=>exact⟨a,o,vs,rfl,e,Þ k,r⟩
 | @dk a o vs _ _ e k r=>
  cases kvs with
  | nil=>exact absurd rfl h0
  | cons x l=>cases vs with
   | nil=>simp at k
   | cons y m=>simp at k;exact absurd k.1.symm (Tf _ _)
def Gh.ok {z:V}{d y:PV}{r:Option PV} (h:Gh d y r) (hu:VR K [] H u d) (hz:VR K [] H z y):∃a o,u=.ref a/\IsD H a/\Iw H a z o/\(r=bm->o=bm)/\∀v,r=am v->∃w,o=am w/\VR K [] H w v:=by
 cases h with
 | k kvs k h0=>
  obtain⟨a,o,vs,rfl,e,d⟩:=Ua h0 hu;have ez:z=kV k:=by
   cases k with
   | inl i=>cases hz;rfl
   | inr i=>cases hz;rfl
  subst ez;exact⟨a,hZ vs k,rfl,.inl ⟨vs,.inr ⟨o,e⟩⟩,.inl ⟨vs,k,.inr ⟨o,e⟩,rfl,rfl⟩,(iw.get' d).1,λv=>(iw.get' d).2⟩
 | t kvs k h0=>
  obtain⟨a,o,vs,rfl,e,d⟩:=L3 h0 hu;cases hz with
  | @tup b us _ e1 r1=>
  have:=zP r1;subst this;exact⟨a,hZ vs k,rfl,.inr ⟨vs,.inr ⟨o,e⟩⟩,.inr ⟨vs,k,b,.inr ⟨o,e⟩,rfl,e1,rfl⟩,(bG.get d).1,λv=>(bG.get d).2⟩
def dgW (d y:PV):W PV:=⟨λQ=>∃v,Gh d y (am v)/\Q v,λf ⟨v,a,q⟩=>⟨v,a,f _ q⟩⟩
def PF (a b:W PV):W PV:=.bind a λx=>.bind b λy=>dgW x y
theorem sU (hu:X.A.units+200 < o0) (ha:EF X K fs a wa) (hb:EF X K fs b wb) (hs:Sz b):EF X K fs (.Subscript a b pos) (PF wa wb):=⟨PE.imp (Jh ∅ ha.p hb.p hs) λσ H Q ⟨sr,q⟩=>⟨sr,wa.mono (λx q1 u1 H1 g1 s1 v1=>⟨s1,wb.mono (λy q2 u2 H2 g2 s2 v2=>by
 obtain⟨v,g,q2⟩:=q2;obtain⟨a,o,rfl,_,g2',_,h⟩:=g.ok (g2.vr s1 v1) v2;obtain⟨w,rfl,vw⟩:=h v rfl;exact⟨a,w,rfl,g2',q2 _ H2 (g1.trans g2) s2 vw⟩) q1⟩) q⟩⟩
def qN {k:List Key} (h:cI kvs k=am v) (q:Q v):(dgW (xR kvs) (.tup (k.map kP))).run Q:=⟨v,by rw [<- h];exact .t kvs k (λz=>by subst z;simp [cI] at h),q⟩
def Ny (d:PV):W (List PV):=⟨λQ=>∃kvs:List (List Key×PV),d=xR kvs/\kvs≠[]/\kvs.length<=1000/\Q (kvs.map λkv=>.tup (kv.1.map kP)),λf q=>q.imp λkvs h=>⟨h.1,h.2.1,h.2.2.1,f _ h.2.2.2⟩⟩
theorem Rx (h:EF X K fs e w):qv X K fs tg e (.bind w Ny):=⟨PI.imp (MZ h.p) λσ H R ⟨sr,q⟩=>⟨sr,w.mono (λx q1 u1 H1 g1 s1 v1=>by
 obtain⟨kvs,rfl,h0,hl,q1⟩:=q1;obtain⟨a,o,vs,rfl,e,d1,d2⟩:=L3 h0 v1;have len:vs.length=kvs.length:=by have:=congrArg BL d1;simpa using this
 refine⟨a,o,vs,rfl,e,q1 _ H1 g1 s1 ⟨cu (by simpa using hl),λH' t=>?_⟩⟩;have e':=t.z _ _ _ e;refine⟨λi p hp=>?_,vs,e',by simp [len]⟩;rw [Aj] at hp;cases z:kvs[i]? with
 | none=>rw [z] at hp;cases hp
 | some kv=>
  rw [z] at hp;have hp:=Option.some.inj hp;subst hp;have hi:=(Ak.mp z).1;refine⟨⟨vs,e',by omega⟩,λy H2 yy=>?_⟩;obtain⟨rfl,yy⟩:=yy;obtain⟨b,k,v,rfl,k2,k3⟩:=yy vs e';have ek:k=kv.1:=by
   have h1:(vs.map (·.1))[i]?=am k:=by rw [Aj,k2];rfl
   rw [d1,Aj,z] at h1;exact (Option.some.inj h1).symm
  subst ek;exact⟨kR.refl _,.tup k3 (NL _ _)⟩) q⟩⟩
def KR {Q:List PV->Prop} (h0:kvs≠[]) (hl:kvs.length<=1000) (q:Q (kvs.map λkv=>.tup (kv.1.map kP))):(Ny (xR kvs)).run Q:=⟨kvs,rfl,h0,hl,q⟩
end
end
end FL
variable {κ:PyProof.Rows.SortKind}{vs:List AZ}{p:Array Nat}{m:Nat}
namespace L2
open PySem PySem.Spec PyProof.Rows
def eK (N:Nat) (P:α->Prop):DG α->Prop
 | .ret a=>P a
 | .ask i j k=>i < N/\j < N/\∀b,eK N P (k b)
theorem eK.mono {N:Nat}{P P':α->Prop} (h:∀a,P a->P' a):∀{t:DG α},eK N P t->eK N P' t
 | .ret a,q=>h a q
 | .ask i j k,q=>⟨q.1,q.2.1,λb=>eK.mono h (q.2.2 b)⟩
theorem eK.bind {N:Nat}{P:α->Prop}{P':β->Prop}{f:α->DG β} (hf:∀a,P a->eK N P' (f a)):∀{t:DG α},eK N P t->eK N P' (t.bind f)
 | .ret a,q=>hf a q
 | .ask i j k,q=>⟨q.1,q.2.1,λb=>eK.bind hf (q.2.2 b)⟩
theorem eK.wp {N:Nat}{P:α->Prop}{cmp:Nat->Nat->(Bool->ci->Prop)->ci->Prop}{Q:α->ci->Prop} (hc:∀i j C,i < N->j < N->(∀b,C b s)->cmp i j C s) (hq:∀a,P a->Q a s):∀{t:DG α},eK N P t->t.kasWp cmp Q s
 | .ret a,q=>hq a q
 | .ask i j k,q=>hc i j _ q.1 q.2.1 λb=>eK.wp hc hq (q.2.2 b)
def cC (N:Nat) (p:Array Nat):Prop:=p.toList.Perm (AI N)
def cC.lt {N:Nat} (h:cC N p) (h0:0 < N) (k:Nat):p.getD k 0 < N:=by
 by_cases c:k < p.size
 ·have:p.getD k 0=p[k]:=by simp [Array.getD,c]
  rw [this];exact AY.mp (h.mem_iff.mp (by simp))
 ·have:p.getD k 0=0:=by simp [Array.getD,c]
  rw [this];exact h0
def cC.rev {N:Nat} (h:cC N p) (i j:Nat):cC N (EE p i j):=(D5.mp (mirror_perm p i j _)).trans h
def cC.bub {N:Nat} (h:cC N p) (i j:Nat):cC N (bubble p i j):=(D5.mp (bubble_perm p i j)).trans h
section
variable {N:Nat} (h0:0 < N)
include h0
theorem NJ (h:cC N p):∀f n,eK N (λ_=>True) (PySem.W.kas_asc p f n)
 | 0,n=>trivial
 | f+1,n=>⟨h.lt h0 _,h.lt h0 _,λb=>by
  cases b with
  | true=>exact trivial
  | false=>exact NJ h f (n+1)⟩
theorem wz:∀f (p:Array Nat) n q,cC N p->eK N (λr=>cC N r.1) (PySem.W.kas_desc f p n q)
 | 0,p,n,q,h=>h
 | f+1,p,n,q,h=>⟨h.lt h0 _,h.lt h0 _,λb=>by
  cases b with
  | true=>
   show eK N _ (if q > 0 then _ else _)
   split
   ·exact wz f _ _ _ (h.rev _ _)
   ·exact wz f _ _ _ h
  | false=>exact⟨h.lt h0 _,h.lt h0 _,λb=>by
    cases b with
    | true=>exact h
    | false=>exact wz f _ _ _ h⟩⟩
def NC (h:cC N p):eK N (λr=>cC N r.2) (PySem.W.kas_tail3 n m p):=by
 exact eK.bind (N:=N) (P:=λ_=>True) (P':=λr:Nat×Array Nat=>cC N r.2) (f:=λk=>.ret (k,EE p 0 n)) (λk _=>(show cC N (EE p 0 n) from h.rev _ _)) (NJ h0 (h.rev _ _) _ _)
def NG (h:cC N p):eK N (λr=>cC N r.2) (PySem.W.kas_descPart n m p):=eK.bind (λr hr=>by
 split
 ·exact NC h0 (hr.rev _ _)
 ·exact NC h0 hr) (wz h0 _ _ _ _ h)
def Rq (h:cC N p):eK N (λr=>cC N r.2) (PySem.W.kas_count m p):=eK.bind (λn _=>by
 split
 ·exact h
 ·split
  ·exact⟨h.lt h0 _,h.lt h0 _,λb=>by
    cases b with
    | true=>exact h
    | false=>exact NG h0 (h.rev _ _)⟩
  ·exact NG h0 h) (NJ h0 h _ _)
theorem wy (h:cC N p) (k:Nat):∀f l r,eK N (λ_=>True) (PySem.W.kas_place p k f l r)
 | 0,l,r=>trivial
 | f+1,l,r=>by
  show eK N _ (if l≥r then _ else _)
  split
  ·exact trivial
  ·exact⟨h.lt h0 _,h.lt h0 _,λb=>by
    cases b with
    | true=>exact wy h k f _ _
    | false=>exact wy h k f _ _⟩
theorem Te:∀f (p:Array Nat) k,cC N p->eK N (cC N) (PySem.W.kas_bin f p k)
 | 0,p,k,h=>h
 | f+1,p,k,h=>eK.bind (λl _=>Te f _ _ (h.bub _ _)) (wy h0 h k _ _ _)
def VI:eK N (cC N) (Fq N):=eK.bind (λr hr=>by
 split
 ·exact Te h0 _ _ _ hr
 ·exact hr) (Rq h0 (List.Perm.refl _))
end
section
theorem G7 {P:PySem.Fin->ci->Prop} (ho:s.heap.get? a=am (sw "list" vs.toArray n)) (ZM:vs.length < 64)
  (ė:2<=vs.length->∀h',(∀b o,b≠a->s.heap.get? b=am o->h'.get? b=am o)->db (dL prog w) A (keyKind' vs.toArray) (λk s'=>k=κ/\s'={s with heap:=h'}) (λ_ _=>False) {s with heap:=h'})
  (gZ:∀h',(∀b o,b≠a->s.heap.get? b=am o->h'.get? b=am o)->∀i j,i < vs.length->j < vs.length->∀C:Bool->ci->Prop,(∀b,C b {s with heap:=h'})->db (dL prog w) A (keyLt' κ (vs.getD i AM) (vs.getD j AM)) C (λ_ _=>False) {s with heap:=h'})
  (h:∀out:List bn,out.Perm vs->P (.done (.ret .none)) {s with heap:=sortedHeap s.heap a vs out.toArray}) :
  db (dL prog w) A (ut.«list.sort» ⟨[.ref a],[]⟩) P E s:=by
 rw [list_sort_plain];have ha:=Aq ho;refine Aa (listItems_at ho rfl ?_);refine Aa (listUpdate_at ho rfl ?_);obtain⟨e1,ho1⟩:∃e1,(s.heap.update a (Bj λ_=>#[])).get? a=am (sw "list" #[] e1):=⟨_,get?_update_seq ho (λ_=>#[])⟩;refine Aa (seqEpoch_at ho1 rfl ?_);refine Aa (CI ?_);refine Aa (wpAny_newList ?_);refine Bl ?_;have ø:(((s.heap.update a (Bj λ_=>#[])).push (sw "tuple" vs.toArray 0)).push (sw "list" #[] 0)).get? a=am (sw "list" #[] e1):=by
  rw [Heap.get?_push_ne _ _ _ (by rw [size_push',Eh];exact Az (Nat.lt_succ_of_lt ha)),Heap.get?_push_ne _ _ _ (by rw [Eh];exact Az ha)];exact ho1
 have kp:∀b o,b≠a->s.heap.get? b=am o->(((s.heap.update a (Bj λ_=>#[])).push (sw "tuple" vs.toArray 0)).push (sw "list" #[] 0)).get? b=am o:=λb o n e=>Ag _ (Ag _ (by rw [E9 _ _ _ _ n];exact e));dsimp only;have hsz:vs.toArray.size=vs.length:=by simp
 by_cases h2:vs.toArray.size < 2
 ·rw [if_pos h2,if_pos h2];refine Aa (Ae ?_);refine Aa (Ae ?_);dsimp only;refine Aa (seqEpoch_at ø rfl ?_);refine Aa (listUpdate_at ø rfl ?_ (hsz2:=by rw [Array.size_map];show (pairsOf vs).size<=_;rw [pairsOf_size,sizeLine_eq];omega));simp only [bne_self_eq_false,Au,if_false];refine Ae ?_;have e:(arrOf (SortSt.mk' general' (vs.toArray.zip vs.toArray) #[] 7 bm)).map (·.2)=vs.toArray:=by
   apply Array.toList_inj.mp;simp [List.map_snd_zip]
  show P _ {s with heap:=_};rw [e];exact h vs (List.Perm.refl _)
 ·rw [if_neg h2,if_neg h2];have qK:2<=vs.length:=by omega
  refine Aa (BH (ė qK _ kp) (λk s0 hk=>?_) λ_ _ x=>x.elim);obtain⟨rfl,rfl⟩:=hk;have hw:(Fq vs.length).kasWp (PySem.W.kas_ask prog w A k vs) (λp s'=>cC vs.length p/\s'={s with heap:=((s.heap.update a (Bj λ_=>#[])).push (sw "tuple" vs.toArray 0)).push (sw "list" #[] 0)}) {s with heap:=((s.heap.update a (Bj λ_=>#[])).push (sw "tuple" vs.toArray 0)).push (sw "list" #[] 0)}:=
   eK.wp (λi j C hi hj hC=>gZ _ kp i j hi hj C hC) (λp hp=>⟨hp,rfl⟩) (VI (show 0 < vs.length by omega))
  refine Aa (BH (PySem.W.kat_run (Q:=λqA s'=>∃p:Array Nat,cC vs.length p/\arrOf qA=p.map (PySem.W.kas_item (vs.toArray.zip vs.toArray))/\failedOf qA=bm/\s'={s with heap:=((s.heap.update a (Bj λ_=>#[])).push (sw "tuple" vs.toArray 0)).push (sw "list" #[] 0)})
   rfl qK ZM (λp' qA s' a1 a2 a3 a4=>⟨p',a4.1,a2,a3,a4.2⟩) hw) ?_ λ_ _ e=>e)
  rintro⟨⟨⟩,qA⟩ s' ⟨p,hp,har,hf,rfl⟩;have adm:=PySem.W.kat_snds rfl har;have Tq:(p.toList.map λi=>vs.getD i AM).Perm vs:=by
   have e:(AI vs.length).map (λi=>vs.getD i AM)=vs:=by
    apply B1;intro i;by_cases c:i < vs.length
    ·rw [Aj,BJ c,Ad c];show am (vs.getD i AM)=_;rw [Al,Ad c];rfl
    ·rw [AO (by simp;omega),AO ∅]
   have:=hp.map (λi=>vs.getD i AM);rw [e] at this;exact this
  rw [adm];refine Aa (seqEpoch_at ø rfl ?_);refine Aa (listUpdate_at ø rfl ?_ (hsz2:=by rw [Ai,Tq.length_eq,sizeLine_eq];omega));rw [hf];simp only [bne_self_eq_false,Au,if_false];exact Ae (h _ Tq)
def Qb {l:ce}{Q:bn->ci->Prop} (hl:s.heap.IsList l vs.toArray) (ZM:vs.length < 64)
  (ė:2<=vs.length->∀h',(∀b o,s.heap.get? b=am o->h'.get? b=am o)->db (dL prog w) A.in1.in1 (keyKind' vs.toArray) (λk s'=>k=κ/\s'={s with heap:=h'}) (λ_ _=>False) {s with heap:=h'})
  (gZ:∀h',(∀b o,s.heap.get? b=am o->h'.get? b=am o)->∀i j,i < vs.length->j < vs.length->∀C:Bool->ci->Prop,(∀b,C b {s with heap:=h'})->db (dL prog w) A.in1.in1 (keyLt' κ (vs.getD i AM) (vs.getD j AM)) C (λ_ _=>False) {s with heap:=h'})
  (h:∀out:List bn,out.Perm vs->Q (.ref (s.heap.objs.size+1)) {s with heap:=sortedAll s.heap vs out.toArray}) :
  db (dL prog w) A (call (.builtin "sorted") [.ref l]) Q E s:=by
 refine Calls.call_function_entry kind_sorted plain_sorted entry_sorted (args_sorted1 _) ?_;refine Aa (m:=checkCount "sorted" 1 1 _) (Ae ?_);refine Aa (collect_list hl ?_);refine Aa (wpAny_newList ?_);have hsz:((s.heap.push (sw "list" #[] 0)).update s.heap.objs.size (Bj (·++vs.toArray))).objs.size=s.heap.objs.size+1:=by
  rw [Eh,size_push']
 have ö:(((s.heap.push (sw "list" #[] 0)).update s.heap.objs.size (Bj (·++vs.toArray))).push (sw "list" vs.toArray 0)).get? (s.heap.objs.size+1)=am (sw "list" vs.toArray 0):=by
  rw [<- hsz];exact Ao _ rfl
 have kp:∀b o,s.heap.get? b=am o->b≠s.heap.objs.size+1/\(((s.heap.push (sw "list" #[] 0)).update s.heap.objs.size (Bj (·++vs.toArray))).push (sw "list" vs.toArray 0)).get? b=am o:=λb o e=>by
  have lt:=Aq e;refine⟨Az (Nat.lt_succ_of_lt lt),Ag _ ?_⟩;rw [E9 _ _ _ _ (Az lt)];exact Ag _ e
 show db _ _ _ _ _ {s with heap:=((s.heap.push (sw "list" #[] 0)).update s.heap.objs.size (Bj (·++vs.toArray))).push (sw "list" vs.toArray 0)};rw [hsz];refine Aa (Bl (Bm slot_list_sort ⟨_,ö,rfl⟩ entry_list_sort (G7 (κ:=κ) ö ZM (λh2 h' k=>?_) (λh' k=>?_) λout hp=>⟨_,rfl,?_⟩) (args_list_sort _)))
 ·exact ė h2 h' λb o e=>k b o (kp b o e).1 (kp b o e).2
 ·exact gZ h' λb o e=>k b o (kp b o e).1 (kp b o e).2
 ·exact Ae ⟨_,rfl,h out hp⟩
end
end L2
variable {t t1:PySem.Tok}{p:B7}
namespace FL
section
open PySem PySem.Spec PyProof.Rows L2 PL
variable {K:Ab}
def o9:PV->Bool
 | .tup [.str _,.tup [.int _,.int _]]=>true
 | _=>false
def Ho (h:o9 x=true):∃s i j,x=.tup [.str s,.tup [.int i,.int j]]:=by
 unfold o9 at h
 split at h
 ·exact⟨_,_,_,rfl⟩
 ·cases h
section
def R6 (I:Inv X Z σ H s) {v:V}{u:bn} (hv:VR X.K [] H v x) (ru:RelV v u) (hx:o9 x=true):∃(a b:ce) (st:Str) (i j:Int) (t t1 t2:Tok) (oa ob:Obj) (na nb:Nat),u=.ref a/\s.heap.get? a=am oa/\oa.cls=.type "tuple"/\oa.data=.seq #[.str st t,.ref b] na/\s.heap.get? b=am ob/\ob.cls=.type "tuple"/\ob.data=.seq #[.int i t1,.int j t2] nb:=by
 obtain⟨st,i,j,rfl⟩:=Ho hx;cases hv with
 | @tup p vs _ e r=>
 cases ru;cases r with
 | cons r1 r2=>
 cases r1;cases r2 with
 | cons r2 r3=>
 cases r3;cases r2 with
 | @tup b ws _ e2 r4=>
 cases r4 with
 | cons r4 r5=>
 cases r4;cases r5 with
 | cons r5 r6=>
 cases r6;cases r5;obtain⟨aq,rv,⟨o,h1,h2,n,h3⟩,_⟩:=I.tuple (d4.of (K:=X.K) e);obtain⟨cH,rv2,⟨o2,k1,k2,n2,k3⟩,_⟩:=I.tuple (d4.of (K:=X.K) e2);cases rv with
 | cons q1 q2=>
 cases q2 with
 | cons q2 q3=>
 cases q3;cases rv2 with
 | cons m1 m2=>
 cases m2 with
 | cons m2 m3=>
 cases m3;obtain⟨t,rfl⟩:=q1;cases q2;obtain⟨t1,rfl⟩:=m1;obtain⟨t2,rfl⟩:=m2;exact⟨p,b,st,i,j,t,t1,t2,o,o2,n,n2,rfl,h1,h2,h3,k1,k2,k3⟩
end
theorem R4 {b a' b':ce}{st qA:Str}{i j i' j':Int}{t2 t' Yc Ya:Tok}{oa W4 YR:Obj}{na nb na' ć:Nat} (hu:A.units+1 < o0)
  (h1:s.heap.get? a=am oa) (h3:oa.data=.seq #[.str st t,.ref b] na) (k1:s.heap.get? b=am ob) (k2:ob.cls=.type "tuple") (k3:ob.data=.seq #[.int i t1,.int j t2] nb)
  (gB:s.heap.get? a'=am W4) (Oc:W4.data=.seq #[.str qA t',.ref b'] na') (ċ:s.heap.get? b'=am YR) (Ċ:YR.cls=.type "tuple") (ĉ:YR.data=.seq #[.int i' Yc,.int j' Ya] ć)
  {C:Bool->ci->Prop} (hC:∀b,C b s):db (dL prog w) A (keyLt' (tuples' true) (.ref a) (.ref a')) C (λ_ _=>False) s:=by
 refine PySem.W.kat_lt h1 h3 gB Oc (Fp (Dc.str_str st t qA t' prog w _ _ (PySem.W.kat_go (λ_=>PySem.W.kat_yes ?_) λ_=>PySem.W.kat_no ?_)))
 ·refine Fp ?_;have hT:s.heap.IsTuple b #[.int i t1,.int j t2]:=⟨ob,k1,k2,nb,k3⟩;have hT':s.heap.IsTuple b' #[.int i' Yc,.int j' Ya]:=⟨YR,ċ,Ċ,ć,ĉ⟩;have go:∀e,PySem.W.KatGo prog w A true (decide ((#[Bc st t,.ref b]:Array bn).size < (#[Bc qA t',.ref b']:Array bn).size)) C (.ref b) (.ref b') [] 1 e s:=λe=>PySem.W.kat_go (λ_=>PySem.W.kat_yes (PySem.W.kat_nil (hC _))) λ_=>PySem.W.kat_no (PySem.W.kat_one _ _ (HT.G5 hT hT' (.cons i t1 (.cons j t2 .nil)) (.cons i' Yc (.cons j' Ya .nil)) ∅ (hC _)));by_cases c:b=b'
  ·subst c;exact Fw (.ref b) prog w _ _ (go _)
  ·refine Fg c (Fi (e:=λk=>if k=0 then i==i' else j==j') hT hT' ∅ λk g1 g2=>?_) prog w _ _ (go _);have:k=0\/k=1:=by simp at g1;omega
   rcases this with rfl | rfl
   ·exact DR i t1 i' Yc
   ·exact DR j t2 j' Ya
 ·exact oneLt_str (hC _)
section
def UD (K:Ab):List V->Hp->VK->Prop:=λxs H Q=>∃(p:ce) (vs:List V) (l:List PV),xs=[.ref p]/\cR K H p vs/\aD K [] H vs l/\l.length < 64/\l.all o9=true/\∀m:List PV,m.Perm l->∀ws,aD K [] H ws m->lJ H (.lst ws) Q
def M0 {vs:List V}{out:List bn} (r:Vals vs us) (v:aD K [] H vs l) (p:out.Perm us):∃ws m,Vals ws out/\aD K [] H ws m/\m.Perm l:=by
 induction p generalizing vs l with
 | nil=>cases r;cases v;exact⟨[],[],.nil,.nil,.refl _⟩
 | cons x p ih=>
  cases r with
  | cons r1 r2=>
  cases v with
  | cons v1 v2=>
  obtain⟨ws,m,a,b,c⟩:=ih r2 v2;exact⟨_::ws,_::m,.cons r1 a,.cons v1 b,.cons _ c⟩
 | swap x y l'=>
  cases r with
  | cons r1 r2=>
  cases r2 with
  | cons r2 r3=>
  cases v with
  | cons v1 v2=>
  cases v2 with
  | cons v2 v3=>exact⟨_::_::_,_::_::_,.cons r2 (.cons r1 r3),.cons v2 (.cons v1 v3),.swap _ _ _⟩
 | trans p1 p2 ih1 ih2=>
  obtain⟨ws,m,a,b,c⟩:=ih2 r v;obtain⟨qU,m',a',b',c'⟩:=ih1 a b;exact⟨qU,m',a',b',c'.trans c⟩
theorem H9 (hK:X.K=K) (hu:X.A.units+200 < o0):bE X (.builtin "sorted") (UD K):=by
 subst hK;intro Z s σ H xs us Q I r h;obtain⟨p,vs,l,rfl,hq,hv,ZM,hd,q⟩:=h;obtain⟨u,rfl,rx⟩:=vals1 r;cases rx;obtain⟨aq,r',pl,hz⟩:=I.list hq;have hl:=r'.length;have Px:=hv.length;have el:∀i,i < aq.length->∃(a b:ce) (st:Str) (i1 j1:Int) (t t1 t2:Tok) (oa ob:Obj) (na nb:Nat),aq.getD i AM=.ref a/\s.heap.get? a=am oa/\oa.cls=.type "tuple"/\oa.data=.seq #[.str st t,.ref b] na/\s.heap.get? b=am ob/\ob.cls=.type "tuple"/\ob.data=.seq #[.int i1 t1,.int j1 t2] nb:=λi hi=>by
  have e1:vs[i]?=am vs[i]:=Ad ∅;obtain⟨x,ex,vx⟩:=hv.ZN e1;have hx:=CM.mp hd x (Bh ex);have ru:RelV vs[i] (aq.getD i AM):=by
   obtain⟨u,hu1,hu2⟩:=Vals.get r' e1;rw [Al,hu1];exact hu2
  exact R6 I vx ru hx
 refine Qb (κ:=tuples' true) pl.isList ∅ (λh2 h' kp=>?_) (λh' kp i j hi hj C hC=>?_) λout hp=>?_
 ·have ß:∀l:List bn,(∀v∈l,∃(a:ce) (x:bn) (st:Str) (t:Tok) (oa:Obj) (na:Nat),v=.ref a/\h'.get? a=am oa/\oa.cls=.type "tuple"/\oa.data=.seq #[.str st t,x] na)->∃fs,PySem.W.KatTups h' l fs/\fs.length=l.length/\∀v∈fs,∃st t,v=Bc st t:=by
   intro l
   induction l with
   | nil=>intro _;exact⟨[],trivial,rfl,by simp⟩
   | cons v l ih=>
    intro hl;obtain⟨fs,f1,f2,f3⟩:=ih λy hy=>hl y (.tail _ hy);obtain⟨a,x,st,t,oa,na,rfl,g1,g2,g3⟩:=hl v (.head _);refine⟨.str st t::fs,PySem.W.KatTups.cons g1 g2 g3 rfl f1,by simp [f2],λy hy=>?_⟩;rcases Aw.mp hy with rfl | hy
    ·exact⟨st,t,rfl⟩
    ·exact f3 y hy
  obtain⟨fs,f1,f2,f3⟩:=ß aq λv hv=>by
   obtain⟨i,hi,rfl⟩:=DE hv;obtain⟨a,b,st,i1,j1,t,t1,t2,oa,ob,na,nb,e,h1,h2,h3,_⟩:=el i hi;rw [Al,Ad hi] at e;exact⟨a,.ref b,st,t,oa,na,e,kp _ _ h1,h2,h3⟩
  refine PySem.W.kat_kind (T:=.type "str") f1 ∅ (λv hv=>?_) ⋯ ⟨rfl,rfl⟩;obtain⟨st,t,rfl⟩:=f3 v hv;exact PySem.W.Looks.now
 ·obtain⟨a,b,st,i1,j1,t,t1,t2,oa,ob,na,nb,e,h1,h2,h3,k1,k2,k3⟩:=el i hi;obtain⟨a',b',qA,i1',j1',t',Yc,Ya,W4,YR,na',ć,e',gB,qK,Oc,ċ,Ċ,ĉ⟩:=el j hj;rw [e,e'];exact R4 (s:={s with heap:=h'}) (by show X.A.units+1+1+1 < _;omega) (kp _ _ h1) h3 (kp _ _ k1) k2 k3 (kp _ _ gB) Oc (kp _ _ ċ) Ċ ĉ hC
 ·obtain⟨ws,m,a1,a2,a3⟩:=M0 r' hv hp;obtain⟨e,he⟩:=sortedAll_at s.heap aq out.toArray;refine⟨.ref (s.heap.objs.size+1),_,I.laid (t':=s.toks) (λ_ _=>sortedAll_old) (Dr _) (show aY X.prog X.w _ _ _ (.lst ws) from⟨?_,out,e,a1,he⟩),rfl,(q m a3 ws a2).at _ (I.bp.fresh (Dr _))⟩;rw [a2.length,a3.length_eq];rw [<- Px];exact hz
def Mg (l:List PV):W (List PV):=.ff (l.length < 64/\l.all o9=true) (.any λm=>m.Perm l)
def Rf (hK:X.K=K) (hu:X.A.units+200 < o0) (hg:Gl X "sorted") (hm:X.mg "sorted"=bm) (ha:Gn X K fs e wl) (he:gK X e []:=by rfl) (dw:lH X pos []:=by rfl):LF X K fs (.Call (.Name "sorted" p) [e] [] pos) (.bind wl Mg):=
 ⟨PE.imp (d8 (H9 hK hu) hg hm boot_sorted (aW ha.p bV he) ⋯ ⋯ he dw) λσ H Q ⟨sr,q⟩=>⟨sr,wl.mono (λl q1 u1 H1 g1 s1 _ v1=>by
  obtain⟨⟨c1,c2⟩,q2⟩:=q1;obtain⟨a,vs,rfl,h1,r1⟩:=v1 H1 .refl s1;exact⟨a,vs,l,rfl,h1,r1,c1,c2,λm hm ws hw=>Jr g1 s1 hw (q2 m hm)⟩) q⟩⟩
end
end
end FL
variable {x z:BX}{ts:List BX}{t3:PySem.Tok}
namespace FL
section
open PySem PySem.Spec PyProof.Rows L2 PL
variable {K:Ab}
structure Ph (K:Ab) (a:ce) (ts:List Str):Prop where
 ex:∃(o:Obj) (aq:Array bn) (n:Nat),K.lookup a=am o/\o.cls=.type "tuple"/\o.data=.seq aq n/\aq.size<=sizeLine/\Vals (ts.map V.str) aq.toList
 tn:∃o:Obj,K.lookup a=am o/\o.cls=.type "tuple"/\o.dict=bm
def tup3K {t2:Tok} (h:K.lookup a=am ⟨.type "tuple",bm,.seq #[.str x t1,.str y t2,.str z t3] n,Pu⟩):Ph K a [x,y,z]:=⟨⟨_,_,_,h,rfl,rfl,cu (by show 3<=_;decide),.cons ⟨_,rfl⟩ (.cons ⟨_,rfl⟩ (.cons ⟨_,rfl⟩ .nil))⟩,_,h,rfl,rfl⟩
section
theorem IK (H:Hp):∀ts:List Str,aD K [] H (ts.map V.str) (ts.map PV.str)
 | []=>.nil
 | t::ts=>.cons (.str t) (IK H ts)
end
section
variable {a:ii}
def XU (hK:X.K=K) (hu:X.A.units+200 < o0) {ad:ce} (ha:EF X K fs a wa) (hm:X.mg x=am (.ref ad)) (T:Ph K ad ts) (hg:Gl X x:=by rfl) (hd:iW x:=by decide) (hk:pc .In (.Name x p)=false:=by rfl) :
  TF X K fs (.Compare a [.In] [.Name x p] pos) (.bind wa λv=>qj false v (ts.map PV.str)):=⟨PT.imp (m9 (M8 K hK hu) ha.p (qC hg hm (v:=.ref ad) rfl hd) hk) λσ H Q ⟨sr,q⟩=>⟨sr,wa.mono (λv q1 u1 H1 g1 s1 v1=>⟨ad,_,_,v,rfl,.inr (.inr T.ex),IK H1 ts,v1,q1.1,_,rfl,q1.2 H1 g1 s1⟩) q⟩⟩
end
end
section
open PySem PySem.Spec PyProof.Rows L2 PL
variable {K:Ab}
section
variable {rest:List sn}{S T T2:Type}{hd:ce->S->bb}{s0:S}{wt:PV->W T2}{cn:ce->S->T2->bb}{k:S->W T}{out:T->End}{x:Bool}
def QI (sr:aR K H σ fs) (hs:fs[i]?=am (am (.ol (am a) l))):∃ws,H a=am (.lst ws)/\aD K [] H ws l:=by
 obtain⟨u,_,⟨v,e,_⟩ | ⟨b,_,z,ws,q1,q2⟩⟩:=sr.at' i _ hs
 ·cases e
 ·cases z a rfl;exact⟨ws,q1,q2⟩
theorem SF.adX (i:Nat) {f:PV->S->W S}{wb:T2->S->W S} (hs:fs[i]?=am (am (.ol q0 l))) (hK:X.K=K) (hN:X.N[i]?=am y) (hv:F5 X.env.scope y) (hp:v4 (dL X.prog X.w) X.A X.env X.xe) (hc:X.calm=true)
  (hl:∀a,hX (fs.set i (am (.ol (am a) l))) (hd a s0)) (ZK:∀a s,(hd a s)[i]?=am (am (.ol (am a) l))) (hg:∀a s,GF X K (hd a s) tg is wt (cn a s)) (hf:∀p s,f p s=.bind (wt p) λt=>wb t s)
  (hb:∀a s t,SF X K false (cn a s t) body (wb t s) λs'=>.nc (hd a s')) (hr:∀a s,SF X K x ((hd a s).set i (am (.ol bm l))) rest (k s) out) (ZI:iW y:=by decide) (jq:Gp y:=by decide) (Đ:∀x,foldedSetIterable (.Name y p) X.env x=pure x:=by intro _;rfl) :
  SF X K x fs (.For tg (.Name y p) body [] pos::rest) (.bind (cy l s0 f) k) out:=by
 refine SF.step (GP (g:=λv σ H Q=>∃a s,fG K (hd a s) is wt (cn a s) v σ H Q) (tb:=λD σ H=>∃a s t,fS K false (cn a s t) (wb t s) (λs'=>.nc (hd a s')) D σ H) hp hc (MX (K:=K) (hK:=hK) (d7 hN hv ZI jq)) (λZ s σ H v u Q I r ⟨a,s1,q⟩=>(hg a s1).p Z s σ H v u Q I r q) (λZ s σ H D I ⟨a,s1,t1,q⟩=>(hb a s1 t1).p Z s σ H D I q) Đ) λD σ H ⟨sr,q1⟩=>?_;obtain⟨a,ws,e1,h1,r1⟩:=di sr hs;obtain⟨s1,g1⟩:=eN (t':=.ol (am a) l) sr hs rfl (by simp) e1 (λ_ _ _ h=>h) λ_=>⟨λb z=>Option.some.inj z,ws,h1,r1⟩;refine⟨_,e1,a,rfl,⟨ws,.inl (.inl h1)⟩,?_⟩;refine⟨λi' m σ' H'=>∃s,aR K H' σ' (hd a s)/\cD σ fs H σ' (hd a s) H'/\m=l.length-i'/\i'<=l.length/\(cy (l.drop i') s f).run λs'=>(k s').run λt=>bD K x σ fs H D (out t),⟨l.length,s0,s1.le (hl a),g1.trans (cD.le s1 (hl a)),by simp,Ba _,by simpa using q1⟩,?_⟩;rintro i' m σ2 H2 ⟨s,s2,g2,rfl,hi,q2⟩;obtain⟨us,h2,r2⟩:=QI s2 (ZK a s);have sq:cR K H2 a us:=.inl (.inl h2);by_cases gZ:i' < l.length
 ·obtain⟨v,h3,h4⟩:=r2.get (Ad gZ);rw [Bi gZ] at q2;refine .inr ⟨⟨us,v,sq,h3⟩,λσ3 H3=>∃s',aR K H3 σ3 (hd a s')/\cD σ fs H σ3 (hd a s') H3/\(cy (l.drop (i'+1)) s' f).run λs'=>(k s').run λt=>bD K x σ fs H D (out t),λσ3 H3 ⟨s',a1,a2,a4⟩=>⟨l.length-(i'+1),by omega,s',a1,a2,rfl,gZ,a4⟩,λv2 H3 y=>?_⟩;obtain⟨rfl,y⟩:=y;have:=y us sq;rw [h3] at this;cases this;have q2:(f l[i'] s).run λs'=>(cy (l.drop (i'+1)) s' f).run λs'=>(k s').run λt=>bD K x σ fs H D (out t):=q2;rw [hf] at q2;refine⟨a,s,_,s2,h4,(wt l[i']).mono (λt q4 us g4 s4=>?_) q2⟩;refine⟨a,s,t,s4,(wb t s).mono (λs' q5 σ5 H5 g5 s5=>?_) q4⟩;exact⟨λ_=>⟨s',s5,(g2.trans g4).trans g5,q5⟩,s',s5,(g2.trans g4).trans g5,q5⟩
 ·have e:i'=l.length:=by omega
  subst e;rw [Dj] at q2;obtain⟨a',us',e2,qK,r2'⟩:=di s2 (ZK a s);obtain⟨s3,g3⟩:=eN (t':=.ol bm l) s2 (ZK a s) rfl (by simp) e2 (λ_ _ _ h=>h) λ_=>⟨by simp,us',qK,r2'⟩;exact .inl ⟨⟨us,sq,by rw [r2.length];exact An _⟩,_,k s,hr a s,s3,(k s).mono (λt q3=>q3.go (g2.trans g3) sr s3) q2⟩
def SF.ZV (i:Nat) {f:PV->S->W S} (hs:fs[i]?=am (am (.ol q0 l))) (hK:X.K=K) (hN:X.N[i]?=am y) (hv:F5 X.env.scope y) (hp:v4 (dL X.prog X.w) X.A X.env X.xe) (hc:X.calm=true)
  (hl:∀a,hX (fs.set i (am (.ol (am a) l))) (hd a s0)) (ZK:∀a s,(hd a s)[i]?=am (am (.ol (am a) l))) (hg:PG X tg (dZ j))
  (hb:∀a s p,SF X K false ((hd a s).set j (am (.val p))) body (f p s) λs'=>.nc (hd a s')) (hr:∀a s,SF X K x ((hd a s).set i (am (.ol bm l))) rest (k s) out) (ZI:iW y:=by decide) (jq:Gp y:=by decide) (Đ:∀x,foldedSetIterable (.Name y p) X.env x=pure x:=by intro _;rfl) :
  SF X K x fs (.For tg (.Name y p) body [] pos::rest) (.bind (cy l s0 f) k) out:=SF.adX (wt:=.ret) (wb:=λp s=>f p s) i hs hK hN hv hp hc hl ZK (λa s=>Tw hg) (λ_ _=>rfl) hb hr ZI jq Đ
end
end
end FL
variable {kp cp:B7}{kc:Nat}
namespace L2
open PySem PySem.Spec PyProof.Rows
section
variable {R:Result->ci->Prop}{I S:ce}{wr:List ce}{P:Nat->bn->Prop}{St:Nat->lf->Prop}
abbrev dfN:List (Str×bn):=[(B5 "default",.none)]
abbrev aas (l:List bn) (c:Nat):Obj:={cls:=.type "list",dict:=bm,data:=.seq l.toArray c,slots:=#[]}
def RN {n:Nat} (h:n<=2):n<=sizeLine:=BA h ⋯
theorem KJ (W:Walks prog w A.in1 I fp wr n P St) (bt:Nat->Nat->Bool) (adE:CmpOf prog w A.in1 .Lt P bt) (hSf:S∉fp) :
  ∀(k j:Nat) (s:ci) (l:List bn) (c:Nat),n-j=k->j<=n->St j s.heap->(j=0/\l=[]\/∃i v,j=i+1/\l=[v,v]/\P (argBest bt i) v)->s.heap.get? S=am (aas l c)->
  (∀v h' tk,(n=0/\v=.none\/0 < n/\P (argBest bt (n-1)) v)->(∀b o,b∉wr->b≠S->s.heap.get? b=am o->h'.get? b=am o)->R (.ok (.ret v)) {s with heap:=h',toks:=tk})->
  zn (dL prog w) A (.builtin "min.loop" ⟨[.ref I,.none,.ref S],dfN⟩) R s:=by
 have hSw:S∉wr:=λh=>hSf (W.sub _ h);have hn:(toString "min"++toString ".loop":String)="min.loop":=by decide
 intro k
 induction k with
 | zero=>
  intro j s l c hk hj qI hl hS hR;have e:j=n:=by omega
  subst e;refine Fk F.entry_min_loop ?_;rw [E1 Cm _];refine Aa (Br hS rfl (Aa (DU (W.done s _ _ qI λh' tk V0=>?_))));have V4:=V0 S _ hSw hS;rcases hl with⟨e0,rfl⟩ | ⟨i,v,rfl,rfl,hv⟩
  ·exact Aa (CY (Ae (hR _ h' tk (.inl ⟨e0,rfl⟩) λb o hb _ z=>V0 b o hb z)))
  ·refine Aa (Cr V4 rfl (Aa (Cp (Ae ?_))) (RN (An _)) (Ba _));exact hR v _ tk (.inr ⟨Nat.succ_pos _,hv⟩) λb o hb N8 z=>(BG _ _ (Bz N8)).trans (V0 b o hb z)
 | succ k ih=>
  intro j s l c hk hj qI hl hS hR;have gZ:j < n:=by omega
  refine Fk F.entry_min_loop ?_;rw [E1 Cm _];refine Aa (Br hS rfl (Aa (DU (W.item j s _ _ gZ qI λv h' tk hP Zr V0=>?_))));have V4:=V0 S _ hSw hS;have Td:∀(f:Obj->Obj) b o,b∉wr->b≠S->s.heap.get? b=am o->(h'.update S f).get? b=am o:=λf b o hb N8 z=>(BG _ _ (Bz N8)).trans (V0 b o hb z);have frU:∀(f:Obj->Obj),St (j+1) (h'.update S f):=λf=>W.frame _ _ _ Zr λb hbf o e=>(BG _ _ (λh:S=b=>hSf (by rw [h];exact hbf))).trans e;refine Aa (Ae ?_);rcases hl with⟨rfl,rfl⟩ | ⟨i,vb,rfl,rfl,hb⟩
  ·refine Aa (Cr V4 rfl ?_ (Ba _) (Nat.le_succ_of_le (RN (An _))));rw [hn];refine Ae ⟨ul Cm _,ih 1 _ [v,v] _ ∅ gZ (frU _) (.inr ⟨0,v,rfl,rfl,hP⟩) (BO _ V4 rfl) λv' h2 XR Ob VZ=>?_⟩;exact hR v' h2 XR Ob λb o hb N8 z=>VZ b o hb N8 (Td _ b o hb N8 z)
  ·refine Aa (DU (Bl (Aa (adE (i+1) (argBest bt i) v vb _ _ _ hP hb ?_))));refine Aa (Bl (CB (Aa (Cp (Ae ?_)))));cases hbt:bt (i+1) (argBest bt i) with
   | true=>
    refine Aa (Cr V4 rfl (Aa (Cp ?_)) (RN (An _)) (Nat.le_succ_of_le (RN (An _))));rw [hn];refine Ae ⟨ul Cm _,ih (i+2) _ [v,v] _ ∅ gZ (frU _) (.inr ⟨i+1,v,rfl,rfl,by simp only [argBest,hbt,if_true];exact hP⟩) (BO _ V4 rfl) λv' h2 XR Ob VZ=>?_⟩;exact hR v' h2 XR Ob λb o hb N8 z=>VZ b o hb N8 (Td _ b o hb N8 z)
   | false=>
    refine Aa (Cp ?_);rw [hn];refine Ae ⟨ul Cm _,ih (i+2) _ [vb,vb] c ∅ gZ Zr (.inr ⟨i+1,vb,rfl,rfl,by simp only [argBest,hbt];exact hb⟩) V4 λv' h2 XR Ob VZ=>?_⟩;exact hR v' h2 XR Ob λb o hb N8 z=>VZ b o hb N8 (V0 b o hb z)
def LD (a:bn):argsOk "min" ⟨[a],dfN⟩:=by unfold argsOk;kernel_rfl
def Q6 (ns:List Int) (t:Tok):bn:=if ns=[] then .none else .int (oU ns) t
theorem G3 {l:ce}{Q:bn->ci->Prop} (hh:A.handled=bm) (hl:s.heap.IsList l vs.toArray) (hi:tt vs ns)
  (h:∀(h':lf) (t:Tok) tk,(∀b o,s.heap.get? b=am o->h'.get? b=am o)->Q (Q6 ns t) {s with heap:=h',toks:=tk}):db (dL prog w) A (call (.builtin "min") [.ref l] dfN) Q E s:=by
 obtain⟨xs,e⟩:=hi.allInts.items;have Gk:ns=xs.toList.map (·.1):=by rw [<- hi.numsOf,<- nums_intItems,<- e]
 rw [e] at hl;have hn:(toString "min"++toString ".loop":String)="min.loop":=by decide
 refine kmb_tree F.kind_min F.plain_min F.entry_min (LD _) ?_;refine Aa (Co (show Builtin.Builtins.bindParams "min" ["key","default"] 0 ⟨[],dfN⟩=pure [bm,am .none] from rfl) ?_);refine Aa (Ae ?_);refine Aa (iter_intList hl λs₂ e2 st hfp hlI=>?_);subst e2;refine Aa (A1 ?_);rw [hn];have W:=Walks.list (A:=A.in1) (prog:=prog) (w:=w) hh s.heap.objs.size l hlI (intItems xs);have hsz:(intItems xs).size=ns.length:=by rw [Gk];simp [intItems]
 refine Ae ⟨ul Cm _,KJ W _ (CmpOf.ints_lt (numAt xs) (λ_ _=>intItems_at)) (λhm=>AQ _ (hfp _ hm)) _ 0 _ [] 0 rfl (Ba _) (W.frame _ _ _ st λb _ o e=>Ag _ e) (.inl ⟨rfl,rfl⟩) (Ao _ rfl) λv h' tk hP hk=>?_⟩;have kp:∀b o,s.heap.get? b=am o->h'.get? b=am o:=λb o z=>by
  have h1:=Aq z;refine hk b o (λy=>Az h1 (AW.mp y)) (λy=>?_) (Ag _ (Ag _ z));rw [y,Ck] at h1;exact absurd h1 (Nat.not_lt_of_le (Dr _))
 rcases hP with⟨h0,rfl⟩ | ⟨h0,hP⟩
 ·have e0:ns=[]:=BV ∅;have:=h h' 0 tk kp;rw [Q6,if_pos e0] at this;exact this
 ·obtain⟨t,rfl⟩:=intItems_at hP;have e0:ns≠[]:=λz=>by rw [hsz,z] at h0;exact AQ _ h0
  have h2:=h h' t tk kp;rw [Q6,if_neg e0,<- Jv Gk e0] at h2;have ez:(intItems xs).size=xs.size:=by simp [intItems]
  rw [ez];exact h2
end
def Yq (K:Ab):List V->Hp->VK->Prop:=λxs H Q=>∃(p:ce) (ns:List Int),xs=[.ref p]/\cR K H p (ns.map V.int)/\Q (if ns=[] then .aE else .int (oU ns)) H
def QD {t:TA} (K:Ab) (hK:X.K=K) (hc:X.calm=true) (hg:Gl X "min") (hm:X.mg "min"=bm) (ha:PA X [e] t) (he:u8 pos (f8 [e] X.env)=(false,kw e X.env)::u8 pos (f8 [] X.env)) (hp:(u8 pos (f8 [e] X.env)).any (·.1)=false) :
  PE X (.Call (.Name "min" p) [e] [⟨am (B5 "default"),.Constant .none kc cp,kp⟩] pos) (λσ H Q=>t σ H λvs H'=>Yq K vs H' Q):=by
 subst hK;intro Z s σ H Q I h;refine BC (ic I hg hm boot_min ?_ ⋯ ⋯);refine callWith_kw (bZ (ha pos Z s σ H _ I h) λus s1 ⟨vs,H1,I1,r1,q1⟩=>?_) he hp;refine kws_cons (bZ (M3 Z s1 σ H1 (λv H2=>v=.aE/\H2=H1) I1 ⟨rfl,rfl⟩) λv s2 ⟨x,H2,I2,r2,e1,e2⟩=>kws_nil ?_);subst e1 e2;cases r2;obtain⟨a,ns,rfl,hq,q⟩:=q1;obtain⟨u,rfl,rx⟩:=vals1 r1;cases rx;obtain⟨aq,r',pl,hz⟩:=I2.list hq;refine G3 (I2.ok.hd hc) pl.isList (intsAre_of r') λh' t tk hk=>?_;unfold Q6;by_cases c:ns=[]
 ·rw [if_pos c] at q ⊢;exact⟨.aE,_,I2.kept (t':=tk) hk,rfl,q⟩
 ·rw [if_neg c] at q ⊢;exact⟨.int _,_,I2.kept (t':=tk) hk,⟨t,rfl⟩,q⟩
end L2
namespace FL
open PySem PySem.Spec PyProof.Rows L2 PL
def Ju (l:List PV):W PV:=.bind (md l) λns=>.ret (if ns=[] then .aE else .int (oU ns))
def Wu {K:Ab} (hK:X.K=K) (hc:X.calm=true) (hg:Gl X "min") (hm:X.mg "min"=bm) (ha:Gn X K fs e wl) (hs:gK X e []:=by rfl) (he:u8 pos (f8 [e] X.env)=(false,kw e X.env)::u8 pos (f8 [] X.env):=by rfl) (hp:(u8 pos (f8 [e] X.env)).any (·.1)=false:=by rfl) :
  EF X K fs (.Call (.Name "min" p) [e] [⟨am (B5 "default"),.Constant .none kc cp,kp⟩] pos) (.bind wl Ju):=⟨PE.imp (QD K hK hc hg hm (aW ha.p bV hs) he hp) λσ H Q ⟨sr,q⟩=>⟨sr,wl.mono (λl q1 u1 H1 g1 s1 _ v1=>by
 obtain⟨ns,el,q2⟩:=fY (l:=l) q1;obtain⟨a,vs,rfl,h1,r1⟩:=v1 H1 .refl s1;rw [el] at r1;have:=jo r1;subst this;refine⟨a,ns,rfl,h1,?_⟩;by_cases c:ns=[]
 ·simp only [if_pos c] at q2 ⊢;exact q2 _ H1 g1 s1 .aE
 ·simp only [if_neg c] at q2 ⊢;exact q2 _ H1 g1 s1 (.int _)) q⟩⟩
end FL
namespace L2
open PySem PySem.Spec PyProof.Rows
def W9 (x y z q:Str):Nat:=if x=q then 0 else if y=q then 1 else 2
def oV {q:Str}{t2:Tok}:Meets (ut.«tuple.index» ⟨[.ref a,.str q t],[]⟩) (λ_ R s=>(∃o,s.heap.get? a=am o/\o.data=.seq #[.str x t1,.str y t2,.str z t3] n)/\q∈[x,y,z]/\∀u,R (.ok (.ret (.int (W9 x y z q:Nat) u))) {s with toks:=s.toks+1}):=by
 refine .of_wp λprog w A R s ⟨⟨o,ho,hd⟩,hq,h⟩=>?_;refine Aa (Ae ?_);refine Aa (Aa (Br ho hd (Ae ?_)));refine Aa (Ae ?_);refine Aa (Ae ?_);refine Aa ?_;rw [Std.Legacy.Range.forIn_eq_forIn_range'];rw [show List.range' [:min #[Bc x t1,Bc y t2,Bc z t3].size #[Bc x t1,Bc y t2,Bc z t3].size].start [:min #[Bc x t1,Bc y t2,Bc z t3].size #[Bc x t1,Bc y t2,Bc z t3].size].size [:min #[Bc x t1,Bc y t2,Bc z t3].size #[Bc x t1,Bc y t2,Bc z t3].size].step=[0,1,2] from by simp only [Std.Legacy.Range.size,Ai,Ap,Bk];decide];simp only [BM,List.forIn_nil];refine Aa (Aa (Dh ?_));have Ñ:∀k:Nat,W9 x y z q=k->∃v,EY (.ret (.int (k:Int) s.toks))=EY (.ret v)/\R (.ok (.ret v)) {s with toks:=s.toks+1}:=λk e=>⟨_,rfl,by have:=h s.toks;rw [e] at this;exact this⟩;by_cases c1:x=q
 ·subst c1;rw [decide_eq_true rfl,if_pos rfl];exact Aa (Aa (Aa (wpAny_fresh (Ae (Ae (Ae (Ae (Ae (Ñ 0 (if_pos rfl))))))))))
 ·rw [decide_eq_false c1,if_neg ⋯];refine Ae (Aa (Aa (Dh ?_)));by_cases c2:y=q
  ·subst c2;rw [decide_eq_true rfl,if_pos rfl];exact Aa (Aa (Aa (wpAny_fresh (Ae (Ae (Ae (Ae (Ae (Ñ 1 (by rw [W9,if_neg c1,if_pos rfl]))))))))))
  ·rw [decide_eq_false c2,if_neg ⋯];refine Ae (Aa (Aa (Dh ?_)));have c3:z=q:=by simp at hq;rcases hq with e | e | e <;> first | exact absurd e.symm c1 | exact absurd e.symm c2 | exact e.symm
   subst c3;rw [decide_eq_true rfl,if_pos rfl];exact Aa (Aa (Aa (wpAny_fresh (Ae (Ae (Ae (Ae (Ae (Ñ 2 (by rw [W9,if_neg c1,if_neg c2]))))))))))
def Yu (K:Ab):V->List V->Hp->VK->Prop:=λv vs H Q=>∃a x y z q,v=.ref a/\vs=[.str q]/\d4 K H a [.str x,.str y,.str z]/\q∈[x,y,z]/\Q (.int (W9 x y z q:Nat)) H
def Q3 (K:Ab) (hK:X.K=K):J6 X "tuple.index" (Yu K):=by
 subst hK;intro Z s σ H v vs u us Q I rx rv h;obtain⟨a,x,y,z,q,rfl,rfl,hq,hm,qq⟩:=h;cases rx;obtain⟨u,rfl,ru⟩:=rv.one;obtain⟨t,rfl⟩:=ru;obtain⟨aq,r,pl,hz⟩:=I.tuple hq;obtain⟨o,ho,hc,n,hd⟩:=pl;cases r with
 | cons q1 r=>cases r with
  | cons q2 r=>cases r with
   | cons q3 r=>
    cases r;obtain⟨t1,rfl⟩:=q1;obtain⟨t2,rfl⟩:=q2;obtain⟨t3,rfl⟩:=q3;exact sB F.slot_tuple_index ⟨_,ho,hc⟩ F.entry_tuple_index (F.args_tuple_index_2 _ _) oV ⟨⟨_,ho,hd⟩,hm,λu=>⟨.int _,H,I.tok _,⟨u,rfl⟩,qq⟩⟩
end L2
namespace FL
open PySem PySem.Spec PyProof.Rows L2 PL
def NY (ts:List Str):PV->W PV
 | .str q=>match ts with
  | [x,y,z]=>.ff (q∈[x,y,z]) (.ret (.int (W9 x y z q:Nat)))
  | _=>.fail
 | _=>.fail
def Wv {K:Ab}{w:W PV}{n:Str}{ad:ce} (hK:X.K=K) (he:EF X K fs e w) (hm:X.mg n=am (.ref ad)) (T:Ph K ad ts) (hg:Gl X n:=by rfl) (hd:iW n:=by decide)
  (eI:nw (.Name n p) "index" X.env (kw (.Name n p) X.env)=kw (.Name n p) X.env:=by rfl)
  (pe:WY X bC [e]:=by rfl)
  (eG:PM Ã bC:=by rfl) (qI:gK X e []:=by rfl) (eU:lH X bC []:=by rfl) :
  EF X K fs (.Call (.Attribute (.Name n p) "index" Ã) [e] [] bC) (.bind w (NY ts)):=
 ⟨PE.imp (rE K hK PySem.F.plainAttrs_tuple PySem.F.slot_tuple_index PySem.F.type_tuple_index (Q3 K hK) (qC hg hm (v:=.ref ad) rfl hd) (aW he.p bV qI) eI pe eG qI eU) λσ H Q ⟨sr,q⟩=>
  ⟨.inr (.inl ⟨rfl,T.tn⟩),sr,w.mono (λx q2 u2 H2 g2 s2 v2=>by
   cases v2 <;> first | exact q2.elim | skip
   match ts,T,q2 with
   | [x,y,z],T,q2=>exact⟨ad,x,y,z,_,rfl,rfl,.inr T.ex,q2.1,q2.2 _ H2 g2 s2 (.int _)⟩
   | [],_,q2=>exact q2.elim
   | [_],_,q2=>exact q2.elim
   | [_,_],_,q2=>exact q2.elim
   | _::_::_::_::_,_,q2=>exact q2.elim) q⟩⟩
section
variable {K:Ab}
def vP (l:List PV):PV->W (List PV×PV)
 | .int k=>.bind (.Jo (uQ l.length k)) λj=>.bind (.Jo l[j]?) λv=>.ff (l.length<=sizeLine) (.ret (l.eraseIdx j,v))
 | _=>.fail
theorem aD.erase:∀{ws:List V}{l:List PV} (j:Nat),aD K [] H ws l->aD K [] H (ws.eraseIdx j) (l.eraseIdx j)
 | _,_,_,.nil=>by simp only [List.eraseIdx_nil];exact .nil
 | _,_,0,.cons _ t=>t
 | _,_,j+1,.cons r t=>by rw [Cn,Cn];exact .cons r (aD.erase j t)
section
variable {rest:List sn}{T:Type}{out:T->End}{x:Bool}
theorem SF.acA (i j:Nat) {k:List PV×PV->W T} (hs:fs[i]?=am (am (.ol q0 l))) (ZC:j≠i) (hK:X.K=K) (hN:X.N[i]?=am y) (hv:F5 X.env.scope y) (ğ:X.N.Nodup) (hj:X.N[j]?=am z) (hx:Loc X.env.scope z) (he:EF X K fs e we) (hr:∀t:List PV×PV,SF X K x ((fs.set i (am (.ol q0 t.1))).set j (am (.val t.2))) rest (k t) out)
  (hd:iW y:=by decide) (jq:Gp y:=by decide) (eI:nw (.Name y p) "pop" X.env (kw (.Name y p) X.env)=kw (.Name y p) X.env:=by rfl)
  (pe:WY X bC [e]:=by rfl)
  (eG:PM Ã bC:=by rfl) (qI:gK X e []:=by rfl) (eU:lH X bC []:=by rfl)
  (nM:im (.Call (.Attribute (.Name y p) "pop" Ã) [e] [] bC) (am (.Name z p')) pos.line X.env=pure false:=by rfl) (hf:LQ X z:=by first | exact .inl rfl | exact .inr rfl | assumption) :
  SF X K x fs (.Assign [.Name z p'] (.Call (.Attribute (.Name y p) "pop" Ã) [e] [] bC) pos::rest) (.bind we λn=>.bind (vP l n) k) out:=
 SF.step (rC ğ hj hx (rE K hK BW ET ES Nk (d7 hN hv hd jq) (aW he.p bV qI) eI pe eG qI eU) nM hf) λD σ H ⟨sr,q⟩=>by
  obtain⟨a,ws,e1,h1,r1⟩:=di sr hs;refine⟨_,e1,.inl ⟨rfl,_,cR.of h1⟩,sr,we.mono (λn q1 u H1 g1 s1 v1=>?_) q⟩;obtain⟨a',qU,qp,gB,tV⟩:=di s1 hs;rw [e1] at qp;cases qp;cases v1 with
  | int kk=>
   have q1:(ap (.Jo (uQ l.length kk)) λj=>.bind (.Jo l[j]?) λv=>.ff (l.length<=sizeLine) (.ret (l.eraseIdx j,v))).run λt=>(k t).run λt=>bD K x σ fs H D (out t):=q1;cases hx:uQ l.length kk with
   | none=>rw [hx] at q1;exact q1.elim
   | some m=>
   cases hv:l[m]? with
   | none=>rw [hx] at q1;simp only [wT,ga,hv] at q1;exact q1.elim
   | some v=>
   rw [hx] at q1;simp only [wT,ga,hv] at q1;obtain⟨hz,q1⟩:=q1;obtain⟨uu,hu,ru⟩:=tV.get hv;obtain⟨h3,h4,h5,h6⟩:=wO hx;have h9:(sizeLine:Int) < 2 ^ 63:=by decide
   refine⟨a,qU,kk,m,uu,rfl,rfl,gB,by omega,by omega,by rw [tV.length];exact h3,hu,?_⟩;have sx:oj a H1 (upd H1 a (.lst (qU.eraseIdx m))):=λz o n hz=>by rw [av n];exact hz
   obtain⟨s2,g2⟩:=eN (t':=.ol q0 (l.eraseIdx m)) s1 hs rfl (by simp) e1 sx λtk=>⟨λb hb=>by
    subst hb;obtain⟨u,e2,⟨v,e,_⟩ | ⟨b',e,z,_⟩⟩:=s1.at' i _ hs
    ·cases e
    ·rw [e2] at e1;cases e1;cases e;exact z b rfl,_,aK,aD.tk tk (aD.erase m tV)⟩
   have s3:=s2.fm (g2.vr s1 ru) j;exact⟨_,k _,hr (l.eraseIdx m,v),s3,(k _).mono (λt q2=>q2.go ((g1.f.trans g2).trans (cD.fm s2 _ _ j)) sr s3) q1⟩
  | _=>exact q1.elim
end
end
section
variable {K:Ab}
def yS (kvs:List (List Key×PV)) (k:List Key) (v:PV):List (List Key×PV):=
 if (kvs.any λkv=>decide (kv.1=k)) then kvs.map λkv=>if kv.1=k then (kv.1,v) else kv else kvs++[(k,v)]
section
theorem bG.ind {C:List (List Key×V)->List (List Key×PV)->Prop} (h0:C [] []) (h1:∀(p:List Key×V) (q:List Key×PV) vs kvs,p.1=q.1->VR K [] H p.2 q.2->bG K H vs kvs->C vs kvs->C (p::vs) (q::kvs)):∀{vs kvs},bG K H vs kvs->C vs kvs
 | [],[],_=>h0
 | [],_::_,h=>by simp [bG] at h
 | _::_,[],h=>by simp [bG] at h
 | p::vs,q::kvs,⟨a,b⟩=>by
  rw [Ar,Ar] at a b;injection a with a1 a2;cases b with
  | cons r t=>exact h1 p q vs kvs a1 r ⟨a2,t⟩ (bG.ind h0 h1 ⟨a2,t⟩)
def bG.mk' {p:List Key×V}{q:List Key×PV}{vs kvs} (e:p.1=q.1) (r:VR K [] H p.2 q.2) (h:bG K H vs kvs):bG K H (p::vs) (q::kvs):=⟨by rw [Ar,Ar,e,h.1],.cons r h.2⟩
def bG.put {vs:List (List Key×V)} (h:bG K H vs kvs) (k:List Key) (r:VR K [] H u v):bG K H (putK vs k u) (yS kvs k v):=by
 have hh:(vs.any λkv=>decide (kv.1=k))=kvs.any λkv=>decide (kv.1=k):=bG.ind (C:=λvs kvs=>(vs.any λkv=>decide (kv.1=k))=kvs.any λkv=>decide (kv.1=k)) rfl (λp q vs kvs e _ _ ih=>by rw [Bw,Bw,ih,e]) h;unfold putK yS;rw [hh]
 split
 ·refine bG.ind (C:=λvs kvs=>bG K H (vs.map λkv=>if kv.1=k then (kv.1,u) else kv) (kvs.map λkv=>if kv.1=k then (kv.1,v) else kv)) ⟨rfl,.nil⟩ (λp q vs kvs e rr _ ih=>?_) h;rw [Ar,Ar];by_cases c:p.1=k
  ·rw [if_pos c,if_pos (e▸c)];exact bG.mk' e r ih
  ·rw [if_neg c,if_neg (e▸c)];exact bG.mk' e rr ih
 ·exact bG.ind (C:=λvs kvs=>bG K H (vs++[(k,u)]) (kvs++[(k,v)])) ⟨rfl,.cons r .nil⟩ (λp q vs kvs e rr _ ih=>bG.mk' e rr ih) h
end
section
variable {a ei:ii}{rest:List sn}{T:Type}{out:T->End}{x:Bool}
def qD (sr:aR K H σ fs) (hs:fs[i]?=am (am (.ot kvs))):∃a vs,σ[i]?=am (am (.ref a))/\H a=am (.dT vs)/\bG K H vs kvs:=by
 obtain⟨u,e1,⟨v,e,_⟩ | ⟨a,e,vs,q⟩⟩:=sr.at' i _ hs
 ·cases e
 ·subst e;exact⟨a,vs,e1,q⟩
def SF.Yg {k:W T} (hN:X.N.Nodup) (hi:X.N[i]?=am y) (hx:Loc X.env.scope y) (hr:SF X K x (fs.set i (am (.ot []))) rest k out) (hs:im (.Dict [] [] p2) (am (.Name y p')) pos.line X.env=pure false:=by rfl)
  (hf:LQ X y:=by first | exact .inl rfl | exact .inr rfl | assumption):SF X K x fs (.Assign [.Name y p'] (.Dict [] [] p2) pos::rest) k out:=SF.step (rC hN hi hx M4 hs hf) λD σ H ⟨sr,q⟩=>λa n1=>by
 have s1:=iD n1 (.dT []);have no:=sr.noOwn n1;have s2:=(sr.same s1).vM (t:=.ot []) ⟨[],aK,rfl,.nil⟩ no i;exact⟨_,k,hr,s2,k.mono (λt q2=>q2.go (cD.vM (sr.same s1) (cD.same s1 sr) no n1 i) sr s2) q⟩
def Zc:PV->Option Key
 | .int i=>am (.inl i)
 | .str s=>am (.inr s)
 | _=>bm
def si:List PV->Option (List Key)
 | []=>am []
 | p::l=>(Zc p).bind λk=>(si l).bind λks=>am (k::ks)
def JB:PV->W (List Key)
 | .tup l=>.Jo (si l)
 | _=>.fail
theorem uM:∀{l:List PV}{ks:List Key},si l=am ks->l=ks.map kP
 | [],ks,h=>by cases h;rfl
 | p::l,ks,h=>by
  unfold si at h;cases e:Zc p with
  | none=>rw [e] at h;cases h
  | some k=>
  cases e2:si l with
  | none=>rw [e,e2] at h;cases h
  | some ks'=>
  rw [e,e2] at h;cases h;rw [uM e2];cases p <;> first | cases e | skip
  all_goals rfl
def Nz {Q:List Key->Prop} (r:VR K [] H u v) (q:(JB v).run Q):∃b k,u=.ref b/\H b=am (.tup (k.map kV))/\Q k:=by
 cases r with
 | @tup b vs l e rs=>
  have q:(W.Jo (si l)).run Q:=q;cases h:si l with
  | none=>rw [h] at q;exact q.elim
  | some k=>
   rw [h] at q;rw [uM h] at rs;rw [zP rs] at e;exact⟨b,k,rfl,e,q⟩
 | _=>exact q.elim
theorem ad6 (i:Nat) (hs:fs[i]?=am (am (.ot kvs))) (hu:X.A.units+200 < o0) (ha:EF X K fs a wa) (hN:X.N[i]?=am y:=by rfl) (hv:F5 X.env.scope y:=by first | exact CZ rfl | exact Cy (CZ rfl) | exact Cy (Cy rfl)) (hd:iW y:=by decide) (jq:Gp y:=by decide) (hsl:Sz a) :
  EF X K fs (.Subscript (.Name y p) a pos) (.bind wa λx=>.bind (JB x) λk=>.Jo (cI kvs k)):=⟨PE.imp (Jh ∅ (d7 hN hv hd jq) ha.p hsl) λσ H Q ⟨sr,q⟩=>by
 obtain⟨a,vs,e1,h1,r1⟩:=qD sr hs;refine⟨_,e1,sr,wa.mono (λv q1 u H1 g1 s1 v1=>?_) q⟩;obtain⟨b,k,rfl,eb,q2⟩:=Nz v1 q1;have q2:(W.Jo (cI kvs k)).run _:=q2;obtain⟨a',LK,qp,gB,tV⟩:=qD s1 hs;rw [e1] at qp;cases qp;cases hg:cI kvs k with
 | none=>rw [hg] at q2;exact q2.elim
 | some z=>
  rw [hg] at q2;obtain⟨u,k1,k2⟩:=tV.get.2 hg;exact⟨a,u,rfl,by rw [<- k1];exact Iw.t gB eb,q2 u H1 g1 s1 k2⟩⟩
def MK (kvs:List (List Key×PV)) (n v:PV):W (List (List Key×PV)):=.bind (JB n) λkk=>.ff (kvs.length < sizeLine) (.ret (yS kvs kk v))
theorem SF.yS (i:Nat) {k:List (List Key×PV)->W T} (hs:fs[i]?=am (am (.ot kvs))) (hu:X.A.units+200 < o0) (hN:X.N[i]?=am y) (hv:F5 X.env.scope y) (he:EF X K fs e we) (hi:EF X K fs ei wi) (hr:∀l',SF X K x (fs.set i (am (.ot l'))) rest (k l') out)
  (hd:iW y:=by decide) (jq:Gp y:=by decide) (nM:im e (am (.Subscript (.Name y p) ei vz)) pos.line X.env=pure false:=by rfl) :
  SF X K x fs (.Assign [.Subscript (.Name y p) ei vz] e pos::rest) (.bind we λv=>.bind wi λn=>.bind (MK kvs n v) k) out:=
 SF.step (Qt ∅ (d7 hN hv hd jq) hi.p he.p nM) λD σ H ⟨sr,q⟩=>by
  refine⟨sr,we.mono (λv q1 u H1 g1 s1 v1=>?_) q⟩;obtain⟨a,vs,e1,h1,r1⟩:=qD s1 hs;refine⟨_,e1,s1,wi.mono (λn q2 u2 H2 g2 s2 v2=>?_) q1⟩;obtain⟨b,kk,rfl,eb,hz,q3⟩:=Nz v2 q2;obtain⟨a',LK,qp,gB,tV⟩:=qD s2 hs;rw [e1] at qp;cases qp;have len:LK.length=kvs.length:=by have:=congrArg BL tV.1;simpa using this
  refine⟨a,_,rfl,Pn.t gB eb (by rw [len];exact hz),?_⟩;have sx:oj a H2 (upd H2 a (.dT (putK LK kk u))):=λz o n hz=>by rw [av n];exact hz
  have rp:=tV.put kk (g2.vr s1 v1);obtain⟨s3,g3⟩:=eN (t':=.ot (FL.yS kvs kk v)) s2 hs rfl (by simp) e1 sx λtk=>⟨_,aK,rp.1,aD.tk tk rp.2⟩;exact⟨_,k _,hr _,s3,(k _).mono (λt q4=>q4.go ((g1.trans g2).f.trans g3) sr s3) q3⟩
end
end
def jc (ns:List Int):Prop:=∃g s c:Int,ns=[g,s,c]/\0<=g/\0<=s/\s < 2305843009213693951/\0<=c
def drawn (m:Int):W PV:=.any λv=>∃d:Int,v=.int d/\0<=d/\d < m
def b9:PV->W PV
 | .int m=>.ff (0 < m/\m<=2000) (drawn m)
 | _=>.fail
end FL
variable {i j:Int}
namespace FL
open PySem PySem.Spec PyProof.Rows L2 PL
def rG:of2 (aI g) (.int i) (.int j)=.ret (g i j):=ww λQ=>⟨CN,λq=>⟨rfl,q⟩⟩
def qE {C:Int->Int->Prop}:of2 (WR C g) (.int i) (.int j)=.ff (C i j) (.ret (g i j)):=ww λQ=>⟨λq=>⟨q.1,q.2.2⟩,λq=>⟨q.1,rfl,q.2⟩⟩
section
variable (i j:Int) (a:Bool) (x y:PV) (l m:List PV) (s t:Str)
@[simp] theorem xv:of2 zd (.int i) (.int j)=.ret (.int (i-j)):=rG
@[simp] theorem OD:of2 oT (.int i) (.int j)=.ff (wv i j) (.ret (.int (i*j))):=qE
@[simp] theorem ad4:of2 oDiv (.int i) (.int j)=.ff (LJ i j) (.ret (.int (i / j))):=qE
@[simp] theorem OE:of2 oMod (.int i) (.int j)=.ff (0 < j) (.ret (.int (i % j))):=qE
@[simp] theorem OA:of2 Nc (.int i) (.int j)=.ff (Pp i j) (.ret (.int (i ^ j.toNat))):=qE
@[simp] theorem JP:of2 oLt (.int i) (.int j)=.ret (.bl (decide (i < j))):=rG
@[simp] theorem Z5:of2 oLe (.int i) (.int j)=.ret (.bl (decide (i<=j))):=rG
@[simp] theorem afg:of2 oGt (.int i) (.int j)=.ret (.bl (decide (j < i))):=rG
@[simp] theorem Z6:of2 oGe (.int i) (.int j)=.ret (.bl (decide (j<=i))):=rG
def FC:of2 kd x y=.ff (HF x y) (.ret (.bl (iV x y))):=ww λQ=>⟨λq=>⟨q.1,q.2.2⟩,λq=>⟨q.1,rfl,q.2⟩⟩
def OC:of2 vV x y=.ff (HF x y) (.ret (.bl (!iV x y))):=ww λQ=>⟨λq=>⟨q.1,q.2.2⟩,λq=>⟨q.1,rfl,q.2⟩⟩
@[simp] theorem kG:of2 zf x .aE=.ret (.bl x.gz):=ww λQ=>⟨CN,λq=>⟨rfl,q⟩⟩
@[simp] theorem abq:of2 uD x .aE=.ret (.bl (!x.gz)):=ww λQ=>⟨CN,λq=>⟨rfl,q⟩⟩
def Wn {c:Nat} (h:dH s.cps.toList i=am c):of2 Nf (.str s) (.int i)=.ff (s.length<=sizeLine) (.ret (.str ⟨#[c]⟩)):=ww λQ=>by
 show (s.length<=sizeLine/\match dH s.cps.toList i with | some c=>_/\_ | none=>False)↔_;rw [h];exact⟨λq=>⟨q.1,q.2.2⟩,λq=>⟨q.1,rfl,q.2⟩⟩
@[simp] theorem e7:addW (.int i) (.int j)=.ret (.int (i+j)):=(rfl)
@[simp] theorem RV:addW (.str s) (.str t)=.ff (s.length+t.length<=sizeLine) (.ret (.str (s++t))):=(rfl)
@[simp] theorem RU:addW (.tup l) (.tup m)=.ff (l.length+m.length<=sizeLine) (.ret (.tup (l++m))):=(rfl)
@[simp] theorem OB:Nj (.int i)=.ret (.int (-i)):=(rfl)
@[simp] theorem bB:asB (.bl a)=.ret a:=(rfl)
@[simp] theorem Xp (w:W PV):O1 (.bl true) w=w:=(rfl)
@[simp] theorem Xq (w:W PV):O1 (.bl false) w=.ret (.bl false):=(rfl)
@[simp] theorem RT (w:W PV):Sn (.bl true) w=w:=(rfl)
@[simp] theorem abG (w:W PV):Sn (.bl false) w=.ret (.bl false):=(rfl)
@[simp] theorem cO:f7 (.bl a)=.ret a:=(rfl)
@[simp] theorem abo:f7 (.int i)=.ret (i != 0):=(rfl)
@[simp] theorem abn:f7 .aE=.ret false:=(rfl)
@[simp] theorem abm:f7 (.tup l)=.ret (!l.isEmpty):=(rfl)
@[simp] theorem abp:f7 (.cl l)=.ret (!l.isEmpty):=(rfl)
@[simp] theorem aG:aA (.tup l)=.ret l:=(rfl)
@[simp] theorem bR:aA (.cl l)=.ret l:=(rfl)
@[simp] theorem jv:rR (.cl l)=.ret l:=(rfl)
@[simp] theorem cA:Th l (.int i)=.Jo (dH l i):=(rfl)
@[simp] theorem xw:zB l=.ret (.int l.length):=(rfl)
@[simp] theorem Oz:lI l=.ret (.tup l):=(rfl)
@[simp] theorem RQ:part (.int i)=.ret (am i):=(rfl)
@[simp] theorem mB:ur (.tup [x,y])=.ret (x,y):=(rfl)
@[simp] theorem Oy (z u:PV):XQ (.tup [x,y,z,u])=.ret (x,y,z,u):=(rfl)
@[simp] theorem abC (k:Kd):ig k (.int i)=.ret (.bl (k.is (.int i))):=(rfl)
@[simp] theorem xy (k:Kd):ig k (.str s)=.ret (.bl (k.is (.str s))):=(rfl)
@[simp] theorem hE (k:Kd):ig k (.tup l)=.ret (.bl (k.is (.tup l))):=(rfl)
@[simp] theorem abD (k:Kd):ig k (.cl l)=.ret (.bl (k.is (.cl l))):=(rfl)
@[simp] theorem abE (k:Kd):ig k (.bl a)=.ret (.bl (k.is (.bl a))):=(rfl)
@[simp] theorem abB (k:Kd):ig k .aE=.ret (.bl (k.is .aE)):=(rfl)
@[simp] theorem g9:oA dq [.tup l]=.ret (.int l.length):=ww λQ=>⟨CN,λq=>⟨rfl,q⟩⟩
@[simp] theorem e6:oA dq [.cl l]=.ret (.int l.length):=ww λQ=>⟨CN,λq=>⟨rfl,q⟩⟩
@[simp] theorem abr:oA dq [.str s]=.ff (s.length<=sizeLine) (.ret (.int s.length)):=ww λQ=>⟨λq=>⟨q.1,q.2.2⟩,λq=>⟨q.1,rfl,q.2⟩⟩
@[simp] theorem Wo:oA FZ [.int i]=.ret (.int (if i < 0 then -i else i)):=ww λQ=>⟨CN,λq=>⟨rfl,q⟩⟩
@[simp] theorem abF:oA Ii [.int i]=.ret (.int i):=ww λQ=>⟨CN,λq=>⟨rfl,q⟩⟩
@[simp] theorem RS:oA Ii [.bl a]=.ret (.int (if a then 1 else 0)):=ww λQ=>⟨CN,λq=>⟨rfl,q⟩⟩
@[simp] theorem Wm:oA LC [.int i,.int j]=.ret (.int (if j > i then j else i)):=ww λQ=>⟨CN,λq=>⟨rfl,q⟩⟩
@[simp] theorem Wl:oA LB [.int i,.int j]=.ret (.int (if j < i then j else i)):=ww λQ=>⟨CN,λq=>⟨rfl,q⟩⟩
@[simp] theorem RO:Ml (.tup l) bm bm (am (-1))=.ret (.tup l.reverse):=mo ⟨rfl,rfl,rfl⟩
@[simp] theorem de:fJ (.int j)=.ff (okN 0 j) (.ret (iL 0 j.toNat)):=(rfl)
@[simp] theorem RP (k:Int):Mu (.int i) (.int j) (.int k)=.ff (k = -1/\okN j i) (.ret (pS i (i-j).toNat)):=(rfl)
@[simp] theorem Wj:yX (l++[x])=.ret (l,x):=by unfold yX;simp
@[simp] theorem Wi:Qj l (.int i)=.ff (-(2 ^ 63)<=i/\i < 2 ^ 63/\l.length*i.toNat<=sizeLine) (.ret (Am i.toNat l).flatten):=(rfl)
@[simp] theorem abx:Kd.is .int (.int i)=true:=(rfl)
@[simp] theorem aby:Kd.is .int (.bl a)=true:=(rfl)
@[simp] theorem abA:Kd.is .bool (.bl a)=true:=(rfl)
@[simp] theorem abz:Kd.is .bool (.int i)=false:=(rfl)
@[simp] theorem xx:Kd.is .str (.str s)=true:=(rfl)
@[simp] theorem ly:Kd.is .str (.tup l)=false:=(rfl)
@[simp] theorem abw:Kd.is .str (.int i)=false:=(rfl)
@[simp] theorem JQ:Kd.is .tup (.tup l)=true:=(rfl)
@[simp] theorem abt:Kd.is .tup (.str s)=false:=(rfl)
@[simp] theorem abu:Kd.is .tup (.int i)=false:=(rfl)
@[simp] theorem abv:Kd.is .tup (.bl a)=false:=(rfl)
@[simp] theorem dc (h0:0 < i) (h1:i<=2000):b9 (.int i)=drawn i:=mo ⟨h0,h1⟩
def bA {m:Int} (h:∀d:Int,0<=d->d < m->Q (.int d)):(drawn m).run Q:=λv ⟨d,e,h0,h1⟩=>e▸h d h0 h1
end
namespace W
variable {α β:Type}
def le (a b:W α):Prop:=∀Q,b.run Q->a.run Q
def le.refl (a:W α):a.le a:=λ_ h=>h
def le.of_eq {a b:W α} (h:a=b):a.le b:=h▸le.refl a
def le.ret {a:W α}{v:α}{f:α->W β}{b:W β} (h:a.le (.ret v)) (hf:(f v).le b):(a.bind f).le b:=λQ q=>h _ (hf Q q)
def le.use {a:W α}{v:α}{Q:α->Prop} (h:a.le (.ret v)) (q:Q v):a.run Q:=h _ q
end W
section
variable {S R:Type}
@[simp] theorem ZU (s:S) (f:PV->S->W S):cy [] s f=.ret s:=(rfl)
@[simp] theorem Xj (x:PV) (r:List PV) (s:S) (f:PV->S->W S):cy (x::r) s f=.bind (f x s) λs'=>cy r s' f:=(rfl)
theorem sM {f:PV->S->W S}{Q:S->Prop} (I:List PV->S->Prop):∀{l:List PV}{s:S},I l s->(∀x r s,I (x::r) s->(f x s).run (I r))->(∀s,I [] s->Q s)->(cy l s f).run Q
 | [],s,h0,_,he=>he s h0
 | x::r,s,h0,hs,he=>(f x s).mono (λs' h=>sM I h hs he) (hs x r s h0)
theorem Fl {f:PV->S->W (Lp S R)}{Q:Lp S R->Prop} (I:List PV->S->Prop):∀{l:List PV}{s:S},I l s->(∀x r s,I (x::r) s->(f x s).run λo=>match o with | .go s'=>I r s' | .out t=>Q (.out t))->(∀s,I [] s->Q (.go s))->(FL.lL l s f).run Q
 | [],s,h0,_,he=>he s h0
 | x::r,s,h0,hs,he=>(f x s).mono (λo h=>match o,h with
  | .go s',h=>Fl I h hs he
  | .out t,h=>h) (hs x r s h0)
theorem fV {f:PV->S->W S}{Q:S->Prop} (I:Nat->S->Prop) {s:S} (h0:I 0 s) (hs:∀(i:Nat) (x:PV) s,l[i]?=am x->I i s->(f x s).run (I (i+1))) (he:∀s,I l.length s->Q s):(cy l s f).run Q:=by
 refine sM (λr s=>∃i,i<=l.length/\r=l.drop i/\I i s) ⟨0,Ba _,rfl,h0⟩ (λx r s ⟨i,hi,e,h⟩=>?_) (λs ⟨i,hi,e,h⟩=>?_)
 ·have gZ:i < l.length:=by
   rcases C4 i l.length with h | h
   ·exact h
   ·rw [EB h] at e;cases e
  rw [Bi gZ] at e;injection e with e1 e2;subst e1;exact (f _ s).mono (λs' h'=>⟨i+1,gZ,e2,h'⟩) (hs i _ s (Ad gZ) h)
 ·have:i=l.length:=by
   have:=congrArg BL e;rw [List.length_drop] at this;simp at this;omega
  subst this;exact he s h
theorem xr {f:PV->S->W (Lp S R)}{Q:Lp S R->Prop} (I:Nat->S->Prop) {s:S} (h0:I 0 s) (hs:∀(i:Nat) (x:PV) s,l[i]?=am x->I i s->(f x s).run λo=>match o with | .go s'=>I (i+1) s' | .out t=>Q (.out t)) (he:∀s,I l.length s->Q (.go s)):(FL.lL l s f).run Q:=by
 refine Fl (λr s=>∃i,i<=l.length/\r=l.drop i/\I i s) ⟨0,Ba _,rfl,h0⟩ (λx r s ⟨i,hi,e,h⟩=>?_) (λs ⟨i,hi,e,h⟩=>?_)
 ·have gZ:i < l.length:=by
   rcases C4 i l.length with h | h
   ·exact h
   ·rw [EB h] at e;cases e
  rw [Bi gZ] at e;injection e with e1 e2;subst e1;exact (f _ s).mono (λo h'=>match o,h' with
   | .go s',h'=>⟨i+1,gZ,e2,h'⟩
   | .out t,h'=>h') (hs i _ s (Ad gZ) h)
 ·have:i=l.length:=by
   have:=congrArg BL e;simp at this;omega
  subst this;exact he s h
def gD {f:PV->S->W S}{Q:S->Prop} (I:Nat->S->Prop) {s:S} (h0:I 0 s) (hs:∀(i:Nat) s,i < n->I i s->(f (.int (i:Int)) s).run (I (i+1))) (he:∀s,I n s->Q s):(cy (iL 0 n) s f).run Q:=
 fV I h0 (λi x s hx h=>by obtain⟨hi,rfl⟩:=pd hx;rw [EC];exact hs i s hi h) (λs h=>he s (by rw [iK] at h;exact h))
def Oj {f:PV->S->W (Lp S R)}{Q:Lp S R->Prop} (I:Nat->S->Prop) {s:S} (h0:I 0 s) (hs:∀(i:Nat) s,i < n->I i s->(f (.int (i:Int)) s).run λo=>match o with | .go s'=>I (i+1) s' | .out t=>Q (.out t)) (he:∀s,I n s->Q (.go s)):(FL.lL (iL 0 n) s f).run Q:=
 xr I h0 (λi x s hx h=>by obtain⟨hi,rfl⟩:=pd hx;rw [EC];exact hs i s hi h) (λs h=>he s (by rw [iK] at h;exact h))
theorem Gu {c:S->W Bool}{b:S->W S}{Q:S->Prop} (I:Nat->S->Prop) {s:S} (h0:I n s) (hs:∀n s,I n s->(c s).run λk=>if k=true then (b s).run (λs'=>∃m,m < n/\I m s') else Q s):(Gv c b s).run Q:=by
 refine⟨n+1,?_⟩;have:∀k n s,n < k->I n s->(mn c b k s).run Q:=by
  intro k
  induction k with
  | zero=>intro n s h;omega
  | succ k ih=>
   intro n s hn h;refine (c s).mono (λz q=>?_) (hs n s h);cases z with
   | true=>exact (b s).mono (λs' ⟨m,hm,h'⟩=>ih m s' ∅ h') (show (b s).run _ from q)
   | false=>exact q
 exact this (n+1) n s ∅ h0
theorem Jx {f:PV->W PV}{g:PV->PV}:∀{l:List PV},(∀x∈l,f x=.ret (g x))->bz l f=.ret (l.map g)
 | [],_=>rfl
 | x::r,h=>by
  show ap (f x) (λy=>ap (bz r f) λl=>bd (y::l))=_;rw [h x (.head _),Jx λy hy=>h y (.tail _ hy)];rfl
theorem wq {g:PV->Option PV}:∀{l:List PV},(∀x∈l,f x=.ret (g x))->lY l f=.ret (l.filterMap g)
 | [],_=>rfl
 | x::r,h=>by
  show ap (f x) (λo=>ap (lY r f) λl=>bd (o.toList++l))=_;rw [h x (.head _),wq λy hy=>h y (.tail _ hy),A6];cases g x <;> rfl
@[simp] theorem Sm (bs:List Bool):Pd (bs.map PV.bl)=.ret (.bl (bs.any id)):=by unfold Pd;rw [J0];rfl
end
section
variable (i j:Int) (a b:Bool) (x y:PV) (l m:List PV) (s t:Str)
@[simp] theorem TC:iV (.int i) (.int j)=(i==j):=by rw [iV]
@[simp] theorem TB:iV (.str s) (.str t)=(s==t):=by rw [iV]
@[simp] theorem TH:iV (.bl a) (.bl b)=(a==b):=by rw [iV]
@[simp] theorem Tz:iV (.tup l) (.tup m)=fD l m:=by rw [iV]
@[simp] theorem afd:iV (.cl l) (.cl m)=fD l m:=by rw [iV]
@[simp] theorem ad0:fD [] []=true:=by rw [fD]
@[simp] theorem We:fD (x::l) (y::m)=(iV x y&&fD l m):=by rw [fD]
@[simp] theorem abj:PV.g8 (.int i)=true:=by rw [PV.g8] <;> simp
@[simp] theorem adZ:PV.g8 (.bl a)=true:=by rw [PV.g8] <;> simp
@[simp] theorem abh:PV.g8 (.str s)=true:=by rw [PV.g8] <;> simp
@[simp] theorem abi:PV.g8 .aE=true:=by rw [PV.g8] <;> simp
@[simp] theorem abg:PV.g8 (.tup l)=eV l:=by rw [PV.g8]
@[simp] theorem adY:PV.g8 (.cl l)=eV l:=by rw [PV.g8]
@[simp] theorem ZW:eV []=true:=by rw [eV]
@[simp] theorem Xk:eV (x::l)=(PV.g8 x&&eV l):=by rw [eV]
@[simp] theorem Z3:PV.eW (.int i)=0:=by rw [PV.eW] <;> simp
@[simp] theorem abl:PV.eW (.bl a)=0:=by rw [PV.eW] <;> simp
@[simp] theorem Z1:PV.eW (.str s)=0:=by rw [PV.eW] <;> simp
@[simp] theorem Z2:PV.eW .aE=0:=by rw [PV.eW] <;> simp
@[simp] theorem Z0:PV.eW (.tup l)=dE l+1:=by rw [PV.eW]
@[simp] theorem abk:PV.eW (.cl l)=dE l+1:=by rw [PV.eW]
@[simp] theorem Xm:dE []=0:=by rw [dE]
@[simp] theorem Wg:dE (x::l)=max (PV.eW x) (dE l):=by rw [dE]
def FD:HF (.int i) (.int j):=⟨by simp,by simp,by simp⟩
@[simp] theorem jw:of2 kd (.int i) (.int j)=.ret (.bl (i==j)):=by rw [FC,mo (FD i j),TC]
@[simp] theorem Wk:of2 vV (.int i) (.int j)=.ret (.bl (!(i==j))):=by rw [OC,mo (FD i j),TC]
@[simp] theorem ad3:of2 kd (.bl a) (.bl b)=.ret (.bl (a==b)):=by rw [FC,mo ⟨by simp,by simp,by simp⟩,TH]
@[simp] theorem ad2:of2 vV (.bl a) (.bl b)=.ret (.bl (!(a==b))):=by rw [OC,mo ⟨by simp,by simp,by simp⟩,TH]
end
theorem gE:∀{l:List PV},eV l=true↔∀x∈l,PV.g8 x=true
 | []=>by simp
 | x::l=>by rw [eV,AN,gE (l:=l)];simp
theorem gF:∀{l:List PV},(∀x∈l,PV.eW x<=n)->dE l<=n
 | [],_=>by simp
 | x::l,h=>by
  have h1:=h x (.head _);have h2:=gF (l:=l) λy hy=>h y (.tail _ hy);rw [dE];omega
structure EV where
 P:sK
 w:tz
 K:Ab
 mg:Str->Option bn
 base:lf
structure DF where
 x:Str
 s:sn
 ps:List Str
 k:Nat
 sp:Ab->Sp
abbrev DF.C (d:DF) (v:EV):=SI v.P v.w v.K v.mg v.base d.x d.k d.ps (d.sp v.K)
structure DI (v:EV) (d:DF) where
 f:ce
 fd:Db
 fn:PK v.K d.x d.x d.s f fd
 bi:Binds v.K fd d.ps []
 at':v.mg d.x=am (.ref f)
abbrev DI.O {v:EV}{d:DF} (D:DI v d):Prop:=iU v.P v.w v.K v.mg v.base mm d.k D.f D.fd d.ps (d.sp v.K)
def DI.c {v:EV}{d:DF} (D:DI v d) (h:D.O):d.C v:=⟨D.f,D.fd,h,D.bi,D.fn.kp,D.at'⟩
def DI.cN {v:EV}{d:DF} (D:DI v d) (h:iU v.P v.w v.K v.mg v.base mm k D.f D.fd d.ps sp):SI v.P v.w v.K v.mg v.base d.x k d.ps sp:=⟨D.f,D.fd,h,D.bi,D.fn.kp,D.at'⟩
structure DX (K:Ab) (x:Str) (st:sn):Prop where
 ex:∃f fd,AA K ev x=am (am (.ref f))/\PK K x x st f fd
def dx {K:Ab}{st:sn}{f:ce}{kV:bn} (a:AA K ev x=am (am (.ref f))) (l:K.lookup f=am ⟨oc,od,.func (BR x x (fW st) (aX st) (af st) .none kV È pm an bT ct),Pu⟩)
  (c:DP K bT x=true) (k:DN K (.ref f)=true):DX K x st:=⟨f,_,a,Wa l c k⟩
def gJ {N P:List Str} (h1:sc.kind=.function:=by rfl) (h2:sc.isCoroutine=false:=by rfl) (h3:sc.isGenerator=false:=by rfl) (h4:N.Nodup:=by decide +kernel) (h5:N.take P.length=P:=by rfl) (h6:∀x∈P,sc.names.lookup x=am .local\/sc.names.lookup x=am .cell:=by decide +kernel) (h7:∀y∈sc.names,y.2≠.free:=by decide +kernel):ao N P sc:=⟨h1,h2,h3,h4,h5,h6,h7⟩
def lcs {N:List Str} (h1:sc.kind=.function:=by rfl) (h2:∀y∈sc.names,y.2≠.cell:=by decide +kernel) (h3:∀y∈sc.names,y.2=.local->sc.names.lookup y.1=am .local:=by decide +kernel) (h4:∀y∈sc.names,y.2=.free->(Xs.names.lookup y.1=am .cell\/Xs.names.lookup y.1=am .free):=by decide +kernel) (h5:N'.Nodup:=by decide +kernel) (h6:ix.length=N'.length:=by rfl)
  (h7:((ix.zip N').all λp=>match p.1 with | none=>true | some j=>decide (N[j]?=am p.2)&&decide (sc.names.lookup p.2=am .free))=true:=by decide +kernel):aw Xs N sc N' ix:=⟨h1,h2,h3,h4,h5,h6,h7⟩
abbrev qe (l:List (Str×wn)):pr:={kind:=.function,names:=(B5 ".0",.local)::l,isGenerator:=false,isCoroutine:=false,more:=[]}
abbrev lo:wn:=.local
abbrev gi:wn:=.globalImplicit
abbrev fr:wn:=.free
section
variable {v:EV}{st:sn}{N:List Str}
def W7 {m:SH PV n} (D:DI v ⟨x,st,ps,k+1,λK=>gI K ks (cq n m)⟩) (S:ao N ps (af st)) (Á:∀l:List PV,l.length=n->∀(bT:bn) (A:nn) (outer:List Env) (s:ci) (H:Hp) (E:XK),cB k (A.deeper (re x (af st) s.heap.objs.size D.f bT))->SF (gL mm v.P v.w v.K v.mg v.base N x (af st) D.f bT A outer s H E).uE v.K false (gM ks l N.length) (aX st) (cq n m l) .rt)
  (nN:ks.length=ps.length:=by rfl) (one:iT ks:=by repeat' first | exact cM | exact au (n:=0) | exact au (n:=1) | exact au (n:=2) | exact au (n:=3) | exact au (n:=4) | exact au (n:=5) | exact au (n:=6) | apply gV | apply jR):D.O:=fnV D.fn S nN one Á
def YZ {m:SH (List PV) n} (D:DI v ⟨x,st,ps,k+1,λK=>fi K ks (cq n m)⟩) (S:ao N ps (af st)) (Á:∀l:List PV,l.length=n->∀(bT:bn) (A:nn) (outer:List Env) (s:ci) (H:Hp) (E:XK),cB k (A.deeper (re x (af st) s.heap.objs.size D.f bT))->SF (gL mm v.P v.w v.K v.mg v.base N x (af st) D.f bT A outer s H E).uE v.K false (gM ks l N.length) (aX st) (cq n m l) .rl)
  (nN:ks.length=ps.length:=by rfl) (one:iT ks:=by repeat' first | exact cM | exact au (n:=0) | exact au (n:=1) | exact au (n:=2) | exact au (n:=3) | exact au (n:=4) | exact au (n:=5) | exact au (n:=6) | apply gV | apply jR):D.O:=fnL D.fn S nN one Á
def acL {m:W PV} (D:DI v ⟨x,st,ps,k+1,λK=>gI K ks (cq 0 m)⟩) (S:ao N ps (af st)) (Á:∀(bT:bn) (A:nn) (outer:List Env) (s:ci) (H:Hp) (E:XK),cB k (A.deeper (re x (af st) s.heap.objs.size D.f bT))->SF (gL mm v.P v.w v.K v.mg v.base N x (af st) D.f bT A outer s H E).uE v.K false (gM ks [] N.length) (aX st) (m) .rt)
  (nN:ks.length=ps.length:=by rfl) (one:iT ks:=by repeat' first | exact cM | exact au (n:=0) | exact au (n:=1) | exact au (n:=2) | exact au (n:=3) | exact au (n:=4) | exact au (n:=5) | exact au (n:=6) | apply gV | apply jR):D.O:=W7 (n:=0) (m:=m) D S (λl hl=>match l,hl with | [],_=>Á) nN one
def pZ {m:PV->W PV} (D:DI v ⟨x,st,ps,k+1,λK=>gI K ks (cq 1 m)⟩) (S:ao N ps (af st)) (Á:∀(x0:PV) (bT:bn) (A:nn) (outer:List Env) (s:ci) (H:Hp) (E:XK),cB k (A.deeper (re x (af st) s.heap.objs.size D.f bT))->SF (gL mm v.P v.w v.K v.mg v.base N x (af st) D.f bT A outer s H E).uE v.K false (gM ks [x0] N.length) (aX st) (m x0) .rt)
  (nN:ks.length=ps.length:=by rfl) (one:iT ks:=by repeat' first | exact cM | exact au (n:=0) | exact au (n:=1) | exact au (n:=2) | exact au (n:=3) | exact au (n:=4) | exact au (n:=5) | exact au (n:=6) | apply gV | apply jR):D.O:=W7 (n:=1) (m:=m) D S (λl hl=>match l,hl with | [x0],_=>Á x0) nN one
def vX {m:PV->PV->W PV} (D:DI v ⟨x,st,ps,k+1,λK=>gI K ks (cq 2 m)⟩) (S:ao N ps (af st)) (Á:∀(x0:PV) (x1:PV) (bT:bn) (A:nn) (outer:List Env) (s:ci) (H:Hp) (E:XK),cB k (A.deeper (re x (af st) s.heap.objs.size D.f bT))->SF (gL mm v.P v.w v.K v.mg v.base N x (af st) D.f bT A outer s H E).uE v.K false (gM ks [x0,x1] N.length) (aX st) (m x0 x1) .rt)
  (nN:ks.length=ps.length:=by rfl) (one:iT ks:=by repeat' first | exact cM | exact au (n:=0) | exact au (n:=1) | exact au (n:=2) | exact au (n:=3) | exact au (n:=4) | exact au (n:=5) | exact au (n:=6) | apply gV | apply jR):D.O:=W7 (n:=2) (m:=m) D S (λl hl=>match l,hl with | [x0,x1],_=>Á x0 x1) nN one
def KD {m:PV->PV->PV->W PV} (D:DI v ⟨x,st,ps,k+1,λK=>gI K ks (cq 3 m)⟩) (S:ao N ps (af st)) (Á:∀(x0:PV) (x1:PV) (x2:PV) (bT:bn) (A:nn) (outer:List Env) (s:ci) (H:Hp) (E:XK),cB k (A.deeper (re x (af st) s.heap.objs.size D.f bT))->SF (gL mm v.P v.w v.K v.mg v.base N x (af st) D.f bT A outer s H E).uE v.K false (gM ks [x0,x1,x2] N.length) (aX st) (m x0 x1 x2) .rt)
  (nN:ks.length=ps.length:=by rfl) (one:iT ks:=by repeat' first | exact cM | exact au (n:=0) | exact au (n:=1) | exact au (n:=2) | exact au (n:=3) | exact au (n:=4) | exact au (n:=5) | exact au (n:=6) | apply gV | apply jR):D.O:=W7 (n:=3) (m:=m) D S (λl hl=>match l,hl with | [x0,x1,x2],_=>Á x0 x1 x2) nN one
def YX {m:PV->PV->PV->PV->W PV} (D:DI v ⟨x,st,ps,k+1,λK=>gI K ks (cq 4 m)⟩) (S:ao N ps (af st)) (Á:∀(x0:PV) (x1:PV) (x2:PV) (x3:PV) (bT:bn) (A:nn) (outer:List Env) (s:ci) (H:Hp) (E:XK),cB k (A.deeper (re x (af st) s.heap.objs.size D.f bT))->SF (gL mm v.P v.w v.K v.mg v.base N x (af st) D.f bT A outer s H E).uE v.K false (gM ks [x0,x1,x2,x3] N.length) (aX st) (m x0 x1 x2 x3) .rt)
  (nN:ks.length=ps.length:=by rfl) (one:iT ks:=by repeat' first | exact cM | exact au (n:=0) | exact au (n:=1) | exact au (n:=2) | exact au (n:=3) | exact au (n:=4) | exact au (n:=5) | exact au (n:=6) | apply gV | apply jR):D.O:=W7 (n:=4) (m:=m) D S (λl hl=>match l,hl with | [x0,x1,x2,x3],_=>Á x0 x1 x2 x3) nN one
def acK {m:PV->PV->PV->PV->PV->W PV} (D:DI v ⟨x,st,ps,k+1,λK=>gI K ks (cq 5 m)⟩) (S:ao N ps (af st)) (Á:∀(x0:PV) (x1:PV) (x2:PV) (x3:PV) (x4:PV) (bT:bn) (A:nn) (outer:List Env) (s:ci) (H:Hp) (E:XK),cB k (A.deeper (re x (af st) s.heap.objs.size D.f bT))->SF (gL mm v.P v.w v.K v.mg v.base N x (af st) D.f bT A outer s H E).uE v.K false (gM ks [x0,x1,x2,x3,x4] N.length) (aX st) (m x0 x1 x2 x3 x4) .rt)
  (nN:ks.length=ps.length:=by rfl) (one:iT ks:=by repeat' first | exact cM | exact au (n:=0) | exact au (n:=1) | exact au (n:=2) | exact au (n:=3) | exact au (n:=4) | exact au (n:=5) | exact au (n:=6) | apply gV | apply jR):D.O:=W7 (n:=5) (m:=m) D S (λl hl=>match l,hl with | [x0,x1,x2,x3,x4],_=>Á x0 x1 x2 x3 x4) nN one
def Vp {m:PV->W (List PV)} (D:DI v ⟨x,st,ps,k+1,λK=>fi K ks (cq 1 m)⟩) (S:ao N ps (af st)) (Á:∀(x0:PV) (bT:bn) (A:nn) (outer:List Env) (s:ci) (H:Hp) (E:XK),cB k (A.deeper (re x (af st) s.heap.objs.size D.f bT))->SF (gL mm v.P v.w v.K v.mg v.base N x (af st) D.f bT A outer s H E).uE v.K false (gM ks [x0] N.length) (aX st) (m x0) .rl)
  (nN:ks.length=ps.length:=by rfl) (one:iT ks:=by repeat' first | exact cM | exact au (n:=0) | exact au (n:=1) | exact au (n:=2) | exact au (n:=3) | exact au (n:=4) | exact au (n:=5) | exact au (n:=6) | apply gV | apply jR):D.O:=YZ (n:=1) (m:=m) D S (λl hl=>match l,hl with | [x0],_=>Á x0) nN one
def Q5 {m:PV->PV->W (List PV)} (D:DI v ⟨x,st,ps,k+1,λK=>fi K ks (cq 2 m)⟩) (S:ao N ps (af st)) (Á:∀(x0:PV) (x1:PV) (bT:bn) (A:nn) (outer:List Env) (s:ci) (H:Hp) (E:XK),cB k (A.deeper (re x (af st) s.heap.objs.size D.f bT))->SF (gL mm v.P v.w v.K v.mg v.base N x (af st) D.f bT A outer s H E).uE v.K false (gM ks [x0,x1] N.length) (aX st) (m x0 x1) .rl)
  (nN:ks.length=ps.length:=by rfl) (one:iT ks:=by repeat' first | exact cM | exact au (n:=0) | exact au (n:=1) | exact au (n:=2) | exact au (n:=3) | exact au (n:=4) | exact au (n:=5) | exact au (n:=6) | apply gV | apply jR):D.O:=YZ (n:=2) (m:=m) D S (λl hl=>match l,hl with | [x0,x1],_=>Á x0 x1) nN one
def Vo {m:PV->PV->PV->W (List PV)} (D:DI v ⟨x,st,ps,k+1,λK=>fi K ks (cq 3 m)⟩) (S:ao N ps (af st)) (Á:∀(x0:PV) (x1:PV) (x2:PV) (bT:bn) (A:nn) (outer:List Env) (s:ci) (H:Hp) (E:XK),cB k (A.deeper (re x (af st) s.heap.objs.size D.f bT))->SF (gL mm v.P v.w v.K v.mg v.base N x (af st) D.f bT A outer s H E).uE v.K false (gM ks [x0,x1,x2] N.length) (aX st) (m x0 x1 x2) .rl)
  (nN:ks.length=ps.length:=by rfl) (one:iT ks:=by repeat' first | exact cM | exact au (n:=0) | exact au (n:=1) | exact au (n:=2) | exact au (n:=3) | exact au (n:=4) | exact au (n:=5) | exact au (n:=6) | apply gV | apply jR):D.O:=YZ (n:=3) (m:=m) D S (λl hl=>match l,hl with | [x0,x1,x2],_=>Á x0 x1 x2) nN one
def YY {m:PV->PV->PV->PV->W (List PV)} (D:DI v ⟨x,st,ps,k+1,λK=>fi K ks (cq 4 m)⟩) (S:ao N ps (af st)) (Á:∀(x0:PV) (x1:PV) (x2:PV) (x3:PV) (bT:bn) (A:nn) (outer:List Env) (s:ci) (H:Hp) (E:XK),cB k (A.deeper (re x (af st) s.heap.objs.size D.f bT))->SF (gL mm v.P v.w v.K v.mg v.base N x (af st) D.f bT A outer s H E).uE v.K false (gM ks [x0,x1,x2,x3] N.length) (aX st) (m x0 x1 x2 x3) .rl)
  (nN:ks.length=ps.length:=by rfl) (one:iT ks:=by repeat' first | exact cM | exact au (n:=0) | exact au (n:=1) | exact au (n:=2) | exact au (n:=3) | exact au (n:=4) | exact au (n:=5) | exact au (n:=6) | apply gV | apply jR):D.O:=YZ (n:=4) (m:=m) D S (λl hl=>match l,hl with | [x0,x1,x2,x3],_=>Á x0 x1 x2 x3) nN one
def acM {m:PV->PV->PV->PV->PV->W (List PV)} (D:DI v ⟨x,st,ps,k+1,λK=>fi K ks (cq 5 m)⟩) (S:ao N ps (af st)) (Á:∀(x0:PV) (x1:PV) (x2:PV) (x3:PV) (x4:PV) (bT:bn) (A:nn) (outer:List Env) (s:ci) (H:Hp) (E:XK),cB k (A.deeper (re x (af st) s.heap.objs.size D.f bT))->SF (gL mm v.P v.w v.K v.mg v.base N x (af st) D.f bT A outer s H E).uE v.K false (gM ks [x0,x1,x2,x3,x4] N.length) (aX st) (m x0 x1 x2 x3 x4) .rl)
  (nN:ks.length=ps.length:=by rfl) (one:iT ks:=by repeat' first | exact cM | exact au (n:=0) | exact au (n:=1) | exact au (n:=2) | exact au (n:=3) | exact au (n:=4) | exact au (n:=5) | exact au (n:=6) | apply gV | apply jR):D.O:=YZ (n:=5) (m:=m) D S (λl hl=>match l,hl with | [x0,x1,x2,x3,x4],_=>Á x0 x1 x2 x3 x4) nN one
end
section
variable {K:Ab}{W':W PV}{WL:W (List PV)}
theorem eC {m:List PV->W PV} (G:SI X.prog X.w X.K X.mg X.base x k ps (gI K ks m)) (hr:cB k' X.A) (ha:AF X K fs (e::es) ks B) (hk:k<=k':=by first | exact EU rfl | exact An _ | omega) (hg:Gl X x:=by rfl) (hW:W'=B m:=by rfl) (nP:iW x:=by decide)
  (he:gK X e es:=by rfl) (dw:lH X pos es:=by rfl):EF X K fs (.Call (.Name x p) (e::es) [] pos) W':=R3 G hr hk hg ha hW nP he dw
theorem lC {m:List PV->W (List PV)}{B:(List PV->W (List PV))->W (List PV)} (G:SI X.prog X.w X.K X.mg X.base x k ps (fi K ks m)) (hr:cB k' X.A) (ha:AF X K fs (e::es) ks B) (hk:k<=k':=by first | exact EU rfl | exact An _ | omega) (hg:Gl X x:=by rfl) (hW:WL=B m:=by rfl) (nP:iW x:=by decide)
  (he:gK X e es:=by rfl) (dw:lH X pos es:=by rfl):LF X K fs (.Call (.Name x p) (e::es) [] pos) WL:=Rh G hr hk hg ha hW nP he dw
def du (i:Nat) (hN:X.N.Nodup) (hi:X.N[i]?=am x:=by rfl) (hx:Loc X.env.scope x:=by first | exact .inl rfl | exact .inr rfl) (hf:LQ X x:=by first | exact .inl rfl | exact .inr rfl | assumption):PG X (.Name x pos) (dZ i):=Qy hN hi hx hf
variable {T:Type}{out:T->End}{rest:List sn}
def sv (i:Nat) {k:PV->W T} (hN:X.N.Nodup) (he:EF X K fs e we) (hr:∀v,SF X K b (fs.set i (am (.val v))) rest (k v) out) (hi:X.N[i]?=am y:=by rfl) (hx:Loc X.env.scope y:=by first | exact .inl rfl | exact .inr rfl) (hs:im e (am (.Name y p')) pos.line X.env=pure false:=by rfl)
  (hf:LQ X y:=by first | exact .inl rfl | exact .inr rfl | assumption):SF X K b fs (.Assign [.Name y p'] e pos::rest) (.bind we k) out:=SF.set hN hi hx he hr hs hf
def sl (i:Nat) {k:List PV->W T} (hN:X.N.Nodup) (he:LF X K fs e wl) (hr:∀l,SF X K b (fs.set i (am (.ol bm l))) rest (k l) out) (hi:X.N[i]?=am y:=by rfl) (hx:Loc X.env.scope y:=by first | exact .inl rfl | exact .inr rfl) (hs:im e (am (.Name y p')) pos.line X.env=pure false:=by rfl)
  (hf:LQ X y:=by first | exact .inl rfl | exact .inr rfl | assumption):SF X K b fs (.Assign [.Name y p'] e pos::rest) (.bind wl k) out:=SF.acs hN hi hx he hr hs hf
end
end FL
variable {P:List AZ->Prop}{d:FL.DF}
namespace FL
open PySem PySem.Spec PyProof.Rows L2 PL
def us1 (h:∀a,P [a]):∀us:List bn,us.length=1->P us
 | [_],_=>h _
def us2 (h:∀a b,P [a,b]):∀us:List bn,us.length=2->P us
 | a::_,e=>us1 (P:=λl=>P (a::l)) (h _) _ (Fz.inj e)
def us3 (h:∀a b c,P [a,b,c]):∀us:List bn,us.length=3->P us
 | a::_,e=>us2 (P:=λl=>P (a::l)) (h _) _ (Fz.inj e)
def us4 (h:∀a b c d,P [a,b,c,d]):∀us:List bn,us.length=4->P us
 | a::_,e=>us3 (P:=λl=>P (a::l)) (h _) _ (Fz.inj e)
def us5 (h:∀a b c d e,P [a,b,c,d,e]):∀us:List bn,us.length=5->P us
 | a::_,e=>us4 (P:=λl=>P (a::l)) (h _) _ (Fz.inj e)
def DX.mk2 {v:EV} (D:DX v.K d.x d.s) (X:v.K.In h) (G:h.Ns ev v.mg)
  (hb:∀(kV È pm:bn) (an:Option ce) (bT ct:bn) (us:List bn),us.length=d.ps.length->bindArgs (BR d.x d.x (fW d.s) (aX d.s) (af d.s) .none kV È pm an bT ct) ⟨us,[]⟩=pure (d.ps.zip us):=by
   first
    | exact λ_ _ _ _ _ _=>us1 λ_=>rfl
    | exact λ_ _ _ _ _ _=>us2 λ_ _=>rfl
    | exact λ_ _ _ _ _ _=>us3 λ_ _ _=>rfl
    | exact λ_ _ _ _ _ _=>us4 λ_ _ _ _=>rfl
    | exact λ_ _ _ _ _ _=>us5 λ_ _ _ _ _=>rfl
    | exact λ_ _ _ _ _ _=>us6 λ_ _ _ _ _ _=>rfl
    | exact λ_ _ _ _ _ _=>us7 λ_ _ _ _ _ _ _=>rfl
    | exact λ_ _ _ _ _ _=>us8 λ_ _ _ _ _ _ _ _=>rfl):Nonempty (DI v d):=by
 obtain⟨f,fd,a,F⟩:=D.ex;exact⟨⟨f,fd,F,F.binds hb,BF X G a⟩⟩
def DX.go {v:EV} (D:DX v.K d.x d.s) (X:v.K.In h) (G:h.Ns ev v.mg) {P:Prop} (k:∀D:DI v d,D.O) (r:d.C v->P)
  (hb:∀(kV È pm:bn) (an:Option ce) (bT ct:bn) (us:List bn),us.length=d.ps.length->bindArgs (BR d.x d.x (fW d.s) (aX d.s) (af d.s) .none kV È pm an bT ct) ⟨us,[]⟩=pure (d.ps.zip us):=by
   first
    | exact λ_ _ _ _ _ _=>us1 λ_=>rfl
    | exact λ_ _ _ _ _ _=>us2 λ_ _=>rfl
    | exact λ_ _ _ _ _ _=>us3 λ_ _ _=>rfl
    | exact λ_ _ _ _ _ _=>us4 λ_ _ _ _=>rfl
    | exact λ_ _ _ _ _ _=>us5 λ_ _ _ _ _=>rfl
    | exact λ_ _ _ _ _ _=>us6 λ_ _ _ _ _ _=>rfl
    | exact λ_ _ _ _ _ _=>us7 λ_ _ _ _ _ _ _=>rfl
    | exact λ_ _ _ _ _ _=>us8 λ_ _ _ _ _ _ _ _=>rfl):P:=by
 obtain⟨D⟩:=D.mk2 X G hb;exact r (D.c (k D))
def IU (K:Ab):Sp:=λvs H Q _=>∃(a:ce) (ns:List Int),vs=[.ref a]/\Sx H/\cR K H a (ns.map V.int)/\ns.length<=63/\∀H',Q (.bl true) H'
def Rc {K:Ab}{m:PV->W PV} (ok:∀ns:List Int,ns.length<=63->(m (.cl (ns.map PV.int))).run (·=.bl true)):∀vs H Q E,IU K vs H Q E->gI K [.v] (cq 1 m) vs H Q E:=λvs H Q E ⟨a,ns,e,hO,hS,hl,q⟩=>by
 subst e;have fz:T3 K H a (ns.map V.int):=by
  rcases hS with (h | ⟨o,h⟩) | h
  ·rcases hO a with z | ⟨o,xs,z⟩
   ·rw [h] at z;cases z
   ·rw [h] at z;cases z
  ·exact .inl ⟨o,h⟩
  ·exact .inr h
 refine⟨[.cl (ns.map PV.int)],.v (.cl fz (nK _ _ ns)) .nil,(m (.cl (ns.map PV.int))).mono (λv e u H' _ r=>?_) (ok ns hl)⟩;subst e;cases r;exact q H'
structure aaC (K:Ab) (mg:Str->Option bn) (d:DF):Prop where
 f:∀v:EV,v.K=K->v.mg=mg->∀D:DI v d,D.O
def mkAll {l:EH}{K:Ab}{fa:ce}{st:sn}{m:PV->W PV} (ok:∀ns:List Int,ns.length<=63->(m (.cl (ns.map PV.int))).run (·=.bl true)) (X:K.In h) (G:h.Ns ev mg) (hfa:mg "law"=am (.ref fa)) (aad:DX K "law" st)
  (hb:∀(kV È pm:bn) (an:Option ce) (bT ct:bn) (us:List bn),us.length=1->bindArgs (BR "law" "law" (fW st) (aX st) (af st) .none kV È pm an bT ct) ⟨us,[]⟩=pure (([("_law_script":Str)]:List Str).zip us))
  (F:aaC K mg ⟨"law",st,["_law_script"],k,λK=>gI K [.v] (cq 1 m)⟩) :
  ∃fd:Db,(∀(s:ci) (v:bn),BindsTo s fd ⟨[v],[]⟩ [("_law_script",v)])/\∀base:lf,K.In base->base.Ns ev mg->iU l.prog w K mg base mm k fa fd ["_law_script"] (IU K):=by
 obtain⟨f,fd,a,F'⟩:=aad.ex;have e:=hfa.symm.trans (BF X G a);cases e;have fb:=F'.binds (ps:=["_law_script"]) hb;obtain⟨oc,od,kV,È,pm,an,bT,ct,Pu,rfl,_⟩:=id F'.ex;exact⟨BR "law" "law" (fW st) (aX st) (af st) .none kV È pm an bT ct,λs v=>.of_eq (hb kV È pm an bT ct [v] rfl),λbase _ _=>(F.f ⟨l.prog,w,K,mg,base⟩ rfl rfl ⟨_,_,F',fb,hfa⟩).imp (Rc ok)⟩
end FL
namespace My
open PySem PySem.Spec PyProof.Rows L2 PL FL
def jl (cK:PV):W (List PV):=
 []\λmM=>
 ap (cK\λx3=>bd [x3]) λoC=>
 ap (Gv (λs4=>(s4.2\λl5=>bd (!l5.isEmpty))) (λs4=>(
 ap (yX s4.2) λt7=>
 t7.2\λx9=>ap (gP s4.1 x9) λmL=>
 dQ (yI (ap (ap (bd t7.2) (ig .str)) f7)) (
 ap (ap (bd t7.2) aA) λl11=>ap (Wh t7.1 l11) λqW=>
 bd (mL,qW)) (
 bd (mL,t7.1)))) (mM,oC)) λs4=>
 (s4.1\λVC=>bd VC.reverse)
def gY (cK:PV):W PV:=
 []\λiY=>
 []\λv8=>
 ap (cK\λx3=>jl x3) λl30=>ap (cy l30 (iY,v8) λvQ s4=>(
 ap (ap (ap (bd vQ) (ig .str)) f7) λb=>ap (if b=true then (
 vQ\λGr=>ap (gP s4.1 Gr) λID=>
 bd (ID,s4.2)) else (
 ap (yX s4.2) λt20=>
 ap (yX t20.1) λt22=>
 ap (t22.2\λLU=>t20.2\λLS=>bd (.tup [LU,LS])) λT9=>ap (gP s4.1 T9) λIC=>
 bd (IC,t22.1))) λUw=>
 ap (b2 zd (ap (bd Uw.1) zB) (bd (.int 1))) λXH=>ap (gP Uw.2 XH) λzx=>
 bd (Uw.1,zx))) λs4=>
 (ap (bd s4.1) lI)
def cz (bW:PV):W PV:=
 (dQ (ap (ap (bd bW) (ig .str)) f7) (bd (.tup [])) (bd bW))
def eQ (cK:PV):W PV:=
 ap (cK\λx2=>gY x2) λiY=>
 ap (ap (ap (bd iY) aA) λl4=>bz l4 λp5=>(bd .aE)) λxZ=>
 ap (ap (ap (bd iY) aA) λl6=>.ff (l6.length<=sizeLine) (.ret (dF 0 l6))) λVB=>ap (cy VB xZ λp8 s7=>ap (ur p8) λt9=>(
 ap (ap (t9.2\λkf=>cz kf) aA) λRi=>ap (cy Ri s7 λJI Ux=>(
 t9.1\λvt=>JI\λqT=>ap (ka Ux qT vt) λF2=>
 bd F2)) λUx=>
 bd Ux)) λs7=>
 (ap (bd s7) lI)
def dX (eZ:PV) (kD:PV):W PV:=
 (dQ (ap (ap (cG (ap (bd eZ) aA) (bd kD)) (ig .str)) f7) (cG (ap (bd eZ) aA) (bd kD)) (bd kD))
def gm (dj:PV):W (List PV):=
 ap (dj\λx2=>eQ x2) λdM=>
 ap (ap (ap (bd dM) aA) λl4=>bz l4 λp5=>(bd (.tup []))) λlh=>
 ap (ap (b2 zd (c1 dq (bd dM)) (bd (.int 1))) λx6=>ap (ap (bd (.int 1)) Nj) λx7=>ap (ap (bd (.int 1)) Nj) λx8=>Mu x6 x7 x8) λRi=>ap (cy Ri lh λkC s9=>(
 ap (dQ (t2 zf (cG (ap (bd dM) aA) (bd kC)) (bd .aE)) (bd (.tup [])) (cG (bd s9) (cG (ap (bd dM) aA) (bd kC)))) λF3=>
 ap (w2 addW (kC\λtL=>bd (.tup [tL])) (bd F3)) λvt=>kC\λqT=>ap (ka s9 qT vt) λzA=>
 bd zA)) λs9=>
 bd s9
def eA (wd:PV) (kD:PV):W PV:=
 (ap (ap (ap (c1 dq (bd wd)) fJ) λl2=>lY l2 λp3=>Nt (Kf (NW true (bd p3) (ap (cG (ap (bd wd) aA) (bd kD)) aA)) (NW true (bd kD) (ap (cG (ap (bd wd) aA) (bd p3)) aA))) (bd p3)) lI)
def ku (dj:PV):W PV:=
 ap (dj\λx2=>gY x2) λbr=>
 ap (dj\λx4=>gm x4) λlh=>
 (ap (ap (ap (c1 dq (bd br)) fJ) λl6=>bz l6 λp7=>(ap (br\λx8=>p7\λx9=>dX x8 x9) λkf=>(.int 0)\λpX=>ap (ap (cG (ap (bd br) aA) (bd p7)) λpW=>cz pW) λtL=>ap ((.cl lh)\λvt=>p7\λqT=>eA vt qT) λyC=>bd (.tup [kf,pX,tL,yC]))) lI)
def dC (eZ:PV) (dm:PV):W (List PV):=
 (ap (ap (ap (bd eZ) aA) λl1=>ap (ap (bd dm) aA) λl2=>J7 l1 l2) λl3=>lY l3 λp4=>ap (ur p4) λt5=>Nt (yI (ap (ap (bd t5.1) (ig .str)) f7)) (bd t5.2))
def bM (uA:PV):W PV:=
 (cG (ap (bd uA) aA) (ap (c1 dq (bd uA)) λx1=>b9 x1))
def gj (dj:PV) (dm:PV) (jL:PV):W (List PV):=
 ap (dj\λx2=>eQ x2) λdM=>
 []\λvS=>
 ap (ap (ap (bd jL) aA) λl4=>.ff (l4.length<=sizeLine) (.ret (dF 0 l4))) λVB=>ap (cy VB vS λp6 s5=>ap (ur p6) λt7=>(
 ap (ap (ap (bd dm) aA) λl8=>.ff (l8.length<=sizeLine) (.ret (dF 0 l8))) λRi=>ap (cy Ri s5 λĆ s9=>ap (ur Ć) λYb=>(
 dQ (Kf (t2 oLe (bd Yb.2) (bd t7.2)) (tor (t2 zf (cG (ap (bd dM) aA) (bd Yb.1)) (bd .aE)) (t2 oLt (bd t7.2) (cG (ap (bd dm) aA) (cG (ap (bd dM) aA) (bd Yb.1)))))) (
 ap (Yb.1\λtL=>t7.1\λvt=>bd (.tup [tL,vt])) λqT=>ap (gP s9 qT) λy8=>
 bd y8) (
 bd s9))) λs9=>
 bd s9)) λs5=>
 bd s5
def iI (eZ:PV) (dm:PV) (jL:PV) (nk:PV) (M7:PV):W PV:=
 ap (cG (ap (bd M7) aA) (bd (.int 0))) λlq=>
 ap (cG (ap (bd M7) aA) (bd (.int 1))) λnG=>
 ap (b2 oLt (cG (ap (bd dm) aA) (bd lq)) (cG (ap (bd jL) aA) (bd nG))) λuV=>
 ap (dQ (ap (bd uV) f7) (lq\λx5=>bd (.tup [x5])) (ap (cG (ap (bd eZ) aA) (bd lq)) λx6=>cz x6)) λbelow_4=>
 ap (ap (ap (ap (bd below_4) aA) λl8=>bz l8 λp9=>(PF (bd nk) (p9\λkf=>ap (b2 zd (bd nG) (bd (.int 1))) λpX=>bd (.tup [kf,pX])))) lI) λIA=>
 ap (ap (ap (ap (bd nk) Ny) λZa=>lY Za λYI=>Nt (Kf (t2 kd (cG (ap (bd YI) aA) (bd (.int 1))) (bd nG)) (t2 vV (cG (ap (bd YI) aA) (bd (.int 0))) (bd lq))) (PF (bd nk) (bd YI))) lI) λvk=>
 (ap (eZ\λqT=>lq\λyC=>dX qT yC) λLX=>nG\λGr=>IA\λLW=>vk\λLV=>bd (.tup [LX,Gr,LW,LV]))
def lg (dj:PV) (dm:PV):W PV:=
 ap (dj\λx2=>gY x2) λbr=>
 ap (ap ((.int 0)\λx4=>bd [x4]) λl7=>ap (ap (br\λx5=>dm\λx6=>dC x5 x6) vG) λl8=>mK l7 l8) λtB=>
 ap (dj\λkf=>dm\λpX=>(.cl tB)\λpW=>gj kf pX pW) λvR=>
 ap (ap (ap (ap (ap (bd (.cl vR)) aA) λl14=>.ff (l14.length<=sizeLine) (.ret (dF 0 l14))) λl15=>bz l15 λp16=>ap (ur p16) λĂ=>(Ă.2\λGr=>Ă.1\λLW=>bd (.tup [Gr,LW]))) HW) λrH=>
 (ap (ap (ap (bd (.cl vR)) aA) λY9=>bz Y9 λYH=>(br\λJ9=>dm\λJ8=>(.cl tB)\λLU=>rH\λLS=>YH\λT9=>iI J9 J8 LU LS T9)) lI)
def cV (iZ:PV) (bg:PV):W PV:=
 (cG (ap (cG (ap (bd iZ) aA) (bd bg)) aA) (bd (.int 2)))
def ft (iZ:PV) (bg:PV):W PV:=
 (cG (ap (cG (ap (bd iZ) aA) (bd bg)) aA) (bd (.int 3)))
def iJ (iZ:PV) (bg:PV) (SM:PV):W PV:=
 (aea (b2 kd (iZ\λx1=>bg\λx2=>cV x1 x2) (bd (.tup []))) (b2 kd (cG (ap (cG (ap (bd iZ) aA) (bd bg)) aA) (bd (.int 0))) (bd SM)))
def fq (aO:PV) (bg:PV):W (List PV):=
 ap (aO\λx2=>bg\λx3=>cV x2 x3) λfK=>
 (dQ (t2 kd (c1 dq (bd fK)) (bd (.int 2))) (fK\λx4=>ap (ap (cG (ap (bd fK) aA) (bd (.int 1))) λx5=>ap (cG (ap (bd fK) aA) (bd (.int 0))) λx6=>bd (.tup [x5,x6])) λx7=>bd [x4,x7]) (bd []))
def gk (aO:PV) (bg:PV):W (List PV):=
 ap (aO\λx2=>bg\λx3=>ft x2 x3) λtw=>
 (ap (ap (ap (bd tw) aA) λl4=>bz l4 λp5=>(bg\λx6=>p5\λx7=>bd (.tup [x6,x7]))) λVC=>ap (ap (ap (bd tw) aA) λl8=>bz l8 λp9=>(p9\λkf=>bg\λpX=>bd (.tup [kf,pX]))) λZa=>mK VC Za)
def eO (aO:PV) (bW:PV) (bg:PV):W (List PV):=
 dQ (ap (ap (bd bW) (ig .str)) f7) (
 (dQ (ap (aO\λx1=>bg\λx2=>bW\λx3=>iJ x1 x2 x3) f7) (ap ((.str "found")\λx4=>(.tup [])\λx5=>bd (.tup [x4,x5])) λx6=>bd [x6]) (bd []))) (
 ap (ap (aO\λx8=>bg\λx9=>fq x8 x9) λl10=>bz l10 λë=>((.str "split")\λpW=>ë\λtL=>bd (.tup [pW,tL]))) λIT=>
 ap (ap (aO\λqT=>bg\λyC=>gk qT yC) λRi=>bz Ri λp18=>((.str "over")\λLW=>p18\λLV=>bd (.tup [LW,LV]))) λJk=>
 (ap (ap (ap (ap ((.str "doubled")\λPR=>ap (bg\λJ9=>bg\λJ8=>bd (.tup [J9,J8])) λLU=>bd (.tup [PR,LU])) λLS=>bd [LS]) λY8=>ap (ap (bd (.cl IT)) rR) λl27=>mK Y8 l27) λl28=>ap (ap (bd (.cl Jk)) rR) λl29=>mK l28 l29) Mg))
def iH (pB:PV):W PV:=
 (dQ (NW false (bd .aE) (ap (bd pB) aA)) (bd .aE) (ap (ap (bd pB) rR) IJ))
def gp (pB:PV):W PV:=
 (ap (ap (ap (bd pB) aA) λl1=>lY l1 λp2=>Nt (t2 uD (bd p2) (bd .aE)) (bd p2)) Ju)
def dP (a7:PV) (sV:PV):W PV:=
 (dQ (sV\λx1=>qj false x1 ([("split":Str),("doubled":Str),("over":Str)].map PV.str)) (cG (ap (bd a7) aA) (ap (bd sV) (NY ["split","doubled","over"]))) (bd (.int 0)))
def cW (a7:PV) (m6:PV) (bW:PV) (sV:PV):W PV:=
 ap (ap (ap (ap (bW\λx2=>cz x2) aA) λl3=>ap (ap (cG (ap (bd sV) aA) (bd (.int 1))) aA) λl4=>J7 l3 l4) λl5=>bz l5 λp6=>ap (ur p6) λt7=>(cG (ap (cG (ap (bd m6) aA) (bd t7.1)) aA) (bd t7.2))) λzc=>
 (ap (nS (ap (ap (a7\λx8=>ap (cG (ap (bd sV) aA) (bd (.int 0))) λx9=>dP x8 x9) λkf=>bd [kf]) λl11=>ap (ap (bd (.cl zc)) rR) λVC=>mK l11 VC)) λtL=>iH tL)
def eg (aO:PV) (a7:PV) (m6:PV) (bW:PV) (bg:PV):W (List PV):=
 (ap (aO\λx1=>bW\λx2=>bg\λx3=>eO x1 x2 x3) λl4=>bz l4 λp5=>(a7\λx6=>m6\λx7=>bW\λx8=>p5\λx9=>cW x6 x7 x8 x9))
def fo (aO:PV) (a7:PV) (bg:PV):W PV:=
 (dQ (t2 kd (c1 dq (aO\λx1=>bg\λx2=>cV x1 x2)) (bd (.int 2))) (cG (ap (bd a7) aA) (bd (.int 3))) (bd (.int 0)))
def d9 (aO:PV) (a7:PV) (Yk:PV) (bg:PV):W (List PV):=
 ap (aO\λx2=>a7\λx3=>bg\λx4=>fo x2 x3 x4) λS2=>
 (ap (ap (aO\λx5=>bg\λx6=>cV x5 x6) aA) λl7=>bz l7 λp8=>(ap (nS (S2\λx9=>ap (cG (ap (bd Yk) aA) (bd p8)) λkf=>bd [x9,kf])) λpX=>iH pX))
def kr (aO:PV) (a7:PV) (m6:PV) (bW:PV):W PV:=
 []\λMt=>
 ap (ap (c1 dq (bd aO)) fJ) λl21=>ap (cy l21 Mt λGC s3=>(
 ap (ap (ap (aO\λx6=>a7\λx7=>m6\λx8=>bW\λx9=>GC\λkf=>eg x6 x7 x8 x9 kf) λl15=>ap (aO\λpX=>a7\λpW=>(.cl s3)\λtL=>GC\λvt=>d9 pX pW tL vt) λl16=>mK l15 l16) uw) λJY=>
 ap ((.cl JY)\λGr=>gp Gr) λLW=>ap (gP s3 LW) λMs=>
 bd Ms)) λs3=>
 (ap (bd s3) lI)
def jk (aO:PV) (GG:PV) (a7:PV):W PV:=
 []\λGN=>
 ap (ap (GG\λx2=>gY x2) aA) λVC=>ap (cy VC GN λgh s3=>(
 ap (ap (aO\λx6=>a7\λx7=>(.cl s3)\λx8=>gh\λx9=>kr x6 x7 x8 x9) L7) λkf=>ap (gP s3 kf) λMq=>
 bd Mq)) λs3=>
 (ap (bd s3) lI)
def fu (gQ:PV) (k_:PV):W (List PV):=
 ap (dQ (t2 oLt (bd k_) (c1 dq (bd gQ))) (cG (ap (bd gQ) aA) (bd k_)) (bd (.int 0))) λkO=>
 ap (b2 oT (c1 FZ (bd kO)) (c1 Ii (b2 oGe (c1 FZ (bd kO)) (b2 Nc (bd (.int 10)) (bd (.int 18)))))) λfU=>
 (fU\λx3=>ap (b2 oMod (b2 oT (w2 addW (w2 addW (b2 oMod (bd kO) (bd (.int 2147483629))) (b2 oT (b2 oT (bd (.int 7919)) (bd k_)) (bd k_))) (bd (.int 11))) (bd (.int 48271))) (bd (.int 2147483647))) λx4=>(.int 0)\λx5=>bd [x3,x4,x5])
def dD (gA:List PV) (ny:PV):W (PV×List PV):=
 ap (w2 addW (cG (bd gA) (bd (.int 2))) (bd (.int 1))) λx2=>(.int 2)\λx3=>ap (ka gA x3 x2) λbP=>
 dQ (Kf (t2 oGt (cG (bd bP) (bd (.int 0))) (bd (.int 0))) (t2 oLe (cG (bd bP) (bd (.int 2))) (bd (.int 60)))) (
 ap (b2 oMod (cG (bd bP) (bd (.int 0))) (bd ny)) λJW=>
 ap (b2 oDiv (cG (bd bP) (bd (.int 0))) (bd ny)) λx6=>(.int 0)\λx7=>ap (ka bP x7 x6) λkE=>
 JW\λx8=>bd (x8,kE)) (
 ap (b2 oMod (w2 addW (w2 addW (b2 oT (cG (bd bP) (bd (.int 1))) (bd (.int 48271))) (bd (.int 12345))) (cG (bd bP) (bd (.int 2)))) (bd (.int 2147483647))) λkf=>(.int 1)\λpX=>ap (ka bP pX kf) λfx=>
 ap (b2 oMod (b2 oDiv (b2 oMod (b2 oT (cG (bd fx) (bd (.int 1))) (w2 addW (b2 oMod (cG (bd fx) (bd (.int 1))) (bd (.int 40009))) (bd (.int 3)))) (bd (.int 2147483629))) (bd (.int 7))) (bd ny)) λpW=>bd (pW,fx))
def cX (ny:PV):W (List PV):=
 (.str "abcdefghijklmnopqrstuvwxyz")\λuI=>
 ap (ap ((.int 26)\λx2=>b9 x2) λx3=>ap (ap (nS ((.int 1)\λx4=>(.int 3)\λx5=>(.int 5)\λx6=>(.int 7)\λx7=>(.int 9)\λx8=>(.int 11)\λx9=>bd [x4,x5,x6,x7,x8,x9])) λkf=>bM kf) λpX=>bd (.tup [x3,pX])) λpW=>ap (ur pW) λt13=>
 ap (ap (nS ((.str "")\λqT=>(.str "")\λyC=>(.str "a")\λLX=>(.str "zq")\λGr=>(.str "mnopqrs")\λLW=>bd [qT,yC,LX,Gr,LW])) λLV=>bM LV) λIE=>
 (ap (ap (bd ny) fJ) λl22=>bz l22 λp23=>(w2 addW (b2 Nf (bd uI) (b2 oMod (w2 addW (bd t13.1) (b2 oT (bd t13.2) (bd p23))) (bd (.int 26)))) (bd IE)))
def cE (uA:PV):W PV:=
 ap (ap (bd uA) aA) λmq=>
 ap (ap (b2 zd (ap (bd mq) zB) (bd (.int 1))) fJ) λl23=>ap (cy l23 mq λUe s3=>(
 ap (ap (ap (bd s3) zB) λx6=>b9 x6) λx7=>ap (vP s3 x7) λt8=>
 ap (ap (ap (bd t8.1) zB) λkf=>b9 kf) λWK=>
 ap (t8.2\λpW=>ap (cG (bd t8.1) (bd WK)) λtL=>bd (.tup [pW,tL])) λvT=>
 ap (dQ (t2 kd ((.int 2)\λqT=>b9 qT) (bd (.int 0))) (bd vT) (vT\λyC=>bm\λi17=>bm\λj18=>ap (ap (ap (bd (.int 1)) Nj) part) λk19=>Ml yC i17 j18 k19)) λLV=>WK\λPR=>ap (ka t8.1 PR LV) λIX=>
 bd IX)) λs3=>
 (cG (bd s3) (bd (.int 0)))
def cZ (zl:PV):W PV:=
 ap (ap (w2 addW (bd (.int 1)) (zl\λx2=>b9 x2)) λx3=>cX x3) λiX=>
 (ap ((.cl iX)\λx4=>cE x4) λx5=>(.cl iX)\λx6=>bd (.tup [x5,x6]))
def cY (pD:PV) (zl:PV):W PV:=
 ap (ap (ap (w2 addW (bd (.int 1)) (zl\λx2=>b9 x2)) fJ) λl4=>bz l4 λp5=>(pD\λx6=>bM x6)) λmq=>
 ((.cl mq)\λx7=>cE x7)
def aU:Nat->PV->W (List PV)
 | 0,_=>W.fail
 | n+1,cK=>
 dQ (ap (ap (bd cK) (ig .str)) f7) (
 (cK\λx1=>bd [x1])) (
 ap (nS (ap (cG (ap (bd cK) aA) (bd (.int 0))) λx2=>aU n x2)) λpI=>ap (nS (ap (cG (ap (bd cK) aA) (bd (.int 1))) λx3=>aU n x3)) λnh=>
 []\λoJ=>
 ap (ap (bd nh) aA) λY8=>ap (cy Y8 oJ λrL s7=>(
 ap (yI (ap (ap (bd rL) (ig .str)) f7)) λb=>ap (if b=true then (
 ap (ap (w2 addW (cG (ap (bd rL) aA) (bd (.int 0))) (c1 dq (bd pI))) λvt=>ap (w2 addW (cG (ap (bd rL) aA) (bd (.int 1))) (c1 dq (bd pI))) λqT=>bd (.tup [vt,qT])) λJp=>
 bd Jp) else (
 bd rL)) λé=>
 é\λLX=>ap (gP s7 LX) λrh=>
 bd rh)) λs7=>
 (ap (ap (ap (bd pI) rR) λl18=>s7\λVB=>mK l18 VB) λl23=>ap (ap (ap (b2 zd (c1 dq (bd pI)) (bd (.int 1))) λLV=>ap (b2 zd (w2 addW (c1 dq (bd pI)) (c1 dq (bd nh))) (bd (.int 1))) λPR=>bd (.tup [LV,PR])) λJ9=>bd [J9]) λl24=>mK l23 l24))
def c7 (bQ:PV):W PV:=
 ap (bQ\λx2=>aU 12 x2) λbr=>
 ap (ap ((.int 0)\λx4=>bd [x4]) λl5=>ap (c1 dq (bd (.cl br))) λx6=>Qj l5 x6) λxq=>
 (.int 0)\λHZ=>
 ap (ap (ap (ap (bd (.cl br)) aA) λl9=>.ff (l9.length<=sizeLine) (.ret (dF 0 l9))) λl10=>lY l10 λë=>ap (ur ë) λç=>Nt (yI (ap (ap (bd ç.2) (ig .str)) f7)) (bd ç.1)) λkT=>
 ap (ap (ap (bd kT) zB) fJ) λl32=>ap (cy l32 (xq,HZ,kT) λIB yR=>(
 []\λxl=>
 ap (cy yR.2.2 xl λJ2 SS=>(
 dQ (Kf (NW true (cG (ap (cG (ap (bd (.cl br)) aA) (bd J2)) aA) (bd (.int 0))) (bd yR.2.2)) (NW true (cG (ap (cG (ap (bd (.cl br)) aA) (bd J2)) aA) (bd (.int 1))) (bd yR.2.2))) (
 J2\λPR=>ap (gP SS PR) λJM=>
 bd JM) (
 bd SS))) λSS=>
 ap ((.cl SS)\λJ8=>bM J8) λPa=>
 ap (w2 addW (w2 addW (bd yR.2.1) (bd (.int 1))) ((.int 12)\λLS=>b9 LS)) λxT=>
 xT\λXI=>Pa\λXH=>ap (ka yR.1 XH XI) λz9=>
 Pa\λT8=>ap (UC yR.2.2 T8) λqV=>
 bd (z9,xT,qV))) λyR=>
 (ap (bd yR.1) lI)
def eF (bQ:PV):W PV:=
 dQ (t2 kd ((.int 2)\λx1=>b9 x1) (bd (.int 0))) (
 (bQ\λx2=>ku x2)) (
 (bQ\λx3=>ap (bQ\λx4=>c7 x4) λx5=>lg x3 x5))
def bJ:W PV:=
 []\λju=>
 ap (ap (bd (.int 4)) fJ) λl25=>ap (cy l25 ju λk_4 s3=>(
 ap ((.int 0)\λx6=>(.int 1)\λx7=>(.int 2)\λx8=>(.int 3)\λx9=>(.int 10)\λkf=>ap ((.int 10)\λpX=>b9 pX) λpW=>ap ((.int 1001)\λtL=>b9 tL) λvt=>bd [x6,x7,x8,x9,kf,pW,vt]) λMj=>
 ap (ap (ap (bd (.cl Mj)) rR) λVB=>ap ((.int 1000)\λyC=>ap (w2 addW (b2 Nc (bd (.int 10)) (bd (.int 28))) ((.int 1000)\λLX=>b9 LX)) λGr=>bd [yC,Gr]) λY9=>mK VB Y9) λIW=>
 ap ((.cl IW)\λJ9=>bM J9) λJ8=>ap (gP s3 J8) λkF=>
 bd kF)) λs3=>
 (ap (bd s3) lI)
def c6 (aJ:PV) (fH:PV) (bW:PV) (Ö:PV):W (List PV):=
 ap (cG (ap (bd aJ) aA) (bd Ö)) λx1=>ap (XQ x1) λt3=>
 dQ (ap (ap (cG (ap (bd fH) aA) (bd bW)) (ig .str)) f7) (
 (dQ (Kf (t2 kd (bd t3.2.2.1) (bd (.tup []))) (t2 kd (bd t3.1) (cG (ap (bd fH) aA) (bd bW)))) (ap (.aE\λx4=>ap (nS (bd [])) λx5=>bd (.tup [x4,x5])) λx6=>bd [x6]) (bd []))) (
 ap (cG (ap (bd fH) aA) (bd bW)) λx7=>ap (ur x7) λt8=>
 ap (ap ((.int 1)\λkf=>ap (nS (ap (t8.1\λpX=>Ö\λpW=>bd (.tup [pX,pW])) λtL=>ap (t8.2\λvt=>Ö\λqT=>bd (.tup [vt,qT])) λyC=>bd [tL,yC])) λLX=>bd (.tup [kf,LX])) λGr=>bd [Gr]) λxo=>
 ap (ap (bd t3.2.2.2) aA) λl83=>ap (cy l83 xo λL6 SR=>(
 ap ((.int 2)\λJ9=>ap (nS (ap (t8.1\λJ8=>Ö\λLU=>bd (.tup [J8,LU])) λLS=>ap (t8.2\λT9=>L6\λXI=>bd (.tup [T9,XI])) λXH=>bd [LS,XH])) λx29=>bd (.tup [J9,x29])) λT8=>ap (gP SR T8) λkF=>
 ap ((.int 2)\λXG=>ap (nS (ap (t8.1\λXF=>L6\λx34=>bd (.tup [XF,x34])) λx35=>ap (t8.2\λx36=>Ö\λx37=>bd (.tup [x36,x37])) λx38=>bd [x35,x38])) λx39=>bd (.tup [XG,x39])) λx40=>ap (gP kF x40) λz0=>
 bd z0)) λSR=>
 ap (t2 kd (c1 dq (bd t3.2.2.1)) (bd (.int 2))) λb=>ap (if b=true then (
 ap ((.int 0)\λx63=>ap (nS (ap (t8.1\λx64=>ap (cG (ap (bd t3.2.2.1) aA) (bd (.int 0))) λx65=>bd (.tup [x64,x65])) λx66=>ap (t8.2\λx67=>ap (cG (ap (bd t3.2.2.1) aA) (bd (.int 1))) λx68=>bd (.tup [x67,x68])) λx69=>bd [x66,x69])) λx70=>bd (.tup [x63,x70])) λx71=>ap (gP SR x71) λzZ=>
 ap ((.int 0)\λx73=>ap (nS (ap (t8.1\λx74=>ap (cG (ap (bd t3.2.2.1) aA) (bd (.int 1))) λx75=>bd (.tup [x74,x75])) λx76=>ap (t8.2\λx77=>ap (cG (ap (bd t3.2.2.1) aA) (bd (.int 0))) λx78=>bd (.tup [x77,x78])) λx79=>bd [x76,x79])) λx80=>bd (.tup [x73,x80])) λx81=>ap (gP zZ x81) λzY=>
 bd zY) else (
 bd SR)) λè=>
 bd è)
def eE (aJ:PV) (bW:PV) (Ö:PV):W (List PV):=
 ap (cG (ap (cG (ap (bd aJ) aA) (bd Ö)) aA) (bd (.int 2))) λfK=>
 ap (dQ (t2 kd (c1 dq (bd fK)) (bd (.int 2))) (bd (.int 3)) (bd .aE)) λJe=>
 (ap (ap (bd fK) aA) λl3=>bz l3 λp4=>(Je\λx5=>ap (nS (ap (bW\λx6=>p4\λx7=>bd (.tup [x6,x7])) λx8=>bd [x8])) λx9=>bd (.tup [x5,x9])))
def eB (bL:PV) (ck:PV) (nj:PV):W PV:=
 ap (dQ (t2 zf (cG (ap (bd nj) aA) (bd (.int 0))) (bd .aE)) (bd (.int 0)) (cG (ap (bd bL) aA) (cG (ap (bd nj) aA) (bd (.int 0))))) λmU=>
 ap (ap (cG (ap (bd nj) aA) (bd (.int 1))) aA) λl7=>ap (lL l7 mU λlz s2=>(
 dQ (t2 zf (PF (bd ck) (bd lz)) (bd .aE)) (
 .aE\λx4=>bd (Lp.out x4)) (
 ap (w2 addW (bd s2) (PF (bd ck) (bd lz))) λqx=>
 bd (.go qx)))) (Lb (λs2=>
 (bd s2)) id)
def c8 (aJ:PV) (fH:PV) (bL:PV):W PV:=
 ap (ap (c1 dq (bd fH)) fJ) λl37=>ap (cy l37 [] λgh s3=>(
 ap (ap (c1 dq (bd aJ)) fJ) λl35=>ap (cy l35 s3 λSj s6=>(
 ap (aJ\λx9=>fH\λkf=>gh\λpX=>Sj\λpW=>c6 x9 kf pX pW) λMi=>
 ap (ap (ap (bd (.cl Mi)) rR) λRi=>ap (aJ\λvt=>gh\λqT=>Sj\λyC=>eE vt qT yC) λl18=>mK Ri l18) λIZ=>
 ap (ap (ap (ap (bd (.cl IZ)) aA) λY9=>bz Y9 λYH=>(bL\λJ9=>(xR s6)\λJ8=>YH\λLU=>eB J9 J8 LU)) uw) λFV=>
 ap (ap (ap (bd (.cl FV)) aA) λY8=>lY Y8 λê=>Nt (t2 uD (bd ê) (bd .aE)) (bd ê)) λtj=>
 ap (dQ (ap (ap (bd (.cl tj)) rR) λl29=>bd (!l29.isEmpty)) (ap (ap (bd (.cl tj)) rR) zq) (bd .aE)) λXG=>ap (gh\λT8=>Sj\λx31=>bd (.tup [T8,x31])) λXF=>ap (MK s6 XF XG) λma=>
 bd ma)) λs6=>
 bd s6)) λs3=>
 (bd (xR s3))
def dY (aJ:PV) (fH:PV) (ck:PV):W PV:=
 []\λju=>
 ap (ap (c1 dq (bd fH)) fJ) λZa=>ap (cy Za ju λgh s3=>(
 ap (ap (ap (ap (c1 dq (bd aJ)) fJ) λl7=>bz l7 λp8=>(PF (bd ck) (gh\λx9=>p8\λkf=>bd (.tup [x9,kf])))) lI) λpX=>ap (gP s3 pX) λJN=>
 bd JN)) λs3=>
 (ap (bd s3) lI)
def fv (pM:PV) (pG:PV):W PV:=
 ap (pM\λx1=>cZ x1) λx2=>ap (ur x2) λt3=>
 ap (t3.1\λx5=>eF x5) λmW=>
 ap (t3.2\λx7=>pG\λx8=>cY x7 x8) λi7=>
 (mW\λx9=>i7\λkf=>ap (nS (i7\λpX=>aU 12 pX)) λpW=>ap (bJ) λtL=>bd (.tup [x9,kf,pW,tL]))
def bK (sL:PV) (Wx:PV):W PV:=
 dQ (tor (yI (ap (ap (bd sL) (ig .tup)) f7)) (t2 vV (bd sL) (bd Wx))) (
 (bd (.bl false))) (
 ap (ap (bd sL) aA) λl7=>ap (lL l7 () λMr s1=>(
 dQ (tor (yI (ap (ap (bd Mr) (ig .tup)) f7)) (ap (ap (ap (ap (bd Mr) aA) λl3=>bz l3 λp4=>(ap (bd p4) (ig .bool))) Pd) f7)) (
 (.bl false)\λx5=>bd (Lp.out x5)) (
 bd (.go ())))) (Lb (λs1=>
 (bd (.bl true))) id))
def nA (gQ:PV):W PV:=
 ap (ap ((.int 1)\λx3=>ap ((.int 3)\λx1=>ap (c1 dq (bd gQ)) λx2=>oA LB [x1,x2]) λx4=>oA LC [x3,x4]) fJ) λl61=>ap (lL l61 () λk_7 s6=>(
 ap (gQ\λx9=>k_7\λkf=>fu x9 kf) λpL=>YA jc pL (
 ap (cG (ap ((.int 5)\λpW=>(.int 6)\λtL=>bd (.tup [pW,tL])) λvt=>ap ((.int 5)\λqT=>(.int 6)\λyC=>bd (.tup [qT,yC])) λLX=>ap ((.int 8)\λGr=>(.int 6)\λLW=>bd (.tup [Gr,LW])) λLV=>ap ((.int 8)\λPR=>(.int 10)\λJ9=>bd (.tup [PR,J9])) λJ8=>bd [vt,LX,LV,J8]) ((.int 4)\λLU=>b9 LU)) λrf=>
 ap (ap (cG (ap (bd rf) aA) (bd (.int 0))) λLS=>ap (cG (ap (bd rf) aA) (bd (.int 1))) λT9=>fv LS T9) λXI=>ap (XQ XI) λyw=>
 ap (yw.1\λT8=>yw.2.2.1\λx31=>ap (yw.1\λXG=>yw.2.2.1\λXF=>yw.2.2.2\λx34=>c8 XG XF x34) λx35=>dY T8 x31 x35) λHU=>
 ap (bJ) λrF=>
 dQ (yI (ap (ap (yw.1\λx37=>yw.2.1\λx38=>yw.2.2.2\λx39=>jk x37 x38 x39) λx40=>HU\λx41=>bK x40 x41) f7)) (
 (.bl false)\λx42=>bd (Lp.out x42)) (
 ap (yw.1\λx44=>yw.2.2.1\λx45=>ap (yw.1\λx46=>yw.2.2.1\λx47=>rF\λx48=>c8 x46 x47 x48) λx49=>dY x44 x45 x49) λNQ=>
 dQ (yI (ap (ap (yw.1\λx50=>yw.2.1\λx51=>rF\λx52=>jk x50 x51 x52) λx53=>NQ\λx54=>bK x53 x54) f7)) (
 (.bl false)\λx55=>bd (Lp.out x55)) (
 dQ (t2 vV (yw.1\λx56=>yw.2.1\λx57=>yw.2.2.2\λx58=>jk x56 x57 x58) (bd HU)) (
 (.bl false)\λx59=>bd (Lp.out x59)) (
 bd (.go ()))))))) (Lb (λs6=>
 (bd (.bl true))) id)
end My
variable {x:PL.PV}{Q:List PL.PV->Prop}{t:My.Tr}
namespace My
open PySem PySem.Spec PyProof.Rows L2 PL FL
def Tr.pv:Tr->PV
 | .leaf x=>.str x
 | .node l r=>.tup [l.pv,r.pv]
def Ent.pv:Ent->PV
 | .word x=>.str x
 | .pair a b=>.tup [.int (a:Int),.int (b:Int)]
def Qc {l:List α} (h:l≠[]):∃a x,l=a++[x]:=⟨l.dropLast,l.getLast h,(List.dropLast_concat_getLast h).symm⟩
def Mm {a b:List Tr} (h:iE a++b=t.post):eM a+b.length=t.size:=by
 have h1:=congrArg BL h;rw [Ah,t.kn] at h1;have h2:∀l:List Tr,(iE l).length=eM l:=by
  intro l
  induction l with
  | nil=>rfl
  | cons x l ih=>
   have e1:iE (x::l)=x.post++iE l:=rfl;have e2:eM (x::l)=x.size+eM l:=rfl;rw [e1,e2,Ah,ih,x.kn]
 rw [h2] at h1;exact h1
theorem dr (h:l.length < 1000):gP l x=.ret (l++[x]):=mo (by have:=cu (n:=1000) (An _);omega)
theorem M6 (t:Tr) (hz:t.size<=900):(jl t.pv).le (.ret (t.post.map Tr.pv)):=λQ q=>by
 refine Gu (λn s=>∃ts bs:List Tr,n=eM ts/\s=(bs.map Tr.pv,ts.map Tr.pv)/\iE ts++bs.reverse=t.post) ⟨[t],[],rfl,rfl,by rw [oQ];simp⟩ ?_;rintro n s ⟨ts,bs,rfl,rfl,hp⟩;have hs:=Mm hp;rw [B3] at hs;by_cases he:ts=[]
 ·subst he;have Ĕ:bs.reverse=t.post:=hp;simp;rw [<- List.map_reverse,Ĕ];exact q
 ·obtain⟨us,u,rfl⟩:=Qc he;have Px:=uJ us;rw [fN,oI] at hs;simp;rw [dr (by rw [Af];omega)];cases u with
  | leaf x=>
   simp [Tr.pv];refine⟨_,?_,us,rfl,bs++[.leaf x],⟨by simp [Tr.pv],rfl⟩,?_⟩
   ·rw [fN,oI];show eM us < eM us+1;omega
   ·rw [jd,oQ] at hp;rw [Fb,<- hp];simp [Tr.post]
  | node c d=>
   have e1:Wh (us.map Tr.pv) [c.pv,d.pv]=.ret (us.map Tr.pv++[c.pv,d.pv]):=mo (cu (by
    have:(Tr.node c d).size=c.size+d.size+1:=rfl;simp;omega))
   simp [Tr.pv,e1];refine⟨_,?_,us++[c,d],rfl,bs++[.node c d],⟨by simp [Tr.pv],by simp⟩,?_⟩
   ·have e2:eM [Tr.node c d]=c.size+d.size+1:=by rw [oI];rfl
    have e3:eM [c,d]=c.size+d.size:=by simp [eM]
    rw [fN,fN,e2,e3];omega
   ·rw [jd,oQ] at hp;rw [Fb,<- hp,jd,Kv];simp [Tr.post]
def aP (l:List Nat):List PV:=l.map λ(n:Nat)=>.int (n:Int)
@[simp] theorem dB (l:List Nat):(aP l).length=l.length:=Af _
@[simp] theorem YW (a b:List Nat):aP (a++b)=aP a++aP b:=AJ
@[simp] theorem k8 (a:Nat) (l:List Nat):aP (a::l)=.int (a:Int)::aP l:=rfl
@[simp] theorem nv:aP []=[]:=rfl
def lj (n:Nat):iL 0 n=aP (AI n):=by
 refine Ci λi _=>?_;rw [EC]
theorem Nr {p:Nat->Bool}:∀{l:List Nat},(∀k∈l,f (.int ((k:Nat):Int))=.ret (if p k=true then am (.int ((k:Nat):Int)) else bm))->lY (aP l) f=.ret (aP (l.filter p))
 | [],_=>rfl
 | k::l,h=>by
  show ap (f _) (λo=>ap (lY (aP l) f) λm=>bd (o.toList++m))=_;rw [h k (.head _),Nr λy hy=>h y (.tail _ hy),Di];cases p k <;> rfl
theorem jh {f:PV->W PV}{g:Nat->PV}:∀{l:List Nat},(∀k∈l,f (.int ((k:Nat):Int))=.ret (g k))->bz (aP l) f=.ret (l.map g)
 | [],_=>rfl
 | k::l,h=>by
  show ap (f _) (λy=>ap (bz (aP l) f) λm=>bd (y::m))=_;rw [h k (.head _),jh λy hy=>h y (.tail _ hy)];rfl
def Y3 (g:PV->Option PV) (h:∀x∈l,f x=.ret (g x)) (q:Q (l.filterMap g)):(lY l f).run Q:=by rw [wq h];exact q
def Nm {f:PV->W PV} (g:PV->PV) (h:∀x∈l,f x=.ret (g x)) (q:Q (l.map g)):(bz l f).run Q:=by rw [Jx h];exact q
def Nq {l:List Nat} (p:Nat->Bool) (h:∀k∈l,f (.int ((k:Nat):Int))=.ret (if p k=true then am (.int ((k:Nat):Int)) else bm)) (q:Q (aP (l.filter p))):(lY (aP l) f).run Q:=by rw [Nr h];exact q
def KL {l:List Nat}{f:PV->W PV} (g:Nat->PV) (h:∀k∈l,f (.int ((k:Nat):Int))=.ret (g k)) (q:Q (l.map g)):(bz (aP l) f).run Q:=by rw [jh h];exact q
theorem nu (t:Tr) (hz:t.size<=900):(gY t.pv).le (.ret (.tup ((t.nd 0).map Ent.pv))):=λQ q=>by
 unfold gY;simp only [ga,cr];refine W.le.use (M6 t hz) ?_;refine sM (λr s=>∃(k:List Tr) (À:List Ent) (ls:List Nat),r=k.map Tr.pv/\s=(À.map Ent.pv,aP ls.reverse)/\run k À ls=am (t.nd 0,[t.size-1])/\À.length+k.length<=900/\ls.length<=À.length) ⟨t.post,[],[],rfl,rfl,Ks t,by simp [t.kn];omega,An _⟩ ?_ ?_
 ·rintro x r s ⟨k,À,ls,e,rfl,h,hl,Zx⟩;cases k with
  | nil=>cases e
  | cons p k=>
   injection e with e1 e2;subst e1;subst e2;rw [Ap] at hl;cases p with
   | leaf x=>
    have a1:∀y,gP (aP ls.reverse) y=.ret (aP ls.reverse++[y]):=λy=>dr (by simp;omega);simp [Tr.pv,dr (l:=À.map Ent.pv) (by simp;omega),a1];refine⟨k,rfl,À++[Ent.word x],À.length::ls,⟨by simp [Ent.pv],by simp⟩,h,by simp;omega,by simp;omega⟩
   | node c d=>
    match ls,h,Zx with
    | b::a::ls,h,Zx=>
     rw [Ap,Ap] at Zx;have a0:aP (b::a::ls).reverse=(aP ls.reverse++[.int (a:Int)])++[.int (b:Int)]:=by simp
     have a1:∀y,gP (aP ls.reverse) y=.ret (aP ls.reverse++[y]):=λy=>dr (by simp;omega);rw [a0];simp only [Tr.pv,ga,hE,ly,cO,Au,if_false,Wj];simp [dr (l:=À.map Ent.pv) (by simp;omega),a1];refine⟨k,rfl,À++[Ent.pair a b],À.length::ls,⟨by simp [Ent.pv],by simp⟩,h,by simp;omega,by simp;omega⟩
 ·rintro s ⟨k,À,ls,e,rfl,h,hl,Zx⟩;cases k with
  | nil=>
   cases h;simpa using q
  | cons p k=>cases e
end My
variable {a b:Int}
namespace My
open PySem PySem.Spec PyProof.Rows L2 PL FL
theorem mulL (h:-1000000000<=a/\a<=1000000000):wv a b:=S5 ∅ ∅
theorem mulR (h:-1000000000<=b/\b<=1000000000):wv a b:=mul_r ∅ ∅
theorem WQ (i:Int):0<=(if i < 0 then -i else i):=by split <;> omega
theorem bh (h:-1000<=i/\i<=1000/\-1000<=j/\j<=1000) (h2:j-i<=1000):okN i j:=⟨by omega,by omega,by omega,by omega,cu ∅⟩
structure vo (t:Tr):Prop where
 ws:t.Ws
 nd:t.ax.Nodup
 ZZ:t.ax.length<=8
 sg:∃b,b<=1/\(t.ax.map λx=>x.cps[b]?).Nodup
end My
variable {a b i j:Nat}{ds:List Int}{d:Int}{left:List Nat}
namespace My
open PySem PySem.Spec PyProof.Rows L2 PL FL
def ud:Ent->Bool
 | .word _=>false
 | .pair _ _=>true
structure Dt (t:Tr) (ds:List Int) (left:List Nat) (d:Int):Prop where
 len:ds.length=t.size
 zero:∀j,j < t.size->(ud (en t 0 j)=false\/j∈left)->ds.getD j 0=0
 up:∀j,j < t.size->j∉left->∀a b,en t 0 j=.pair a b->a∉left/\b∉left/\ds.getD a 0 < ds.getD j 0/\ds.getD b 0 < ds.getD j 0/\1<=ds.getD j 0/\ds.getD j 0<=d
 inj:∀i j,i < t.size->j < t.size->i∉left->j∉left->ud (en t 0 i)=true->ud (en t 0 j)=true->ds.getD i 0=ds.getD j 0->i=j
 pos:0<=d
 W8:∀j∈left,j < t.size/\ud (en t 0 j)=true
 ris:left.Pairwise (· < ·)
def ik {l:List Int}{v:Int} (h:i < l.length):(l.set i v).getD i 0=v:=by rw [Al,Cq h];rfl
def bx {l:List Int}{v:Int} (h:i≠j):(l.set i v).getD j 0=l.getD j 0:=by rw [Al,BU h,<- Al]
def tW {l:List Nat} (h:l.Pairwise (· < ·)) {x y:Nat}:y∈l.erase x↔y∈l/\y≠x:=by
 have nd:l.Nodup:=h.imp (λz=>Az z);rw [nd.mem_erase_iff];exact⟨λz=>⟨z.2,z.1⟩,λz=>⟨z.2,z.1⟩⟩
theorem iM (t:Tr) (h:j < t.size) (e:en t 0 j=.pair a b):a < j/\b < j:=by
 rcases O8 t 0 j h with⟨x,e1,_⟩ | ⟨a',b',e1,e2,e3,_⟩
 ·rw [e1] at e;cases e
 ·rw [e1] at e;injection e with h1 h2;omega
theorem Dt.next {x:Int} (D:Dt t ds left d) (hj:j∈left) (e:en t 0 j=.pair a b) (ha:a∉left) (hb:b∉left) (hx:0<=x):Dt t (ds.set j (d+1+x)) (left.erase j) (d+1+x):=by
 obtain⟨hjs,hjp⟩:=D.W8 j hj;obtain⟨haj,hbj⟩:=iM t hjs e;have Xe:j < ds.length:=by rw [D.len];exact hjs
 have hm:∀y,y∈left.erase j↔y∈left/\y≠j:=λy=>tW D.ris;have Ô:∀y,y < t.size->y∉left->ds.getD y 0<=d:=λy hy ð=>by
  cases ey:en t 0 y with
  | word w=>rw [D.zero y hy (.inl (by rw [ey];rfl))];exact D.pos
  | pair p q=>exact (D.up y hy ð p q ey).2.2.2.2.2
 refine⟨by rw [BK];exact D.len,λy hy hc=>?_,λy hy ð p q ey=>?_,λu v hu hv hul hvl pu pv Tn=>?_,by have:=D.pos;omega,λy hy=>D.W8 y ((hm y).mp hy).1,List.Pairwise.sublist List.erase_sublist D.ris⟩
 ·have Zm:j≠y:=λz=>by
   subst z;rcases hc with hc | hc
   ·rw [hjp] at hc;cases hc
   ·exact ((hm j).mp hc).2 rfl
  rw [bx Zm];exact D.zero y hy (hc.imp id λz=>((hm y).mp z).1)
 ·by_cases Zm:j=y
  ·subst Zm;rw [e] at ey;injection ey with h1 h2;subst h1 h2;have la:=Ô a ∅ ha;have lb:=Ô b ∅ hb;rw [ik Xe,bx ∅,bx ∅];have:=D.pos;exact⟨λz=>ha ((hm a).mp z).1,λz=>hb ((hm b).mp z).1,by omega,by omega,by omega,by omega⟩
  ·have ac6:y∉left:=λz=>ð ((hm y).mpr ⟨z,Bz Zm⟩);obtain⟨p1,p2,p3,p4,p5,p6⟩:=D.up y hy ac6 p q ey;have np:j≠p:=λz=>p1 (z▸hj);have nq:j≠q:=λz=>p2 (z▸hj);rw [bx Zm,bx np,bx nq];exact⟨λz=>p1 ((hm p).mp z).1,λz=>p2 ((hm q).mp z).1,p3,p4,p5,by omega⟩
 ·by_cases c1:j=u
  ·by_cases c2:j=v
   ·exact c1.symm.trans c2
   ·exfalso;subst c1;have VU:v∉left:=λz=>hvl ((hm v).mpr ⟨z,Bz c2⟩);rw [ik Xe,bx c2] at Tn;have:=Ô v hv VU;omega
  ·have Zp:u∉left:=λz=>hul ((hm u).mpr ⟨z,Bz c1⟩);by_cases c2:j=v
   ·exfalso;subst c2;rw [ik Xe,bx c1] at Tn;have:=Ô u hu Zp;omega
   ·have VU:v∉left:=λz=>hvl ((hm v).mpr ⟨z,Bz c2⟩);rw [bx c1,bx c2] at Tn;exact D.inj u v hu hv Zp VU pu pv Tn
def splits (t:Tr):List Nat:=(AI t.size).filter λj=>ud (en t 0 j)
def Dt.first (t:Tr):Dt t (Am t.size 0) (splits t) 0:=by
 have z:∀j,(Am t.size (0:Int)).getD j 0=0:=λj=>by
  rw [Al,Bp]
  split <;> rfl
 have mem:∀j,j∈splits t↔j < t.size/\ud (en t 0 j)=true:=λj=>by unfold splits;rw [A8,AY]
 refine⟨Bn,λj _ _=>z j,λj hj hn a b e=>absurd ((mem j).mpr ⟨hj,by rw [e];rfl⟩) hn,λi j hi hj hni _ pi _ _=>absurd ((mem i).mpr ⟨hi,pi⟩) hni,Dv _,λj hj=>(mem j).mp hj,?_⟩;exact List.Pairwise.filter _ C5
theorem JR (t:Tr):dF 0 ((t.nd 0).map Ent.pv)=(AI t.size).map λj=>PV.tup [.int ((j:Nat):Int),(en t 0 j).pv]:=by
 have hl:(dF 0 ((t.nd 0).map Ent.pv)).length=t.size:=by rw [cj,Af,t.a8]
 apply B1;intro i;by_cases hi:i < t.size
 ·have h1:(dF 0 ((t.nd 0).map Ent.pv))[i]?=am ((dF 0 ((t.nd 0).map Ent.pv))[i]'∅):=Ad _;obtain⟨y,hy,e⟩:=f6 h1;rw [Aj,gX t 0 i hi] at hy;have VT:=Option.some.inj hy;rw [h1,e,<- VT,Aj,BJ hi,AG];rfl
 ·rw [AO ∅,AO (by rw [Af,CF];omega)]
def Q9:PV->Option PV
 | .tup [_,.str _]=>bm
 | .tup [k,_]=>am k
 | _=>bm
def Vu (t:Tr):(dF 0 ((t.nd 0).map Ent.pv)).filterMap Q9=aP (splits t):=by
 rw [JR];unfold splits;generalize AI t.size=l
 induction l with
 | nil=>rfl
 | cons j l ih=>
  rw [Ar,A6,Di];cases e:en t 0 j with
  | word w=>exact ih
  | pair a b=>
   rw [ih];rfl
def uF (l:List Nat):aP l=(l.map λn=>((n:Nat):Int)).map PV.int:=by unfold aP;rw [AB];rfl
theorem sP (y:Nat):∀l:List Nat,(l.map λn=>((n:Nat):Int)).erase (y:Int)=(l.erase y).map λn=>((n:Nat):Int)
 | []=>rfl
 | a::l=>by
  rw [Ar,List.erase_cons,List.erase_cons,sP y l];by_cases c:a=y
  ·subst c;simp
  ·have c1:(((a:Nat):Int)==(y:Int))=false:=by simp;omega
   have c2:(a==y)=false:=by simpa using c
   rw [c1,c2];simp
theorem Jb:∀(l:List Nat) (k n:Nat),l.Pairwise (· < ·)->(∀x∈l,k<=x/\x < n)->l.length<=n-k
 | [],_,_,_,_=>Ba _
 | a::l,k,n,h,hb=>by
  have h1:=(D1.mp h);have h2:=hb a Bs;have ih:=Jb l (a+1) n h1.2 λx hx=>⟨h1.1 x hx,(hb x (AR _ hx)).2⟩;rw [Ap];omega
def Ut (s:Nat):Ent->Ent
 | .word x=>.word x
 | .pair p q=>.pair (p+s) (q+s)
theorem GY:∀(t:Tr) (o s:Nat),t.nd (o+s)=(t.nd o).map (Ut s)
 | .leaf _,_,_=>rfl
 | .node a b,o,s=>by
  have ha:=a.size_pos;rw [Tr.nd,Tr.nd,GY a o s,show o+s+a.size=o+a.size+s by omega,GY b (o+a.size) s,AJ,AJ];congr 2;congr 1 <;> omega
def gH {m:List PV} (h:l.length+m.length<=1000):mK l m=.ret (l++m):=mo (cu h)
theorem pick_run (h0:l≠[]) (h1:l.length<=1000) {Q:PV->Prop} (q:∀x∈l,Q x):(bM (.cl l)).run Q:=by
 unfold bM;have hp:0 < l.length:=Cj.mpr h0;simp only [ga,cr,bR,e6,dc (l.length:Int) ∅ ∅,gl];refine bA λd d0 d1=>?_;obtain⟨v,hv,hv2⟩:=Pb (xs:=l) d0 d1;simp only [cA,hv,wT,gl];exact q v (Bh hv2)
theorem NV (k:Nat) (l:List Nat) (b:Bool):qj b (.int (k:Int)) (aP l)=.ret (if b then !decide (k∈l) else decide (k∈l)):=by
 have h1:RB (.int (k:Int)) (aP l):=⟨by simp,gE.mpr λx hx=>by
  obtain⟨n,_,rfl⟩:=Av.mp hx;simp,gF λx hx=>by
  obtain⟨n,_,rfl⟩:=Av.mp hx;simp⟩
 have h2:sD (.int (k:Int)) (aP l)=decide (k∈l):=by
  unfold sD aP;rw [Fm]
  induction l with
  | nil=>simp
  | cons a l ih=>
   have ih:=ih ⟨by simp,gE.mpr λx hx=>by
    obtain⟨n,_,rfl⟩:=Av.mp hx;simp,gF λx hx=>by
    obtain⟨n,_,rfl⟩:=Av.mp hx;simp⟩
   rw [Bw,ih];by_cases c:a=k
   ·subst c;simp
   ·have c1:(((a:Nat):Int)==(k:Int))=false:=by simp;omega
    have c2:¬k=a:=λz=>c z.symm;simp [c1,c2]
 unfold qj;rw [mo h1,h2]
def bo (ds:List Int):List PV:=ds.map PV.int
@[simp] theorem fw (ds:List Int):(bo ds).length=ds.length:=Af _
def NU (ds:List Int) (y:Nat) (v:Int):(bo ds).set y (.int v)=bo (ds.set y v):=by unfold bo;rw [Ey]
def LL (t:Tr) (left:List Nat) (j:Nat):Bool:=match en t 0 j with
 | .pair a b=>!decide (a∈left)&&!decide (b∈left)
 | _=>false
theorem JE (h:k < n):uQ n (k:Int)=am k:=by
 unfold uQ;rw [if_pos ∅,if_pos ∅];simp
def mY (h:k < l.length):ka l (.int (k:Int)) v=.ret (l.set k v):=by
 unfold ka;simp [JE h]
def Vm (t:Tr) (h:j < t.size):dH ((t.nd 0).map Ent.pv) (j:Int)=am (en t 0 j).pv:=eJ (by rw [Aj,gX t 0 j h];rfl)
theorem Dt.Ym (D:Dt t ds left d) (he:left≠[]):aP (left.filter (LL t left))≠[]:=by
 obtain⟨l0,l1,rfl⟩:∃l0 l1,left=l0::l1:=by cases left with | nil=>exact absurd rfl he | cons a l=>exact⟨a,l,rfl⟩
 have hr2:LL t (l0::l1) l0=true:=by
  obtain⟨h1,h2⟩:=D.W8 l0 (.head _);unfold LL;cases e:en t 0 l0 with
  | word w=>rw [e] at h2;cases h2
  | pair a b=>
   obtain⟨g1,g2⟩:=iM t h1 e;have Ô:∀y∈l0::l1,l0<=y:=λy hy=>by
    rcases Aw.mp hy with rfl | hy
    ·exact An _
    ·exact DK ((D1.mp D.ris).1 y hy)
   have na:a∉l0::l1:=λz=>by have:=Ô a z;omega
   have nb:b∉l0::l1:=λz=>by have:=Ô b z;omega
   show (!decide _&&!decide _)=true;rw [decide_eq_false na,decide_eq_false nb];rfl
 intro z;have:=congrArg BL z;rw [dB] at this;have m:=A8.mpr ⟨show l0∈l0::l1 from .head _,hr2⟩;rw [List.length_eq_zero_iff.mp this] at m;cases m
theorem vo.size (g:vo t):t.size<=15:=by have:=t.size_eq;have:=g.ZZ;omega
theorem vo.depth (g:vo t):t.depth < 8:=by have:=t.nV;have:=g.ZZ;omega
def YO (t:Tr) (ds:List Int) (j:Nat):Bool:=match en t 0 j with
 | .word _=>ds.getD j 0==0
 | .pair a b=>decide (ds.getD a 0 < ds.getD j 0)&&decide (ds.getD b 0 < ds.getD j 0)&&decide (1<=ds.getD j 0)&&decide (ds.getD j 0<=99)
def Kl (t:Tr) (ds:List Int):List Int:=(splits t).map (ds.getD · 0)
def Ry (t:Tr) (ds:List Int):Bool:=decide (ds.length=t.size)&&(decide (Kl t ds).Nodup&&(AI t.size).all (YO t ds))
def int_at (h:j < ds.length):dH (bo ds) (j:Int)=am (.int (ds.getD j 0)):=eJ (by
 unfold bo;rw [Aj,Ad h,Al,Ad h];rfl)
theorem T4 (t:Tr) (ds:List Int) (h:ds.length=t.size):oB ((t.nd 0).map Ent.pv) (bo ds)=(AI t.size).map λj=>PV.tup [(en t 0 j).pv,.int (ds.getD j 0)]:=by
 refine B1 λj=>?_;by_cases hj:j < t.size
 ·have hl:j < (oB ((t.nd 0).map Ent.pv) (bo ds)).length:=by rw [mR];simp [t.a8,h];exact hj
  obtain⟨x,y,hx,hy,e⟩:=qS (Ad hl);rw [Aj,gX t 0 j hj] at hx;have uU:=Option.some.inj hx;have Xe:j < ds.length:=by omega
  unfold bo at hy;rw [Aj,Ad Xe] at hy;have VT:=Option.some.inj hy;rw [Ad hl,e,<- uU,<- VT,Aj,BJ hj];show _=am (PV.tup [_,.int (ds.getD j 0)]);rw [Al,Ad Xe];rfl
 ·rw [AO (by rw [mR];simp [t.a8,h];omega),AO (by simp;omega)]
theorem split_le (t:Tr) (ds:List Int) (h:ds.length=t.size) (hz:t.size<=900):dC (.tup ((t.nd 0).map Ent.pv)) (.tup (bo ds))=.ret (bo (Kl t ds)):=by
 unfold dC;have c:((t.nd 0).map Ent.pv).length<=sizeLine:=cu (by rw [Af,t.a8];omega);simp only [ga,aG,J7,mo c,T4 t ds h];rw [wq (g:=λx=>match x with | .tup [.str _,_]=>bm | .tup [_,y]=>am y | _=>bm) λx hx=>?_]
 ·congr 1;unfold Kl splits bo;generalize AI t.size=l
  induction l with
  | nil=>rfl
  | cons j l ih=>
   rw [Ar,A6,Di,ih];cases e:en t 0 j with
   | word w=>rfl
   | pair a b=>rfl
 ·obtain⟨j,hj,rfl⟩:=Av.mp hx;cases en t 0 j with
  | word w=>simp [Ent.pv]
  | pair a b=>simp [Ent.pv]
end My
variable {e:My.Ent}{es:List My.Ent}{bs:List Int}
namespace My
open PySem PySem.Spec PyProof.Rows L2 PL FL
section
variable {α β:Type}
theorem Nl {c:α->PV}{f:PV->W PV}{g:α->PV}:∀{l:List α},(∀x∈l,(f (c x)).le (.ret (g x)))->(bz (l.map c) f).le (.ret (l.map g))
 | [],_=>W.le.refl _
 | x::r,h=>W.le.ret (h x (.head _)) (W.le.ret (Nl λy hy=>h y (.tail _ hy)) (W.le.refl _))
theorem S6 {c:α->PV}{g:α->Option PV}:∀{l:List α},(∀x∈l,(f (c x)).le (.ret (g x)))->(lY (l.map c) f).le (.ret (l.filterMap g))
 | [],_=>W.le.refl _
 | x::r,h=>W.le.ret (h x (.head _)) (W.le.ret (S6 λy hy=>h y (.tail _ hy)) (W.le.of_eq (by rw [A6];cases g x <;> rfl)))
def fR {c:α->PV}{f:PV->W PV} (g:α->PV) {l:List α} (h:∀x∈l,(f (c x)).le (.ret (g x))) (q:Q (l.map g)):(bz (l.map c) f).run Q:=Nl h Q q
def Vv {c:α->PV} (g:α->Option PV) {l:List α} (h:∀x∈l,(f (c x)).le (.ret (g x))) (q:Q (l.filterMap g)):(lY (l.map c) f).run Q:=S6 h Q q
theorem Tx {p:α->Bool}{g:α->β}:∀l:List α,l.filterMap (λx=>if p x=true then am (g x) else bm)=(l.filter p).map g
 | []=>rfl
 | x::l=>by
  rw [A6,Di,Tx l];cases p x <;> rfl
end
def OK (c:α->PV) (l:List α) (k:Nat):dF k (l.map c)=(l.zipIdx k).map λp=>PV.tup [.int ((p.2:Nat):Int),c p.1]:=by
 induction l generalizing k with
 | nil=>rfl
 | cons a l ih=>rw [Ar,dF,ih,List.zipIdx_cons,Ar]
def vp:V->PV
 | .int i=>.int i
 | .str x=>.str x
 | .bl b=>.bl b
 | _=>.aE
def Xu (t:Tr):List PV:=(ah (t.nd 0) 0 (Am t.size V.aE)).map vp
@[simp] theorem J4 (t:Tr):(Xu t).length=t.size:=by unfold Xu;rw [Af,Ik,Bn]
def J5 (t:Tr) (h:j < t.size):(Xu t)[j]?=am (vp (ke t 0 j .aE)):=by unfold Xu;rw [Aj,WN t h];rfl
def dW (t:Tr):((t.nd 0).map Ent.pv).length=t.size:=by rw [Af,t.a8]
theorem F1 (t:Tr) (hz:t.size<=900):(eQ t.pv).le (.ret (.tup (Xu t))):=λQ q=>by
 unfold eQ;have c:((t.nd 0).map Ent.pv).length<=sizeLine:=cu (by rw [dW];omega);simp only [ga,cr];refine W.le.use (nu t hz) ?_;simp only [aG,gl];refine Nm (λ_=>.aE) (λx hx=>rfl) ?_;simp only [mo c,gl];have e0:((t.nd 0).map Ent.pv).map (λ_=>PV.aE)=(ah ((t.nd 0).take 0) 0 (Am t.size V.aE)).map vp:=by
  rw [List.take_zero,ah,List.map_replicate,List.map_const',dW];rfl
 rw [e0];refine fV (λi s=>s=(ah ((t.nd 0).take i) 0 (Am t.size V.aE)).map vp) rfl (λi x s hx hs=>?_) (λs hs=>?_)
 ·subst hs;have hi:i < t.size:=by have:=(Ak.mp hx).1;rw [cj,dW] at this;exact this
  obtain⟨y,hy,rfl⟩:=f6 hx;have e:=gX t 0 i hi;rw [Aj,e] at hy;have hy:=Option.some.inj hy;subst hy;have et:(t.nd 0).take (i+1)=(t.nd 0).take i++[en t 0 i]:=by rw [CJ,e];rfl
  have ea:ah ((t.nd 0).take (i+1)) 0 (Am t.size V.aE)=Pf (ah ((t.nd 0).take i) 0 (Am t.size V.aE)) (0+i) (en t 0 i):=by
   rw [et,ya,Em,t.a8];congr 1;omega
  have hal:(ah ((t.nd 0).take i) 0 (Am t.size V.aE)).length=t.size:=by rw [Ik,Bn]
  rw [ea];generalize hA:ah ((t.nd 0).take i) 0 (Am t.size V.aE)=A at hal ⊢;unfold cz;cases en':en t 0 i with
  | word w=>simp [Ent.pv,cy,Pf]
  | pair a b=>
   obtain⟨ha,hb⟩:=iM t hi en';have s1:ka (A.map vp) (.int (a:Int)) (.int ((0+i:Nat):Int))=.ret ((A.map vp).set a (.int ((0+i:Nat):Int))):=mY (by rw [Af];omega);have s2:ka ((A.map vp).set a (.int ((0+i:Nat):Int))) (.int (b:Int)) (.int ((0+i:Nat):Int))=.ret (((A.map vp).set a (.int ((0+i:Nat):Int))).set b (.int ((0+i:Nat):Int))):=mY (by rw [BK,Af];omega);simp only [Ent.pv,mB,gl,hE,ly,cO,cr,Au,if_false,aG,cy,ga,s1,s2];show _=FA vp ((A.set a _).set b _);rw [Ey,Ey];rfl
 ·subst hs;simp only [cj,Af];rw [CK];exact q
def Jq (e:Ent) (j:Nat):PV:=match e with | .word x=>.str x | .pair _ _=>.int (j:Int)
def Gi (t:Tr) (ds:List Int) (b:Int) (j:Nat):Bool:=decide (ds.getD j 0<=b)&&(match ke t 0 j .aE with | .int a=>decide (b < ds.getD a.toNat 0) | _=>true)
def yN (t:Tr) (ds:List Int) (b:Int) (n j:Nat):List (Nat×Nat):=((AI j).filter (Gi t ds b)).map λk=>(k,n)
def aF (t:Tr) (ds bs:List Int):Nat->List (Nat×Nat)
 | 0=>[]
 | i+1=>aF t ds bs i++yN t ds (bs.getD i 0) i t.size
def LM (l:List (Nat×Nat)):List PV:=l.map λp=>.tup [.int (p.1:Int),.int (p.2:Int)]
def vE (t:Tr) (ds:List Int) (b:Int) (n j:Nat):(yN t ds b n j).length<=j:=by
 unfold yN;rw [Af];refine BA (Bv _ _) ?_;rw [CF];exact An _
theorem i6 (t:Tr) (ds bs:List Int):∀i,(aF t ds bs i).length<=i*t.size
 | 0=>Ba _
 | i+1=>by
  rw [aF,Ah];have h1:=i6 t ds bs i;have h2:=vE t ds (bs.getD i 0) i t.size;rw [Ew];omega
def Md (t:Tr) (ds:List Int) (b:Int) (n j:Nat):yN t ds b n (j+1)=yN t ds b n j++(if Gi t ds b j then [(j,n)] else []):=by
 unfold yN;rw [List.range_succ,D3,AJ];congr 1;by_cases c:Gi t ds b j <;> simp [c]
def sj (p:Nat×Nat):List Key:=[.inl (p.1:Int),.inl (p.2:Int)]
theorem zF {p q:Nat×Nat} (h:sj p=sj q):p=q:=by
 obtain⟨a,b⟩:=p;obtain⟨c,d⟩:=q;simp [sj] at h;obtain⟨h1,h2⟩:=h;exact Prod.ext (by show a=c;omega) (by show b=d;omega)
def mw:Nat->List (Nat×Nat)->List (List Key×PV)
 | _,[]=>[]
 | k,p::l=>(sj p,.int (k:Int))::mw (k+1) l
theorem k7:∀(k:Nat) (l:List (Nat×Nat)),(mw k l).map (·.1)=l.map sj
 | _,[]=>rfl
 | k,p::l=>by rw [mw,Ar,Ar,k7 (k+1) l]
def zg (k:Nat) (l:List (Nat×Nat)):(mw k l).length=l.length:=by have:=congrArg BL (k7 k l);simpa using this
theorem rJ:∀(k:Nat) (l:List (Nat×Nat)) (p:Nat×Nat),p∈l->cI (mw k l) (sj p)=am (.int ((k+l.idxOf p:Nat):Int))
 | k,q::l,p,h=>by
  rw [List.idxOf_cons];by_cases c:q=p
  ·subst c;simp [mw,cI]
  ·have hp:p∈l:=(Aw.mp h).elim (λz=>absurd z.symm c) id;have ih:=rJ (k+1) l p hp;have c2:sj q≠sj p:=λz=>c (zF z);have c3:(q==p)=false:=by simpa using c
   have e:cI (mw k (q::l)) (sj p)=cI (mw (k+1) l) (sj p):=by simp [mw,cI,c2]
   rw [e,ih,c3];congr 2;show ((k+1+l.idxOf p:Nat):Int)=((k+(l.idxOf p+1):Nat):Int);omega
def Gm (e:Ent) (j:Nat) (d b:Int):List Nat:=if d < b then [j] else match e with | .word _=>[] | .pair x y=>[x,y]
def WH (l:List (Nat×Nat)) (j n:Nat):List Nat:=(l.filter λp=>decide (p.2=n)&&!decide (p.1=j)).map λp=>l.idxOf p
def JU (e:Ent) (l:List (Nat×Nat)) (j n:Nat) (d b:Int):PV:=.tup [Jq e j,.int (n:Int),.tup (aP ((Gm e j d b).map λx=>l.idxOf (x,n-1))),.tup (aP (WH l j n))]
def Jt {f:α->β} (hf:∀x y,f x=f y->x=y) {l:List α} (h:l.Nodup):(l.map f).Nodup:=List.Pairwise.map f (λa b n z=>n (hf a b z)) h
def Kj (t:Tr) (ds:List Int) (b:Int) (n j:Nat):(yN t ds b n j).Nodup:=by
 exact Jt (λx y h=>(Prod.mk.inj h).1) (List.Pairwise.filter _ List.nodup_range)
theorem gb:∀{i:Nat}{p:Nat×Nat},p∈aF t ds bs i->p.2 < i/\p.1 < t.size
 | 0,_,h=>by simp [aF] at h
 | i+1,p,h=>by
  rw [aF] at h;rcases A9.mp h with h | h
  ·have:=gb h;omega
  ·obtain⟨k,hk,rfl⟩:=Av.mp h;have:=AY.mp (A8.mp hk).1;exact⟨Ej _,this⟩
theorem i5 (t:Tr) (ds bs:List Int):∀i,(aF t ds bs i).Nodup
 | 0=>D2
 | i+1=>by
  rw [aF];refine List.nodup_append.mpr ⟨i5 t ds bs i,Kj _ _ _ _ _,λa ha b hb z=>?_⟩;subst z;have h1:=(gb ha).1;obtain⟨k,_,rfl⟩:=Av.mp hb;exact AQ _ h1
def kA (h:l[k]?=am v):Th l (.int (k:Int))=.ret v:=by
 rw [cA,eJ h];rfl
def FE (ds:List Int) (h:(dF 0 (bo ds))[i]?=am x):i < ds.length/\x=.tup [.int (i:Int),.int (ds.getD i 0)]:=by
 have hi:i < ds.length:=by have:=(Ak.mp h).1;rw [cj,fw] at this;exact this
 obtain⟨y,hy,rfl⟩:=f6 h;unfold bo at hy;rw [Aj,Ad hi] at hy;have hy:=Option.some.inj hy;subst hy;refine⟨hi,?_⟩;rw [AG,Al,Ad hi];rfl
theorem yM (t:Tr) (ds bs:List Int) (hd:ds.length=t.size) (hz:t.size<=100) (hb:bs.length*t.size<=900) (hb2:bs.length<=900):(gj t.pv (.tup (bo ds)) (.cl (bo bs))).le (.ret (LM (aF t ds bs bs.length))):=λQ q=>by
 unfold gj;have c1:(bo bs).length<=sizeLine:=cu (by rw [fw];omega);have c2:(bo ds).length<=sizeLine:=cu (by rw [fw];omega);simp only [ga,cr];refine W.le.use (F1 t ∅) ?_;simp only [bR,gl,mo c1];refine fV (λi s=>s=LM (aF t ds bs i)) rfl (λi x s hx hs=>?_) (λs hs=>?_)
 ·subst hs;obtain⟨hi,rfl⟩:=FE bs hx;simp only [mB,gl,cr,aG,mo c2];have hl:=i6 t ds bs i;have hm:i*t.size+t.size<=900:=by
   have:(i+1)*t.size<=bs.length*t.size:=E2 _ hi;rw [Ew] at this;omega
  refine fV (λj s=>s=LM (aF t ds bs i++yN t ds (bs.getD i 0) i j)) (by simp [yN]) (λj x s hx hs=>?_) (λs hs=>?_)
  ·subst hs;obtain⟨hj,rfl⟩:=FE ds hx;have Px:=vE t ds (bs.getD i 0) i j;simp only [mB,gl,cr];rw [Md];have Xd:j < t.size:=by omega
   have ā:Gi t ds (bs.getD i 0) j=true->(gP (LM (aF t ds bs i++yN t ds (bs.getD i 0) i j)) (PV.tup [.int (j:Int),.int (i:Int)])).run λs=>s=LM (aF t ds bs i++(yN t ds (bs.getD i 0) i j++if Gi t ds (bs.getD i 0) j=true then [(j,i)] else [])):=λc=>by
    rw [dr (by unfold LM;rw [Af,Ah];omega),if_pos c];unfold LM;rw [<- Ay,AJ (l₂:=[(j,i)])];rfl
   have no:Gi t ds (bs.getD i 0) j=false->LM (aF t ds bs i++yN t ds (bs.getD i 0) i j)=LM (aF t ds bs i++(yN t ds (bs.getD i 0) i j++if Gi t ds (bs.getD i 0) j=true then [(j,i)] else [])):=λc=>by rw [c];simp
   generalize eb:bs.getD i 0=b at ā no ⊢;generalize ed:ds.getD j 0=d at *;simp only [ga,cr,Z5,gl,bB,aG,kA (J5 t Xd)];by_cases c:d<=b
   ·simp only [c,decide_true,if_true,cr,gl];rcases qY t 0 j .aE [] Xd with⟨_,e,_⟩ | ⟨a,_,ha,e,_⟩
    ·have sb:Gi t ds b j=true:=by unfold Gi;rw [e,ed];simp [c]
     rw [e];simp only [vp,kG,gl,bB,PV.gz,if_true];exact ā sb
    ·rw [AG] at e;have sb:Gi t ds b j=decide (b < ds.getD a 0):=by unfold Gi;rw [e,ed];simp [c]
     rw [e];have i2:dH (bo ds) (a:Int)=am (.int (ds.getD a 0)):=int_at ∅;simp only [vp,kG,gl,bB,PV.gz,Au,if_false,cA,i2,wT,JP,ga];by_cases c2:b < ds.getD a 0
     ·rw [decide_eq_true c2] at sb ⊢;exact ā sb
     ·rw [decide_eq_false c2] at sb ⊢;exact no sb
   ·have sb:Gi t ds b j=false:=by unfold Gi;rw [ed];simp [c]
    simp only [c,decide_false,Au,if_false,gl];exact no sb
  ·subst hs;rw [cj,fw,hd];rfl
 ·subst hs;rw [cj,fw];exact q
def Q0 {l:List (Nat×Nat)} (h:l≠[]) (k:Nat):mw k l≠[]:=by cases l with | nil=>exact absurd rfl h | cons a l=>simp [mw]
def GX (k:Nat) (l:List (Nat×Nat)):((mw k l).map λkv=>PV.tup (kv.1.map kP))=l.map λp=>PV.tup [.int (p.1:Int),.int (p.2:Int)]:=by
 have:=congrArg (FA λx:List Key=>PV.tup (x.map kP)) (k7 k l);rw [AB,AB] at this;exact this
theorem P7 {l:List (Nat×Nat)} (h1:es[j]?=am e) (h2:j < ds.length) (h3:n < bs.length) (hl:l.length<=1000) (h0:l≠[])
  (hb:∀x∈Gm e j (ds.getD j 0) (bs.getD n 0),1<=n/\(x,n-1)∈l) :
  (iI (.tup (es.map Ent.pv)) (.tup (bo ds)) (.cl (bo bs)) (xR (mw 0 l)) (.tup [.int (j:Int),.int (n:Int)])).le (.ret (JU e l j n (ds.getD j 0) (bs.getD n 0))):=λQ q=>by
 unfold iI;have i0:dH [PV.int (j:Int),PV.int (n:Int)] 0=am (.int j):=rfl;have i1:dH [PV.int (j:Int),PV.int (n:Int)] 1=am (.int n):=rfl;have i2:dH (bo ds) (j:Int)=am (.int (ds.getD j 0)):=int_at h2;have i3:dH (bo bs) (n:Int)=am (.int (bs.getD n 0)):=int_at h3;have i4:dH (es.map Ent.pv) (j:Int)=am e.pv:=eJ (by rw [Aj,h1];rfl);simp only [ga,cr,aG,bR,cA,i0,i1,i2,i3,i4,wT,gl,JP,cO];generalize hdj:ds.getD j 0=d at *;generalize hbn:bs.getD n 0=b at *;have below:∀{R:PV->Prop},R (.tup (aP (Gm e j d b)))->(if decide (d < b)=true then bd (PV.tup [PV.int (j:Int)]) else cz e.pv).run R:=λ{R} r=>by
  unfold Gm at r;unfold cz;by_cases c:d < b
  ·rw [if_pos c] at r;simpa [c] using r
  ·cases e with
   | word w=>simpa [c,Ent.pv] using r
   | pair a b=>simpa [c,Ent.pv] using r
 refine below ?_;refine fR (λx=>.int ((l.idxOf (x,n-1):Nat):Int)) (λk hk=>?_) ?_
 ·obtain⟨g1,g2⟩:=hb k hk;intro R r;have en1:(n:Int)-1=((n-1:Nat):Int):=by omega
  simp only [PF,ga,cr,xv,gl,en1];rw [show PV.tup [.int (k:Int),.int ((n-1:Nat):Int)]=.tup ((sj (k,n-1)).map kP) from rfl];refine qN (rJ 0 l (k,n-1) g2) ?_;rw [AG];exact r
 simp only [cr,Oz,gl];refine KR (Q0 h0 0) (by rw [zg];exact hl) ?_;rw [GX];refine Vv (λp=>if (decide (p.2=n)&&!decide (p.1=j))=true then am (.int ((l.idxOf p:Nat):Int)) else bm) (λp hp=>?_) ?_
 ·intro R r;obtain⟨u,v⟩:=p;have j0:dH [PV.int (u:Int),PV.int (v:Int)] 0=am (.int u):=rfl;have j1:dH [PV.int (u:Int),PV.int (v:Int)] 1=am (.int v):=rfl;simp only [PF,ga,cr,aG,cA,j0,j1,wT,gl,jw,Wk,bB];have get:∀{R:PV->Prop},R (.int ((l.idxOf (u,v):Nat):Int))->(dgW (xR (mw 0 l)) (PV.tup [.int (u:Int),.int (v:Int)])).run R:=λ{R} r=>by
   refine qN (rJ 0 l (u,v) hp) ?_;rw [AG];exact r
  by_cases c1:v=n
  ·subst c1;by_cases c2:u=j
   ·subst c2;simp only [beq_self_eq_true,Cv,if_true,gl,Au,if_false];simpa using r
   ·have c3:((u:Int)==(j:Int))=false:=by simp;omega
    simp only [beq_self_eq_true,c3,E5,if_true,gl,cr];refine get ?_;simpa [c2] using r
  ·have c3:((v:Int)==(n:Int))=false:=by simp;omega
   simp only [c3,Au,if_false,gl];simpa [c1] using r
 rw [Tx];have nm:∀{R:PV->Prop},R (Jq e j)->(dX (.tup (es.map Ent.pv)) (.int (j:Int))).run R:=λ{R} r=>by
  unfold dX;simp only [ga,cr,aG,cA,i4,wT,gl];cases e with
  | word w=>simpa [Ent.pv,Jq] using r
  | pair a b=>simpa [Ent.pv,Jq] using r
 refine nm ?_;have e1:(l.filter λp=>decide (p.2=n)&&!decide (p.1=j)).map (λp=>PV.int ((l.idxOf p:Nat):Int))=aP (WH l j n):=by
  unfold aP WH;rw [AB];rfl
 have e2:(Gm e j d b).map (λx=>PV.int ((l.idxOf (x,n-1):Nat):Int))=aP ((Gm e j d b).map λx=>l.idxOf (x,n-1)):=by
  unfold aP;rw [AB];rfl
 rw [e1,e2];exact q
def Xr (t:Tr) (ds bs:List Int):List PV:=(aF t ds bs bs.length).map λp=>JU (en t 0 p.1) (aF t ds bs bs.length) p.1 p.2 (ds.getD p.1 0) (bs.getD p.2 0)
def okD (t:Tr) (ds bs:List Int):Prop:=∀p∈aF t ds bs bs.length,∀x∈Gm (en t 0 p.1) p.1 (ds.getD p.1 0) (bs.getD p.2 0),1<=p.2/\(x,p.2-1)∈aF t ds bs bs.length
theorem rK:∀(k:Nat) (l:List (Nat×Nat)),(l.zipIdx k).map (λp=>PV.tup [PV.tup [.int (p.1.1:Int),.int (p.1.2:Int)],.int ((p.2:Nat):Int)])=(mw k l).map Jj
 | _,[]=>rfl
 | k,p::l=>by rw [List.zipIdx_cons,Ar,rK (k+1) l];rfl
def aQ (t:Tr) (ds:List Int):List Int:=0::sortI (Kl t ds)
def IV (t:Tr) (ds:List Int):(Kl t ds).length<=t.size:=by
 unfold Kl splits;rw [Af];have:=Bv (λj=>ud (en t 0 j)) (AI t.size);rw [CF] at this;exact this
def uH {x:Int}{l:List Int}:x∈sortI l↔x∈l:=(CP l _).mem_iff
def oH (l:List Int):(sortI l).length=l.length:=(CP l _).length_eq
theorem OZ (t:Tr) (ds:List Int) (hd:ds.length=t.size) (hz:t.size<=25) (h0:aF t ds (aQ t ds) (aQ t ds).length≠[]) (ok:okD t ds (aQ t ds)):(lg t.pv (.tup (bo ds))).le (.ret (.tup (Xr t ds (aQ t ds)))):=λQ q=>by
 unfold lg;simp only [ga,cr];refine W.le.use (nu t ∅) ?_;have hs:=IV t ds;have hl:(aQ t ds).length<=t.size+1:=by unfold aQ;rw [Ap,oH];omega
 have e2:vG (bo (Kl t ds))=.ret (bo (sortI (Kl t ds))):=by
  unfold vG bo;rw [fZ];show W.ff _ _=_;rw [mo ∅]
 have e3:mK [PV.int 0] (bo (sortI (Kl t ds)))=.ret (bo (aQ t ds)):=by
  rw [gH (by rw [fw,oH];simp;omega)];rfl
 simp only [split_le t ds hd ∅,gl,e2,e3];have hb:(aQ t ds).length*t.size<=900:=by
  have:(aQ t ds).length*t.size<=26*25:=Nat.mul_le_mul ∅ hz;omega
 refine W.le.use (yM t ds (aQ t ds) hd ∅ hb ∅) ?_;generalize hL:aF t ds (aQ t ds) (aQ t ds).length=L at *;have hLl:L.length<=900:=by rw [<- hL];exact BA (i6 _ _ _ _) hb
 have hLm:∀p∈L,p.2 < (aQ t ds).length/\p.1 < t.size:=λp hp=>gb (hL▸hp);have c:(LM L).length<=sizeLine:=cu (by unfold LM;rw [Af];omega);simp only [bR,gl,mo c,ga];unfold LM;rw [OK];refine fR (λp:(Nat×Nat)×Nat=>PV.tup [PV.tup [.int (p.1.1:Int),.int (p.1.2:Int)],.int ((p.2:Nat):Int)]) (λp _ R r=>by simpa using r) ?_;rw [rK];refine Ll ?_ (by rw [zg];omega) ?_
 ·rw [k7];exact Jt (λ_ _ h=>zF h) (hL▸i5 t ds _ _)
 refine fR (λp:Nat×Nat=>JU (en t 0 p.1) L p.1 p.2 (ds.getD p.1 0) ((aQ t ds).getD p.2 0)) (λp hp=>?_) ?_
 ·obtain⟨g1,g2⟩:=hLm p hp;refine P7 (gX t 0 p.1 g2) ∅ g1 ∅ h0 λx hx=>?_;have:=ok p (by rw [hL];exact hp) x hx;rw [hL] at this;exact this
 ·have:Xr t ds (aQ t ds)=L.map λp:Nat×Nat=>JU (en t 0 p.1) L p.1 p.2 (ds.getD p.1 0) ((aQ t ds).getD p.2 0):=by unfold Xr;rw [hL]
  rw [<- this];exact q
theorem jN:∀(t:Tr) (o x:Nat) (p:V),x < t.size->(x=t.size-1/\ke t o x p=p)\/∃a u v,x < a/\a < t.size/\ke t o x p=.int ((o+a:Nat):Int)/\en t o a=.pair u v/\(u=o+x\/v=o+x)
 | .leaf _,o,x,p,h=>.inl ⟨by have:x < 1:=h;show x=0;omega,rfl⟩
 | .node l r,o,x,p,h=>by
  have es:(Tr.node l r).size=l.size+r.size+1:=rfl;have top:en (.node l r) o (l.size+r.size)=.pair (o+l.size-1) (o+l.size+r.size-1):=by rw [en,if_neg ∅,if_neg ∅]
  by_cases c1:x < l.size
  ·rw [show ke (.node l r) o x p=ke l o x (.int (o+l.size+r.size:Nat)) by rw [ke,if_pos c1]];rcases jN l o x (.int (o+l.size+r.size:Nat)) c1 with⟨h1,h2⟩ | ⟨a,u,v,h1,h2,h3,h4,h5⟩
   ·exact .inr ⟨l.size+r.size,_,_,by omega,by omega,by rw [h2,Bg],top,.inl ∅⟩
   ·exact .inr ⟨a,u,v,h1,by omega,h3,by rw [en,if_pos h2];exact h4,h5⟩
  ·by_cases c2:x < l.size+r.size
   ·rw [show ke (.node l r) o x p=ke r (o+l.size) (x-l.size) (.int (o+l.size+r.size:Nat)) by rw [ke,if_neg c1,if_pos c2]];rcases jN r (o+l.size) (x-l.size) (.int (o+l.size+r.size:Nat)) ∅ with⟨h1,h2⟩ | ⟨a,u,v,h1,h2,h3,h4,h5⟩
    ·exact .inr ⟨l.size+r.size,_,_,by omega,by omega,by rw [h2,Bg],top,.inr ∅⟩
    ·refine .inr ⟨l.size+a,u,v,by omega,by omega,by rw [h3,Bg],?_,by omega⟩;rw [en,if_neg ∅,if_pos ∅,Ek];exact h4
   ·exact .inl ⟨by omega,by rw [ke,if_neg c1,if_neg c2]⟩
theorem HG:∀(t:Tr) (o j:Nat) (p:V) (a b:Nat),j < t.size->en t o j=.pair a b->o<=a/\o<=b/\a < o+j/\b < o+j/\a < b/\ke t o (a-o) p=.int ((o+j:Nat):Int)/\ke t o (b-o) p=.int ((o+j:Nat):Int)
 | .leaf _,o,j,p,a,b,h,e=>by rw [en] at e;cases e
 | .node l r,o,j,p,a,b,h,e=>by
  have es:(Tr.node l r).size=l.size+r.size+1:=rfl;have lp:=l.size_pos;have rp:=r.size_pos;by_cases c1:j < l.size
  ·rw [en,if_pos c1] at e;obtain⟨h1,h2,h3,h4,h5,h6,h7⟩:=HG l o j (.int (o+l.size+r.size:Nat)) a b c1 e;refine⟨h1,h2,h3,h4,h5,?_,?_⟩
   ·rw [ke,if_pos ∅];exact h6
   ·rw [ke,if_pos ∅];exact h7
  ·by_cases c2:j < l.size+r.size
   ·rw [en,if_neg c1,if_pos c2] at e;obtain⟨h1,h2,h3,h4,h5,h6,h7⟩:=HG r (o+l.size) (j-l.size) (.int (o+l.size+r.size:Nat)) a b ∅ e;refine⟨by omega,by omega,by omega,by omega,h5,?_,?_⟩
    ·rw [ke,if_neg ∅,if_pos ∅,Nat.sub_sub,h6,show o+l.size+(j-l.size)=o+j by omega]
    ·rw [ke,if_neg ∅,if_pos ∅,Nat.sub_sub,h7,show o+l.size+(j-l.size)=o+j by omega]
   ·rw [en,if_neg c1,if_neg c2] at e;injection e with e1 e2;subst e1;subst e2;have hj:j=l.size+r.size:=by omega
    subst hj;have á:∀(t:Tr) (o:Nat) (p:V),ke t o (t.size-1) p=p:=λt o p=>by
     have tp:=t.size_pos;rcases jN t o (t.size-1) p ∅ with⟨_,h⟩ | ⟨a,_,_,h1,h2,_⟩
     ·exact h
     ·omega
    refine⟨by omega,by omega,by omega,by omega,by omega,?_,?_⟩
    ·rw [ke,if_pos ∅,show o+l.size-1-o=l.size-1 by omega,á,Bg]
    ·rw [ke,if_neg ∅,if_pos ∅,show o+l.size+r.size-1-o-l.size=r.size-1 by omega,á,Bg]
structure DD (t:Tr) (ds:List Int):Prop where
 len:ds.length=t.size
 leaf:∀j w,j < t.size->en t 0 j=.word w->ds.getD j 0=0
 pair:∀j a b,j < t.size->en t 0 j=.pair a b->ds.getD a 0 < ds.getD j 0/\ds.getD b 0 < ds.getD j 0/\1<=ds.getD j 0
 nd:(Kl t ds).Nodup
def DD.of (h:Ry t ds=true):DD t ds:=by
 unfold Ry at h;rw [AN,AN,decide_eq_true_iff,decide_eq_true_iff] at h;obtain⟨h1,h2,h3⟩:=h;have h4:∀j,j < t.size->YO t ds j=true:=λj hj=>CM.mp h3 j (AY.mpr hj);refine⟨h1,λj w hj e=>?_,λj a b hj e=>?_,h2⟩
 ·have:=h4 j hj;unfold YO at this;rw [e] at this;exact eq_of_beq this
 ·have:=h4 j hj;unfold YO at this;rw [e] at this;rw [AN,AN,AN,decide_eq_true_iff,decide_eq_true_iff,decide_eq_true_iff,decide_eq_true_iff] at this;exact⟨this.1.1.1,this.1.1.2,this.1.2⟩
def DD.mem (D:DD t ds) (hj:j < t.size):ds.getD j 0∈aQ t ds:=by
 cases e:en t 0 j with
 | word w=>rw [D.leaf j w hj e];exact .head _
 | pair a b=>
  refine AR _ (uH.mpr ?_);exact Av.mpr ⟨j,A8.mpr ⟨AY.mpr hj,by rw [e];rfl⟩,rfl⟩
theorem Mf (l:List Int):(sortI l).Pairwise (·<=·):=(El (le:=λa b=>decide (a<=b)) (λa b c=>by simp;omega) (λa b=>by simp;omega) l).imp (by simp)
theorem DD.inc (D:DD t ds):(aQ t ds).Pairwise (· < ·):=by
 unfold aQ;refine D1.mpr ⟨λx hx=>?_,?_⟩
 ·have hx:=uH.mp hx;unfold Kl splits at hx;obtain⟨j,hj,rfl⟩:=Av.mp hx;obtain⟨h1,h2⟩:=A8.mp hj;cases e:en t 0 j with
  | word w=>rw [e] at h2;cases h2
  | pair a b=>have:=(D.pair j a b (AY.mp h1) e).2.2;omega
 ·have nd:(sortI (Kl t ds)).Nodup:=(CP _ _).nodup_iff.mpr D.nd;exact (List.Pairwise.and (Mf _) nd).imp λ⟨h1,h2⟩=>Int.lt_iff_le_and_ne.mpr ⟨h1,h2⟩
theorem su {l:List Int} (h:l.Pairwise (· < ·)) (hn:n < l.length) {x:Int} (hx:x∈l) (lt:x < l.getD n 0):1<=n/\x<=l.getD (n-1) 0:=by
 obtain⟨i,hi,rfl⟩:=DE hx;have gd:∀{k} (hk:k < l.length),l.getD k 0=l[k]:=λ{k} hk=>by rw [Al,Ad hk];rfl
 rw [gd hn] at lt;have c:i < n:=by
  rcases C4 i n with c | c
  ·exact c
  ·rcases DZ c with c | c
   ·subst c;omega
   ·have:=BN.mp h _ _ hn hi c;omega
 refine⟨by omega,?_⟩;rw [gd ∅];rcases DZ (show i<=n-1 by omega) with c2 | c2
 ·subst c2;exact Dv _
 ·have:=BN.mp h _ _ hi ∅ c2;omega
theorem wU {l:List Int} (h:l.Pairwise (· < ·)) (hn:n < l.length) (hi:i < n):l.getD i 0 < l.getD n 0:=by
 have gd:∀{k} (hk:k < l.length),l.getD k 0=l[k]:=λ{k} hk=>by rw [Al,Ad hk];rfl
 rw [gd hn,gd ∅];exact BN.mp h _ _ ∅ hn hi
theorem bU {t:Tr}{ds bs:List Int}:∀{m:Nat}{j n:Nat},(j,n)∈aF t ds bs m↔n < m/\j < t.size/\Gi t ds (bs.getD n 0) j=true
 | 0,j,n=>by simp [aF]
 | m+1,j,n=>by
  rw [aF,A9,bU];unfold yN;rw [Av]
  constructor
  ·rintro (⟨h1,h2,h3⟩ | ⟨k,hk,e⟩)
   ·exact⟨by omega,h2,h3⟩
   ·obtain⟨h1,h2⟩:=A8.mp hk;injection e with e1 e2;subst e1;subst e2;exact⟨by omega,AY.mp h1,h2⟩
  ·rintro⟨h1,h2,h3⟩;by_cases c:n=m
   ·subst c;exact .inr ⟨j,A8.mpr ⟨AY.mpr h2,h3⟩,rfl⟩
   ·exact .inl ⟨by omega,h2,h3⟩
theorem fM {b:Int} (hj:j < t.size):Gi t ds b j=true↔ds.getD j 0<=b/\∀a,ke t 0 j .aE=.int ((a:Nat):Int)->b < ds.getD a 0:=by
 unfold Gi;rw [AN,decide_eq_true_iff];rcases jN t 0 j .aE hj with⟨_,e⟩ | ⟨a,u,v,_,ha,e,_,_⟩
 ·rw [e];exact⟨λh=>⟨h.1,λa z=>by cases z⟩,λh=>⟨h.1,rfl⟩⟩
 ·rw [AG] at e;rw [e];refine⟨λh=>⟨h.1,λa' z=>?_⟩,λh=>⟨h.1,?_⟩⟩
  ·injection z with z;have:a=a':=by omega
   subst this;simpa using h.2
  ·simpa using h.2 a rfl
theorem DD.ok (D:DD t ds):okD t ds (aQ t ds):=by
 rintro⟨j,n⟩ hp x hx;obtain⟨hn,hj,hs⟩:=bU.mp hp;obtain⟨Gj,qJ⟩:=(fM hj).mp hs;have inc:=D.inc;show 1<=n/\(x,n-1)∈_;unfold Gm at hx;by_cases c:ds.getD j 0 < (aQ t ds).getD n 0
 ·rw [if_pos c] at hx;have:x=j:=by simpa using hx
  subst this;obtain⟨g1,g2⟩:=su inc hn (D.mem hj) c;have lt:=wU inc hn (show n-1 < n by omega);exact⟨g1,bU.mpr ⟨by omega,hj,(fM hj).mpr ⟨g2,λa e=>by have:=qJ a e;omega⟩⟩⟩
 ·rw [if_neg c] at hx;cases e:en t 0 j with
  | word w=>rw [e] at hx;cases hx
  | pair a b=>
   rw [e] at hx;obtain⟨p1,p2,p3⟩:=D.pair j a b hj e;obtain⟨_,_,a1,a2,_,a3,a4⟩:=HG t 0 j .aE a b hj e;rw [AG,Fj] at *;have hx:x=a\/x=b:=by simpa using hx
   have key:x < t.size/\ds.getD x 0 < ds.getD j 0/\ke t 0 x .aE=.int ((j:Nat):Int):=by
    rcases hx with rfl | rfl
    ·exact⟨by omega,p1,a3⟩
    ·exact⟨by omega,p2,a4⟩
   obtain⟨k1,k2,k3⟩:=key;obtain⟨g1,g2⟩:=su inc hn (D.mem k1) ∅;have lt:=wU inc hn (show n-1 < n by omega);refine⟨g1,bU.mpr ⟨by omega,k1,(fM k1).mpr ⟨g2,λa' e'=>?_⟩⟩⟩;rw [k3] at e';injection e' with e';have:j=a':=by omega
   subst this;omega
theorem JS:∀(t:Tr) (o:Nat),∃w,en t o 0=.word w
 | .leaf w,o=>⟨w,rfl⟩
 | .node l r,o=>by rw [en,if_pos (show 0 < l.size from l.size_pos)];exact JS l o
theorem DD.ne (D:DD t ds):aF t ds (aQ t ds) (aQ t ds).length≠[]:=by
 intro z;have:(0,0)∈aF t ds (aQ t ds) (aQ t ds).length:=by
  obtain⟨w,e⟩:=JS t 0;refine bU.mpr ⟨by simp [aQ],t.size_pos,(fM t.size_pos).mpr ⟨?_,λa ea=>?_⟩⟩
  ·rw [D.leaf 0 w t.size_pos e];exact Dv _
  ·rcases jN t 0 0 .aE t.size_pos with⟨_,e⟩ | ⟨a',u,v,_,ha,e,ep,_⟩
   ·rw [e] at ea;cases ea
   ·rw [e,AG] at ea;injection ea with ea;have:a'=a:=by omega
    subst this;have:=(D.pair a' u v ha ep).2.2;show (0:Int) < _;omega
 rw [z] at this;cases this
def OY (D:DD t ds) (hz:t.size<=25):(lg t.pv (.tup (bo ds))).le (.ret (.tup (Xr t ds (aQ t ds)))):=OZ t ds D.len hz D.ne D.ok
def Uc (t:Tr):List PV:=(AI t.size).map λj=>.tup (aP (up t 0 j []))
@[simp] theorem PZ (t:Tr):(Uc t).length=t.size:=by unfold Uc;simp
def Iz (t:Tr) (h:j < t.size):(Uc t)[j]?=am (.tup (aP (up t 0 j []))):=by unfold Uc;simp [h]
theorem Ub (t:Tr):∀(k j:Nat),j+k+1=t.size->(up t 0 j []).length<=k+1:=λk=>by
 induction k using EL with
 | ind k ih=>
  intro j hj;rcases qY t 0 j .aE [] ∅ with⟨q1,q2,q3⟩ | ⟨a,q1,q2,q3,q4⟩
  ·rw [q3];show 1<=k+1;omega
  ·rw [q4,Ap];have:=ih (t.size-a-1) ∅ a ∅;omega
theorem XN (t:Tr) (h:j < t.size):(up t 0 j []).length<=t.size:=by
 have:=Ub t (t.size-j-1) j ∅;omega
def Gw (t:Tr) (i:Nat):List PV:=(AI t.size).map λj=>if j+i < t.size then .tup [] else .tup (aP (up t 0 j []))
def qw (t:Tr) (i:Nat):(Gw t i).length=t.size:=by unfold Gw;simp
def Iy (t:Tr) (i:Nat) (h:j < t.size) (c:¬j+i < t.size):(Gw t i)[j]?=am (.tup (aP (up t 0 j []))):=by unfold Gw;simp [h,c]
theorem PX (t:Tr) (i j:Nat) (h:j+i+1=t.size):(Gw t i).set j (.tup (aP (up t 0 j [])))=Gw t (i+1):=by
 apply B1;intro k;by_cases hk:k < t.size
 ·by_cases e:j=k
  ·subst e;rw [Cq (by rw [qw];exact hk),Iy t (i+1) hk ∅]
  ·rw [BU e];unfold Gw;simp only [Aj,BJ hk,Cs];by_cases c:k+i < t.size
   ·rw [if_pos c,if_pos ∅]
   ·rw [if_neg c,if_neg ∅]
 ·rw [AO (by rw [BK,qw];omega),AO (by rw [qw];omega)]
def XO (t:Tr):Gw t 0=Am t.size (.tup []):=by
 apply B1;intro k;unfold Gw;by_cases hk:k < t.size
 ·simp [hk]
 ·simp [hk]
theorem PY (t:Tr):Gw t t.size=Uc t:=by
 apply Ci;intro j _;rw [if_neg ∅]
theorem Np (t:Tr) (hz:t.size<=900):(gm t.pv).le (.ret (Uc t)):=λQ q=>by
 unfold gm;simp only [ga,cr];refine W.le.use (F1 t hz) ?_;simp only [aG,gl];refine Nm (λ_=>.tup []) (λx hx=>rfl) ?_;have e0:(Xu t).map (λ_=>PV.tup [])=Gw t 0:=by rw [List.map_const',J4,XO]
 have en:(((t.size:Nat):Int)-1 - -1).toNat=t.size:=by omega
 rw [e0];simp only [g9,J4,ga,xv,gl,OB,RP,en];refine⟨⟨trivial,bh ∅ ∅⟩,?_⟩;show (cy _ _ _).run _;refine fV (λi s=>s=Gw t i) rfl (λi x s hx hs=>?_) (λs hs=>?_)
 ·subst hs;obtain⟨hi,rfl⟩:=u9 hx;obtain⟨j,hj⟩:∃j:Nat,j=t.size-1-i:=⟨_,rfl⟩;have ej:(((t.size:Nat):Int)-1-(i:Int))=(j:Int):=by omega
  rw [ej];have Xd:j < t.size:=by omega
  have fin:∀l:List PV,l.length<=900->.int (j:Int)::l=aP (up t 0 j [])->(ap (addW (.tup [.int (j:Int)]) (.tup l)) λx=>ka (Gw t i) (.int (j:Int)) x).run λs=>s=Gw t (i+1):=λl hl he=>by
   rw [RU,mo (cu (by simp;omega))];show (ka _ _ (.tup (.int (j:Int)::l))).run _;rw [he,mY (by rw [qw];exact Xd),PX t i j ∅];rfl
  simp only [ga,cr,kA (J5 t Xd),gl];rcases qY t 0 j .aE [] Xd with⟨_,e,e2⟩ | ⟨a,ha1,ha,e,e2⟩
  ·rw [e];simp only [vp,kG,PV.gz,bB,gl,if_true];have:=fin [] (by simp) (by rw [e2,AG];rfl);simpa using this
  ·rw [AG] at e;rw [e];have i2:Th (Gw t i) (.int (a:Int))=.ret (.tup (aP (up t 0 a []))):=kA (Iy t i ha ∅);simp only [vp,kG,PV.gz,bB,gl,Au,if_false,i2,ga];have ua:=XN t ha;have:=fin (aP (up t 0 a [])) (by rw [dB];omega) (by rw [e2];simp);simpa using this
 ·subst hs;have el:(pS (((t.size:Nat):Int)-1) t.size).length=t.size:=by unfold pS;simp
  rw [el,PY];exact q
def Xt (t:Tr) (j:Nat):List Nat:=(AI t.size).filter λk=>!decide (k∈up t 0 j [])&&!decide (j∈up t 0 k [])
theorem Pc (t:Tr) (hz:t.size<=900) (hj:j < t.size):(eA (.cl (Uc t)) (.int (j:Int))).le (.ret (.tup (aP (Xt t j)))):=λQ q=>by
 unfold eA;simp only [ga,cr,e6,PZ,de,mo (bh (i:=0) (j:=(t.size:Int)) ∅ ∅),gl,A2,lj];refine Nq (λk=>!decide (k∈up t 0 j [])&&!decide (j∈up t 0 k [])) (λk hk=>?_) q;have hk:=AY.mp hk;simp only [ga,bR,kA (Iz t hj),kA (Iz t hk),aG,NV,if_true];by_cases c1:k∈up t 0 j []
 ·simp [c1]
 ·by_cases c2:j∈up t 0 k []
  ·simp [c1,c2]
  ·simp [c1,c2]
def NZ:Ent->List Nat
 | .word _=>[]
 | .pair a b=>[a,b]
def ph (e:Ent):cz e.pv=.ret (.tup (aP (NZ e))):=by
 unfold cz;cases e with
 | word w=>simp [Ent.pv,NZ]
 | pair a b=>simp [Ent.pv,NZ]
def Q1 (h:es[j]?=am e):dX (.tup (es.map Ent.pv)) (.int (j:Int))=.ret (Jq e j):=by
 have i1:Th (es.map Ent.pv) (.int (j:Int))=.ret e.pv:=kA (by rw [Aj,h];rfl);unfold dX;cases e with
 | word w=>simp only [ga,aG,i1];rfl
 | pair a b=>simp only [ga,aG,i1];rfl
def grS (t:Tr) (j:Nat):PV:=.tup [Jq (en t 0 j) j,.int 0,.tup (aP (NZ (en t 0 j))),.tup (aP (Xt t j))]
def grL (t:Tr):List PV:=(AI t.size).map (grS t)
theorem La (t:Tr) (hz:t.size<=900):(ku t.pv).le (.ret (.tup (grL t))):=λQ q=>by
 unfold ku;simp only [ga,cr];refine W.le.use (nu t hz) ?_;refine W.le.use (Np t hz) ?_;simp only [g9,dW,gl,de,mo (bh (i:=0) (j:=(t.size:Int)) ∅ ∅),A2,lj];unfold aP;refine fR (grS t) (λj hj R r=>?_) q;have hj:=AY.mp hj;have i1:Th ((t.nd 0).map Ent.pv) (.int (j:Int))=.ret (en t 0 j).pv:=kA (by rw [Aj,gX t 0 j hj];rfl);simp only [Q1 (gX t 0 j hj),ga,aG,i1,ph,cr,gl];exact W.le.use (Pc t hz hj) r
end My
variable {ws:List BX}
namespace My
open PySem PySem.Spec PyProof.Rows L2 PL FL
structure Sy where
 nm:PV
 lv:Nat
 un:List Nat
 be:List Nat
def Sy.pv (s:Sy):PV:=.tup [s.nm,.int (s.lv:Int),.tup (aP s.un),.tup (aP s.be)]
def me (g:List Sy):PV:=.tup (g.map Sy.pv)
def sy (g:List Sy) (i:Nat):Sy:=g.getD i ⟨.aE,0,[],[]⟩
def Uo {g:List Sy} (h:i < g.length):g[i]?=am (sy g i):=by
 unfold sy;rw [Al,Ad h];rfl
def Og {g:List Sy} (h:i < g.length):Th (g.map Sy.pv) (.int (i:Int))=.ret (sy g i).pv:=kA (by rw [Aj,Uo h];rfl)
def Hm (w:Str):PV->Bool
 | .str s=>s==w
 | _=>false
def hm (g:List Sy) (i:Nat) (w:Str):Bool:=(sy g i).un.isEmpty&&Hm w (sy g i).nm
inductive Sv (g:List Sy):Nat->Nat->Prop
 | refl (i:Nat):Sv g i i
 | step {i u j:Nat}:u∈(sy g i).un->Sv g u j->Sv g i j
structure WG (g:List Sy) (ws:List Str):Prop where
 pos:0 < g.length
 len:g.length<=300
 dn:∀i,i < g.length->∀u∈(sy g i).un,u < i
 ur:∀i,i < g.length->(sy g i).un.length<=2
 be:∀i,i < g.length->∀u∈(sy g i).be,u < g.length
 WJ:∀i,i < g.length->(sy g i).be.length<=30
 nm:∀i,i < g.length->(∃s,(sy g i).nm=.str s)\/∃n,(sy g i).nm=.int n
 ahb:∀w∈ws,∃i,i < g.length/\Sv g (g.length-1) i/\hm g i w=true
def mT {g:List Sy} (h:i < g.length):cV (me g) (.int (i:Int))=.ret (.tup (aP (sy g i).un)):=by
 unfold cV me;simp only [ga,aG,Og h];rfl
def LA {g:List Sy} (h:i < g.length):ft (me g) (.int (i:Int))=.ret (.tup (aP (sy g i).be)):=by
 unfold ft me;simp only [ga,aG,Og h];rfl
theorem eq_nil (l:List Nat) (h:l.length<=1000):of2 kd (.tup (aP l)) (.tup [])=.ret (.bl l.isEmpty):=by
 have fk:eV (aP l)=true:=gE.mpr λx hx=>by
  obtain⟨n,_,rfl⟩:=Av.mp hx;simp
 have fd:dE (aP l)<=1:=gF λx hx=>by
  obtain⟨n,_,rfl⟩:=Av.mp hx;simp
 rw [FC,mo ⟨by simp [fk],by simp,by simp;omega⟩];cases l with
 | nil=>simp
 | cons a l=>simp [fD]
def TJ (h:(∃s,x=.str s)\/∃n,x=.int n) (w:Str):of2 kd x (.str w)=.ret (.bl (Hm w x)):=by
 rcases h with⟨s,rfl⟩ | ⟨n,rfl⟩
 ·rw [FC,mo ⟨by simp,by simp,by simp⟩,TB];rfl
 ·rw [FC,mo ⟨by simp,by simp,by simp⟩];simp [iV,Hm]
theorem RG {g:List Sy} (G:WG g ws) (h:i < g.length) (w:Str):iJ (me g) (.int (i:Int)) (.str w)=.ret (.bl (hm g i w)):=by
 unfold iJ;have l2:=G.ur i h;have i0:dH [(sy g i).nm,PV.int ((sy g i).lv:Int),.tup (aP (sy g i).un),.tup (aP (sy g i).be)] 0=am (sy g i).nm:=rfl;simp only [ga,mT h,eq_nil _ (show (sy g i).un.length<=1000 by omega)];unfold me hm;cases e:(sy g i).un.isEmpty with
 | false=>simp
 | true=>simp only [RT,aG,ga,Og h,Sy.pv,cA,i0,wT,TJ (G.nm i h) w,Fd]
abbrev Dd:=Str×Nat×Nat
def d2 (d:Dd):PV:=.tup [.str d.1,.tup [.int (d.2.1:Int),.int (d.2.2:Int)]]
abbrev dbl (i:Nat):Dd:=("doubled",i,i)
abbrev U3 (i o:Nat):List Dd:=[("over",i,o),("over",o,i)]
def vF:List Nat->List Dd
 | [a,b]=>[("split",a,b),("split",b,a)]
 | _=>[]
def dds (g:List Sy) (i:Nat):List Dd:=dbl i::(vF (sy g i).un++(sy g i).be.flatMap (U3 i))
theorem nT (i:Nat):∀l:List Nat,(l.flatMap (U3 i)).length=2*l.length
 | []=>rfl
 | a::l=>by rw [CG,Ah,nT i l];simp;omega
def P8 (l:List Nat):(vF l).length<=2:=by unfold vF;split <;> simp
theorem Wz {g:List Sy} (G:WG g ws) (h:i < g.length) {d:Dd} (hd:d∈dds g i):d.2.1 < g.length/\d.2.2 < g.length:=by
 rcases Aw.mp hd with rfl | hd
 ·exact⟨h,h⟩
 rcases A9.mp hd with hd | hd
 ·have hu:=G.dn i h;revert hu hd;generalize (sy g i).un=l;intro hd hu
  match l with
  | [a,b]=>
   have h1:=hu a (by simp);have h2:=hu b (by simp);simp [vF] at hd;rcases hd with rfl | rfl
   ·exact⟨by show a < _;omega,by show b < _;omega⟩
   ·exact⟨by show b < _;omega,by show a < _;omega⟩
  | []=>simp [vF] at hd
  | [_]=>simp [vF] at hd
  | _::_::_::_=>simp [vF] at hd
 ·obtain⟨o,ho,hd⟩:=List.mem_flatMap.mp hd;have:=G.be i h o ho;simp at hd;rcases hd with rfl | rfl
  ·exact⟨h,this⟩
  ·exact⟨this,h⟩
def fa (F:List (List Bool)) (j i:Nat):Bool:=(F.getD j []).getD i false
def lD (g:List Sy) (F:List (List Bool)) (e:Ent) (i:Nat):List Dd:=match e with
 | .word w=>if hm g i w=true then [("found",i,i)] else []
 | .pair a b=>(dds g i).filter λd=>fa F a d.2.1&&fa F b d.2.2
def Pm (n:Nat):Ent->Prop
 | .word _=>True
 | .pair a b=>a < n/\b < n
def pj {l m:List α}{d:α} (h:i < l.length):(l++m).getD i d=l.getD i d:=by
 rw [Al,AL h,<- Al]
def lu {l m:List α}{d:α} (h:l.length<=i):(l++m).getD i d=m.getD (i-l.length) d:=by
 rw [Al,AU h,<- Al]
def Z7 (es:List Ent) (j:Nat):Ent:=es.getD j (.word "")
def TK (t:Tr) (h:j < t.size):Pm j (en t 0 j):=by
 cases e:en t 0 j with
 | word w=>trivial
 | pair a b=>exact iM t h e
end My
variable {f:PL.PV->FL.W PL.PV}{g:List My.Sy}
namespace My
open PySem PySem.Spec PyProof.Rows L2 PL FL
def dl (g:List Sy) (i:Nat):List Dd:=dbl i::(vF (sy g i).un++((sy g i).be.map (λo=>(("over",i,o):Dd))++(sy g i).be.map (λo=>(("over",o,i):Dd))))
theorem HV (G:WG g ws) (h:i < g.length):(dl g i).length<=63:=by
 unfold dl;simp only [Ap,Ah,Af];have:=P8 (sy g i).un;have:=G.WJ i h;omega
theorem R5 (d:Dd):o9 (d2 d)=true:=rfl
def K4 (p:Nat×Nat):PV:=.tup [.int (p.1:Int),.int (p.2:Int)]
def Me (G:WG g ws) (h:i < g.length):fq (me g) (.int (i:Int))=.ret ((vF (sy g i).un).map λd=>K4 (d.2.1,d.2.2)):=by
 unfold fq;simp only [ga,mT h];have hu:=G.ur i h;revert hu;generalize (sy g i).un=l;intro hu
 match l,hu with
 | [],_=>simp only [g9,k8,nv,Ap,Bk,jw,ga,bB];rfl
 | [a],_=>simp only [g9,k8,nv,Ap,Bk,jw,ga,bB];rfl
 | [a,b],_=>
  have i0:dH [PV.int (a:Int),PV.int (b:Int)] 0=am (.int (a:Int)):=rfl;have i1:dH [PV.int (a:Int),PV.int (b:Int)] 1=am (.int (b:Int)):=rfl;simp only [g9,k8,nv,Ap,Bk,jw,ga,bB,aG,cA,i0,i1,wT];rfl
theorem QK (G:WG g ws) (h:i < g.length):gk (me g) (.int (i:Int))=.ret ((sy g i).be.map (λo=>K4 (i,o))++(sy g i).be.map (λo=>K4 (o,i))):=by
 unfold gk;have l3:=G.WJ i h;simp only [ga,LA h,aG];rw [jh (g:=λo=>K4 (i,o)) λk hk=>rfl];rw [jh (g:=λo=>K4 (o,i)) λk hk=>rfl];simp only [ga];rw [gH (by simp;omega)]
theorem zr {c:α->PV}{k:α->PV}:∀{l:List α},(∀x∈l,f (c x)=.ret (k x))->bz (l.map c) f=.ret (l.map k)
 | [],_=>rfl
 | x::r,h=>by
  show ap (f (c x)) (λy=>ap (bz (r.map c) f) λm=>bd (y::m))=_;rw [h x (.head _),zr λy hy=>h y (.tail _ hy)];rfl
theorem Lm (G:WG g ws) (h:i < g.length) (q:∀m:List PV,m.Perm ((dl g i).map d2)->Q m):(eO (me g) (Ent.pair a b).pv (.int (i:Int))).run Q:=by
 have l63:=HV G h;unfold eO;simp only [Ent.pv,ga,cr,hE,ly,cO,gl,Au,if_false,Me G h,QK G h];refine fR (λd:Dd=>.tup [.str "split",K4 (d.2.1,d.2.2)]) (λd _ R r=>r) ?_;have em:(sy g i).be.map (λo=>K4 (i,o))++(sy g i).be.map (λo=>K4 (o,i))=((sy g i).be.map (λo=>((i,o):Nat×Nat))++(sy g i).be.map (λo=>(o,i))).map K4:=by
  rw [AJ,AB,AB];rfl
 rw [em];refine fR (λp:Nat×Nat=>.tup [.str "over",K4 p]) (λp _ R r=>r) ?_;simp only [gl,jv,ga];have es:(vF (sy g i).un).map (λd=>PV.tup [.str "split",K4 (d.2.1,d.2.2)])=(vF (sy g i).un).map d2:=by
  refine Ci λd hd=>?_;have:d.1=("split":Str):=by
   revert hd;generalize (sy g i).un=l;intro hd;unfold vF at hd
   split at hd
   ·simp at hd;rcases hd with rfl | rfl <;> rfl
   ·cases hd
  unfold d2 K4;rw [this]
 have eo:((sy g i).be.map (λo=>((i,o):Nat×Nat))++(sy g i).be.map (λo=>(o,i))).map (λp=>PV.tup [.str "over",K4 p])=((sy g i).be.map (λo=>(("over",i,o):Dd))++(sy g i).be.map (λo=>(("over",o,i):Dd))).map d2:=by
  simp only [AJ,AB];rfl
 rw [es,eo];have ll:(dl g i).length=1+(vF (sy g i).un).length+((sy g i).be.map (λo=>(("over",i,o):Dd))++(sy g i).be.map (λo=>(("over",o,i):Dd))).length:=by
  unfold dl;simp only [Ap,Ah];omega
 rw [gH (by simp only [Af,Ap,Bk];omega)];simp only [gl];rw [gH (by simp only [Af,Ah,Ap,Bk] at *;omega)];have e:([PV.tup [.str "doubled",.tup [.int (i:Int),.int (i:Int)]]]++(vF (sy g i).un).map d2)++((sy g i).be.map (λo=>(("over",i,o):Dd))++(sy g i).be.map (λo=>(("over",o,i):Dd))).map d2=(dl g i).map d2:=by
  unfold dl;simp only [Ar,AJ,Ay];rfl
 simp only [gl];rw [e];refine⟨⟨by rw [Af];omega,CM.mpr λx hx=>?_⟩,λm hm=>q m hm⟩;obtain⟨d,_,rfl⟩:=Av.mp hx;exact R5 d
theorem Dt.isD (D:Dt t ds [] d) (h:d<=99):Ry t ds=true:=by
 unfold Ry;rw [AN,AN,decide_eq_true_iff,decide_eq_true_iff];refine⟨D.len,?_,CM.mpr λj hj=>?_⟩
 ·unfold Kl;have hp:(splits t).Pairwise (· < ·):=by unfold splits;exact List.Pairwise.filter _ C5
  rw [List.nodup_iff_pairwise_ne,Eb];refine List.Pairwise.imp_of_mem (λ{x y} hx hy lt e=>?_) hp;obtain⟨x1,x2⟩:=A8.mp hx;obtain⟨y1,y2⟩:=A8.mp hy;have:=D.inj x y (AY.mp x1) (AY.mp y1) (by simp) (by simp) x2 y2 e;omega
 ·have hj':=AY.mp hj;unfold YO;cases e:en t 0 j with
  | word w=>
   rw [D.zero j hj' (.inl (by rw [e];rfl))];rfl
  | pair a b=>
   obtain⟨_,_,h1,h2,h3,h4⟩:=D.up j hj' (by simp) a b e;show (decide (ds.getD a 0 < ds.getD j 0)&&decide (ds.getD b 0 < ds.getD j 0)&&decide (1<=ds.getD j 0)&&decide (ds.getD j 0<=99))=true;rw [decide_eq_true h1,decide_eq_true h2,decide_eq_true h3,decide_eq_true ∅];rfl
theorem sZ:∀(t:Tr) (o:Nat),(t.nd o).countP ud+1=t.ax.length
 | .leaf _,_=>rfl
 | .node l r,o=>by
  have h1:=sZ l o;have h2:=sZ r (o+l.size);rw [Tr.nd,List.countP_append,List.countP_append];show _+(List.countP ud [Ent.pair _ _])+1=(l.ax++r.ax).length;simp [ud];omega
theorem Vl (t:Tr):t.nd 0=(AI t.size).map (en t 0):=by
 refine B1 λj=>?_;by_cases h:j < t.size
 ·rw [gX t 0 j h,Aj,BJ h];rfl
 ·rw [AO (by rw [t.a8];omega),AO (by simp;omega)]
def GD (t:Tr):(splits t).length+1=t.ax.length:=by
 rw [<- sZ t 0,Vl t,List.countP_map];unfold splits;rw [<- List.countP_eq_length_filter];rfl
def Sv.snoc {u:Nat} (r:Sv g i j) (hu:u∈(sy g j).un):Sv g i u:=by
 induction r with
 | refl i=>exact .step hu (.refl _)
 | step h _ ih=>exact .step h (ih hu)
def gS (t:Tr):List Sy:=(AI t.size).map λj=>⟨Jq (en t 0 j) j,0,NZ (en t 0 j),Xt t j⟩
def sG (t:Tr) (h:j < t.size):sy (gS t) j=⟨Jq (en t 0 j) j,0,NZ (en t 0 j),Xt t j⟩:=by
 unfold sy gS;rw [Al,Aj,BJ h];rfl
@[simp] theorem jt (t:Tr):(gS t).length=t.size:=by unfold gS;simp
def ZQ (t:Tr):me (gS t)=.tup (grL t):=by
 unfold me gS grL;rw [AB];congr 1
def S3 (e:Ent) (j:Nat):(∃s,Jq e j=.str s)\/∃n,Jq e j=.int n:=by
 cases e with
 | word w=>exact .inl ⟨w,rfl⟩
 | pair a b=>exact .inr ⟨_,rfl⟩
def VV (e:Ent):(NZ e).length<=2:=by cases e <;> simp [NZ]
theorem qF:∀(s:Tr) (t:Tr) (o:Nat) (w:Str),(∀k,k < s.size->en t 0 (o+k)=en s o k)->o+s.size<=t.size->w∈s.ax->∃i,i < t.size/\Sv (gS t) (o+s.size-1) i/\en t 0 i=.word w
 | .leaf x,t,o,w,hs,hz,hw=>by
  have e0:en t 0 o=.word x:=hs 0 (by show 0 < 1;decide);have hz:o+1<=t.size:=hz;have:w=x:=by simpa [Tr.ax] using hw
  subst this;exact⟨o,by omega,.refl _,e0⟩
 | .node l r,t,o,w,hs,hz,hw=>by
  have es:(Tr.node l r).size=l.size+r.size+1:=rfl;have er:en t 0 (o+(l.size+r.size))=.pair (o+l.size-1) (o+l.size+r.size-1):=by rw [hs _ ∅,en,if_neg ∅,if_neg ∅]
  have ei:o+(Tr.node l r).size-1=o+(l.size+r.size):=by omega
  have hl:∀k,k < l.size->en t 0 (o+k)=en l o k:=λk hk=>by rw [hs k ∅,en,if_pos hk]
  have hr:∀k,k < r.size->en t 0 (o+l.size+k)=en r (o+l.size) k:=λk hk=>by rw [Bg,hs _ ∅,en,if_neg ∅,if_pos ∅,Ek]
  have un:(sy (gS t) (o+(l.size+r.size))).un=[o+l.size-1,o+l.size+r.size-1]:=by rw [sG t ∅,er];rfl
  rw [ei];rcases A9.mp (show w∈l.ax++r.ax from hw) with hw | hw
  ·obtain⟨i,h1,h2,h3⟩:=qF l t o w hl ∅ hw;exact⟨i,h1,.step (by rw [un];simp) h2,h3⟩
  ·obtain⟨i,h1,h2,h3⟩:=qF r t (o+l.size) w hr ∅ hw;exact⟨i,h1,.step (by rw [un];simp) h2,h3⟩
theorem Ka (hz:t.size<=30):WG (gS t) t.ax:=by
 have tp:=t.size_pos;refine⟨by rw [jt];omega,by rw [jt];omega,λi hi u hu=>?_,λi hi=>?_,λi hi u hu=>?_,λi hi=>?_,λi hi=>?_,λw hw=>?_⟩
 ·rw [jt] at hi;rw [sG t hi] at hu;cases e:en t 0 i with
  | word w=>rw [e] at hu;cases hu
  | pair a b=>
   rw [e] at hu;have:=iM t hi e;have hu:u=a\/u=b:=by simpa [NZ] using hu
   omega
 ·rw [jt] at hi;rw [sG t hi];exact VV _
 ·rw [jt] at hi ⊢;rw [sG t hi] at hu;exact AY.mp (A8.mp hu).1
 ·rw [jt] at hi;rw [sG t hi];have:=Bv (λk=>!decide (k∈up t 0 i [])&&!decide (i∈up t 0 k [])) (AI t.size);rw [CF] at this;show (Xt t i).length<=30;unfold Xt;omega
 ·rw [jt] at hi;rw [sG t hi];exact S3 _ _
 ·obtain⟨i,h1,h2,h3⟩:=qF t t 0 w (λk hk=>by rw [AG]) ∅ hw;rw [AG] at h2;refine⟨i,by rw [jt];exact h1,by rw [jt];exact h2,?_⟩;unfold hm;rw [sG t h1,h3];simp [NZ,Jq,Hm]
def dS (t:Tr) (ds bs:List Int):List Sy:=(aF t ds bs bs.length).map λp=>⟨Jq (en t 0 p.1) p.1,p.2,(Gm (en t 0 p.1) p.1 (ds.getD p.1 0) (bs.getD p.2 0)).map λx=>(aF t ds bs bs.length).idxOf (x,p.2-1),WH (aF t ds bs bs.length) p.1 p.2⟩
def aal (t:Tr) (ds bs:List Int):me (dS t ds bs)=.tup (Xr t ds bs):=by
 unfold me dS Xr;rw [AB];congr 1
@[simp] theorem WA (t:Tr) (ds bs:List Int):(dS t ds bs).length=(aF t ds bs bs.length).length:=by unfold dS;rw [Af]
theorem pF (t:Tr) (ds bs:List Int):∀m,(aF t ds bs m).Pairwise λp q=>p.2<=q.2
 | 0=>.nil
 | m+1=>by
  rw [aF];have Kk:∀p∈yN t ds (bs.getD m 0) m t.size,p.2=m:=λp hp=>by
   obtain⟨k,_,rfl⟩:=Av.mp hp;rfl
  refine List.pairwise_append.mpr ⟨pF t ds bs m,?_,λa ha b hb=>?_⟩
  ·exact BN.mpr λi j hi hj _=>by rw [Kk _ (En hi),Kk _ (En hj)];exact An _
  ·have h1:=(gb ha).1;rw [Kk b hb];omega
theorem uL (t:Tr) (ds bs:List Int) (n:Nat):∀m,((aF t ds bs m).filter λp=>decide (p.2=n)).length<=t.size
 | 0=>Ba _
 | m+1=>by
  rw [aF,D3,Ah];have ih:=uL t ds bs n m;by_cases c:n=m
  ·subst c;have z:(aF t ds bs n).filter (λp=>decide (p.2=n))=[]:=by
    rw [EA];intro p hp;have:=(gb hp).1;simp;omega
   rw [z];have h1:=Bv (λp:Nat×Nat=>decide (p.2=n)) (yN t ds (bs.getD n 0) n t.size);have h2:=vE t ds (bs.getD n 0) n t.size;simp only [Bk];omega
  ·have z:(yN t ds (bs.getD m 0) m t.size).filter (λp=>decide (p.2=n))=[]:=by
    rw [EA];intro p hp;obtain⟨k,_,rfl⟩:=Av.mp hp;simp;omega
   rw [z];simpa using ih
section
theorem DD.above (D:DD t ds) (h:(j,n)∈aF t ds (aQ t ds) (aQ t ds).length) (hn:n+1 < (aQ t ds).length):∃a,(a,n+1)∈aF t ds (aQ t ds) (aQ t ds).length/\j∈Gm (en t 0 a) a (ds.getD a 0) ((aQ t ds).getD (n+1) 0):=by
 obtain⟨hnl,hj,hs⟩:=bU.mp h;obtain⟨s1,s2⟩:=(fM hj).mp hs;have inc:=D.inc;have lt:=wU inc hn (show n < n+1 by omega);have Ú:(∀a,ke t 0 j .aE=.int ((a:Nat):Int)->(aQ t ds).getD (n+1) 0 < ds.getD a 0)->∃a,(a,n+1)∈aF t ds (aQ t ds) (aQ t ds).length/\j∈Gm (en t 0 a) a (ds.getD a 0) ((aQ t ds).getD (n+1) 0):=λhx=>
  ⟨j,bU.mpr ⟨hn,hj,(fM hj).mpr ⟨by omega,hx⟩⟩,by unfold Gm;rw [if_pos ∅];exact .head _⟩
 rcases jN t 0 j .aE hj with⟨_,e⟩ | ⟨a,u,v,ja,ha,e,ep,Tn⟩
 ·exact Ú λa z=>by rw [e] at z;cases z
 ·rw [AG] at e Tn;by_cases c:(aQ t ds).getD (n+1) 0 < ds.getD a 0
  ·refine Ú λa' z=>?_;rw [e] at z;injection z with z;have:a=a':=by omega
   subst this;exact c
  ·have sa:=s2 a e;have eq:ds.getD a 0=(aQ t ds).getD (n+1) 0:=by
    rcases Int.lt_or_eq_of_le (show ds.getD a 0<=(aQ t ds).getD (n+1) 0 by omega) with c2 | c2
    ·have:=(su inc hn (D.mem ha) c2).2;rw [Nat.add_sub_cancel] at this;omega
    ·exact c2
   refine⟨a,bU.mpr ⟨hn,ha,(fM ha).mpr ⟨by omega,λa2 e2=>?_⟩⟩,?_⟩
   ·rcases jN t 0 a .aE ha with⟨_,e3⟩ | ⟨a3,u3,v3,_,h3,e3,ep3,Zo⟩
    ·rw [e3] at e2;cases e2
    ·rw [e3] at e2;injection e2 with e2;rw [AG] at e2 Zo;have:a3=a2:=by omega
     subst this;have:=D.pair a3 u3 v3 h3 ep3;rcases Zo with rfl | rfl <;> omega
   ·unfold Gm;rw [if_neg ∅,ep];rcases Tn with rfl | rfl <;> simp
theorem DD.last (D:DD t ds) (h:(j,n)∈aF t ds (aQ t ds) (aQ t ds).length) (hn:n+1=(aQ t ds).length):j=t.size-1:=by
 obtain⟨hnl,hj,hs⟩:=bU.mp h;obtain⟨s1,s2⟩:=(fM hj).mp hs;rcases jN t 0 j .aE hj with⟨e,_⟩ | ⟨a,u,v,ja,ha,e,ep,Tn⟩
 ·exact e
 ·exfalso;rw [AG] at e;have sa:=s2 a e;have inc:=D.inc;obtain⟨i,hi,ei⟩:=DE (D.mem ha);have gd:(aQ t ds).getD i 0=ds.getD a 0:=by rw [Al,Ad hi];exact ei
  rcases C4 i n with c | c
  ·have:=wU inc hnl c;omega
  ·have:i=n:=by omega
   subst this;omega
def Hq [BEq α] [LawfulBEq α] {l:List α} (nd:l.Nodup) {x:α} (h:l[i]?=am x):l.idxOf x=i:=by
 obtain⟨hi,e⟩:=Ak.mp h;rw [<- e];exact nd.idxOf_getElem i hi
def Ij [BEq α] [LawfulBEq α] {l:List α}{x:α} (h:x∈l):l[l.idxOf x]?=am x:=by
 have:=BE h;rw [Ad this,List.getElem_idxOf this]
theorem L0 (D:DD t ds) (hz:t.size<=15) (hb:(aQ t ds).length<=16):WG (dS t ds (aQ t ds)) t.ax:=by
 have nd:=i5 t ds (aQ t ds) (aQ t ds).length;have Ą:=pF t ds (aQ t ds) (aQ t ds).length;have lay:=λn=>uL t ds (aQ t ds) n (aQ t ds).length;have ok:=D.ok;have ne:=D.ne;have ll:=i6 t ds (aQ t ds) (aQ t ds).length;have above:=λj n=>D.above (j:=j) (n:=n);have last:=λj n=>D.last (j:=j) (n:=n);have Č:=@bU t ds (aQ t ds) (aQ t ds).length;unfold okD at ok;have hS:∀i p,(aF t ds (aQ t ds) (aQ t ds).length)[i]?=am p->sy (dS t ds (aQ t ds)) i=⟨Jq (en t 0 p.1) p.1,p.2,(Gm (en t 0 p.1) p.1 (ds.getD p.1 0) ((aQ t ds).getD p.2 0)).map λx=>(aF t ds (aQ t ds) (aQ t ds).length).idxOf (x,p.2-1),WH (aF t ds (aQ t ds) (aQ t ds).length) p.1 p.2⟩:=λi p hp=>by
  unfold sy dS;rw [Al,Aj,hp];rfl
 have hL:(dS t ds (aQ t ds)).length=(aF t ds (aQ t ds) (aQ t ds).length).length:=WA t ds _;have hmul:=Nat.mul_le_mul hb hz;generalize aF t ds (aQ t ds) (aQ t ds).length=L at *;have get:∀i,i < (dS t ds (aQ t ds)).length->∃p,L[i]?=am p/\p∈L:=λi hi=>by
  rw [hL] at hi;exact⟨L[i],Ad hi,En hi⟩
 have pos:=Cj.mpr ne;have Ô:∀(i a:Nat) (p r:Nat×Nat),L[i]?=am p->L[a]?=am r->r.2 < p.2->a < i:=λi a p r h1 h2 lt=>by
  rcases C4 a i with c | c
  ·exact c
  ·exfalso;obtain⟨g1,e1⟩:=Ak.mp h1;obtain⟨g2,e2⟩:=Ak.mp h2;rcases DZ c with c | c
   ·subst c;rw [h1] at h2;cases h2;omega
   ·have:=BN.mp Ą i a g1 g2 c;rw [e1,e2] at this;omega
 refine⟨by rw [hL];exact pos,by rw [hL];omega,λi hi u hu=>?_,λi hi=>?_,λi hi u hu=>?_,λi hi=>?_,λi hi=>?_,λw hw=>?_⟩
 ·obtain⟨p,hp,hm⟩:=get i hi;rw [hS i p hp] at hu;obtain⟨x,hx,rfl⟩:=Av.mp hu;obtain⟨n1,xm⟩:=ok p hm x hx;exact Ô i _ p (x,p.2-1) hp (Ij xm) (by show p.2-1 < p.2;omega)
 ·obtain⟨p,hp,hm⟩:=get i hi;rw [hS i p hp];unfold Gm
  split
  ·simp
  ·cases en t 0 p.1 <;> simp
 ·obtain⟨p,hp,hm⟩:=get i hi;rw [hS i p hp] at hu;unfold WH at hu;obtain⟨x,hx,rfl⟩:=Av.mp hu;rw [hL];exact BE (A8.mp hx).1
 ·obtain⟨p,hp,hm⟩:=get i hi;rw [hS i p hp];unfold WH;rw [Af];have h1:=lay p.2;have h2:(L.filter λq=>decide (q.2=p.2)&&!decide (q.1=p.1)).length<=(L.filter λq=>decide (q.2=p.2)).length:=by
   have e:L.filter (λq=>decide (q.2=p.2)&&!decide (q.1=p.1))=(L.filter λq=>decide (q.2=p.2)).filter λq=>!decide (q.1=p.1):=by
    rw [List.filter_filter];refine congrArg (λf=>L.filter f) (funext λq=>Bool.and_comm _ _)
   rw [e];exact Bv _ _
  omega
 ·obtain⟨p,hp,hm⟩:=get i hi;rw [hS i p hp];exact S3 _ _
 ·
  have â:∀k i,i+k+1=L.length->Sv (dS t ds (aQ t ds)) (L.length-1) i:=λk=>by
   induction k using EL with
   | ind k ih=>
    intro i hk;obtain⟨⟨j,n⟩,hp,hm⟩:=get i (by rw [hL];omega);have nl:=(Č.mp hm).1;by_cases c:n+1 < (aQ t ds).length
    ·obtain⟨a,ha,hb⟩:=above j n hm c;have ia:=Ij ha;have lt:=Ô _ i (a,n+1) (j,n) ia hp (by show n < n+1;omega);have il:=BE ha;have r:=ih (L.length-L.idxOf (a,n+1)-1) ∅ (L.idxOf (a,n+1)) ∅;refine r.snoc ?_;rw [hS _ _ ia];refine Av.mpr ⟨j,hb,?_⟩;exact Hq nd hp
    ·have hj:=last j n hm ∅;have:i=L.length-1:=by
      obtain⟨⟨j2,n2⟩,wW,Xc⟩:=get (L.length-1) (by rw [hL];omega);have n2l:=(Č.mp Xc).1;rcases C4 n2 n with c2 | c2
      ·have:=Ô i (L.length-1) _ _ hp wW c2;omega
      ·have en2:n2=n:=by omega
       have Py:=last j2 n2 Xc ∅;subst en2;rw [Py,<- hj] at wW;exact (Hq nd hp).symm.trans (Hq nd wW)
     rw [this];exact .refl _
  obtain⟨j,hj,_,ej⟩:=qF t t 0 w (λk hk=>by rw [AG]) ∅ hw;have b0:(aQ t ds).getD 0 0=0:=rfl;have mem:(j,0)∈L:=Č.mpr ⟨by simp [aQ],hj,(fM hj).mpr ⟨by rw [D.leaf j w hj ej,b0];exact Dv _,λa ea=>by
   rcases jN t 0 j .aE hj with⟨_,e⟩ | ⟨a',u,v,_,ha,e,ep,_⟩
   ·rw [e] at ea;cases ea
   ·rw [e,AG] at ea;injection ea with ea;have:a'=a:=by omega
    subst this;have:=(D.pair a' u v ha ep).2.2;rw [b0];omega⟩⟩
  have il:=BE mem;refine⟨L.idxOf (j,0),by rw [hL];exact il,by rw [hL];exact â (L.length-L.idxOf (j,0)-1) _ ∅,?_⟩;unfold hm;rw [hS _ _ (Ij mem)];unfold Gm;rw [b0,D.leaf j w hj ej,if_neg ∅,ej];simp [Jq,Hm]
end
theorem zu {S:PV->Prop}:∀{l:List PV},(∀x∈l,∀R:PV->Prop,(∀v,S v->R v)->(f x).run R)->∀{Q:List PV->Prop},(∀m,m.length=l.length->(∀v∈m,S v)->Q m)->(bz l f).run Q
 | [],_,Q,q=>q [] rfl (λ_ h=>nomatch h)
 | x::l,h,Q,q=>by
  show (ap (f x) λy=>ap (bz l f) λm=>bd (y::m)).run Q;simp only [cr];refine h x (.head _) _ λv hv=>?_;refine zu (λy hy=>h y (.tail _ hy)) λm hm hs=>?_;exact q (v::m) (by simp [hm]) λu hu=>by
   rcases Aw.mp hu with rfl | hu
   ·exact hv
   ·exact hs u hu
theorem IL:∀{m:List PV}{ls:List Str},(∀v∈m,∃w∈ls,v=PV.str w)->∃ws:List Str,m=ws.map PV.str/\∀w∈ws,w∈ls
 | [],_,_=>⟨[],rfl,λ_ h=>nomatch h⟩
 | v::m,ls,h=>by
  obtain⟨w,hw,rfl⟩:=h v (.head _);obtain⟨ws,rfl,h2⟩:=IL (m:=m) (ls:=ls) λu hu=>h u (.tail _ hu);exact⟨w::ws,rfl,λx hx=>by
   rcases Aw.mp hx with rfl | hx
   ·exact hw
   ·exact h2 x hx⟩
theorem L8:∀ns l Q,jc ns->((cq 1 b9) l).run Q->((λlo l=>cq 1 (dD lo) l) (ns.map PV.int) l).run λt=>Q t.1/\∃zh:List Int,t.2=zh.map PV.int/\jc zh:=by
 rintro ns l Q ⟨g,s,c,rfl,g0,s0,s1,c0⟩ q
 match l,q with
 | [],q=>exact q.elim
 | _::_::_,q=>exact q.elim
 | [x],q=>
  show (dD _ x).run _;have q:=q;cases x with
  | int m=>
   obtain⟨⟨m0,m1⟩,q⟩:=q;have q:∀d:Int,0<=d->d < m->Q (.int d):=λd h0 h1=>q _ ⟨d,rfl,h0,h1⟩;unfold dD;generalize hA:(2147483647:Int)=A;generalize hB:(2147483629:Int)=B;generalize hD:(40009:Int)=D;have A0:0 < A:=by omega
   have B0:0 < B:=by omega
   have D0:0 < D:=by omega
   have e1:wv s 48271:=mulR ∅;have nx:∀N,N=(s*48271+12345+(c+1)) % A->(wv N (N % D+3))/\((Q (PV.int (N*(N % D+3) % B / 7 % m))))/\∃zh:List Int,[PV.int g,PV.int N,PV.int (c+1)]=zh.map PV.int/\jc zh:=λN hN=>by
    have N0:0<=N:=by rw [hN];exact Cu _ ∅
    have N1:N < A:=by rw [hN];exact Cc _ A0
    exact⟨S5 ∅ ∅,q _ (Cu _ ∅) (Cc _ m0),[g,N,c+1],rfl,_,_,_,rfl,g0,N0,by omega,by omega⟩
   obtain⟨k1,k2,k3⟩:=nx _ rfl;by_cases hg:0 < g
   ·by_cases hc:c+1<=60
    ·simp [dH,uQ,hg,hc,m0,ka,LJ];refine⟨by omega,q _ (Cu _ ∅) (Cc _ m0),[g / m,s,c+1],rfl,_,_,_,rfl,Int.ediv_nonneg g0 ∅,s0,s1,by omega⟩
    ·simp [dH,uQ,hg,hc,m0,ka,e1,A0,B0,D0,LJ];exact⟨k1,k2,k3⟩
   ·simp [dH,uQ,hg,m0,ka,e1,A0,B0,D0,LJ];exact⟨k1,k2,k3⟩
  | _=>exact q.elim
theorem N9 {k:Int} (k0:0<=k) (k1:k<=1000) (q:∀l,(∃ms:List Int,l=ms.map PV.int/\jc ms)->Q l):(fu (.cl (ns.map PV.int)) (.int k)).run Q:=by
 unfold fu;generalize hA:(2147483647:Int)=A;generalize hB:(2147483629:Int)=B;have A0:0 < A:=by omega
 have B0:0 < B:=by omega
 have fin:∀x:Int,((PV.int x)\λkO=>ap (b2 oT (c1 FZ (bd kO)) (c1 Ii (b2 oGe (c1 FZ (bd kO)) (b2 Nc (bd (.int 10)) (bd (.int 18)))))) λfU=>
  (fU\λx3=>ap (b2 oMod (b2 oT (w2 addW (w2 addW (b2 oMod (bd kO) (bd (.int B))) (b2 oT (b2 oT (bd (.int 7919)) (bd (.int k))) (bd (.int k)))) (bd (.int 11))) (bd (.int 48271))) (bd (.int A))) λx4=>(.int 0)\λx5=>bd [x3,x4,x5])).run Q:=by
  intro x;have p2:Pp 10 18:=⟨by decide,by decide,by decide⟩;simp only [ga,Wo,OA,mo p2,OD,OE,Z6,RS,e7,W.O0,W.Qf,gl,mo (mulL (show -1000000000<=(7919:Int)/\(7919:Int)<=1000000000 by decide)),mo A0,mo B0];refine⟨?_,mulR ∅,mulR ∅,?_⟩
  ·split
   ·exact mulR ∅
   ·exact mulR ∅
  ·refine q _ ⟨[_,_,_],rfl,_,_,_,rfl,Int.mul_nonneg (WQ _) ?_,Cu _ ∅,by have:=Cc ((x % B+7919*k*k+11)*48271) A0;omega,Dv _⟩
   split <;> split <;> decide
 by_cases gZ:k < (ns.length:Int)
 ·obtain⟨v,e,e2⟩:=Pb (xs:=ns.map PV.int) k0 (by rw [Af];exact gZ);rw [Aj] at e2;obtain⟨c,rfl⟩:∃c,v=.int c:=by
   cases z:ns[k.toNat]? with
   | none=>rw [z] at e2;cases e2
   | some c=>rw [z] at e2;exact⟨c,(Option.some.inj e2).symm⟩
  simp only [ga,e6,JP,Af,gZ,decide_true,bB,if_true,bR,cA,e,wT];exact fin c
 ·simp only [ga,e6,JP,Af,gZ,decide_false,bB,Au,if_false];exact fin 0
def Y0 (h:x∈[PV.str "",PV.str "",PV.str "a",PV.str "zq",PV.str "mnopqrs"]):∃y:Str,x=.str y/\Part y 7:=by
 simp at h;rcases h with rfl | rfl | rfl | rfl
 ·exact⟨"",rfl,by decide +kernel,by decide +kernel⟩
 ·exact⟨"a",rfl,by decide +kernel,by decide +kernel⟩
 ·exact⟨"zq",rfl,by decide +kernel,by decide +kernel⟩
 ·exact⟨"mnopqrs",rfl,by decide +kernel,by decide +kernel⟩
def Y1 (h:x∈[PV.int 1,PV.int 3,PV.int 5,PV.int 7,PV.int 9,PV.int 11]):∃st:Int,x=.int st/\(st=1\/st=3\/st=5\/st=7\/st=9\/st=11):=by
 simp at h;rcases h with rfl | rfl | rfl | rfl | rfl | rfl <;> exact⟨_,rfl,by decide⟩
theorem LZ {c:Nat} (b:Part y 7) (h0:97<=c) (h1:c < 123):Wd ((⟨#[c]⟩:Str)++y):=by
 have hl:((⟨#[c]⟩:Str)++y).length=1+y.length:=by rw [Str.length_append];rfl
 have:=b.1;refine⟨by omega,by omega,λd hd=>?_⟩;have e:((⟨#[c]⟩:Str)++y).cps.toList=c::y.cps.toList:=by
  show ((⟨#[c]⟩:Str).cps++y.cps).toList=_;simp
 rw [e] at hd;rcases Aw.mp hd with rfl | hd
 ·exact⟨h0,h1⟩
 ·exact b.2 d hd
theorem Gs (m1:m<=26) (q:∀ws:List Str,ws.length=m->(∀x∈ws,Wd x)->ws.Nodup->(ws.map λx=>x.cps[0]?).Nodup->Q (ws.map PV.str)):(cX (.int m)).run Q:=by
 unfold cX;simp only [ga,cr,dc 26 ⋯ ⋯];refine bA λd a b=>?_;refine pick_run (by simp) (by simp) λx hx=>?_;obtain⟨st,rfl,qI⟩:=Y1 hx;simp only [gl,mB];refine pick_run (by simp) (by simp) λy hy=>?_;obtain⟨tl,rfl,ht⟩:=Y0 hy;simp only [de,mo (bh (i:=0) (j:=(m:Int)) ∅ ∅),gl,A2];rw [lj]
 let w:Nat->Str:=λk=>⟨#[97+((d+st*(0+(k:Int))) % 26).toNat]⟩++tl
 refine KL (λk=>.str (w k)) (λk hk=>?_) ?_
 ·have e0:0<=(d+st*(0+(k:Int))) % 26:=Cu _ ⋯;have e1:(d+st*(0+(k:Int))) % 26 < 26:=Cc _ ⋯;have e2:(d+st*(k:Int))=d+st*(0+(k:Int)):=by rw [EC]
  have c1:wv st (k:Int):=mulL ∅;have c2:("abcdefghijklmnopqrstuvwxyz":Str).length<=sizeLine:=by decide +kernel
  have c3:(⟨#[97+((d+st*(0+(k:Int))) % 26).toNat]⟩:Str).length+tl.length<=sizeLine:=cu (by have:=ht.1;show 1+tl.length<=1000;omega);simp only [ga,OD,mo c1,e7,OE,mo (show (0:Int) < 26 by decide),e2,Wn _ _ (KQ e0 e1),mo c2,RV,mo c3];rfl
 ·have e:(AI m).map (λk=>PV.str (w k))=((AI m).map w).map PV.str:=by rw [AB];rfl
  have nd:(((AI m).map w).map λx=>x.cps[0]?).Nodup:=by
   have:=t4 (d:=d) qI m1;rw [AB];have e2:((λx:Str=>x.cps[0]?)∘w)=λk:Nat=>am (97+((d+st*(0+(k:Int))) % 26).toNat):=by
    funext k;show ((⟨#[97+((d+st*(0+(k:Int))) % 26).toNat]⟩:Str).cps++tl.cps)[0]?=_;rw [Array.getElem?_append_left (by simp)];rfl
   rw [e2];exact this
  rw [e];refine q _ (by simp) (λx hx=>?_) (vW (g:=λx:Str=>x.cps[0]?) nd) nd;obtain⟨k,_,rfl⟩:=Av.mp hx;have e0:0<=(d+st*(0+(k:Int))) % 26:=Cu _ ⋯;have e1:(d+st*(0+(k:Int))) % 26 < 26:=Cc _ ⋯;exact LZ ht ∅ ∅
def MW (h:l[j]?=am v) (hl:l.length<=1000):vP l (.int (j:Int))=.ret (l.eraseIdx j,v):=by
 have hj:=(Ak.mp h).1;unfold vP;simp only [JE hj,wT,ga,h,mo (cu hl)]
def Oo {l:List Tr}{x p y:Tr} (h:l[j]?=am y) (hp:p.ax.Perm (x.ax++y.ax)):((l.set j p).flatMap Tr.ax).Perm (x.ax++l.flatMap Tr.ax):=by
 induction l generalizing j with
 | nil=>simp at h
 | cons a l ih=>cases j with
  | zero=>
   simp at h;subst h;simp only [List.set_cons_zero,CG];rw [<- Ay];exact hp.append_right _
  | succ j=>
   simp only [List.set_cons_succ,CG];have:=(ih (j:=j) (by simpa using h)).append_left a.ax;refine this.trans ?_;rw [<- Ay,<- Ay];exact Cz.append_right _
def HC {l:List Tr}{x:Tr} (h:l[j]?=am x):(x.ax++(l.eraseIdx j).flatMap Tr.ax).Perm (l.flatMap Tr.ax):=by
 induction l generalizing j with
 | nil=>simp at h
 | cons a l ih=>cases j with
  | zero=>simp at h;subst h;simp
  | succ j=>
   simp only [Cn,CG];have:=(ih (j:=j) (by simpa using h)).append_left a.ax;refine List.Perm.trans ?_ this;rw [<- Ay,<- Ay];exact Cz.append_right _
def KN {l:List Tr}:(l.map Tr.pv).eraseIdx j=(l.eraseIdx j).map Tr.pv:=by
 induction l generalizing j with
 | nil=>simp
 | cons a l ih=>cases j with
  | zero=>simp
  | succ j=>simp [ih]
theorem sk (hw:ws≠[]) (h8:ws.length<=100) {Q:PV->Prop} (q:∀t:Tr,t.ax.Perm ws->Q t.pv):(cE (.cl (ws.map PV.str))).run Q:=by
 have hp:0 < ws.length:=Cj.mpr hw;unfold cE;simp only [ga,cr,bR,gl,xw,xv,Af,de,mo (bh (i:=0) (j:=(ws.length:Int)-1) ∅ ∅)];refine gD (λi s=>∃ts:List Tr,s=ts.map Tr.pv/\ts.length+i=ws.length/\(ts.flatMap Tr.ax).Perm ws) ⟨ws.map Tr.leaf,by simp [Tr.pv],by simp,?_⟩ ?_ ?_
 ·rw [List.flatMap_map];have:ws.flatMap (λx=>(Tr.leaf x).ax)=ws:=by simp [Tr.ax,List.flatMap_singleton']
  rw [this]
 ·rintro i s hi ⟨ts,rfl,hl,hp⟩;have h2:2<=ts.length:=by omega
  simp only [ga,cr,xw,Af,dc (ts.length:Int) ∅ ∅,gl];refine bA λd d0 d1=>?_;obtain⟨j,rfl⟩:∃j:Nat,d=(j:Int):=⟨d.toNat,by omega⟩;obtain⟨x,hx⟩:∃x,ts[j]?=am x:=⟨_,Ad ∅⟩;have Ě:(ts.eraseIdx j).length=ts.length-1:=by rw [E4];simp;omega
  simp only [MW (l:=ts.map Tr.pv) (v:=x.pv) (by rw [Aj,hx];rfl) (by rw [Af];omega),gl,KN,xw,Af,Ě,dc ((ts.length-1:Nat):Int) ∅ ∅];refine bA λe e0 e1=>?_;obtain⟨m,rfl⟩:∃m:Nat,e=(m:Int):=⟨e.toNat,by omega⟩;obtain⟨y,hy⟩:∃y,(ts.eraseIdx j)[m]?=am y:=⟨_,Ad ∅⟩;have i0:dH ((ts.eraseIdx j).map Tr.pv) (m:Int)=am y.pv:=eJ (by rw [Aj,hy];rfl);have hm:m < ((ts.eraseIdx j).map Tr.pv).length:=by rw [Af,Ě];omega
  simp only [ga,cA,i0,wT,gl,dc 2 ⋯ ⋯];refine bA λf _ _=>?_;have fin:∀p:Tr,p.ax.Perm (x.ax++y.ax)->(ka ((ts.eraseIdx j).map Tr.pv) (.int (m:Int)) p.pv).run λs=>∃ts:List Tr,s=ts.map Tr.pv/\ts.length+(i+1)=ws.length/\(ts.flatMap Tr.ax).Perm ws:=λp ē=>by
   rw [mY hm];exact⟨(ts.eraseIdx j).set m p,by rw [Ey],by rw [BK,Ě];omega,(Oo hy ē).trans ((HC hx).trans hp)⟩
  simp only [jw,bB,gl];cases c:f==0 with
  | true=>exact fin (.node x y) (List.Perm.refl _)
  | false=>
   simp only [Au,if_false,ga,OB,RQ,RO,cr,gl];exact fin (.node y x) Cz
 ·rintro s ⟨ts,rfl,hl,hp⟩
  match ts,hl,hp with
  | [],hl,_=>simp at hl;omega
  | [t],_,hp=>
   have:t.ax.Perm ws:=by simpa using hp
   exact q t this
  | _::_::_,hl,_=>simp at hl;omega
end My
variable {Q:PL.PV->Prop}{n:Int}
namespace My
open PySem PySem.Spec PyProof.Rows L2 PL FL
theorem Hu (n0:0 < n) (n1:n<=8) (q:∀(t:Tr) (ws:List Str),vo t->t.ax.Perm ws->Q (.tup [t.pv,.cl (ws.map PV.str)])):(cZ (.int n)).run Q:=by
 unfold cZ;simp only [ga,cr,dc n n0 ∅];refine bA λk k0 k1=>?_;obtain⟨m,hm⟩:∃m:Nat,1+k=(m:Int):=⟨(1+k).toNat,by omega⟩;simp only [e7,gl,hm];refine Gs ∅ λws hl hw hd hb=>?_;refine sk (λz=>by rw [z] at hl;simp at hl;omega) ∅ λt ht=>?_;exact q t ws ⟨λx hx=>hw x (ht.mem_iff.mp hx),ht.nodup_iff.mpr hd,by rw [ht.length_eq,hl];omega,0,by decide,(ht.map _).nodup_iff.mpr hb⟩ ht
theorem GH (hw:ws≠[]) (h8:ws.length<=100) (n0:0 < n) (n1:n<=10) (q:∀s:Tr,(∀w∈s.ax,w∈ws)->s.ax.length<=n->Q s.pv):(cY (.cl (ws.map PV.str)) (.int n)).run Q:=by
 unfold cY;simp only [ga,cr,dc n n0 ∅];refine bA λk k0 k1=>?_;obtain⟨m,hm⟩:∃m:Nat,1+k=(m:Int):=⟨(1+k).toNat,by omega⟩;simp only [e7,gl,hm,de,mo (bh (i:=0) (j:=(m:Int)) ∅ ∅),A2];refine zu (S:=λv=>∃w∈ws,v=PV.str w) (λx _ R r=>pick_run (by simpa using hw) (by rw [Af];omega) λv hv=>r v (let ⟨w,h1,h2⟩:=Av.mp hv;⟨w,h1,h2.symm⟩)) λms hl hs=>?_;obtain⟨us,rfl,hu⟩:=IL hs;rw [iK,Af] at hl;exact sk (λz=>by rw [z] at hl;simp at hl;omega) ∅ λs hp=>q s (λw h=>hu w (hp.mem_iff.mp h)) (by rw [hp.length_eq];omega)
theorem jm:∀(n:Nat) (t:Tr),t.depth < n->t.size<=400->(aU n t.pv).le (.ret ((t.nd 0).map Ent.pv))
 | 0,_,h,_=>by omega
 | n+1,.leaf w,_,_=>λQ q=>by
  unfold aU;simp [Tr.pv];exact q
 | n+1,.node a b,h,hz=>λQ q=>by
  have hs:(Tr.node a b).size=a.size+b.size+1:=rfl;have hpa:=a.size_pos;have hpb:=b.size_pos;have hd:a.depth < n/\b.depth < n:=by simp [Tr.depth] at h;omega
  unfold aU;have i0:dH [a.pv,b.pv] 0=am a.pv:=rfl;have i1:dH [a.pv,b.pv] 1=am b.pv:=rfl;simp only [Tr.pv,ga,cr,hE,ly,cO,Au,if_false,aG,cA,i0,i1,wT];refine W.le.use (jm n a hd.1 ∅) ?_;simp only [gl];refine W.le.use (jm n b hd.2 ∅) ?_;simp only [gl,bR];refine fV (λi s=>s=(((b.nd 0).take i).map (Ut a.size)).map Ent.pv) (by simp) (λi x s hx hs=>?_) (λs hs=>?_)
  ·subst hs;rw [Aj] at hx;cases e:(b.nd 0)[i]? with
   | none=>rw [e] at hx;cases hx
   | some en=>
    rw [e] at hx;have ex:=Option.some.inj hx;subst ex;have hi:i < b.size:=by have:=(Ak.mp e).1;rw [b.a8] at this;exact this
    have et:(b.nd 0).take (i+1)=(b.nd 0).take i++[en]:=by rw [CJ,e];rfl
    have al:∀y,gP ((((b.nd 0).take i).map (Ut a.size)).map Ent.pv) y=.ret ((((b.nd 0).take i).map (Ut a.size)).map Ent.pv++[y]):=λy=>dr (by simp;omega);cases en with
    | word w=>
     simp only [Ent.pv,ga,cr,xy,xx,cO,al,gl,et,Cv,Au,if_false];simp [Ut,Ent.pv]
    | pair u v=>
     have j0:dH [PV.int (u:Int),PV.int (v:Int)] 0=am (.int u):=rfl;have j1:dH [PV.int (u:Int),PV.int (v:Int)] 1=am (.int v):=rfl;simp only [Ent.pv,ga,cr,hE,ly,cO,E5,if_true,aG,cA,j0,j1,wT,e7,e6,Af,a.a8,al,gl,et];simp [Ut,Ent.pv]
  ·subst hs;rw [Ex (by rw [Af];exact An _)];have es:(b.nd 0).map (Ut a.size)=b.nd a.size:=by rw [<- GY b 0 a.size,AG]
   rw [es];simp only [ga,cr,jv,xv,e6,e7,Af,a.a8,b.a8,gl,gH (l:=(a.nd 0).map Ent.pv) (m:=(b.nd a.size).map Ent.pv) (by simp [a.a8,b.a8];omega)];rw [gH (by simp [a.a8,b.a8];omega)];have e:(Tr.node a b).nd 0=a.nd 0++b.nd a.size++[.pair (a.size-1) (a.size+b.size-1)]:=by rw [Tr.nd];simp
   rw [e] at q;have e1:((a.size:Int)-1)=((a.size-1:Nat):Int):=by omega
   have e2:((a.size:Int)+(b.size:Int)-1)=((a.size+b.size-1:Nat):Int):=by omega
   rw [e1,e2];simpa [Ent.pv] using q
def Qk (h:j∈left):UC (aP left) (.int (j:Int))=.ret (aP (left.erase j)):=by
 show ap (md (aP left)) _=_;rw [uF,fZ];show W.ff _ _=_;rw [mo (Av.mpr ⟨j,h,rfl⟩),sP,<- uF]
def zj {l:List Nat} (h:(aP l)[i]?=am x):∃k,l[i]?=am k/\x=.int (k:Int):=by
 unfold aP at h;rw [Aj] at h;cases e:l[i]? with
 | none=>rw [e] at h;cases h
 | some k=>rw [e] at h;exact⟨k,rfl,(Option.some.inj h).symm⟩
theorem HY (t:Tr) (hz:t.size<=400) (hd:t.depth < 12) (q:∀ds d,Dt t ds [] d->d<=13*((splits t).length:Int)->Q (.tup (bo ds))):(c7 t.pv).run Q:=by
 unfold c7;have e1:Qj [PV.int 0] (.int ((t.nd 0).map Ent.pv).length)=.ret (bo (Am t.size 0)):=by
  rw [Wi,mo ⟨by omega,by rw [Af,t.a8];omega,cu (by simp [t.a8];omega)⟩];congr 1;rw [Af,t.a8,A2]
  induction t.size with
  | zero=>rfl
  | succ n ih=>rw [Bu,BZ,ih];rfl
 have e3:((t.nd 0).map Ent.pv).length<=sizeLine:=cu (by rw [Af,t.a8];omega);simp only [ga,cr];refine W.le.use (jm 12 t hd hz) ?_;simp only [ga,e6,e1,bR,mo e3,gl];refine Y3 Q9 (λx hx=>?_) ?_
 ·rw [JR] at hx;obtain⟨j,hj,rfl⟩:=Av.mp hx;cases en t 0 j with
  | word w=>simp [Ent.pv,Q9]
  | pair u v=>simp [Ent.pv,Q9]
 rw [Vu t];have hsl:(splits t).length<=t.size:=by
  have:=Jb (splits t) 0 t.size (Dt.first t).ris λx hx=>⟨Ba _,((Dt.first t).W8 x hx).1⟩;omega
 simp only [gl,xw,dB,de,mo (bh (i:=0) (j:=((splits t).length:Int)) ∅ ∅),A2];refine gD (λi s=>∃(ds:List Int) (left:List Nat) (d:Int),s=(bo ds,PV.int d,aP left)/\left.length+i=(splits t).length/\Dt t ds left d/\d+13*(left.length:Int)<=13*((splits t).length:Int)) ⟨_,_,0,rfl,rfl,Dt.first t,by omega⟩ ?_ ?_
 ·rintro i s hi ⟨ds,left,d,rfl,hl,D,hd⟩;have he:left≠[]:=λz=>by rw [z] at hl;simp at hl;omega
  have Zx:left.length<=t.size:=by omega
  simp only [ga,cr,gl];refine fV (λi s=>s=aP ((left.take i).filter (LL t left))) (by simp [aP]) (λi x s hx hs=>?_) (λs hs=>?_)
  ·obtain⟨k,hk,rfl⟩:=zj hx;subst hs;have hkm:=Bh hk;have et:left.take (i+1)=left.take i++[k]:=by rw [CJ,hk];rfl
   have Xf:=(Ak.mp hk).1;have fl:((left.take i).filter (LL t left)).length<=i:=by
    have:=Bv (LL t left) (left.take i);have:=DC i left;omega
   have al:gP (aP ((left.take i).filter (LL t left))) (.int (k:Int))=.ret (aP ((left.take i).filter (LL t left))++[.int (k:Int)]):=dr (by rw [dB];omega);obtain⟨h1,h2⟩:=D.W8 k hkm;cases e:en t 0 k with
   | word w=>rw [e] at h2;cases h2
   | pair a b=>
    have j0:dH [PV.int (a:Int),PV.int (b:Int)] 0=am (.int a):=rfl;have j1:dH [PV.int (a:Int),PV.int (b:Int)] 1=am (.int b):=rfl;have hr:LL t left k=(!decide (a∈left)&&!decide (b∈left)):=by unfold LL;rw [e]
    rw [et,D3];simp only [ga,bR,cA,Vm t h1,e,Ent.pv,wT,aG,j0,j1,NV,if_true];by_cases ca:a∈left
    ·simp [ca,hr,aP]
    ·by_cases cb:b∈left
     ·simp [ca,cb,hr,aP]
     ·simp [ca,cb,hr,al]
  ·subst hs;rw [dB,CK];have ne:=D.Ym he;refine pick_run ne (by rw [dB];have:=Bv (LL t left) left;omega) λx hx=>?_;obtain⟨j,hj,rfl⟩:=Av.mp hx;obtain⟨V1,Py⟩:=A8.mp hj;obtain⟨js,jp⟩:=D.W8 j V1;cases ej:en t 0 j with
   | word w=>rw [ej] at jp;cases jp
   | pair a b=>
   unfold LL at Py;rw [ej] at Py;simp at Py;simp only [e7,gl,dc 12 ⋯ ⋯,ga];refine bA λy y0 y1=>?_;simp only [e7,gl,mY (l:=bo ds) (k:=j) (by rw [fw,D.len];exact js),Qk V1,NU,ga];refine⟨_,left.erase j,_,rfl,by rw [Eg V1];have:=Ez V1;omega,D.next V1 ej Py.1 Py.2 y0,?_⟩;rw [Eg V1];have:=Ez V1;omega
 ·rintro s ⟨ds,left,d,rfl,hl,D,hd⟩;have:left=[]:=BV ∅;subst this;simp;exact q ds d D (by simpa using hd)
theorem Ki (g:vo t) (q:∀s,WG s t.ax->Q (me s)):(eF t.pv).run Q:=by
 have hz:=g.size;have hdp:=g.depth;unfold eF;simp only [ga,cr,dc 2 ⋯ ⋯];refine bA λd _ _=>?_;simp only [jw,bB,gl];cases c:d==0 with
 | true=>
  simp only [if_true];refine La t ∅ Q ?_;rw [<- ZQ];exact q _ (Ka ∅)
 | false=>
  simp only [Au,if_false,cr];refine HY t ∅ ∅ λds d D ahu=>?_;have RE:(splits t).length<=7:=by have:=GD t;have:=g.ZZ;omega
  have DDt:=DD.of (D.isD ∅);have hb:(aQ t ds).length<=16:=by unfold aQ;rw [Ap,oH];have:=IV t ds;omega
  refine OY DDt ∅ Q ?_;rw [<- aal];exact q _ (L0 DDt hz hb)
theorem rD (q:∀ps:List Int,ps.length=4->(∀p∈ps,0<=p)->Q (.tup (bo ps))):bJ.run Q:=by
 unfold bJ;have p2:Pp 10 28:=⟨by decide,by decide,by decide⟩;simp only [ga,cr,gl,de,mo (bh (i:=0) (j:=4) ∅ ∅)];refine gD (n:=4) (λi s=>∃ps:List Int,s=bo ps/\ps.length=i/\∀p∈ps,0<=p) ⟨[],rfl,rfl,by simp⟩ ?_ ?_
 ·rintro i s hi ⟨ps,rfl,hl,hp⟩;simp only [ga,cr,gl,dc 10 ⋯ ⋯];refine bA λa a0 a1=>?_;simp only [dc 1001 ⋯ ⋯];refine bA λb b0 b1=>?_;simp only [jv,gl,OA,mo p2,dc 1000 ⋯ ⋯];refine bA λc c0 c1=>?_;simp only [e7,gl];rw [gH (by simp)];refine pick_run (by simp) (by simp) λx hx=>?_;have Ć:(0:Int)<=10 ^ Int.toNat 28:=by decide +kernel
  obtain⟨v,rfl,hv⟩:∃v:Int,x=.int v/\0<=v:=by
   simp at hx;rcases hx with rfl | rfl | rfl | rfl | rfl | rfl | rfl | rfl | rfl
   all_goals first | exact⟨_,rfl,by omega⟩ | exact⟨_,rfl,by have:=Ć;simp at this;omega⟩
  rw [dr (by rw [fw];omega)];exact⟨ps++[v],by simp [bo],by simp [hl],λp h=>by rcases A9.mp h with h | h;exact hp p h;rw [AW.mp h];exact hv⟩
 ·rintro s ⟨ps,rfl,hl,hp⟩;exact q ps hl hp
theorem O2 {m:Int} (n0:0 < n) (n1:n<=8) (m0:0 < m) (m1:m<=10) (q:∀(g:List Sy) (ws:List Str) (t:Tr) (ps:List Int),WG g ws->(∀w∈t.ax,w∈ws)->t.ax.length<=10->ps.length=4->(∀p∈ps,0<=p)->Q (.tup [me g,t.pv,.cl ((t.nd 0).map Ent.pv),.tup (bo ps)])):(fv (.int n) (.int m)).run Q:=by
 unfold fv;simp only [ga,cr];refine Hu n0 n1 λt ws G hp=>?_;simp only [mB,gl];refine Ki G λg wg=>?_;have hl:=hp.length_eq;have:=G.ZZ;have:=t.jn;refine GH (λz=>by rw [z,Bk] at hl;omega) ∅ m0 m1 λs hs hn=>?_;have h1:=s.size_eq;have h2:=s.nV;refine W.le.use (jm 12 s ∅ ∅) ?_;refine rD λps p4 p0=>?_;exact q g t.ax s ps wg (λw h=>hp.mem_iff.mpr (hs w h)) ∅ p4 p0
end My
variable {ps:List Int}{d:BX}
namespace My
open PySem PySem.Spec PyProof.Rows L2 PL FL
abbrev OI:=Option Int
def oP:OI->PV
 | none=>.aE
 | some i=>.int i
def yx (l:List OI):List Int:=l.filterMap id
def tQ (l:List OI):OI:=if bm∈l then bm else am (yx l).sum
def rN (l:List OI):OI:=if yx l=[] then bm else am (oU (yx l))
theorem Jn:∀{l:List OI},bm∉l->l.map oP=(yx l).map PV.int
 | [],_=>rfl
 | none::l,h=>absurd (.head _) h
 | some a::l,h=>by
  have:=Jn (l:=l) λz=>h (.tail _ z);rw [Ar,this];rfl
def Wc (l:List OI):(l.map oP).filterMap (λx=>if x matches .aE then bm else am x)=(yx l).map PV.int:=by
 induction l with
 | nil=>rfl
 | cons a l ih=>cases a with
  | none=>rw [Ar,A6];exact ih
  | some i=>rw [Ar,A6];exact congrArg _ ih
def VO (l:List OI):qj false .aE (l.map oP)=.ret (decide (bm∈l)):=by
 have h0:∀x∈l.map oP,PV.g8 x=true/\PV.eW x<=150:=λx hx=>by
  obtain⟨o,_,rfl⟩:=Av.mp hx;cases o <;> simp [oP]
 have h1:RB .aE (l.map oP):=⟨by simp,gE.mpr λx hx=>(h0 x hx).1,gF λx hx=>(h0 x hx).2⟩;have h2:sD .aE (l.map oP)=decide (bm∈l):=by
  unfold sD;rw [Fm];clear h0 h1
  induction l with
  | nil=>rfl
  | cons a l ih=>
   rw [Bw,ih];cases a <;> simp [oP,iV]
 unfold qj;rw [mo h1,h2];simp
def oG (l:List OI):iH (.cl (l.map oP))=.ret (oP (tQ l)):=by
 unfold iH tQ;simp only [ga,bR,VO];by_cases h:bm∈l
 ·simp [h,oP]
 ·rw [if_neg h];simp only [h,decide_false,Au,if_false,jv,ga,Jn h,IJ,fZ];rfl
def Q7 (l:List OI):Ju ((yx l).map PV.int)=.ret (oP (rN l)):=by
 unfold Ju rN;rw [fZ,ga]
 split <;> rfl
def FX (l:List OI):(lY (l.map oP) λp2=>Nt (ap (of2 uD p2 .aE) asB) (bd p2))=.ret ((yx l).map PV.int):=by
 rw [<- Wc];refine wq λx hx=>?_;obtain⟨o,_,rfl⟩:=Av.mp hx;cases o <;> simp [oP,PV.gz]
def FW (l:List OI):gp (.cl (l.map oP))=.ret (oP (rN l)):=by
 unfold gp;simp only [ga,bR,FX,Q7]
def KI {a b:List Int} (h:a.Perm b):oU a=oU b:=by
 by_cases c:a=[]
 ·subst c;rw [List.nil_perm.mp h]
 ·have c2:b≠[]:=λz=>c (by subst z;exact List.perm_nil.mp h);exact EO (vY (h.mem_iff.mpr (rO c2))) (vY (h.mem_iff.mp (rO c)))
def uG {a b:List OI} (h:a.Perm b):rN a=rN b:=by
 have h2:(yx a).Perm (yx b):=h.filterMap _;unfold rN;rw [KI h2];have:(yx a=[])=(yx b=[]):=propext ⟨λz=>List.nil_perm.mp (z▸h2),λz=>List.perm_nil.mp (z▸h2)⟩;simp only [this]
def H0 (l:List OI):sW (l.map oP)=true:=FT.mpr λx hx=>by
 obtain⟨o,_,rfl⟩:=Av.mp hx;cases o <;> (rw [oP,PV.dat] <;> simp)
def TR (d:Str):Nat:=if d="split" then 0 else if d="doubled" then 1 else 2
def W3 (ps:List Int) (d:Str):Int:=ps.getD (TR d) 0
theorem OX (d:Str):TR d < 3:=by unfold TR;split;omega;split <;> omega
theorem O9 (h:ps.length=4) (hk:k < 4):dH (bo ps) (k:Int)=am (.int (ps.getD k 0)):=eJ (by
 unfold bo;rw [Aj,Ad ∅,Al,Ad ∅];rfl)
def VN (d:Str):Prop:=d="split"\/d="doubled"\/d="over"
def JG:qj false (.str d) ([("split":Str),("doubled":Str),("over":Str)].map PV.str)=.ret (decide (d∈[("split":Str),("doubled":Str),("over":Str)])):=by
 unfold qj;rw [mo ⟨by simp,by simp [eV],by simp [dE]⟩];congr 1;simp only [sD,Ar,DL,Bw,List.any_nil,TB,Bool.or_false,Au,if_false];have e:∀a:Str,(a==d)=decide (d=a):=λa=>by
  by_cases c:a=d
  ·subst c;simp
  ·have c2:¬d=a:=λz=>c z.symm;simp [c,c2]
 simp [e,Aw]
theorem MV (h:ps.length=4) (hd:VN d):dP (.tup (bo ps)) (.str d)=.ret (.int (W3 ps d)):=by
 unfold dP;have hm:d∈[("split":Str),("doubled":Str),("over":Str)]:=by rcases hd with rfl | rfl | rfl <;> simp
 have hi:NY ["split","doubled","over"] (.str d)=.ret (.int ((TR d:Nat):Int)):=by
  show W.ff _ _=_;rw [mo hm];rcases hd with rfl | rfl | rfl <;> rfl
 have:=OX d;simp only [ga,JG,hm,decide_true,if_true,aG,hi,cA,O9 h (k:=TR d) ∅,wT];rfl
def yW:dP (.tup (bo ps)) (.str "found")=.ret (.int 0):=by
 unfold dP;have hm:("found":Str)∉[("split":Str),("doubled":Str),("over":Str)]:=by decide +kernel
 simp only [ga,JG,hm,decide_false,Au,if_false]
end My
variable {n:Nat}{T:List (List My.OI)}{d:My.Dd}
namespace My
open PySem PySem.Spec PyProof.Rows L2 PL FL
def rg (T:List (List OI)) (j i:Nat):OI:=(T.getD j []).getD i bm
def rP (T:List (List OI)):List PV:=T.map λr=>.tup (r.map oP)
def vc (ps:List Int) (R:Nat->Nat->OI) (a b:Nat) (d:Dd):OI:=tQ [am (W3 ps d.1),R a d.2.1,R b d.2.2]
def R8 (g:List Sy) (ps:List Int) (R:Nat->Nat->OI) (e:Ent) (i:Nat):List OI:=match e with
 | .word w=>if hm g i w=true then [am 0] else []
 | .pair a b=>(dl g i).map (vc ps R a b)
def GS (g:List Sy) (ps:List Int) (i:Nat):Int:=if (sy g i).un.length=2 then ps.getD 3 0 else 0
def Pt (g:List Sy) (ps:List Int) (row:List OI) (i:Nat):List OI:=(sy g i).un.map λu=>tQ [am (GS g ps i),row.getD u bm]
def cQ (g:List Sy) (ps:List Int) (R:Nat->Nat->OI) (e:Ent):Nat->List OI
 | 0=>[]
 | k+1=>cQ g ps R e k++[rN (R8 g ps R e k++Pt g ps (cQ g ps R e k) k)]
def j8 (g:List Sy) (ps:List Int) (es:List Ent):Nat->List (List OI)
 | 0=>[]
 | j+1=>j8 g ps es j++[cQ g ps (rg (j8 g ps es j)) (Z7 es j) g.length]
theorem m7 (g:List Sy) (ps:List Int) (R:Nat->Nat->OI) (e:Ent):∀k,(cQ g ps R e k).length=k
 | 0=>rfl
 | k+1=>by rw [cQ,Ah,m7 g ps R e k];rfl
theorem q9 (g:List Sy) (ps:List Int) (es:List Ent):∀j,(j8 g ps es j).length=j
 | 0=>rfl
 | j+1=>by rw [j8,Ah,q9 g ps es j];rfl
structure Wide (g:List Sy) (T:List (List OI)) (n:Nat):Prop where
 len:T.length=n
 row:∀j,j < n->(T.getD j []).length=g.length
theorem iA (g:List Sy) (ps:List Int) (es:List Ent):∀j,Wide g (j8 g ps es j) j
 | 0=>⟨rfl,λj h=>absurd h (Nat.not_lt_zero j)⟩
 | j+1=>⟨q9 g ps es _,λk hk=>by
  have W:=iA g ps es j;rw [j8];by_cases c:k < j
  ·rw [pj (by rw [W.len];exact c)];exact W.row k c
  ·have:k=j:=by omega
   subst this;rw [lu (by rw [W.len];exact An _),W.len,C3];exact m7 _ _ _ _ _⟩
def SX (W':Wide g T n) (hj:j < n) (hi:i < g.length):(cG (ap (cG (bd (rP T)) (bd (.int (j:Int)))) aA) (bd (.int (i:Int))))=.ret (oP (rg T j i)):=by
 have hl:=W'.row j hj;have h1:dH (rP T) (j:Int)=am (.tup ((T.getD j []).map oP)):=eJ (by
  unfold rP;rw [Aj,Ad (by rw [W'.len];exact hj),Al,Ad (by rw [W'.len];exact hj)];rfl)
 have h2:dH ((T.getD j []).map oP) (i:Int)=am (oP (rg T j i)):=eJ (by
  unfold rg;rw [Aj,Ad (by rw [hl];exact hi),Al (l:=T.getD j []),Ad (by rw [hl];exact hi)];rfl)
 simp only [ga,cA,h1,wT,aG,h2]
def aaj (h:d∈dl g i):VN d.1:=by
 unfold dl at h;rcases Aw.mp h with rfl | h
 ·exact .inr (.inl rfl)
 rcases A9.mp h with h | h
 ·unfold vF at h
  split at h
  ·simp at h;rcases h with rfl | rfl <;> exact .inl rfl
  ·cases h
 ·rcases A9.mp h with h | h <;> obtain⟨o,_,rfl⟩:=Av.mp h <;> exact .inr (.inr rfl)
def M1 {f:α->β}{a b:List β} (h:a.Perm b):∀{l:List α},b=l.map f->∃ds:List α,a=ds.map f/\ds.Perm l:=by
 induction h with
 | nil=>intro l e;exact⟨[],rfl,by rw [List.map_eq_nil_iff.mp e.symm]⟩
 | cons x _ ih=>
  intro l e;cases l with
  | nil=>cases e
  | cons y l=>
   injection e with e1 e2;obtain⟨ds,h1,h2⟩:=ih e2;exact⟨y::ds,by rw [Ar,e1,h1],h2.cons y⟩
 | swap x y r=>
  intro l e
  match l,e with
  | u::v::l,e=>
   injection e with e1 e2;injection e2 with e2 e3;exact⟨v::u::l,by rw [Ar,Ar,e1,e2,e3],.swap u v l⟩
 | trans _ _ ih1 ih2=>
  intro l e;obtain⟨ds,h1,h2⟩:=ih2 e;obtain⟨es,h3,h4⟩:=ih1 h1;exact⟨es,h3,h4.trans h2⟩
theorem uW (f h:α->β):∀l:List α,(l.map f++l.map h).Perm (l.flatMap λo=>[f o,h o])
 | []=>.nil
 | a::l=>by
  rw [Ar,Ar,CG,B8];exact ((List.perm_middle).trans ((uW f h l).cons _)).cons _
def JV (g:List Sy) (i:Nat):(dl g i).Perm (dds g i):=((uW (λo=>(("over",i,o):Dd)) (λo=>(("over",o,i):Dd)) (sy g i).be).append_left _).cons _
def TU (G:WG g ws) (h:i < g.length) (hd:d∈dl g i):d.2.1 < g.length/\d.2.2 < g.length:=Wz G h ((JV g i).mem_iff.mp hd)
theorem Lq (p4:ps.length=4) (W':Wide g T n) (ha:a < n) (hb:b < n) (hd:VN d.1) (hx:d.2.1 < g.length) (hy:d.2.2 < g.length):cW (.tup (bo ps)) (.cl (rP T)) (Ent.pair a b).pv (d2 d)=.ret (oP (vc ps (rg T) a b d)):=by
 unfold cW;have i0:dH [PV.str d.1,PV.tup [.int (d.2.1:Int),.int (d.2.2:Int)]] 0=am (.str d.1):=rfl;have i1:dH [PV.str d.1,PV.tup [.int (d.2.1:Int),.int (d.2.2:Int)]] 1=am (.tup [.int (d.2.1:Int),.int (d.2.2:Int)]):=rfl;have ez:J7 [PV.int (a:Int),.int (b:Int)] [.int (d.2.1:Int),.int (d.2.2:Int)]=.ret [.tup [.int (a:Int),.int (d.2.1:Int)],.tup [.int (b:Int),.int (d.2.2:Int)]]:=mo (by simp;exact cu ∅);have ec:mK [PV.int (W3 ps d.1)] [oP (rg T a d.2.1),oP (rg T b d.2.2)]=.ret ([am (W3 ps d.1),rg T a d.2.1,rg T b d.2.2].map oP):=by rw [gH (by simp)];rfl
 have em:(bz [PV.tup [.int (a:Int),.int (d.2.1:Int)],.tup [.int (b:Int),.int (d.2.2:Int)]] λp6=>ap (ur p6) λt7=>(cG (ap (cG (bd (rP T)) (bd t7.1)) aA) (bd t7.2)))=.ret [oP (rg T a d.2.1),oP (rg T b d.2.2)]:=by
  simp only [bz,mB,ga];have h1:=SX W' ha hx;have h2:=SX W' hb hy;simp only [ga] at h1 h2;simp only [h1,h2,ga]
 simp only [ga] at em;simp only [d2,ga,ph,NZ,aP,Ar,DL,aG,cA,i0,i1,wT,ez,em,MV p4 hd,bR,jv,ec];exact oG [am (W3 ps d.1),rg T a d.2.1,rg T b d.2.2]
def HX (G:WG g ws) (p4:ps.length=4) (W':Wide g T n) (he:Pm n e) (hi:i < g.length) {Q:List PV->Prop} (q:∀L:List OI,L.Perm (R8 g ps (rg T) e i)->Q (L.map oP)):(eg (me g) (.tup (bo ps)) (.cl (rP T)) e.pv (.int (i:Int))).run Q:=by
 unfold eg;simp only [ga,cr];cases e with
 | word w=>
  unfold eO;simp only [Ent.pv,ga,cr,xy,xx,cO,gl,if_true,RG G hi];unfold R8 at q;cases h:hm g i w with
  | false=>
   simp only [h,Au,if_false] at q ⊢;exact q [] (List.Perm.refl _)
  | true=>
   simp only [h,if_true] at q ⊢;have ef:cW (.tup (bo ps)) (.cl (rP T)) (.str w) (.tup [.str "found",.tup []])=.ret (.int 0):=by
    unfold cW;have i0:dH [PV.str "found",PV.tup []] 0=am (.str "found"):=rfl;have i1:dH [PV.str "found",PV.tup []] 1=am (.tup []):=rfl;have hv:cz (.str w)=.ret (.tup []):=ph (.word w);have ez:J7 [] []=.ret []:=mo (by simp);have ec:mK [PV.int 0] []=.ret ([am (0:Int)].map oP):=by rw [gH (by simp)];rfl
    simp only [ga,hv,aG,cA,i0,i1,wT,ez,bz,yW,jv,ec,oG];rfl
   simp only [gl,bz,ga,ef];exact q [am 0] (List.Perm.refl _)
 | pair a b=>
  refine Lm G hi λm hm=>?_;obtain⟨ds,rfl,hp⟩:∃ds:List Dd,m=ds.map d2/\ds.Perm (dl g i):=M1 hm rfl;refine fR (λd=>oP (vc ps (rg T) a b d)) (λd hd=>?_) ?_
  ·have hdl:=hp.mem_iff.mp hd;obtain⟨h1,h2⟩:=TU G hi hdl;rw [Lq p4 W' he.1 he.2 (aaj hdl) h1 h2];exact λQ q=>q
  ·have e:ds.map (λd=>oP (vc ps (rg T) a b d))=(ds.map (vc ps (rg T) a b)).map oP:=by rw [AB];rfl
   rw [e];exact q _ (hp.map _)
theorem U2 (p4:ps.length=4) (hi:i < g.length):fo (me g) (.tup (bo ps)) (.int (i:Int))=.ret (.int (GS g ps i)):=by
 unfold fo GS;simp only [ga,mT hi,g9,dB,jw,bB,aG,cA];by_cases c:(sy g i).un.length=2
 ·have h3:=O9 p4 (k:=3) ∅;have c2:(((sy g i).un.length:Int)==2)=true:=by simp [c]
  rw [if_pos c,c2];simp only [if_true];rw [show ((3:Nat):Int)=3 from rfl] at h3;rw [h3];rfl
 ·have c2:(((sy g i).un.length:Int)==2)=false:=by simp;omega
  rw [if_neg c,c2];rfl
theorem Mc (G:WG g ws) (p4:ps.length=4) {row:List OI} (hi:i < g.length) (hr:row.length=i):d9 (me g) (.tup (bo ps)) (.cl (row.map oP)) (.int (i:Int))=.ret ((Pt g ps row i).map oP):=by
 unfold d9 Pt;simp only [ga,U2 p4 hi,mT hi,aG];rw [AB];refine jh λu hu=>?_;have hu:=G.dn i hi u hu;have h1:dH (row.map oP) (u:Int)=am (oP (row.getD u bm)):=eJ (by rw [Aj,Ad ∅,Al,Ad ∅];rfl);have e:[PV.int (GS g ps i),oP (row.getD u bm)]=[am (GS g ps i),row.getD u bm].map oP:=rfl;simp only [ga,bR,cA,h1,wT,e,oG];rfl
theorem Uz (G:WG g ws) (p4:ps.length=4) (W':Wide g T n) (he:Pm n e):(kr (me g) (.tup (bo ps)) (.cl (rP T)) e.pv).le (.ret (.tup ((cQ g ps (rg T) e g.length).map oP))):=λQ q=>by
 unfold kr;have hg:=G.len;have el:oA dq [me g]=.ret (.int (g.length:Int)):=by simp [me]
 simp only [ga,cr,gl];simp only [el,gl,de,mo (bh (i:=0) (j:=(g.length:Int)) ∅ ∅),A2];refine gD (λi s=>s=(cQ g ps (rg T) e i).map oP) rfl (λi s hi hs=>?_) (λs hs=>?_)
 ·subst hs;have ò:=m7 g ps (rg T) e i;refine HX G p4 W' he hi λL hL=>?_;rw [Mc G p4 hi ò];have h1:L.length<=63:=by
   rw [hL.length_eq];cases e with
   | word w=>show (if hm g i w=true then [am 0] else []).length<=63;split <;> simp
   | pair a b=>show ((dl g i).map _).length<=63;rw [Af];exact HV G hi
  have h2:(Pt g ps (cQ g ps (rg T) e i) i).length<=2:=by unfold Pt;rw [Af];exact G.ur i hi
  simp only [ga,cr];rw [gH (by rw [Af,Af];omega),<- AJ];have et:uw ((L++Pt g ps (cQ g ps (rg T) e i) i).map oP)=.ret ((L++Pt g ps (cQ g ps (rg T) e i) i).map oP):=mo (H0 _);simp only [gl,et,FW];rw [dr (by rw [Af];omega)];show _=_;rw [cQ,AJ,uG (hL.append_right _)];rfl
 ·subst hs;exact q
theorem q8 (G:WG g ws) (p4:ps.length=4) (hz:t.size<=400):(jk (me g) t.pv (.tup (bo ps))).le (.ret (.tup (rP (j8 g ps (t.nd 0) t.size)))):=λQ q=>by
 unfold jk;simp only [ga,cr,gl];refine W.le.use (nu t ∅) ?_;simp only [aG,gl];refine fV (λi s=>s=rP (j8 g ps (t.nd 0) i)) rfl (λi x s hx hs=>?_) (λs hs=>?_)
 ·subst hs;have hi:i < t.size:=by have:=(Ak.mp hx).1;rw [dW] at this;exact this
  rw [Aj,gX t 0 i hi] at hx;have ex:=(Option.some.inj hx).symm;subst ex;simp only [cr];refine W.le.use (Uz G p4 (iA g ps (t.nd 0) i) (TK t hi)) ?_;have ed:Z7 (t.nd 0) i=en t 0 i:=by unfold Z7;rw [Al,gX t 0 i hi];rfl
  have et:L7 (.tup ((cQ g ps (rg (j8 g ps (t.nd 0) i)) (en t 0 i) g.length).map oP))=.ret (.tup ((cQ g ps (rg (j8 g ps (t.nd 0) i)) (en t 0 i) g.length).map oP)):=mo (by rw [PV.dat];exact H0 _);simp only [et,gl];rw [dr (by unfold rP;rw [Af,q9];omega)];show _=_;rw [j8,ed];unfold rP;rw [AJ];rfl
 ·subst hs;rw [dW];exact q
abbrev kk (j i:Nat):List Key:=[.inl (j:Int),.inl (i:Int)]
def Hb (j:Nat):Nat->List OI->List (List Key×PV)
 | _,[]=>[]
 | i,v::r=>(kk j i,oP v)::Hb j (i+1) r
def sh:Nat->List (List OI)->List (List Key×PV)
 | _,[]=>[]
 | j,r::T=>Hb j 0 r++sh (j+1) T
theorem Hc {j' i':Nat} (h:kk j i=kk j' i'):j=j'/\i=i':=by
 injection h with h1 h2;injection h2 with h2 _;injection h1 with h1;injection h2 with h2;omega
def sE (a b:List (List Key×PV)) (k:List Key):cI (a++b) k=(cI a k).or (cI b k):=by
 unfold cI;rw [List.find?_append];cases a.find? λkv=>decide (kv.1=k) <;> rfl
theorem V6 (j:Nat) (k:List Key):∀(r:List OI) (i:Nat),(∀n,n < r.length->k≠kk j (i+n))->cI (Hb j i r) k=bm
 | [],_,_=>rfl
 | v::r,i,h=>by
  have h0:¬kk j i=k:=λz=>h 0 (by simp) z.symm;have:=V6 j k r (i+1) λn hn=>by have:=h (n+1) (by simpa using hn);rw [show i+1+n=i+(n+1) by omega];exact this
  unfold cI at this ⊢;rw [Hb,Be];simp only [h0,decide_false];exact this
theorem JJ (j:Nat):∀(r:List OI) (i n:Nat),n < r.length->cI (Hb j i r) (kk j (i+n))=am (oP (r.getD n bm))
 | v::r,i,0,_=>by
  unfold cI;rw [Hb,Be];simp
 | v::r,i,n+1,h=>by
  have h0:¬kk j i=kk j (i+(n+1)):=λz=>by have:=(Hc z).2;omega
  have:=JJ j r (i+1) n (by simpa using h);rw [show i+1+n=i+(n+1) by omega] at this;unfold cI at this ⊢;rw [Hb,Be];simp only [h0,decide_false];exact this
theorem ZO (k:List Key):∀(T:List (List OI)) (j:Nat),(∀m n,m < T.length->n < (T.getD m []).length->k≠kk (j+m) n)->cI (sh j T) k=bm
 | [],_,_=>rfl
 | r::T,j,h=>by
  rw [sh,sE,V6 j k r 0 λn hn=>by rw [AG];exact h 0 n (by simp) hn,ZO k T (j+1) λm n hm hn=>by
   rw [show j+1+m=j+(m+1) by omega];exact h (m+1) n (by simpa using hm) (by simpa using hn)]
  rfl
theorem qL:∀(T:List (List OI)) (j m n:Nat),m < T.length->n < (T.getD m []).length->cI (sh j T) (kk (j+m) n)=am (oP (rg T m n))
 | r::T,j,0,n,_,hn=>by
  have:=JJ j r 0 n hn;rw [AG] at this;rw [sh,sE];show (cI (Hb j 0 r) (kk j n)).or _=_;rw [this];rfl
 | r::T,j,m+1,n,hm,hn=>by
  rw [sh,sE,V6 j _ r 0 λn' _ z=>by have:=(Hc z).1;omega];have:=qL T (j+1) m n (by simpa using hm) (by simpa using hn);rw [show j+1+m=j+(m+1) by omega] at this;rw [this];rfl
theorem zD (j:Nat) (v:OI):∀(r:List OI) (i:Nat),Hb j i (r++[v])=Hb j i r++[(kk j (i+r.length),oP v)]
 | [],i=>rfl
 | u::r,i=>by
  rw [B8,Hb,zD j v r (i+1),Hb,B8,Ap,show i+1+r.length=i+(r.length+1) by omega]
theorem nH (r:List OI):∀(T:List (List OI)) (j:Nat),sh j (T++[r])=sh j T++Hb (j+T.length) 0 r
 | [],j=>by rw [EN,sh,sh,sh,Ct];rfl
 | u::T,j=>by
  rw [B8,sh,nH r T (j+1),sh,Ay,Ap,show j+1+T.length=j+(T.length+1) by omega]
def Qr {k:List Key} (h:cI kvs k=bm):FL.yS kvs k v=kvs++[(k,v)]:=by
 unfold FL.yS;rw [if_neg];intro c;obtain⟨x,h1,h2⟩:=List.any_eq_true.mp c;unfold cI at h;rw [Eu,List.find?_eq_none] at h;exact h x h1 h2
theorem JA:∀(T:List (List OI)) (j:Nat),(sh j T).length=(T.map BL).sum
 | [],_=>rfl
 | r::T,j=>by
  have:∀(r:List OI) (i:Nat),(Hb j i r).length=r.length:=λr=>by
   induction r with
   | nil=>intro i;rfl
   | cons v r ih=>intro i;rw [Hb,Ap,ih,Ap]
  rw [sh,Ah,this,JA T,Ar,Dk]
def ldl (g:List Sy) (i:Nat):List Dd:=dbl i::((sy g i).be.flatMap (U3 i)++vF (sy g i).un)
def zC (g:List Sy) (i:Nat):(ldl g i).Perm (dl g i):=(Cz.cons _).trans (JV g i).symm
def eP (e:Nat×Nat):PV:=.tup [.int (e.1:Int),.int (e.2:Int)]
def Y2 (a b:Nat) (d:Dd):PV:=.tup [.int ((TR d.1:Nat):Int),.cl ([(a,d.2.1),(b,d.2.2)].map eP)]
def ldO (g:List Sy) (e:Ent) (i:Nat):List PV:=match e with
 | .word w=>if hm g i w=true then [.tup [.aE,.cl []]] else []
 | .pair a b=>(ldl g i).map (Y2 a b)
theorem Ha (G:WG g ws) (he:es[j]?=am e) (hi:i < g.length):(c6 (me g) (.cl (es.map Ent.pv)) (.int (j:Int)) (.int (i:Int))).le (.ret (ldO g e i)):=λQ q=>by
 unfold c6;have h1:dH (es.map Ent.pv) (j:Int)=am e.pv:=eJ (by rw [Aj,he];rfl);have hu:=G.ur i hi;have hb:=G.WJ i hi;have gi:=Og hi;simp only [me,ga,aG,gi,Sy.pv,Oy,bR,cA,h1,wT,cr];cases e with
 | word w=>
  simp only [Ent.pv,ga,xy,xx,cO,gl,if_true,eq_nil _ (show (sy g i).un.length<=1000 by omega),bB,TJ (G.nm i hi) w];have e:hm g i w=((sy g i).un.isEmpty&&Hm w (sy g i).nm):=rfl;have q:Q (if hm g i w=true then [.tup [.aE,.cl []]] else []):=q;cases h1:(sy g i).un.isEmpty with
  | false=>rw [e,h1] at q;simpa using q
  | true=>cases h2:Hm w (sy g i).nm with
   | false=>rw [e,h1,h2] at q;simpa using q
   | true=>rw [e,h1,h2] at q;simpa using q
 | pair a b=>
  have j0:dH [PV.int (a:Int),PV.int (b:Int)] 0=am (.int a):=rfl;simp only [Ent.pv,ga,hE,ly,cO,gl,Au,if_false,mB,cr];refine fV (λk s=>s=(dbl i::((sy g i).be.take k).flatMap (U3 i)).map (Y2 a b)) rfl (λk x s hx hs=>?_) (λs hs=>?_)
  ·obtain⟨o,ho,rfl⟩:=zj hx;subst hs;have hk:=(Ak.mp ho).1;have hl:((sy g i).be.take k).length<=k:=DC _ _;have et:(sy g i).be.take (k+1)=(sy g i).be.take k++[o]:=by rw [CJ,ho];rfl
   simp only [ga,cr,gl];rw [dr (by rw [Af,Ap,nT];omega)];simp only [gl,ga];rw [dr (by rw [Ah,Af,Ap,nT];simp;omega)];show _=_;rw [et,List.flatMap_append,Ay,<- B8,AJ];rfl
  ·subst hs;rw [dB,CK];simp only [ga,g9,dB,jw,bB,gl];have q:Q ((dbl i::((sy g i).be.flatMap (U3 i)++vF (sy g i).un)).map (Y2 a b)):=q;rw [<- B8,AJ] at q;have hfl:((dbl i::(sy g i).be.flatMap (U3 i)).map (Y2 a b)).length<=61:=by rw [Af,Ap,nT];omega
   generalize (dbl i::(sy g i).be.flatMap (U3 i)).map (Y2 a b)=M at q hfl;revert hu q;generalize (sy g i).un=l;intro hu q
   match l,hu,q with
   | [],_,q=>simpa [vF] using q
   | [u],_,q=>simpa [vF] using q
   | [u,v],_,q=>
    have k0:dH [PV.int (u:Int),PV.int (v:Int)] 0=am (.int u):=rfl;have k1:dH [PV.int (u:Int),PV.int (v:Int)] 1=am (.int v):=rfl;have c:((([u,v]:List Nat).length:Int)==2)=true:=rfl;simp only [c,if_true,k8,nv,aG,ga,cA,k0,k1,wT,cr,gl];rw [dr ∅];simp only [gl,ga];rw [dr (by rw [Ah];simp;omega)];rw [Ay];exact q
def stO (g:List Sy) (i j u:Nat):PV:=.tup [if (sy g i).un.length=2 then .int 3 else .aE,.cl ([(j,u)].map eP)]
theorem KO (hi:i < g.length) (j:Nat):eE (me g) (.int (j:Int)) (.int (i:Int))=.ret ((sy g i).un.map (stO g i j)):=by
 unfold eE;have gi:=Og hi;have i2:dH [(sy g i).nm,PV.int (sy g i).lv,.tup (aP (sy g i).un),.tup (aP (sy g i).be)] 2=am (.tup (aP (sy g i).un)):=rfl;simp only [me,ga,aG,gi,Sy.pv,cA,i2,wT,g9,dB,jw,bB];by_cases c:(sy g i).un.length=2
 ·have c2:(((sy g i).un.length:Int)==2)=true:=by simp [c]
  rw [c2];simp only [if_true,ga];refine jh λu _=>?_;simp only [ga,stO,c,if_true];rfl
 ·have c2:(((sy g i).un.length:Int)==2)=false:=by simp;omega
  rw [c2];simp only [Au,if_false,ga];refine jh λu _=>?_;simp only [ga,stO,c,if_false];rfl
theorem Jm:∀{l:List OI},bm∉l->(yx l).sum=(l.map λo=>o.getD 0).sum
 | [],_=>rfl
 | none::l,h=>absurd (.head _) h
 | some a::l,h=>by
  have:=Jm (l:=l) λz=>h (.tail _ z);show (a::yx l).sum=_;rw [Dk,this,Ar,Dk];rfl
def LY {R:Nat->Nat->OI} (p4:ps.length=4) {pl:PV}{Pq:Int}{es:List (Nat×Nat)} (dw:(pl=.aE/\Pq=0)\/∃p:Nat,p < 4/\pl=.int (p:Int)/\Pq=ps.getD p 0) (hk:∀e∈es,cI kvs (kk e.1 e.2)=am (oP (R e.1 e.2))) :
  (eB (.tup (bo ps)) (xR kvs) (.tup [pl,.cl (es.map eP)])).le (.ret (oP (tQ (am Pq::es.map λe=>R e.1 e.2)))):=λQ q=>by
 unfold eB;have i0:dH [pl,.cl (es.map eP)] 0=am pl:=rfl;have i1:dH [pl,.cl (es.map eP)] 1=am (.cl (es.map eP)):=rfl;have q:Q (oP (tQ (am Pq::es.map λe=>R e.1 e.2))):=q;have main:((PV.int Pq)\λmU=>(es.map eP)\λl7=>ap (lL l7 mU λlz s2=>(
 dQ (t2 zf (PF (bd (xR kvs)) (bd lz)) (bd .aE)) (
 .aE\λx4=>bd (Lp.out x4)) (
 ap (w2 addW (bd s2) (PF (bd (xR kvs)) (bd lz))) λqx=>
 bd (.go qx)))) (Lb (λs2=>
 (bd s2)) id)).run Q:=by
  simp only [ga,cr];refine xr (λk s=>s=.int (Pq+((es.take k).map λe=>(R e.1 e.2).getD 0).sum)/\∀e∈es.take k,R e.1 e.2≠bm) ⟨by simp,by simp⟩ (λk x s hx hs=>?_) (λs hs=>?_)
  ·obtain⟨rfl,hs⟩:=hs;rw [Aj] at hx;cases e:es[k]? with
   | none=>rw [e] at hx;cases hx
   | some en=>
    rw [e] at hx;have ex:=(Option.some.inj hx).symm;subst ex;have et:es.take (k+1)=es.take k++[en]:=by rw [CJ,e];rfl
    have hm:=Bh e;have dg:(dgW (xR kvs) (eP en)).le (.ret (oP (R en.1 en.2))):=λQ q=>qN (k:=kk en.1 en.2) (hk en hm) q;simp only [ga,cr];refine W.le.use dg ?_;cases hr:R en.1 en.2 with
    | none=>
     simp only [oP,kG,bB,gl,ga,PV.gz,if_true];show (Lb _ _ (Lp.out PV.aE)).run Q;have hn:tQ (am Pq::es.map λe=>R e.1 e.2)=bm:=if_pos (.tail _ (Av.mpr ⟨en,hm,hr⟩));rw [hn] at q;exact q
    | some v=>
     simp only [oP,kG,bB,gl,ga,PV.gz,Au,if_false,cr];refine W.le.use dg ?_;simp only [hr,oP,e7,gl];refine⟨?_,λe he=>?_⟩
     ·rw [et,AJ,List.sum_append];simp [hr,Int.add_assoc]
     ·rw [et] at he;rcases A9.mp he with he | he
      ·exact hs e he
      ·rw [AW.mp he,hr];simp
  ·obtain⟨rfl,hs⟩:=hs;rw [Af,CK] at hs ⊢;have hn:bm∉(am Pq::es.map λe=>R e.1 e.2):=λz=>by
    rcases Aw.mp z with z | z
    ·cases z
    ·obtain⟨e,h1,h2⟩:=Av.mp z;exact hs e h1 h2
   unfold tQ at q;rw [if_neg hn,Jm hn,Ar,Dk,AB] at q;exact q
 simp only [ga,aG,cA,i0,i1,wT,bR];simp only [ga] at main;rcases dw with⟨rfl,rfl⟩ | ⟨p,hp,rfl,rfl⟩
 ·simp only [kG,PV.gz,bB,ga,if_true];exact main
 ·simp only [kG,PV.gz,bB,ga,Au,if_false,cA,O9 p4 hp,wT];exact main
structure Op where
 pl:PV
 Pq:Int
 es:List (Nat×Nat)
def Op.pv (o:Op):PV:=.tup [o.pl,.cl (o.es.map eP)]
def Op.cost (R:Nat->Nat->OI) (o:Op):OI:=tQ (am o.Pq::o.es.map λe=>R e.1 e.2)
def M9 (g:List Sy) (ps:List Int) (e:Ent) (i:Nat):List Op:=match e with
 | .word w=>if hm g i w=true then [⟨.aE,0,[]⟩] else []
 | .pair a b=>(ldl g i).map λd=>⟨.int ((TR d.1:Nat):Int),W3 ps d.1,[(a,d.2.1),(b,d.2.2)]⟩
def Pw (g:List Sy) (ps:List Int) (i j:Nat):List Op:=(sy g i).un.map λu=>⟨if (sy g i).un.length=2 then .int 3 else .aE,GS g ps i,[(j,u)]⟩
def Ve (g:List Sy) (ps:List Int) (e:Ent) (i:Nat):(M9 g ps e i).map Op.pv=ldO g e i:=by
 cases e with
 | word w=>unfold M9 ldO;simp only;split <;> rfl
 | pair a b=>unfold M9 ldO;simp only;rw [AB];rfl
def Vd (g:List Sy) (ps:List Int) (i j:Nat):(Pw g ps i j).map Op.pv=(sy g i).un.map (stO g i j):=by
 unfold Pw;rw [AB];rfl
def zb (g:List Sy) (ps:List Int) (R:Nat->Nat->OI) (e:Ent) (i:Nat):((M9 g ps e i).map (Op.cost R)).Perm (R8 g ps R e i):=by
 cases e with
 | word w=>unfold M9 R8;simp only;split <;> exact List.Perm.refl _
 | pair a b=>unfold M9 R8;simp only;rw [AB];exact (zC g i).map _
def VP (l:List OI):(dQ (bd (!((yx l).map PV.int).isEmpty)) (zq ((yx l).map PV.int)) (bd .aE))=.ret (oP (rN l)):=by
 unfold zq rN;simp only [fZ,ga];by_cases c:yx l=[]
 ·rw [if_pos c,c];rfl
 ·rw [if_neg c,mo c];have:(!((yx l).map PV.int).isEmpty)=true:=by cases h:yx l with | nil=>exact absurd h c | cons a r=>rfl
  rw [this,if_pos rfl];rfl
def Jc {r:List OI} (h:j < T.length):rg (T++[r]) j i=rg T j i:=by unfold rg;rw [pj h]
def Qh {r:List OI}:rg (T++[r]) T.length i=r.getD i bm:=by unfold rg;rw [lu (An _),C3];rfl
theorem Up {l:List Nat} (h:∀x∈l,x<=m):l.sum<=l.length*m:=by
 induction l with
 | nil=>simp
 | cons a l ih=>
  rw [Dk,Ap,Ew];have:=h a (.head _);have:=ih λx hx=>h x (.tail _ hx);omega
theorem zE (G:WG g ws) (p4:ps.length=4) (hz:t.size<=400):(c8 (me g) (.cl ((t.nd 0).map Ent.pv)) (.tup (bo ps))).le (.ret (xR (sh 0 (j8 g ps (t.nd 0) t.size)))):=λQ q=>by
 unfold c8;have hg:=G.len;have el:oA dq [me g]=.ret (.int (g.length:Int)):=by simp [me]
 simp only [ga,cr,e6,dW,gl,de,mo (bh (i:=0) (j:=(t.size:Int)) ∅ ∅),A2];refine gD (λj s=>s=sh 0 (j8 g ps (t.nd 0) j)) rfl (λj s hj hs=>?_) (λs hs=>by subst hs;exact q);subst hs;simp only [el,ga,cr,gl,de,mo (bh (i:=0) (j:=(g.length:Int)) ∅ ∅),A2];have ed:Z7 (t.nd 0) j=en t 0 j:=by unfold Z7;rw [Al,gX t 0 j hj];rfl
 have Wd:=iA g ps (t.nd 0) j;have gZ:=TK t hj;have ht:j8 g ps (t.nd 0) (j+1)=j8 g ps (t.nd 0) j++[cQ g ps (rg (j8 g ps (t.nd 0) j)) (en t 0 j) g.length]:=by rw [j8,ed]
 rw [ht];generalize j8 g ps (t.nd 0) j=T at Wd ⊢;refine gD (λi s=>s=sh 0 (T++[cQ g ps (rg T) (en t 0 j) i])) (by rw [nH];exact (Ct _).symm) (λi s hi hs=>?_) (λs hs=>hs);subst hs;have ò:=m7 g ps (rg T) (en t 0 j) i;have eT:T.length=j:=Wd.len;simp only [cr];refine W.le.use (Ha G (gX t 0 j hj) hi) ?_;simp only [jv,ga,gl,cr,KO hi];rw [<- Ve g ps,<- Vd g ps];have l1:(M9 g ps (en t 0 j) i).length<=63:=by
  have:=(zb g ps (rg T) (en t 0 j) i).length_eq;rw [Af] at this;rw [this];cases en t 0 j with
  | word w=>show (if hm g i w=true then [am 0] else []).length<=63;split <;> simp
  | pair a b=>show ((dl g i).map _).length<=63;rw [Af];exact HV G hi
 have l2:(Pw g ps i j).length<=2:=by unfold Pw;rw [Af];exact G.ur i hi
 rw [gH (by rw [Af,Af];omega),<- AJ];simp only [gl,bR,ga];have gt:∀a x,a < j->x < g.length->cI (sh 0 (T++[cQ g ps (rg T) (en t 0 j) i])) (kk a x)=am (oP (rg (T++[cQ g ps (rg T) (en t 0 j) i]) a x)):=λa x ha hx=>by
  have:=qL (T++[cQ g ps (rg T) (en t 0 j) i]) 0 a x (by simp;omega) (by rw [pj ∅,Wd.row a ha];exact hx);rw [AG] at this;exact this
 have gt2:∀u,u < i->cI (sh 0 (T++[cQ g ps (rg T) (en t 0 j) i])) (kk j u)=am (oP (rg (T++[cQ g ps (rg T) (en t 0 j) i]) j u)):=λu hu=>by
  have:=qL (T++[cQ g ps (rg T) (en t 0 j) i]) 0 j u (by simp;omega) (by rw [lu ∅,eT,C3];show u < (cQ g ps (rg T) (en t 0 j) i).length;rw [ò];exact hu);rw [AG] at this;exact this
 refine fR (λo=>oP (o.cost (rg (T++[cQ g ps (rg T) (en t 0 j) i])))) (λo ho=>?_) ?_
 ·refine LY p4 ?_ ?_
  ·rcases A9.mp ho with ho | ho
   ·revert ho;cases en t 0 j with
    | word w=>
     intro ho;have ho:o∈(if hm g i w=true then [(⟨.aE,0,[]⟩:Op)] else []):=ho
     split at ho
     ·rw [AW.mp ho];exact .inl ⟨rfl,rfl⟩
     ·cases ho
    | pair a b=>
     intro ho;obtain⟨d,hd,rfl⟩:=Av.mp ho;exact .inr ⟨TR d.1,by have:=OX d.1;omega,rfl,rfl⟩
   ·obtain⟨u,hu,rfl⟩:=Av.mp ho;by_cases c:(sy g i).un.length=2
    ·exact .inr ⟨3,by omega,if_pos c,if_pos c⟩
    ·exact .inl ⟨if_neg c,if_neg c⟩
  ·intro e he;rcases A9.mp ho with ho | ho
   ·revert ho gZ;cases h:en t 0 j with
    | word w=>
     intro _ ho;have ho:o∈(if hm g i w=true then [(⟨.aE,0,[]⟩:Op)] else []):=ho
     split at ho
     ·rw [AW.mp ho] at he;cases he
     ·cases ho
    | pair a b=>
     intro Oa ho;obtain⟨d,hd,rfl⟩:=Av.mp ho;obtain⟨h1,h2⟩:=TU G hi ((zC g i).mem_iff.mp hd);rw [h] at gt;have he:e∈[(a,d.2.1),(b,d.2.2)]:=he;simp at he;rcases he with rfl | rfl
     ·exact gt _ _ Oa.1 h1
     ·exact gt _ _ Oa.2 h2
   ·obtain⟨u,hu,rfl⟩:=Av.mp ho;have he:e∈[(j,u)]:=he;rw [AW.mp he];exact gt2 u (G.dn i hi u hu)
 ·have em:(M9 g ps (en t 0 j) i++Pw g ps i j).map (λo=>oP (o.cost (rg (T++[cQ g ps (rg T) (en t 0 j) i]))))=((M9 g ps (en t 0 j) i++Pw g ps i j).map (Op.cost (rg (T++[cQ g ps (rg T) (en t 0 j) i])))).map oP:=by rw [AB];rfl
  rw [em];have et:∀l:List OI,uw (l.map oP)=.ret (l.map oP):=λl=>mo (H0 _);simp only [et,gl,FX];have eD:R8 g ps (rg (T++[cQ g ps (rg T) (en t 0 j) i])) (en t 0 j) i=R8 g ps (rg T) (en t 0 j) i:=by
   revert gZ;cases en t 0 j with
   | word w=>intro _;rfl
   | pair a b=>
    intro Oa;refine Ci λd _=>?_;unfold vc;rw [Jc (by rw [eT];exact Oa.1),Jc (by rw [eT];exact Oa.2)]
  have eS:(Pw g ps i j).map (Op.cost (rg (T++[cQ g ps (rg T) (en t 0 j) i])))=Pt g ps (cQ g ps (rg T) (en t 0 j) i) i:=by
   unfold Pw Pt;rw [AB];refine Ci λu _=>?_;show tQ [am (GS g ps i),rg (T++[_]) j u]=_;rw [<- eT,Qh]
  have ĥ:rN ((M9 g ps (en t 0 j) i++Pw g ps i j).map (Op.cost (rg (T++[cQ g ps (rg T) (en t 0 j) i]))))=rN (R8 g ps (rg T) (en t 0 j) i++Pt g ps (cQ g ps (rg T) (en t 0 j) i) i):=by
   rw [AJ,eS];refine uG (List.Perm.append_right _ ?_);rw [<- eD];exact zb g ps _ _ i
  have em2:=VP ((M9 g ps (en t 0 j) i++Pw g ps i j).map (Op.cost (rg (T++[cQ g ps (rg T) (en t 0 j) i]))));simp only [ga] at em2;simp only [em2,gl];rw [ĥ];have ek:JB (.tup [.int (j:Int),.int (i:Int)])=.ret (kk j i):=rfl;have gn:cI (sh 0 (T++[cQ g ps (rg T) (en t 0 j) i])) (kk j i)=bm:=ZO _ _ _ λm n hm hn z=>by
   obtain⟨z1,z2⟩:=Hc z;rw [AG] at z1;subst z1 z2;rw [lu ∅,eT,C3] at hn;have hn:i < (cQ g ps (rg T) (en t 0 j) i).length:=hn;omega
  have hkl:(sh 0 (T++[cQ g ps (rg T) (en t 0 j) i])).length < sizeLine:=by
   rw [JA];have h1:∀x∈(T++[cQ g ps (rg T) (en t 0 j) i]).map BL,x<=300:=λx hx=>by
    obtain⟨r,hr,rfl⟩:=Av.mp hx;rcases A9.mp hr with hr | hr
    ·obtain⟨m,hm⟩:=Du hr;have ù:=(Ak.mp hm).1;have:=Wd.row m ∅;rw [Al,hm] at this;have:r.length=g.length:=this;omega
    ·rw [AW.mp hr];omega
   have h2:=Up h1;rw [Af,Ah,C8,eT] at h2;have h3:(j+1)*300<=401*300:=E2 _ ∅;have h4:(401*300:Nat) < sizeLine:=by decide
   omega
  unfold MK;simp only [ek,ga,mo hkl,Qr gn,gl];rw [cQ,nH,nH,zD,ò,AG,AG,eT,Ay]
theorem Ja (Wd:Wide g T n) (hg:g.length<=300) (hn:n<=400) {À:PV} (ht:oA dq [À]=.ret (.int (n:Int))):(dY (me g) À (xR (sh 0 T))).le (.ret (.tup (rP T))):=λQ q=>by
 unfold dY;have el:oA dq [me g]=.ret (.int (g.length:Int)):=by simp [me]
 simp only [ga,cr,ht,gl,de,mo (bh (i:=0) (j:=(n:Int)) ∅ ∅),A2];refine gD (λj s=>s=rP (T.take j)) (by simp [rP]) (λj s hj hs=>?_) (λs hs=>?_)
 ·subst hs;have Py:j < T.length:=by rw [Wd.len];exact hj
  simp only [el,ga,cr,gl,de,mo (bh (i:=0) (j:=(g.length:Int)) ∅ ∅),A2];rw [lj];refine fR (λi=>oP (rg T j i)) (λi hi Q q=>?_) ?_
  ·have hi:=AY.mp hi;have:=qL T 0 j i Py (by rw [Wd.row j hj];exact hi);rw [AG] at this;exact qN (k:=kk j i) this q
  ·have er:(AI g.length).map (λi=>oP (rg T j i))=(T.getD j []).map oP:=by
    apply B1;intro i;have hl:=Wd.row j hj;by_cases hi:i < g.length
    ·rw [Aj,BJ hi,Aj,Ad ∅];show am (oP ((T.getD j []).getD i bm))=_;rw [Al (l:=T.getD j []),Ad (show i < (T.getD j []).length by omega)];rfl
    ·rw [AO (by rw [Af,CF];omega),AO (by rw [Af,hl];omega)]
   have et:T.take (j+1)=T.take j++[T.getD j []]:=by rw [CJ,Al,Ad Py];rfl
   have hl:(rP (T.take j)).length<=j:=by unfold rP;rw [Af];exact DC _ _
   simp only [er,Oz,gl];rw [dr ∅];show _=_;rw [et];unfold rP;rw [AJ];rfl
 ·subst hs;rw [<- Wd.len,CK];exact q
def Wf (o:OI):iV (oP o) (oP o)=true:=by cases o <;> simp [oP,iV]
def uX (h:∀x∈l,iV x x=true):fD l l=true:=by
 induction l with
 | nil=>simp
 | cons a l ih=>rw [We,h a (.head _),ih λx hx=>h x (.tail _ hx)];rfl
def Ql (T:List (List OI)):iV (.tup (rP T)) (.tup (rP T))=true:=by
 rw [Tz];refine uX λx hx=>?_;obtain⟨r,_,rfl⟩:=Av.mp hx;rw [Tz];refine uX λy hy=>?_;obtain⟨o,_,rfl⟩:=Av.mp hy;exact Wf o
theorem Qg (r:List OI):PV.g8 (.tup (r.map oP))=true/\PV.eW (.tup (r.map oP))<=1:=by
 have h0:∀x∈r.map oP,PV.g8 x=true/\PV.eW x<=0:=λx hx=>by
  obtain⟨o,_,rfl⟩:=Av.mp hx;cases o <;> simp [oP]
 have h1:=gF (n:=0) λx hx=>(h0 x hx).2;simp only [PV.g8,PV.eW];exact⟨gE.mpr λx hx=>(h0 x hx).1,by omega⟩
theorem GO (T:List (List OI)):PV.g8 (.tup (rP T))=true/\PV.eW (.tup (rP T))<=2:=by
 have h0:∀x∈rP T,PV.g8 x=true/\PV.eW x<=1:=λx hx=>by
  obtain⟨r,_,rfl⟩:=Av.mp hx;exact Qg r
 have h1:=gF λx hx=>(h0 x hx).2;simp only [PV.g8,PV.eW];exact⟨gE.mpr λx hx=>(h0 x hx).1,by omega⟩
theorem Yp (T U:List (List OI)):HF (.tup (rP T)) (.tup (rP U)):=⟨(GO T).1,(GO U).1,by have:=(GO T).2;omega⟩
def SW (T:List (List OI)):of2 vV (.tup (rP T)) (.tup (rP T))=.ret (.bl false):=by rw [OC,mo (Yp T T),Ql];rfl
def zQ (T:List (List OI)):(bK (.tup (rP T)) (.tup (rP T))).le (.ret (.bl true)):=λQ q=>by
 unfold bK;simp only [ga,hE,JQ,cO,Cv,SW,bB,Au,if_false,aG,cr];refine xr (λ_ s=>s=()) rfl (λk x s hx hs=>?_) (λs hs=>?_)
 ·have hx:=Bh hx;obtain⟨r,_,rfl⟩:=Av.mp hx;have em:(bz (r.map oP) λp4=>ig .bool p4)=.ret ((r.map λ_=>false).map PV.bl):=by
   rw [zr (k:=λ_=>PV.bl false) λo _=>by cases o <;> rfl,AB];rfl
  have ea:Pd ((r.map λ_=>false).map PV.bl)=.ret (.bl false):=by
   rw [Sm,Fm];have:r.any (id∘λ_=>false)=false:=by rw [List.any_eq_false];intro x _;exact AX
   rw [this]
  simp only [ga,hE,JQ,cO,Cv,Au,if_false,aG,em,ea,gl]
 ·exact q
def yH (t:Tr):oA dq [.cl ((t.nd 0).map Ent.pv)]=.ret (.int (t.size:Int)):=by rw [e6,dW]
theorem law26_ok:∀ns:List Int,ns.length<=63->(nA (.cl (ns.map PV.int))).run (·=.bl true):=by
 intro ns hn;unfold nA;obtain⟨m,hm,m0,m1⟩:∃m:Nat,(ap ((PV.int 1)\λx3=>ap ((PV.int 3)\λx1=>ap (c1 dq (bd (PV.cl (ns.map PV.int)))) λx2=>oA LB [x1,x2]) λx4=>oA LC [x3,x4]) fJ)=.ret (iL 0 m)/\1<=m/\m<=3:=by
  simp only [ga,e6,Af,Wl,Wm];generalize hx:(if (if (ns.length:Int) < 3 then (ns.length:Int) else 3) > 1 then (if (ns.length:Int) < 3 then (ns.length:Int) else 3) else 1)=x;have h1:1<=x/\x<=3:=by rw [<- hx];split <;> split <;> omega
  refine⟨x.toNat,?_,by omega,by omega⟩;rw [de,mo (bh ∅ ∅)]
 rw [hm];simp only [ga,cr];refine Oj (λ_ s=>s=()) rfl (λk s hk hs=>?_) (λs hs=>rfl);refine N9 ∅ ∅ λl hl=>?_;refine⟨hl,?_⟩;simp only [ga,cr,gl,dc 4 ⋯ ⋯];refine bA λd d0 d1=>?_;obtain⟨n,m,hs,n0,n1,m0,m1⟩:∃n m:Int,dH [PV.tup [.int 5,.int 6],.tup [.int 5,.int 6],.tup [.int 8,.int 6],.tup [.int 8,.int 10]] d=am (.tup [.int n,.int m])/\0 < n/\n<=8/\0 < m/\m<=10:=by
  have:d=0\/d=1\/d=2\/d=3:=by omega
  rcases this with rfl | rfl | rfl | rfl
  ·exact⟨5,6,rfl,by decide⟩
  ·exact⟨5,6,rfl,by decide⟩
  ·exact⟨8,6,rfl,by decide⟩
  ·exact⟨8,10,rfl,by decide⟩
 have s0:dH [PV.int n,PV.int m] 0=am (.int n):=rfl;have s1:dH [PV.int n,PV.int m] 1=am (.int m):=rfl;simp only [cA,hs,wT,gl,aG,s0,s1];refine O2 n0 n1 m0 m1 λg ws t ps G _ tl p4 p0=>?_;have hz:t.size<=400:=by have:=t.size_eq;omega
 simp only [Oy,gl];refine W.le.use (zE G p4 hz) ?_;refine W.le.use (Ja (iA g ps (t.nd 0) t.size) G.len hz (yH t)) ?_;refine rD λqs q4 _=>?_;refine W.le.use (q8 G p4 hz) ?_;refine W.le.use (zQ _) ?_;simp only [cO,gl,Cv,Au,if_false,cr];refine W.le.use (zE G q4 hz) ?_;refine W.le.use (Ja (iA g qs (t.nd 0) t.size) G.len hz (yH t)) ?_;refine W.le.use (q8 G q4 hz) ?_;refine W.le.use (zQ _) ?_;simp only [cO,gl,Cv,Au,if_false,cr];refine W.le.use (q8 G p4 hz) ?_;simp only [SW,gl,bB,Au,if_false]
end My
variable {IG yJ Ma II IH L9 ux Mb:PySem.Tok}{qO:BB}
namespace My
section
open PySem PySem.Spec PyProof.Rows L2 PL FL
def top (i:Nat):sn:=PySem.Challenge.pw_treewithin_k26_tables_by_sums.main.body.getD i (.Pass ⟨0,0,0,0⟩)
def gR:ao ["tree","backward","waiting","part"] ["tree"] (af (top 1)):=gJ
def iB:ao ["tree","told","loose","part","other","one"] ["tree"] (af (top 2)):=gJ
def Kq:ao ["node"] ["node"] (af (top 3)):=gJ
abbrev tI:List Str:=["tree","told","node","ahead","number","half"]
def dU:ao tI ["tree"] (af (top 4)):=gJ
abbrev sd:pr:=qe [("node",lo)]
def lX:aw (af (top 4)) tI sd ["node"] [bm]:=lcs
def yO:ao ["stays","stay"] ["stays","stay"] (af (top 9)):=gJ
def vJ:ao ["stays","stay"] ["stays","stay"] (af (top 10)):=gJ
def GK:ao ["stays","stay","word"] ["stays","stay","word"] (af (top 11)):=gJ
def GJ:ao ["houses","house"] ["houses","house"] (af (top 12)):=gJ
abbrev tG:List Str:=["great","ahead","house","lines","above"]
def fj:ao tG ["great"] (af (top 13)):=gJ
abbrev rV:pr:=qe [("house",lo)]
def lT:aw (af (top 13)) tG rV ["house"] [bm]:=lcs
abbrev oq:List Str:=["lines","house"]
def tT:ao oq ["lines","house"] (af (top 14)):=gJ
abbrev oY:pr:=qe [("far",lo),("house",fr),("lines",fr)]
def jU:aw (af (top 14)) oq oY ["far","house","lines"] [bm,am 1,am 0]:=lcs
abbrev Gg:List Str:=["great","houses","lines"]
def oK:ao Gg ["great"] (af (top 15)):=gJ
abbrev v5:pr:=qe [("house",lo),("name_of",gi),("halves",gi),("apart_from",gi),("houses",fr),("lines",fr)]
def pK:aw (af (top 15)) Gg v5 ["house","houses","lines"] [bm,am 1,am 2]:=lcs
def mZ:ao ["ground","stay","under"] ["ground","stay"] (af (top 22)):=gJ
abbrev mN:List Str:=["ground","stay","beside"]
def pH:ao mN ["ground","stay"] (af (top 23)):=gJ
abbrev rT:pr:=qe [("far",lo),("stay",fr)]
abbrev rS:pr:=qe [("far",lo),("stay",fr)]
def lS:aw (af (top 23)) mN rT ["far","stay"] [bm,am 1]:=lcs
def lR:aw (af (top 23)) mN rS ["far","stay"] [bm,am 1]:=lcs
abbrev mO:List Str:=["ground","node","stay","split","over"]
def kl:ao mO ["ground","node","stay"] (af (top 24)):=gJ
abbrev rY:pr:=qe [("ins",lo),("SPLIT",gi)]
abbrev rX:pr:=qe [("ins",lo),("OVER",gi)]
def lV:aw (af (top 24)) mO rY ["ins"] [bm]:=lcs
def lU:aw (af (top 24)) mO rX ["ins"] [bm]:=lcs
def Kp:ao ["costs"] ["costs"] (af (top 27)):=gJ
abbrev tH:List Str:=["costs"]
def yQ:ao tH ["costs"] (af (top 28)):=gJ
abbrev rZ:pr:=qe [("cost",lo)]
def lW:aw (af (top 28)) tH rZ ["cost"] [bm]:=lcs
def yP:ao ["prices","deed"] ["prices","deed"] (af (top 29)):=gJ
abbrev pU:List Str:=["prices","rows","node","deed","onward"]
def m4:ao pU ["prices","rows","node","deed"] (af (top 30)):=gJ
abbrev qc:pr:=qe [("half",lo),("stay",lo),("rows",fr)]
def gr:aw (af (top 30)) pU qc ["half","stay","rows"] [bm,bm,am 1]:=lcs
abbrev oo:List Str:=["ground","prices","rows","node","stay"]
def tS:ao oo ["ground","prices","rows","node","stay"] (af (top 31)):=gJ
abbrev oX:pr:=qe [("deed",lo),("deed_cost",gi),("node",fr),("prices",fr),("rows",fr)]
def jT:aw (af (top 31)) oo oX ["deed","node","prices","rows"] [bm,am 3,am 1,am 2]:=lcs
def vI:ao ["ground","prices","stay"] ["ground","prices","stay"] (af (top 32)):=gJ
abbrev om:List Str:=["ground","prices","row","stay","own"]
def lO:ao om ["ground","prices","row","stay"] (af (top 33)):=gJ
abbrev oW:pr:=qe [("below",lo),("summed",gi),("own",fr),("row",fr)]
def jS:aw (af (top 33)) om oW ["below","own","row"] [bm,am 4,am 2]:=lcs
def kZ:ao ["ground","prices","rows","node","row","stay","costs"] ["ground","prices","rows","node"] (af (top 34)):=gJ
def rm:ao ["ground","small","prices","rows","node"] ["ground","small","prices"] (af (top 35)):=gJ
abbrev ml:List Str:=["houses","dates"]
def rq:ao ml ["houses","dates"] (af (top 37)):=gJ
abbrev nB:pr:=qe [("house",lo),("date",lo),("isinstance",gi),("str",gi)]
def eR:aw (af (top 37)) ml nB ["house","date"] [bm,bm]:=lcs
def cT:ao ["great","dates","begins","ahead","pairs","number","begin","house","date"] ["great","dates","begins"] (af (top 38)):=gJ
abbrev pC:List Str:=["houses","dates","begins","numbers","pair","house","layer","goes_on","below","under","beside"]
def dN:ao pC ["houses","dates","begins","numbers","pair"] (af (top 39)):=gJ
abbrev tY:pr:=qe [("each",lo),("layer",fr),("numbers",fr)]
abbrev tX:pr:=qe [("far",lo),("house",fr),("layer",fr),("numbers",fr)]
def nF:aw (af (top 39)) pC tY ["each","layer","numbers"] [bm,am 6,am 3]:=lcs
def nC:aw (af (top 39)) pC tX ["far","house","layer","numbers"] [bm,am 5,am 6,am 3]:=lcs
abbrev yt:List Str:=["great","dates","houses","begins","pairs","numbers"]
def km:ao yt ["great","dates"] (af (top 40)):=gJ
abbrev zw:pr:=qe [("number",lo),("pair",lo)]
abbrev zv:pr:=qe [("pair",lo),("stay_of",gi),("begins",fr),("dates",fr),("houses",fr),("numbers",fr)]
def mx:aw (af (top 40)) yt zw ["number","pair"] [bm,bm]:=lcs
def se:aw (af (top 40)) yt zv ["pair","begins","dates","houses","numbers"] [bm,am 3,am 1,am 2,am 5]:=lcs
def i9:ao ["_law_script","_law_k","_law_cell","_law_great_here"] ["_law_script","_law_k"] (af (top 42)):=gJ
def m5:ao ["_law_hand_here","_law_many","_law_digit"] ["_law_hand_here","_law_many"] (af (top 43)):=gJ
def vK:ao ["_law_hand_here","_law_some"] ["_law_hand_here","_law_some"] (af (top 44)):=gJ
abbrev ou:List Str:=["_law_hand_here","_law_many","_law_letters","_law_first","_law_turn","_law_tail"]
def dz:ao ou ["_law_hand_here","_law_many"] (af (top 45)):=gJ
abbrev oZ:pr:=qe [("_law_k",lo),("_law_first",fr),("_law_letters",fr),("_law_tail",fr),("_law_turn",fr)]
def jV:aw (af (top 45)) ou oZ ["_law_k","_law_first","_law_letters","_law_tail","_law_turn"] [bm,am 3,am 2,am 5,am 4]:=lcs
def cf:ao ["_law_hand_here","_law_some","_law_turn","_law_one","_law_at","_law_pair"] ["_law_hand_here","_law_some"] (af (top 46)):=gJ
def lQ:ao ["_law_hand_here","_law_most","_law_words_here"] ["_law_hand_here","_law_most"] (af (top 47)):=gJ
abbrev oy:List Str:=["_law_hand_here","_law_words_here","_law_most","_law_some"]
def lP:ao oy ["_law_hand_here","_law_words_here","_law_most"] (af (top 48)):=gJ
abbrev o5:pr:=qe [("_law_k",lo),("_law_pick",gi),("_law_hand_here",fr),("_law_words_here",fr)]
def jX:aw (af (top 48)) oy o5 ["_law_k","_law_hand_here","_law_words_here"] [bm,am 0,am 1]:=lcs
def dA:ao ["_law_tree","_law_one","_law_other","_law_shifted","_law_node"] ["_law_tree"] (af (top 49)):=gJ
abbrev oz:List Str:=["_law_hand_here","_law_great_here","_law_houses","_law_found","_law_date","_law_at","_law_waiting","_law_turn","_law_free"]
def aZ:ao oz ["_law_hand_here","_law_great_here"] (af (top 50)):=gJ
abbrev o8:pr:=qe [("_law_at",lo),("_law_house",lo),("isinstance",gi),("str",gi)]
def fC:aw (af (top 50)) oz o8 ["_law_at","_law_house"] [bm,bm]:=lcs
def tU:ao ["_law_hand_here","_law_great_here"] ["_law_hand_here","_law_great_here"] (af (top 51)):=gJ
def cU:ao ["_law_hand_here","_law_found","_law_k","_law_some"] ["_law_hand_here"] (af (top 52)):=gJ
def ba:ao ["_law_stays_here","_law_told","_law_node","_law_at","_law_name","_law_piece","_law_under","_law_beside","_law_one","_law_other","_law_found","_law_to"] ["_law_stays_here","_law_told","_law_node","_law_at"] (af (top 53)):=gJ
abbrev ox:List Str:=["_law_stays_here","_law_node","_law_at","_law_under","_law_place"]
def ib:ao ox ["_law_stays_here","_law_node","_law_at"] (af (top 54)):=gJ
abbrev o4:pr:=qe [("_law_below",lo),("_law_node",fr),("_law_place",fr)]
def jW:aw (af (top 54)) ox o4 ["_law_below","_law_node","_law_place"] [bm,am 1,am 4]:=lcs
def eY:ao ["_law_prices_here","_law_known_here","_law_option","_law_total","_law_entry"] ["_law_prices_here","_law_known_here","_law_option"] (af (top 55)):=gJ
abbrev jQ:List Str:=["_law_stays_here","_law_told","_law_prices_here","_law_known_here","_law_node","_law_at","_law_some","_law_costs"]
def bu:ao jQ ["_law_stays_here","_law_told","_law_prices_here"] (af (top 56)):=gJ
abbrev o7:pr:=qe [("_law_option",lo),("_law_worth",gi),("_law_known_here",fr),("_law_prices_here",fr)]
abbrev o6:pr:=qe [("_law_cost",lo)]
def jZ:aw (af (top 56)) jQ o7 ["_law_option","_law_known_here","_law_prices_here"] [bm,am 3,am 2]:=lcs
def jY:aw (af (top 56)) jQ o6 ["_law_cost"] [bm]:=lcs
abbrev pV:List Str:=["_law_stays_here","_law_told","_law_known_here","_law_found","_law_node"]
def i8:ao pV ["_law_stays_here","_law_told","_law_known_here"] (af (top 57)):=gJ
abbrev qd:pr:=qe [("_law_at",lo),("_law_known_here",fr),("_law_node",fr)]
def kx:aw (af (top 57)) pV qd ["_law_at","_law_known_here","_law_node"] [bm,am 2,am 4]:=lcs
def d6:ao ["_law_hand_here","_law_great_most","_law_small_most","_law_great_here","_law_words_here","_law_stays_here","_law_small_here"] ["_law_hand_here","_law_great_most","_law_small_most"] (af (top 58)):=gJ
abbrev j7:List Str:=["_law_found","_law_due","_law_row"]
def iC:ao j7 ["_law_found","_law_due"] (af (top 59)):=gJ
abbrev lK:pr:=qe [("_law_one",lo),("isinstance",gi),("bool",gi)]
def gs:aw (af (top 59)) j7 lK ["_law_one"] [bm]:=lcs
def gc:ao ["_law_script","_law_k","_law_hand_here","_law_sizes","_law_stays_here","_law_small_here","_law_told","_law_prices_here","_law_due","_law_other","_law_its"] ["_law_script"] (af (top 60)):=gJ
structure NB (v:EV):Prop where
 isinstance:v.mg "isinstance"=bm
 str:v.mg "str"=bm
 list:v.mg "list"=bm
 reversed:v.mg "reversed"=bm
 len:v.mg "len"=bm
 tuple:v.mg "tuple"=bm
 enumerate:v.mg "enumerate"=bm
 range:v.mg "range"=bm
 sorted:v.mg "sorted"=bm
 sum:v.mg "sum"=bm
 min:v.mg "min"=bm
 zip:v.mg "zip"=bm
 dict:v.mg "dict"=bm
 abs:v.mg "abs"=bm
 int:v.mg "int"=bm
 bool:v.mg "bool"=bm
 any:v.mg "any"=bm
 max:v.mg "max"=bm
variable {v:EV}
abbrev mE:DF:=⟨"parts_of",top 1,["tree"],1,λK=>fi K [.v] (cq 1 jl)⟩
def Hg (D:DI v mE) (q:NB v):D.O:=
 Vp (m:=jl) D gR λcK _ _ _ _ _ _ hr=>
 (sl 1 gR.nd (aN (n:=0) ai rfl) λmM=>
 (sl 2 gR.nd (aN (n:=1) (aa (ae 0) ai) rfl) λoC=>
 (SF.XJ (hd:=(λ(s4:List PV×List PV)=>([am (.val cK),am (.ol bm s4.1),am (.ol bm s4.2),bm]:bb))) (s0:=(mM,oC)) AH (.refl _) (λs4=>(XS rfl (cg 2) (λ_=>rfl))) (λs4=>
 (SF.GQ 2 3 rfl ⋯ rfl rfl (.inl rfl) gR.nd rfl (CZ rfl) λt7=>
 (SF.append 1 rfl rfl rfl (.inl rfl) (ae 3) λmL=>
 (SF.Zg (pE (fh rfl (iP rfl .str rfl q.isinstance (ae 3) rfl q.str wS) (λ_=>rfl)))
 (SF.extend 2 rfl rfl rfl (.inl rfl) (aB (ae 3)) λqW=>
 (SF.fP rfl (.keep (.keep (.keep (.drop (.refl _)))))))
 (SF.fP rfl (.keep (.keep (.keep (.drop (.refl _)))))))))) λs4=>
 (SF.gT (Y4 rfl rfl rfl q.list rfl q.reversed (MJ 1)) λ_=>rfl))))
abbrev lA:DF:=⟨"nodes",top 2,["tree"],2,λK=>gI K [.v] (cq 1 gY)⟩
def Ro (D:DI v lA) (q:NB v) (Hx:mE.C v):D.O:=
 pZ (m:=gY) D iB λcK _ _ _ _ _ _ hr=>
 (sl 1 iB.nd (aN (n:=0) ai rfl) λiY=>
 (sl 2 iB.nd (aN (n:=0) ai rfl) λv8=>
 (SF.pw (hd:=(λ(s4:List PV×List PV)=>([am (.val cK),am (.ol bm s4.1),am (.ol bm s4.2),bm,bm,bm]:bb))) (s0:=(iY,v8)) AH rfl (bI rfl (JH (lC Hx hr (aa (ae 0) ai)))) (.refl _) (du 3 iB.nd) (λs4 vQ=>
 (SF.ifS (out1:=λ(Uw:List PV×List PV)=>.nx ([am (.val cK),am (.ol bm Uw.1),am (.ol bm Uw.2),am (.val vQ),bm,bm]:bb)) (fh rfl (iP rfl .str rfl q.isinstance (ae 3) rfl q.str wS) (λ_=>rfl))
 (SF.append 1 rfl rfl rfl (.inl rfl) (ae 3) λID=>
 (SF.nil rfl (.refl _)))
 (SF.GQ 2 4 rfl ⋯ rfl rfl (.inl rfl) iB.nd rfl (CZ rfl) λt20=>
 (SF.GQ 2 5 rfl ⋯ rfl rfl (.inl rfl) iB.nd rfl (CZ rfl) λt22=>
 (SF.append 1 rfl rfl rfl (.inl rfl) (ay (n:=2) (aa (ae 5) (aa (ae 4) ai)) rfl) λIC=>
 (SF.nil rfl (.keep (.keep (.keep (.keep (.drop (.drop (.refl _)))))))))))
 λUw=>(SF.append 2 rfl rfl rfl (.inl rfl) (u0 (sT rfl rfl q.len (cg 1)) ak) λzx=>
 (SF.fP rfl (.keep (.keep (.keep (.drop (.refl _))))))))) λs4=>
 (SF.dh (df rfl rfl q.tuple (cg 1)) λ_=>rfl))))
abbrev iQ:DF:=⟨"halves",top 3,["node"],1,λK=>gI K [.v] (cq 1 cz)⟩
def NH (D:DI v iQ) (q:NB v):D.O:=
 pZ (m:=cz) D Kq λbW _ _ _ _ _ _ hr=>
 (SF.dh (qm (fh rfl (iP rfl .str rfl q.isinstance (ae 0) rfl q.str wS) (λ_=>rfl)) (ay (n:=0) ai rfl) (ae 0)) λ_=>rfl)
abbrev jB:DF:=⟨"ahead_of",top 4,["tree"],3,λK=>gI K [.v] (cq 1 eQ)⟩
def Hl (D:DI v jB) (q:NB v) (jr:lA.C v) (gC:iQ.C v):D.O:=
 pZ (m:=eQ) D dU λcK _ _ _ _ _ _ hr=>
 (sv 1 dU.nd (eC jr hr (aa (ae 0) ai)) λiY=>
 (SF.mX (i:=3) rfl dU.nd rfl rfl lX (bI rfl (bO (ae 1))) (λ_ _ _ _ _=>(du 0 lX.nd)) (λ_ _ _ _ _ p5=>iO) rfl λxZ=>
 (SF.Wb (hd:=(λ(s7:List PV)=>([am (.val cK),am (.val iY),bm,am (.ol bm s7),bm,bm]:bb))) (s0:=xZ) AH rfl (nJ rfl rfl q.enumerate (bO (ae 1))) (.refl _) (λ_=>(PC rfl (fB rfl (aH (du 4 dU.nd) (aH (du 2 dU.nd) dJ))))) (λs7 t9=>
 (SF.pw (hd:=(λ(Ux:List PV)=>([am (.val cK),am (.val iY),am (.val t9.2),am (.ol bm Ux),am (.val t9.1),bm]:bb))) (s0:=s7) AH rfl (bI rfl (bO (eC gC hr (aa (ae 2) ai)))) (.refl _) (du 5 dU.nd) (λUx JI=>
 (SF.GI 3 rfl rfl (.inl rfl) (ae 4) (ae 5) λF2=>
 (SF.fP rfl (.keep (.keep (.keep (.keep (.keep (.drop (.refl _)))))))))) λUx=>
 (SF.fP rfl (.keep (.keep (.drop (.keep (.drop (.refl _))))))))) λs7=>
 (SF.dh (df rfl rfl q.tuple (cg 3)) λ_=>rfl))))
abbrev eX:DF:=⟨"under_at",top 9,["stays","stay"],1,λK=>gI K [.v,.v] (cq 2 cV)⟩
def Hd (D:DI v eX) (nX:v.mg "UNDER"=am (.int 2 IG)):D.O:=
 vX (m:=cV) D yO λiZ bg _ _ _ _ _ _ hr=>
 (SF.dh (aV rfl (aB (aV rfl (aB (ae 0)) (ae 1))) (xD nX rfl)) λ_=>rfl)
abbrev kK:DF:=⟨"beside_at",top 10,["stays","stay"],1,λK=>gI K [.v,.v] (cq 2 ft)⟩
def zJ (D:DI v kK) (kQ:v.mg "BESIDE"=am (.int 3 yJ)):D.O:=
 vX (m:=ft) D vJ λiZ bg _ _ _ _ _ _ hr=>
 (SF.dh (aV rfl (aB (aV rfl (aB (ae 0)) (ae 1))) (xD kQ rfl)) λ_=>rfl)
abbrev pA:DF:=⟨"is_home",top 11,["stays","stay","word"],2,λK=>gI K [.v,.v,.v] (cq 3 iJ)⟩
def KZ (D:DI v pA) (tq:v.mg "NAME"=am (.int 0 Ma)) (dR:eX.C v):D.O:=
 KD (m:=iJ) D GK λiZ bg SM _ _ _ _ _ _ hr=>
 (SF.dh (aah (JT (kz rfl (a6 hr)) (eC dR hr (aa (ae 0) (aa (ae 1) ai))) (ay (n:=0) ai rfl)) (aaa (JT (kz rfl (a6 hr)) (aV rfl (aB (aV rfl (aB (ae 0)) (ae 1))) (xD tq rfl)) (ae 2)))) λ_=>rfl)
abbrev lB:DF:=⟨"name_of",top 12,["houses","house"],1,λK=>gI K [.v,.v] (cq 2 dX)⟩
def KY (D:DI v lB) (q:NB v):D.O:=
 vX (m:=dX) D GJ λeZ kD _ _ _ _ _ _ hr=>
 (SF.dh (qm (fh rfl (iP rfl .str rfl q.isinstance (aV rfl (aB (ae 0)) (ae 1)) rfl q.str wS) (λ_=>rfl)) (aV rfl (aB (ae 0)) (ae 1)) (ae 1)) λ_=>rfl)
abbrev mG:DF:=⟨"lines_up",top 13,["great"],4,λK=>fi K [.v] (cq 1 gm)⟩
def Hi (D:DI v mG) (q:NB v) (mz:jB.C v):D.O:=
 Vp (m:=gm) D fj λdj _ _ _ _ _ _ hr=>
 (sv 1 fj.nd (eC mz hr (aa (ae 0) ai)) λdM=>
 (SF.mX (i:=3) rfl fj.nd rfl rfl lT (bI rfl (bO (ae 1))) (λ_ _ _ _ _=>(du 0 lT.nd)) (λ_ _ _ _ _ p5=>(ay (n:=0) ai rfl)) rfl λlh=>
 (SF.pw (hd:=(λ(s9:List PV)=>([am (.val dj),am (.val dM),bm,am (.ol bm s9),bm]:bb))) (s0:=lh) AH rfl (Rv rfl q.range (u0 (dG rfl rfl q.len (ae 1)) ak) (OQ ak) (OQ ak)) (.refl _) (du 2 fj.nd) (λs9 kC=>
 (sv 4 fj.nd (qm (cS wN (aV rfl (aB (ae 1)) (ae 2)) iO) (ay (n:=0) ai rfl) (aV rfl (cg 3) (aV rfl (aB (ae 1)) (ae 2)))) λF3=>
 (SF.GI 3 rfl rfl (.inl rfl) (cJ rfl (ay (n:=1) (aa (ae 2) ai) rfl) (ae 4)) (ae 2) λzA=>
 (SF.fP rfl (.keep (.keep (.drop (.keep (.drop (.refl _)))))))))) λs9=>
 (SF.UA 3 rfl rfl))))
abbrev jA:DF:=⟨"apart_from",top 14,["lines","house"],1,λK=>gI K [.v,.v] (cq 2 eA)⟩
def wB (D:DI v jA) (q:NB v):D.O:=
 vX (m:=eA) D tT λwd kD _ _ _ _ _ _ hr=>
 (SF.dh (df rfl rfl q.tuple (rB (Nw rfl jU (c9 rfl q.range (dG rfl rfl q.len (ae 0))) (λ_ _ _ _ _=>(du 0 jU.nd)) (λ_ _ _ _ _ p3=>(Gf.t (oE (vC rfl (a6 hr) (ae 0) (aB (aV rfl (aB (ae 2)) (ae 1)))) (kW (vC rfl (a6 hr) (ae 1) (aB (aV rfl (aB (ae 2)) (ae 0)))))))) (λ_ _ _ _ _ p3=>(ae 0)) rfl))) λ_=>rfl)
abbrev sY:DF:=⟨"ground",top 15,["great"],5,λK=>gI K [.v] (cq 1 ku)⟩
def NI (D:DI v sY) (q:NB v) (jr:lA.C v) (Hz:mG.C v) (pq:lB.C v) (gC:iQ.C v) (xa:jA.C v):D.O:=
 pZ (m:=ku) D oK λdj _ _ _ _ _ _ hr=>
 (sv 1 oK.nd (eC jr hr (aa (ae 0) ai)) λbr=>
 (sl 2 oK.nd (lC Hz hr (aa (ae 0) ai)) λlh=>
 SF.cx 2 rfl (SF.dh (df rfl rfl q.tuple (rB (gw rfl pK (c9 rfl q.range (dG rfl rfl q.len (ae 1))) (λ_ _ _ _ _=>(du 0 pK.nd)) (λ_ _ _ _ _ p7=>(ay (n:=4) (aa (eC pq hr (aa (ae 1) (aa (ae 0) ai))) (aa ak (aa (eC gC hr (aa (aV rfl (aB (ae 1)) (ae 0)) ai)) (aa (eC xa hr (aa (ae 2) (aa (ae 0) ai))) ai)))) rfl)) rfl))) λ_=>rfl)))
abbrev kI:DF:=⟨"split_ins",top 22,["ground","stay"],2,λK=>fi K [.v,.v] (cq 2 fq)⟩
def zH (D:DI v kI) (q:NB v) (dR:eX.C v):D.O:=
 Q5 (m:=fq) D mZ λaO bg _ _ _ _ _ _ hr=>
 (sv 2 mZ.nd (eC dR hr (aa (ae 0) (aa (ae 1) ai))) λfK=>
 (SF.gT (Vz (cS (kz rfl (a6 hr)) (dG rfl rfl q.len (ae 2)) ak) (aN (n:=2) (aa (ae 2) (aa (ay (n:=2) (aa (aV rfl (aB (ae 2)) ak) (aa (aV rfl (aB (ae 2)) ak) ai)) rfl) ai)) rfl) (aN (n:=0) ai rfl)) λ_=>rfl))
abbrev mF:DF:=⟨"over_ins",top 23,["ground","stay"],2,λK=>fi K [.v,.v] (cq 2 gk)⟩
def Hh (D:DI v mF) (zV:kK.C v):D.O:=
 Q5 (m:=gk) D pH λaO bg _ _ _ _ _ _ hr=>
 (sv 2 pH.nd (eC zV hr (aa (ae 0) (aa (ae 1) ai))) λtw=>
 (SF.gT (lZ rfl (cF (gw rfl lS (bI rfl (bO (ae 2))) (λ_ _ _ _ _=>(du 0 lS.nd)) (λ_ _ _ _ _ p5=>(ay (n:=2) (aa (ae 1) (aa (ae 0) ai)) rfl)) rfl)) (cF (gw rfl lR (bI rfl (bO (ae 2))) (λ_ _ _ _ _=>(du 0 lR.nd)) (λ_ _ _ _ _ p9=>(ay (n:=2) (aa (ae 0) (aa (ae 1) ai)) rfl)) rfl))) λ_=>rfl))
abbrev mH:DF:=⟨"deeds_at",top 24,["ground","node","stay"],3,λK=>fi K [.v,.v,.v] (cq 3 eO)⟩
def Hj (D:DI v mH) (q:NB v) (nZ:v.mg "FOUND"=am (.str "found" II)) (nY:v.mg "SPLIT"=am (.str "split" IH)) (tm:v.mg "OVER"=am (.str "over" L9)) (iR:v.mg "DOUBLED"=am (.str "doubled" ux)) (Lf:pA.C v) (zT:kI.C v) (Hy:mF.C v):D.O:=
 Vo (m:=eO) D kl λaO bW bg _ _ _ _ _ _ hr=>
 (SF.RC (fh rfl (iP rfl .str rfl q.isinstance (ae 1) rfl q.str wS) (λ_=>rfl))
 (SF.gT (Vz (fh rfl (eC Lf hr (aa (ae 0) (aa (ae 2) (aa (ae 1) ai)))) (λ_=>rfl)) (aN (n:=1) (aa (ay (n:=2) (aa (xC nZ rfl) (aa (ay (n:=0) ai rfl) ai)) rfl) ai) rfl) (aN (n:=0) ai rfl)) λ_=>rfl)
 (SF.mX (i:=3) rfl kl.nd rfl rfl lV (bI rfl (JH (lC zT hr (aa (ae 0) (aa (ae 2) ai))))) (λ_ _ _ _ _=>(du 0 lV.nd)) (λ_ _ _ _ _ ë=>(ay (n:=2) (aa (xC nY rfl) (aa (ae 0) ai)) rfl)) rfl λIT=>
 SF.cx 3 rfl (SF.mX (i:=4) rfl kl.nd rfl rfl lU (bI rfl (JH (lC Hy hr (aa (ae 0) (aa (ae 2) ai))))) (λ_ _ _ _ _=>(du 0 lU.nd)) (λ_ _ _ _ _ p18=>(ay (n:=2) (aa (xC tm rfl) (aa (ae 0) ai)) rfl)) rfl λJk=>
 SF.cx 4 rfl (SF.gT (Rf rfl (a6 hr) rfl q.sorted (cF (lZ rfl (cF (lZ rfl (cF (aN (n:=1) (aa (ay (n:=2) (aa (xC iR rfl) (aa (ay (n:=2) (aa (ae 2) (aa (ae 2) ai)) rfl) ai)) rfl) ai) rfl)) (jb (ae 3)))) (jb (ae 4))))) λ_=>rfl))))
abbrev nW:DF:=⟨"summed",top 27,["costs"],1,λK=>gI K [.v] (cq 1 iH)⟩
def ND (D:DI v nW) (q:NB v):D.O:=
 pZ (m:=iH) D Kp λpB _ _ _ _ _ _ hr=>
 (SF.dh (qm (XW rfl (a6 hr) iO (aB (ae 0))) iO (Wq rfl rfl rfl q.sum (jb (ae 0)))) λ_=>rfl)
abbrev mI:DF:=⟨"cheapest",top 28,["costs"],1,λK=>gI K [.v] (cq 1 gp)⟩
def Hk (D:DI v mI) (q:NB v):D.O:=
 pZ (m:=gp) D yQ λpB _ _ _ _ _ _ hr=>
 (SF.dh (Wu rfl rfl rfl q.min (cF (Nw rfl lW (bI rfl (bO (ae 0))) (λ_ _ _ _ _=>(du 0 lW.nd)) (λ_ _ _ _ _ p2=>(cS JD (ae 0) iO)) (λ_ _ _ _ _ p2=>(ae 0)) rfl))) λ_=>rfl)
abbrev mD:DF:=⟨"price_of",top 29,["prices","deed"],1,λK=>gI K [.v,.v] (cq 2 dP)⟩
def Hf (D:DI v mD) (lE:v.mg "DEEDS"=am (.ref qO)) (qH:Ph v.K qO ["split","doubled","over"]):D.O:=
 vX (m:=dP) D yP λa7 sV _ _ _ _ _ _ hr=>
 (SF.dh (qm (XU rfl (a6 hr) (ae 1) lE qH) (aV rfl (aB (ae 0)) (Wv rfl (ae 1) lE qH)) ak) λ_=>rfl)
abbrev kJ:DF:=⟨"deed_cost",top 30,["prices","rows","node","deed"],2,λK=>gI K [.v,.v,.v,.v] (cq 4 cW)⟩
def zI (D:DI v kJ) (q:NB v) (gC:iQ.C v) (sF:nW.C v) (Hw:mD.C v):D.O:=
 YX (m:=cW) D m4 λa7 m6 bW sV _ _ _ _ _ _ hr=>
 (SF.I0 (i:=4) rfl m4.nd rfl rfl gr (NS rfl rfl q.zip (bO (eC gC hr (aa (ae 2) ai))) (bO (aV rfl (aB (ae 3)) ak))) (λ_ _ _ _ _=>(PC rfl (fB rfl (aH (du 0 gr.nd) (aH (du 1 gr.nd) dJ))))) (λ_ _ _ _ _ t7=>(aV rfl (aB (aV rfl (aB (ae 2)) (ae 0))) (ae 1))) (Rb rfl rfl ⋯) ⋯ λzc=>
 SF.cx 4 rfl (SF.dh (eC sF hr (aa (gG (lZ rfl (cF (aN (n:=1) (aa (eC Hw hr (aa (ae 0) (aa (aV rfl (aB (ae 3)) ak) ai))) ai) rfl)) (jb (ae 4)))) ai)) λ_=>rfl))
abbrev jz:DF:=⟨"deed_costs",top 31,["ground","prices","rows","node","stay"],4,λK=>fi K [.v,.v,.v,.v,.v] (cq 5 eg)⟩
def wA (D:DI v jz) (HA:mH.C v) (zU:kJ.C v):D.O:=
 acM (m:=eg) D tS λaO a7 m6 bW bg _ _ _ _ _ _ hr=>
 (SF.gT (gw rfl jT (bI rfl (JH (lC HA hr (aa (ae 0) (aa (ae 3) (aa (ae 4) ai)))))) (λ_ _ _ _ _=>(du 0 jT.nd)) (λ_ _ _ _ _ p5=>(eC zU hr (aa (ae 2) (aa (ae 3) (aa (ae 1) (aa (ae 0) ai)))))) rfl) λ_=>rfl)
abbrev kH:DF:=⟨"step_cost",top 32,["ground","prices","stay"],2,λK=>gI K [.v,.v,.v] (cq 3 fo)⟩
def zG (D:DI v kH) (q:NB v) (tu:v.mg "LOST"=am (.int 3 Mb)) (dR:eX.C v):D.O:=
 KD (m:=fo) D vI λaO a7 bg _ _ _ _ _ _ hr=>
 (SF.dh (qm (cS (kz rfl (a6 hr)) (dG rfl rfl q.len (eC dR hr (aa (ae 0) (aa (ae 2) ai)))) ak) (aV rfl (aB (ae 1)) (xD tu rfl)) ak) λ_=>rfl)
abbrev jy:DF:=⟨"step_costs",top 33,["ground","prices","row","stay"],3,λK=>fi K [.v,.v,.v,.v] (cq 4 d9)⟩
def wx (D:DI v jy) (zS:kH.C v) (dR:eX.C v) (sF:nW.C v):D.O:=
 YY (m:=d9) D lO λaO a7 Yk bg _ _ _ _ _ _ hr=>
 (sv 4 lO.nd (eC zS hr (aa (ae 0) (aa (ae 1) (aa (ae 3) ai)))) λS2=>
 (SF.gT (gw rfl jS (bI rfl (bO (eC dR hr (aa (ae 0) (aa (ae 3) ai))))) (λ_ _ _ _ _=>(du 0 jS.nd)) (λ_ _ _ _ _ p8=>(eC sF hr (aa (gG (aN (n:=2) (aa (ae 1) (aa (aV rfl (aB (ae 2)) (ae 0)) ai)) rfl)) ai))) rfl) λ_=>rfl))
abbrev sX:DF:=⟨"row_of",top 34,["ground","prices","rows","node"],5,λK=>gI K [.v,.v,.v,.v] (cq 4 kr)⟩
def NF (D:DI v sX) (q:NB v) (w9:jz.C v) (w6:jy.C v) (HB:mI.C v):D.O:=
 YX (m:=kr) D kZ λaO a7 m6 bW _ _ _ _ _ _ hr=>
 (sl 4 kZ.nd (aN (n:=0) ai rfl) λMt=>
 (SF.pw (hd:=(λ(s3:List PV)=>([am (.val aO),am (.val a7),am (.val m6),am (.val bW),am (.ol bm s3),bm,bm]:bb))) (s0:=Mt) AH rfl (c9 rfl q.range (dG rfl rfl q.len (ae 0))) (.refl _) (du 5 kZ.nd) (λs3 GC=>
 (sl 6 kZ.nd (Y7 4 rfl (lZ rfl (cF (lC w9 hr (aa (ae 0) (aa (ae 1) (aa (ae 2) (aa (ae 3) (aa (ae 5) ai))))))) (cF (lC w6 hr (aa (ae 0) (aa (ae 1) (aa (ae 4) (aa (ae 5) ai)))))))) λJY=>
 SF.cx 6 rfl (SF.append 4 rfl rfl rfl (.inl rfl) (eC HB hr (aa (ae 6) ai)) λMs=>
 (SF.fP rfl (.keep (.keep (.keep (.keep (.keep (.drop (.drop (.refl _)))))))))))) λs3=>
 (SF.dh (df rfl rfl q.tuple (cg 4)) λ_=>rfl)))
abbrev xU:DF:=⟨"table",top 35,["ground","small","prices"],6,λK=>gI K [.v,.v,.v] (cq 3 jk)⟩
def Rn (D:DI v xU) (q:NB v) (jr:lA.C v) (Oe:sX.C v):D.O:=
 KD (m:=jk) D rm λaO GG a7 _ _ _ _ _ _ hr=>
 (sl 3 rm.nd (aN (n:=0) ai rfl) λGN=>
 (SF.pw (hd:=(λ(s3:List PV)=>([am (.val aO),am (.val GG),am (.val a7),am (.ol bm s3),bm]:bb))) (s0:=GN) AH rfl (bI rfl (bO (eC jr hr (aa (ae 1) ai)))) (.refl _) (du 4 rm.nd) (λs3 gh=>
 (SF.append 3 rfl rfl rfl (.inl rfl) (aaf 3 rfl (eC Oe hr (aa (ae 0) (aa (ae 2) (aa (ae 3) (aa (ae 4) ai)))))) λMq=>
 (SF.fP rfl (.keep (.keep (.keep (.keep (.drop (.refl _))))))))) λs3=>
 (SF.dh (df rfl rfl q.tuple (cg 3)) λ_=>rfl)))
abbrev ir:DF:=⟨"split_dates",top 37,["houses","dates"],1,λK=>fi K [.v,.v] (cq 2 dC)⟩
def t6 (D:DI v ir) (q:NB v):D.O:=
 Q5 (m:=dC) D rq λeZ dm _ _ _ _ _ _ hr=>
 (SF.gT (Y6 rfl eR (NS rfl rfl q.zip (bO (ae 0)) (bO (ae 1))) (λ_ _ _ _ _=>(PC rfl (fB rfl (aH (du 0 eR.nd) (aH (du 1 eR.nd) dJ))))) (λ_ _ _ _ _ t5=>(pE (fh rfl (iP rfl .str rfl q.isinstance (ae 0) rfl q.str wS) (λ_=>rfl)))) (λ_ _ _ _ _ t5=>(ae 1)) (Rb rfl rfl ⋯) ⋯) λ_=>rfl)
abbrev mC:DF:=⟨"standing",top 38,["great","dates","begins"],4,λK=>fi K [.v,.v,.v] (cq 3 gj)⟩
def He (D:DI v mC) (q:NB v) (mz:jB.C v):D.O:=
 Vo (m:=gj) D cT λdj dm jL _ _ _ _ _ _ hr=>
 (sv 3 cT.nd (eC mz hr (aa (ae 0) ai)) λdM=>
 (sl 4 cT.nd (aN (n:=0) ai rfl) λvS=>
 (SF.Wb (hd:=(λ(s5:List PV)=>([am (.val dj),am (.val dm),am (.val jL),am (.val dM),am (.ol bm s5),bm,bm,bm,bm]:bb))) (s0:=vS) AH rfl (nJ rfl rfl q.enumerate (bO (ae 2))) (.refl _) (λ_=>(PC rfl (fB rfl (aH (du 5 cT.nd) (aH (du 6 cT.nd) dJ))))) (λs5 t7=>
 (SF.Wb (hd:=(λ(s9:List PV)=>([am (.val dj),am (.val dm),am (.val jL),am (.val dM),am (.ol bm s9),am (.val t7.1),am (.val t7.2),bm,bm]:bb))) (s0:=s5) AH rfl (nJ rfl rfl q.enumerate (bO (ae 1))) (.refl _) (λ_=>(PC rfl (fB rfl (aH (du 7 cT.nd) (aH (du 8 cT.nd) dJ))))) (λs9 Yb=>
 (SF.Zg (Gf.t (oE (cS Tg (ae 8) (ae 6)) (kW (Gf.t (L5 (cS wN (aV rfl (aB (ae 3)) (ae 7)) iO) (Gx (cS NN (ae 6) (aV rfl (aB (ae 1)) (aV rfl (aB (ae 3)) (ae 7))))))))))
 (SF.append 4 rfl rfl rfl (.inl rfl) (ay (n:=2) (aa (ae 7) (aa (ae 5) ai)) rfl) λy8=>
 (SF.fP rfl (.keep (.keep (.keep (.keep (.keep (.keep (.keep (.drop (.drop (.refl _))))))))))))
 (SF.fP rfl (.keep (.keep (.keep (.keep (.keep (.keep (.keep (.drop (.drop (.refl _))))))))))))) λs9=>
 (SF.fP rfl (.keep (.keep (.keep (.keep (.keep (.drop (.drop (.refl _))))))))))) λs5=>
 (SF.UA 4 rfl rfl))))
abbrev pz:DF:=⟨"stay_of",top 39,["houses","dates","begins","numbers","pair"],2,λK=>gI K [.v,.v,.v,.v,.v] (cq 5 iI)⟩
def KW (D:DI v pz) (q:NB v) (gC:iQ.C v) (pq:lB.C v):D.O:=
 acK (m:=iI) D dN λeZ dm jL nk M7 _ _ _ _ _ _ hr=>
 (sv 5 dN.nd (aV rfl (aB (ae 4)) ak) λlq=>
 (sv 6 dN.nd (aV rfl (aB (ae 4)) ak) λnG=>
 (sv 7 dN.nd (JT NN (aV rfl (aB (ae 1)) (ae 5)) (aV rfl (aB (ae 2)) (ae 6))) λuV=>
 (sv 8 dN.nd (qm (fh rfl (ae 7) (λ_=>rfl)) (ay (n:=1) (aa (ae 5) ai) rfl) (eC gC hr (aa (aV rfl (aB (ae 0)) (ae 5)) ai))) λbelow_4=>
 (sv 9 dN.nd (df rfl rfl q.tuple (rB (gw rfl nF (bI rfl (bO (ae 8))) (λ_ _ _ _ _=>(du 0 nF.nd)) (λ_ _ _ _ _ p9=>(sU (a6 hr) (ae 2) (ay (n:=2) (aa (ae 0) (aa (u0 (ae 1) ak) ai)) rfl) (λ_ _=>rfl))) rfl))) λIA=>
 (sv 10 dN.nd (df rfl rfl q.tuple (rB (Nw rfl nC (Rx (ae 3)) (λ_ _ _ _ _=>(du 0 nC.nd)) (λ_ _ _ _ _ YI=>(Gf.t (oE (cS (kz rfl (a6 hr)) (aV rfl (aB (ae 0)) ak) (ae 2)) (kW (cS (NM rfl (a6 hr)) (aV rfl (aB (ae 0)) ak) (ae 1)))))) (λ_ _ _ _ _ YI=>(sU (a6 hr) (ae 3) (ae 0) (λ_ _=>rfl))) rfl))) λvk=>
 (SF.dh (ay (n:=4) (aa (eC pq hr (aa (ae 0) (aa (ae 5) ai))) (aa (ae 6) (aa (ae 9) (aa (ae 10) ai)))) rfl) λ_=>rfl)))))))
abbrev xV:DF:=⟨"dated",top 40,["great","dates"],5,λK=>gI K [.v,.v] (cq 2 lg)⟩
def Rp (D:DI v xV) (q:NB v) (jr:lA.C v) (ug:ir.C v) (Hv:mC.C v) (Ld:pz.C v):D.O:=
 vX (m:=lg) D km λdj dm _ _ _ _ _ _ hr=>
 (sv 2 km.nd (eC jr hr (aa (ae 0) ai)) λbr=>
 (sl 3 km.nd (lZ rfl (cF (aN (n:=1) (aa ak ai) rfl)) (cF (Rg rfl rfl q.sorted (cF (lC ug hr (aa (ae 2) (aa (ae 1) ai))))))) λtB=>
 SF.cx 3 rfl (sl 4 km.nd (lC Hv hr (aa (ae 0) (aa (ae 1) (aa (ae 3) ai)))) λvR=>
 SF.cx 4 rfl (sv 5 km.nd (ad7 (R9 rfl rfl (a6 hr) rfl q.dict (cF (Vw rfl mx (nJ rfl rfl q.enumerate (bO (ae 4))) (λ_ _ _ _ _=>(PC rfl (fB rfl (aH (du 0 mx.nd) (aH (du 1 mx.nd) dJ))))) (λ_ _ _ _ _ Ă=>(ay (n:=2) (aa (ae 1) (aa (ae 0) ai)) rfl)) (Rb rfl rfl ⋯) ⋯)))) λrH=>
 (SF.dh (df rfl rfl q.tuple (rB (gw rfl se (bI rfl (bO (ae 4))) (λ_ _ _ _ _=>(du 0 se.nd)) (λ_ _ _ _ _ YH=>(eC Ld hr (aa (ae 3) (aa (ae 2) (aa (ae 1) (aa (ae 4) (aa (ae 0) ai))))))) rfl))) λ_=>rfl)))))
abbrev kM:DF:=⟨"_law_hand",top 42,["_law_script","_law_k"],1,λK=>fi K [.v,.v] (cq 2 fu)⟩
def zN (D:DI v kM) (q:NB v):D.O:=
 Q5 (m:=fu) D i9 λgQ k_ _ _ _ _ _ _ hr=>
 (sv 2 i9.nd (qm (cS NN (ae 1) (dG rfl rfl q.len (ae 0))) (aV rfl (aB (ae 0)) (ae 1)) ak) λkO=>
 (sv 3 i9.nd (sS (TQ rfl q.abs (ae 2)) (RY rfl q.int (JT Zf (TQ rfl q.abs (ae 2)) (TL ak ak)))) λfU=>
 (SF.gT (aN (n:=3) (aa (ae 3) (aa (pR (sS (cJ rfl (cJ rfl (pR (ae 2) ak) (sS (sS ak (ae 1)) (ae 1))) ak) ak) ak) (aa ak ai))) rfl) λ_=>rfl)))
abbrev bc:DF:=⟨"_law_take",top 43,["_law_hand_here","_law_many"],1,λK=>gI K [.p (kS jc),.v] (cq 1 b9)⟩
def zK (D:DI v bc):D.O:=
 UU (n:=1) (fnO (n:=1) (m:=dD) D.fn m5 rfl λad gA l hl=>match l,hl with | [ny],_=>λ_ _ _ _ _ _ hr=>show SF _ _ _ [am (.ol (am ad) gA),am (.val ny),bm] _ (dD gA ny) _ from
 (SF.GI 0 rfl rfl (.inl rfl) (cJ rfl (aV rfl (cg 0) ak) ak) ak λbP=>
 (SF.RC (Gf.t (oE (cS Ze (aV rfl (cg 0) ak) ak) (kW (cS Tg (aV rfl (cg 0) ak) ak))))
 (sv 2 m5.nd (pR (aV rfl (cg 0) ak) (ae 1)) λJW=>
 (SF.GI 0 rfl rfl (.inl rfl) (TN (aV rfl (cg 0) ak) (ae 1)) ak λkE=>
 (SF.Yl 0 (k:=λx8=>(x8,kE)) rfl (ae 2) λ_=>rfl)))
 (SF.GI 0 rfl rfl (.inl rfl) (pR (cJ rfl (cJ rfl (sS (aV rfl (cg 0) ak) ak) ak) (aV rfl (cg 0) ak)) ak) ak λfx=>
 (SF.Yl 0 (k:=λpW=>(pW,fx)) rfl (pR (TN (pR (sS (aV rfl (cg 0) ak) (cJ rfl (pR (aV rfl (cg 0) ak) ak) ak)) ak) ak) (ae 1)) λ_=>rfl))))) L8
abbrev d3:DF:=⟨"_law_pick",top 44,["_law_hand_here","_law_some"],2,λK=>gI K [.p (kS jc),.v] (cq 1 bM)⟩
def zM (D:DI v d3) (q:NB v) (az:bc.C v):D.O:=
 pZ (m:=bM) D vK λuA _ _ _ _ _ _ hr=>
 (SF.dh (aV rfl (aB (ae 1)) (eC az hr (bX 0 (aa (dG rfl rfl q.len (ae 1)) ai)))) λ_=>rfl)
abbrev jD:DF:=⟨"_law_words",top 45,["_law_hand_here","_law_many"],3,λK=>fi K [.p (kS jc),.v] (cq 1 cX)⟩
def wD (D:DI v jD) (q:NB v) (az:bc.C v) (cm:d3.C v):D.O:=
 Vp (m:=cX) D dz λny _ _ _ _ _ _ hr=>
 (sv 2 dz.nd u4 λuI=>
 (SF.Mp (ay (n:=2) (aa (eC az hr (bX 0 (aa ak ai))) (aa (eC cm hr (bX 0 (aa (gG (aN (n:=6) (aa ak (aa ak (aa ak (aa ak (aa ak (aa ak ai)))))) rfl)) ai))) ai)) rfl) (PC rfl (fB rfl (aH (du 3 dz.nd) (aH (du 4 dz.nd) dJ)))) λt13=>
 (sv 5 dz.nd (eC cm hr (bX 0 (aa (gG (aN (n:=5) (aa u4 (aa u4 (aa u4 (aa u4 (aa u4 ai))))) rfl)) ai))) λIE=>
 (SF.gT (gw rfl jV (c9 rfl q.range (ae 1)) (λ_ _ _ _ _=>(du 0 jV.nd)) (λ_ _ _ _ _ p23=>(cJ rfl (aae (ae 2) (pR (cJ rfl (ae 1) (sS (ae 4) (ae 0))) ak) (λ_ _=>rfl)) (ae 3))) rfl) λ_=>rfl))))
abbrev fe:DF:=⟨"_law_joined",top 46,["_law_hand_here","_law_some"],2,λK=>gI K [.p (kS jc),.v] (cq 1 cE)⟩
def uc (D:DI v fe) (q:NB v) (az:bc.C v):D.O:=
 pZ (m:=cE) D cf λuA _ _ _ _ _ _ hr=>
 (sl 1 cf.nd (Vx rfl rfl q.list (aB (ae 1))) λmq=>
 (SF.pw (hd:=(λ(s3:List PV)=>([am (.mP (kS jc)),am (.ol bm s3),bm,bm,bm,bm]:bb))) (s0:=mq) AH rfl (c9 rfl q.range (u0 (sT rfl rfl q.len (cg 1)) ak)) (.refl _) (du 2 cf.nd) (λs3 Ue=>
 (SF.acA 1 3 rfl ⋯ rfl rfl (.inl rfl) cf.nd rfl (CZ rfl) (eC az hr (bX 0 (aa (sT rfl rfl q.len (cg 1)) ai))) λt8=>
 (sv 4 cf.nd (eC az hr (bX 0 (aa (sT rfl rfl q.len (cg 1)) ai))) λWK=>
 (sv 5 cf.nd (ay (n:=2) (aa (ae 3) (aa (aV rfl (cg 1) (ae 4)) ai)) rfl) λvT=>
 (SF.GI 1 rfl rfl (.inl rfl) (qm (cS (kz rfl (a6 hr)) (eC az hr (bX 0 (aa ak ai))) ak) (ae 5) (Wr rfl (ae 5) Nb Nb (Vg (OQ ak)))) (ae 4) λIX=>
 (SF.fP rfl (.keep (.keep (.drop (.drop (.drop (.drop (.refl _))))))))))))) λs3=>
 (SF.dh (aV rfl (cg 1) ak) λ_=>rfl)))
abbrev jI:DF:=⟨"_law_great",top 47,["_law_hand_here","_law_most"],4,λK=>gI K [.p (kS jc),.v] (cq 1 cZ)⟩
def wJ (D:DI v jI) (xc:jD.C v) (az:bc.C v) (iq:fe.C v):D.O:=
 pZ (m:=cZ) D lQ λzl _ _ _ _ _ _ hr=>
 (sl 2 lQ.nd (lC xc hr (bX 0 (aa (cJ rfl ak (eC az hr (bX 0 (aa (ae 1) ai)))) ai))) λiX=>
 SF.cx 2 rfl (SF.dh (ay (n:=2) (aa (eC iq hr (bX 0 (aa (ae 2) ai))) (aa (ae 2) ai)) rfl) λ_=>rfl))
abbrev jG:DF:=⟨"_law_small",top 48,["_law_hand_here","_law_words_here","_law_most"],3,λK=>gI K [.p (kS jc),.v,.v] (cq 2 cY)⟩
def wH (D:DI v jG) (q:NB v) (az:bc.C v) (cm:d3.C v) (iq:fe.C v):D.O:=
 vX (m:=cY) D lP λpD zl _ _ _ _ _ _ hr=>
 (SF.mX (i:=3) rfl lP.nd rfl rfl jX (c9 rfl q.range (cJ rfl ak (eC az hr (bX 0 (aa (ae 2) ai))))) (λ_ _ _ _ _=>(du 0 jX.nd)) (λ_ _ _ _ _ p5=>(eC cm hr (bX 1 (aa (ae 2) ai)))) rfl λmq=>
 SF.cx 3 rfl (SF.dh (eC iq hr (bX 0 (aa (ae 3) ai))) λ_=>rfl))
abbrev fX:DF:=⟨"_law_nodes",top 49,["_law_tree"],12,λK=>fi K [.v] (cq 1 (aU 12))⟩
theorem nI (D:DI v fX) (q:NB v):∀n,iU v.P v.w v.K v.mg v.base mm (n+0) D.f D.fd ["_law_tree"] (fi v.K [.v] (cq 1 (aU n)))
 | 0=>ZY (Qa λl Q hl=>match l,hl with | [cK],_=>λh=>h.elim)
 | n+1=>have da:=D.cN (nI D q n)
  fnL (k:=n+0) (n:=1) (m:=aU (n+1)) D.fn dA rfl (gV cM) λl hl=>match l,hl with | [cK],_=>λ_ _ _ _ _ _ hr=>show SF _ _ _ [am (.val cK),bm,bm,bm,bm] _ (aU (n+1) cK) _ from
 (SF.RC (fh rfl (iP rfl .str rfl q.isinstance (ae 0) rfl q.str wS) (λ_=>rfl))
 (SF.gT (aN (n:=1) (aa (ae 0) ai) rfl) λ_=>rfl)
 (SF.par (i:=1) (j:=2) rfl dA.nd rfl rfl ⋯ rfl rfl (gG (lC da hr (aa (aV rfl (aB (ae 0)) ak) ai))) (gG (lC da hr (aa (aV rfl (aB (ae 0)) ak) ai))) λpI nh=>
 (sl 3 dA.nd (aN (n:=0) ai rfl) λoJ=>
 (SF.pw (hd:=(λ(s7:List PV)=>([am (.val cK),am (.val pI),am (.val nh),am (.ol bm s7),bm]:bb))) (s0:=oJ) AH rfl (bI rfl (bO (ae 2))) (.refl _) (du 4 dA.nd) (λs7 rL=>
 (SF.ifS (out1:=λ(é:PV)=>.nx ([am (.val cK),am (.val pI),am (.val nh),am (.ol bm s7),am (.val é)]:bb)) (pE (fh rfl (iP rfl .str rfl q.isinstance (ae 4) rfl q.str wS) (λ_=>rfl)))
 (sv 4 dA.nd (ay (n:=2) (aa (cJ rfl (aV rfl (aB (ae 4)) ak) (dG rfl rfl q.len (ae 1))) (aa (cJ rfl (aV rfl (aB (ae 4)) ak) (dG rfl rfl q.len (ae 1))) ai)) rfl) λJp=>
 (SF.nil rfl (.refl _)))
 (SF.nil rfl (.refl _))
 λé=>(SF.append 3 rfl rfl rfl (.inl rfl) (ae 4) λrh=>
 (SF.fP rfl (.keep (.keep (.keep (.keep (.drop (.refl _)))))))))) λs7=>
 (SF.gT (lZ rfl (cF (lZ rfl (jb (ae 1)) (MJ 3))) (cF (aN (n:=1) (aa (ay (n:=2) (aa (u0 (dG rfl rfl q.len (ae 1)) ak) (aa (u0 (cJ rfl (dG rfl rfl q.len (ae 1)) (dG rfl rfl q.len (ae 2))) ak) ai)) rfl) ai) rfl))) λ_=>rfl)))))
abbrev jK:DF:=⟨"_law_dates",top 50,["_law_hand_here","_law_great_here"],13,λK=>gI K [.p (kS jc),.v] (cq 1 c7)⟩
def wL (D:DI v jK) (q:NB v) (da:fX.C v) (cm:d3.C v) (az:bc.C v):D.O:=
 pZ (m:=c7) D aZ λbQ _ _ _ _ _ _ hr=>
 (sl 2 aZ.nd (lC da hr (aa (ae 1) ai)) λbr=>
 SF.cx 2 rfl (sl 3 aZ.nd (Y5 (aN (n:=1) (aa ak ai) rfl) (dG rfl rfl q.len (ae 2))) λxq=>
 (sv 4 aZ.nd ak λHZ=>
 (SF.Uu (i:=6) rfl aZ.nd rfl rfl fC (nJ rfl rfl q.enumerate (bO (ae 2))) (λ_ _ _ _ _=>(PC rfl (fB rfl (aH (du 0 fC.nd) (aH (du 1 fC.nd) dJ))))) (λ_ _ _ _ _ ç=>(pE (fh rfl (iP rfl .str rfl q.isinstance (ae 1) rfl q.str wS) (λ_=>rfl)))) (λ_ _ _ _ _ ç=>(ae 0)) (Rb rfl rfl ⋯) ⋯ λkT=>
 (SF.pw (hd:=(λ(yR:List PV×PV×List PV)=>([am (.mP (kS jc)),am (.val bQ),am (.val (.cl br)),am (.ol bm yR.1),am (.val yR.2.1),bm,am (.ol bm yR.2.2),bm,bm]:bb))) (s0:=(xq,HZ,kT)) AH rfl (c9 rfl q.range (sT rfl rfl q.len (cg 6))) (.refl _) (du 7 aZ.nd) (λyR IB=>
 (sl 8 aZ.nd (aN (n:=0) ai rfl) λxl=>
 (SF.ZV 6 (hd:=(λWO (SS:List PV)=>([am (.mP (kS jc)),am (.val bQ),am (.val (.cl br)),am (.ol bm yR.1),am (.val yR.2.1),bm,am (.ol (am WO) yR.2.2),am (.val IB),am (.ol bm SS)]:bb))) (s0:=xl) rfl rfl rfl (.inl rfl) AH rfl (λ_=>(.refl _)) (λ_ _=>rfl) (du 5 aZ.nd) (λWO SS J2=>
 (SF.Zg (Gf.t (oE (vC rfl (a6 hr) (aV rfl (aB (aV rfl (aB (ae 2)) (ae 5))) ak) (cg 6)) (kW (vC rfl (a6 hr) (aV rfl (aB (aV rfl (aB (ae 2)) (ae 5))) ak) (cg 6)))))
 (SF.append 8 rfl rfl rfl (.inl rfl) (ae 5) λJM=>
 (SF.fP rfl (.keep (.keep (.keep (.keep (.keep (.drop (.refl _)))))))))
 (SF.fP rfl (.keep (.keep (.keep (.keep (.keep (.drop (.refl _)))))))))) λWO SS=>
 (SF.cx 8 rfl (sv 5 aZ.nd (eC cm hr (bX 0 (aa (ae 8) ai))) λPa=>
 (sv 4 aZ.nd (cJ rfl (cJ rfl (ae 4) ak) (eC az hr (bX 0 (aa ak ai)))) λxT=>
 (SF.GI 3 rfl rfl (.inl rfl) (ae 4) (ae 5) λz9=>
 (SF.remove 6 rfl rfl rfl (.inl rfl) (ae 5) λqV=>
 (SF.fP rfl (.keep (.keep (.keep (.keep (.keep (.drop (.keep (.drop (.drop (.refl _))))))))))))))))))) λyR=>
 (SF.dh (df rfl rfl q.tuple (cg 3)) λ_=>rfl))))))
abbrev jF:DF:=⟨"_law_stays",top 51,["_law_hand_here","_law_great_here"],14,λK=>gI K [.p (kS jc),.v] (cq 1 eF)⟩
def wG (D:DI v jF) (az:bc.C v) (Oh:sY.C v) (RL:xV.C v) (xk:jK.C v):D.O:=
 pZ (m:=eF) D tU λbQ _ _ _ _ _ _ hr=>
 (SF.RC (cS (kz rfl (a6 hr)) (eC az hr (bX 0 (aa ak ai))) ak)
 (SF.dh (eC Oh hr (aa (ae 1) ai)) λ_=>rfl)
 (SF.dh (eC RL hr (aa (ae 1) (aa (eC xk hr (bX 0 (aa (ae 1) ai))) ai))) λ_=>rfl))
abbrev fc:DF:=⟨"_law_prices",top 52,["_law_hand_here"],3,λK=>gI K [.p (kS jc)] (cq 0 bJ)⟩
def ub (D:DI v fc) (q:NB v) (az:bc.C v) (cm:d3.C v):D.O:=
 acL (m:=bJ) D cU λ_ _ _ _ _ _ hr=>
 (sl 1 cU.nd (aN (n:=0) ai rfl) λju=>
 (SF.pw (hd:=(λ(s3:List PV)=>([am (.mP (kS jc)),am (.ol bm s3),bm,bm]:bb))) (s0:=ju) AH rfl (c9 rfl q.range ak) (.refl _) (du 2 cU.nd) (λs3 k_4=>
 (sl 3 cU.nd (aN (n:=7) (aa ak (aa ak (aa ak (aa ak (aa ak (aa (eC az hr (bX 0 (aa ak ai))) (aa (eC az hr (bX 0 (aa ak ai))) ai))))))) rfl) λMj=>
 SF.cx 3 rfl (sl 3 cU.nd (lZ rfl (jb (ae 3)) (cF (aN (n:=2) (aa ak (aa (cJ rfl (TL ak ak) (eC az hr (bX 0 (aa ak ai)))) ai)) rfl))) λIW=>
 SF.cx 3 rfl (SF.append 1 rfl rfl rfl (.inl rfl) (eC cm hr (bX 0 (aa (ae 3) ai))) λkF=>
 (SF.fP rfl (.keep (.keep (.drop (.drop (.refl _)))))))))) λs3=>
 (SF.dh (df rfl rfl q.tuple (cg 1)) λ_=>rfl)))
abbrev jJ:DF:=⟨"_law_deeds",top 53,["_law_stays_here","_law_told","_law_node","_law_at"],1,λK=>fi K [.v,.v,.v,.v] (cq 4 c6)⟩
def wK (D:DI v jJ) (q:NB v):D.O:=
 YY (m:=c6) D ba λaJ fH bW Ö _ _ _ _ _ _ hr=>
 (SF.Mp (aV rfl (aB (ae 0)) (ae 3)) (g_4 rfl (fB rfl (aH (du 4 ba.nd) (aH (du 5 ba.nd) (aH (du 6 ba.nd) (aH (du 7 ba.nd) dJ)))))) λt3=>
 (SF.RC (fh rfl (iP rfl .str rfl q.isinstance (aV rfl (aB (ae 1)) (ae 2)) rfl q.str wS) (λ_=>rfl))
 (SF.gT (Vz (Gf.t (oE (cS (kz rfl (a6 hr)) (ae 6) (ay (n:=0) ai rfl)) (kW (cS (kz rfl (a6 hr)) (ae 4) (aV rfl (aB (ae 1)) (ae 2)))))) (aN (n:=1) (aa (ay (n:=2) (aa iO (aa (gG (aN (n:=0) ai rfl)) ai)) rfl) ai) rfl) (aN (n:=0) ai rfl)) λ_=>rfl)
 (SF.Mp (aV rfl (aB (ae 1)) (ae 2)) (PC rfl (fB rfl (aH (du 8 ba.nd) (aH (du 9 ba.nd) dJ)))) λt8=>
 (sl 10 ba.nd (aN (n:=1) (aa (ay (n:=2) (aa ak (aa (gG (aN (n:=2) (aa (ay (n:=2) (aa (ae 8) (aa (ae 3) ai)) rfl) (aa (ay (n:=2) (aa (ae 9) (aa (ae 3) ai)) rfl) ai)) rfl)) ai)) rfl) ai) rfl) λxo=>
 (SF.pw (hd:=(λ(SR:List PV)=>([am (.val aJ),am (.val fH),am (.val bW),am (.val Ö),am (.val t3.1),am (.val t3.2.1),am (.val t3.2.2.1),am (.val t3.2.2.2),am (.val t8.1),am (.val t8.2),am (.ol bm SR),bm]:bb))) (s0:=xo) AH rfl (bI rfl (bO (ae 7))) (.refl _) (du 11 ba.nd) (λSR L6=>
 (SF.append 10 rfl rfl rfl (.inl rfl) (ay (n:=2) (aa ak (aa (gG (aN (n:=2) (aa (ay (n:=2) (aa (ae 8) (aa (ae 3) ai)) rfl) (aa (ay (n:=2) (aa (ae 9) (aa (ae 11) ai)) rfl) ai)) rfl)) ai)) rfl) λkF=>
 (SF.append 10 rfl rfl rfl (.inl rfl) (ay (n:=2) (aa ak (aa (gG (aN (n:=2) (aa (ay (n:=2) (aa (ae 8) (aa (ae 11) ai)) rfl) (aa (ay (n:=2) (aa (ae 9) (aa (ae 3) ai)) rfl) ai)) rfl)) ai)) rfl) λz0=>
 (SF.fP rfl (.keep (.keep (.keep (.keep (.keep (.keep (.keep (.keep (.keep (.keep (.keep (.drop (.refl _))))))))))))))))) λSR=>
 (SF.ifS (out1:=λ(è:List PV)=>.nx ([am (.val aJ),am (.val fH),am (.val bW),am (.val Ö),am (.val t3.1),am (.val t3.2.1),am (.val t3.2.2.1),am (.val t3.2.2.2),am (.val t8.1),am (.val t8.2),am (.ol bm è),bm]:bb)) (cS (kz rfl (a6 hr)) (dG rfl rfl q.len (ae 6)) ak)
 (SF.append 10 rfl rfl rfl (.inl rfl) (ay (n:=2) (aa ak (aa (gG (aN (n:=2) (aa (ay (n:=2) (aa (ae 8) (aa (aV rfl (aB (ae 6)) ak) ai)) rfl) (aa (ay (n:=2) (aa (ae 9) (aa (aV rfl (aB (ae 6)) ak) ai)) rfl) ai)) rfl)) ai)) rfl) λzZ=>
 (SF.append 10 rfl rfl rfl (.inl rfl) (ay (n:=2) (aa ak (aa (gG (aN (n:=2) (aa (ay (n:=2) (aa (ae 8) (aa (aV rfl (aB (ae 6)) ak) ai)) rfl) (aa (ay (n:=2) (aa (ae 9) (aa (aV rfl (aB (ae 6)) ak) ai)) rfl) ai)) rfl)) ai)) rfl) λzY=>
 (SF.nil rfl (.refl _))))
 (SF.nil rfl (.refl _))
 λè=>(SF.UA 10 rfl rfl)))))))
abbrev jE:DF:=⟨"_law_steps",top 54,["_law_stays_here","_law_node","_law_at"],1,λK=>fi K [.v,.v,.v] (cq 3 eE)⟩
def wF (D:DI v jE) (q:NB v):D.O:=
 Vo (m:=eE) D ib λaJ bW Ö _ _ _ _ _ _ hr=>
 (sv 3 ib.nd (aV rfl (aB (aV rfl (aB (ae 0)) (ae 2))) ak) λfK=>
 (sv 4 ib.nd (qm (cS (kz rfl (a6 hr)) (dG rfl rfl q.len (ae 3)) ak) ak iO) λJe=>
 (SF.gT (gw rfl jW (bI rfl (bO (ae 3))) (λ_ _ _ _ _=>(du 0 jW.nd)) (λ_ _ _ _ _ p4=>(ay (n:=2) (aa (ae 2) (aa (gG (aN (n:=1) (aa (ay (n:=2) (aa (ae 1) (aa (ae 0) ai)) rfl) ai) rfl)) ai)) rfl)) rfl) λ_=>rfl)))
abbrev jC:DF:=⟨"_law_worth",top 55,["_law_prices_here","_law_known_here","_law_option"],1,λK=>gI K [.v,.v,.v] (cq 3 eB)⟩
def wC (D:DI v jC):D.O:=
 KD (m:=eB) D eY λbL ck nj _ _ _ _ _ _ hr=>
 (sv 3 eY.nd (qm (cS wN (aV rfl (aB (ae 2)) ak) iO) ak (aV rfl (aB (ae 0)) (aV rfl (aB (ae 2)) ak))) λmU=>
 (SF.Ol (hd:=(λ(s2:PV)=>([am (.val bL),am (.val ck),am (.val nj),am (.val s2),bm]:bb))) (s0:=mU) (inj:=id) AH rfl (bI rfl (bO (aV rfl (aB (ae 2)) ak))) (.refl _) (du 4 eY.nd) (λ_=>trivial) (λs2 lz=>
 (SF.RC (cS wN (sU (a6 hr) (ae 1) (ae 4) (λ_ _=>rfl)) iO)
 (SF.ret (k:=λx4=>(Lp.out x4)) iO λ_=>rfl)
 (sv 3 eY.nd (cJ rfl (ae 3) (sU (a6 hr) (ae 1) (ae 4) (λ_ _=>rfl))) λqx=>
 (SF.fP rfl (.keep (.keep (.keep (.keep (.drop (.refl _)))))))))) λs2=>
 (SF.dh (ae 3) λ_=>rfl)))
abbrev jH:DF:=⟨"_law_known",top 56,["_law_stays_here","_law_told","_law_prices_here"],2,λK=>gI K [.v,.v,.v] (cq 3 c8)⟩
def wI (D:DI v jH) (q:NB v) (xj:jJ.C v) (xf:jE.C v) (xb:jC.C v):D.O:=
 KD (m:=c8) D bu λaJ fH bL _ _ _ _ _ _ hr=>
 (SF.Yg (i:=3) bu.nd rfl (Cy rfl)
 (SF.pw (hd:=(λ(s3:List (List Key×PV))=>([am (.val aJ),am (.val fH),am (.val bL),am (.ot s3),bm,bm,bm,bm]:bb))) (s0:=[]) AH rfl (c9 rfl q.range (dG rfl rfl q.len (ae 1))) (.refl _) (du 4 bu.nd) (λs3 gh=>
 (SF.pw (hd:=(λ(s6:List (List Key×PV))=>([am (.val aJ),am (.val fH),am (.val bL),am (.ot s6),am (.val gh),bm,bm,bm]:bb))) (s0:=s3) AH rfl (c9 rfl q.range (dG rfl rfl q.len (ae 0))) (.refl _) (du 5 bu.nd) (λs6 Sj=>
 (sl 6 bu.nd (lC xj hr (aa (ae 0) (aa (ae 1) (aa (ae 4) (aa (ae 5) ai))))) λMi=>
 SF.cx 6 rfl (sl 6 bu.nd (lZ rfl (jb (ae 6)) (cF (lC xf hr (aa (ae 0) (aa (ae 4) (aa (ae 5) ai)))))) λIZ=>
 SF.cx 6 rfl (SF.as (WM 3 rfl (Sl (i:=7) rfl bu.nd rfl rfl jZ (bI rfl (bO (ae 6))) (λ_ _ _ _ _=>(du 0 jZ.nd)) (λ_ _ _ _ _ YH=>(eC xb hr (aa (ae 2) (aa (ae 1) (aa (ae 0) ai))))) rfl)) λFV=>
 SF.cx 7 rfl (SF.Uv (i:=7) rfl bu.nd rfl rfl jY (bI rfl (bO (ae 7))) (λ_ _ _ _ _=>(du 0 jY.nd)) (λ_ _ _ _ _ ê=>(cS JD (ae 0) iO)) (λ_ _ _ _ _ ê=>(ae 0)) rfl λtj=>
 SF.cx 7 rfl (SF.yS 3 rfl (a6 hr) rfl (.inr (.inl rfl)) (qm (XT rfl (a6 hr) (jb (ae 7))) (Wt rfl rfl rfl q.min (jb (ae 7))) iO) (ay (n:=2) (aa (ae 4) (aa (ae 5) ai)) rfl) λma=>
 (SF.fP rfl (.keep (.keep (.keep (.keep (.keep (.drop (.drop (.drop (.refl _)))))))))))))))) λs6=>
 (SF.fP rfl (.keep (.keep (.keep (.keep (.drop (.refl _))))))))) λs3=>
 (SF.cx 3 rfl (SF.dh (ae 3) λ_=>rfl))))
abbrev kL:DF:=⟨"_law_rows",top 57,["_law_stays_here","_law_told","_law_known_here"],1,λK=>gI K [.v,.v,.v] (cq 3 dY)⟩
def zL (D:DI v kL) (q:NB v):D.O:=
 KD (m:=dY) D i8 λaJ fH ck _ _ _ _ _ _ hr=>
 (sl 3 i8.nd (aN (n:=0) ai rfl) λju=>
 (SF.pw (hd:=(λ(s3:List PV)=>([am (.val aJ),am (.val fH),am (.val ck),am (.ol bm s3),bm]:bb))) (s0:=ju) AH rfl (c9 rfl q.range (dG rfl rfl q.len (ae 1))) (.refl _) (du 4 i8.nd) (λs3 gh=>
 (SF.append 3 rfl rfl rfl (.inl rfl) (df rfl rfl q.tuple (rB (gw rfl kx (c9 rfl q.range (dG rfl rfl q.len (ae 0))) (λ_ _ _ _ _=>(du 0 kx.nd)) (λ_ _ _ _ _ p8=>(sU (a6 hr) (ae 1) (ay (n:=2) (aa (ae 2) (aa (ae 0) ai)) rfl) (λ_ _=>rfl))) rfl))) λJN=>
 (SF.fP rfl (.keep (.keep (.keep (.keep (.drop (.refl _))))))))) λs3=>
 (SF.dh (df rfl rfl q.tuple (cg 3)) λ_=>rfl)))
abbrev kN:DF:=⟨"_law_case",top 58,["_law_hand_here","_law_great_most","_law_small_most"],15,λK=>gI K [.p (kS jc),.v,.v] (cq 2 fv)⟩
def zO (D:DI v kN) (xi:jI.C v) (xg:jF.C v) (xh:jG.C v) (da:fX.C v) (ip:fc.C v):D.O:=
 vX (m:=fv) D d6 λpM pG _ _ _ _ _ _ hr=>
 (SF.Mp (eC xi hr (bX 0 (aa (ae 1) ai))) (PC rfl (fB rfl (aH (du 3 d6.nd) (aH (du 4 d6.nd) dJ)))) λt3=>
 (sv 5 d6.nd (eC xg hr (bX 0 (aa (ae 3) ai))) λmW=>
 (sv 6 d6.nd (eC xh hr (bX 0 (aa (ae 4) (aa (ae 2) ai)))) λi7=>
 (SF.dh (ay (n:=4) (aa (ae 5) (aa (ae 6) (aa (gG (lC da hr (aa (ae 6) ai))) (aa (eC ip hr (bX 0 ai)) ai)))) rfl) λ_=>rfl))))
abbrev fF:DF:=⟨"_law_is_table",top 59,["_law_found","_law_due"],1,λK=>gI K [.v,.v] (cq 2 bK)⟩
def qh (D:DI v fF) (q:NB v):D.O:=
 vX (m:=bK) D iC λsL Wx _ _ _ _ _ _ hr=>
 (SF.RC (Gf.t (L5 (pE (fh rfl (iP rfl .tup rfl q.isinstance (ae 0) rfl q.tuple boot_tuple) (λ_=>rfl))) (Gx (cS (NM rfl (a6 hr)) (ae 0) (ae 1)))))
 (SF.dh HQ λ_=>rfl)
 (SF.Ol (hd:=(λ(s1:Unit)=>([am (.val sL),am (.val Wx),bm]:bb))) (s0:=()) (inj:=id) AH rfl (bI rfl (bO (ae 0))) (.refl _) (du 2 iC.nd) (λ_=>trivial) (λs1 Mr=>
 (SF.Zg (Gf.t (L5 (pE (fh rfl (iP rfl .tup rfl q.isinstance (ae 2) rfl q.tuple boot_tuple) (λ_=>rfl))) (Gx (fh rfl (aag rfl rfl rfl q.any (cF (gw rfl gs (bI rfl (bO (ae 2))) (λ_ _ _ _ _=>(du 0 gs.nd)) (λ_ _ _ _ _ p4=>(iP rfl .bool rfl q.isinstance (ae 0) rfl q.bool boot_bool)) rfl))) (λ_=>rfl)))))
 (SF.ret (k:=λx5=>(Lp.out x5)) HQ λ_=>rfl)
 (SF.fP rfl (.keep (.keep (.drop (.refl _))))))) λs1=>
 (SF.dh HQ λ_=>rfl)))
abbrev TV:DF:=⟨"law",top 60,["_law_script"],16,λK=>gI K [.v] (cq 1 nA)⟩
def Zd (D:DI v TV) (q:NB v) (zW:kM.C v) (az:bc.C v) (zX:kN.C v) (pN:kL.C v) (nR:jH.C v) (ip:fc.C v) (j3:fF.C v) (w5:xU.C v):D.O:=
 pZ (m:=nA) D gc λgQ _ _ _ _ _ _ hr=>
 (SF.Ol (hd:=(λ(s6:Unit)=>([am (.val gQ),bm,bm,bm,bm,bm,bm,bm,bm,bm,bm]:bb))) (s0:=()) (inj:=id) AH rfl (c9 rfl q.range (aac rfl rfl q.max ak (aab rfl rfl q.min ak (dG rfl rfl q.len (ae 0))))) (.refl _) (du 1 gc.nd) (λ_=>trivial) (λs6 k_7=>
 (sl 2 gc.nd (lC zW hr (aa (ae 0) (aa (ae 1) ai))) λpL=>SF.mP 2 rfl
 (sv 3 gc.nd (aV rfl (rB (aN (n:=4) (aa (ay (n:=2) (aa ak (aa ak ai)) rfl) (aa (ay (n:=2) (aa ak (aa ak ai)) rfl) (aa (ay (n:=2) (aa ak (aa ak ai)) rfl) (aa (ay (n:=2) (aa ak (aa ak ai)) rfl) ai)))) rfl)) (eC az hr (bX 2 (aa ak ai)))) λrf=>
 (SF.Mp (eC zX hr (bX 2 (aa (aV rfl (aB (ae 3)) ak) (aa (aV rfl (aB (ae 3)) ak) ai)))) (g_4 rfl (fB rfl (aH (du 4 gc.nd) (aH (du 5 gc.nd) (aH (du 6 gc.nd) (aH (du 7 gc.nd) dJ)))))) λyw=>
 (sv 8 gc.nd (eC pN hr (aa (ae 4) (aa (ae 6) (aa (eC nR hr (aa (ae 4) (aa (ae 6) (aa (ae 7) ai)))) ai)))) λHU=>
 (sv 9 gc.nd (eC ip hr (bX 2 ai)) λrF=>
 (SF.RC (pE (fh rfl (eC j3 hr (aa (eC w5 hr (aa (ae 4) (aa (ae 5) (aa (ae 7) ai)))) (aa (ae 8) ai))) (λ_=>rfl)))
 (SF.ret (k:=λx42=>(Lp.out x42)) HQ λ_=>rfl)
 (sv 10 gc.nd (eC pN hr (aa (ae 4) (aa (ae 6) (aa (eC nR hr (aa (ae 4) (aa (ae 6) (aa (ae 9) ai)))) ai)))) λNQ=>
 (SF.RC (pE (fh rfl (eC j3 hr (aa (eC w5 hr (aa (ae 4) (aa (ae 5) (aa (ae 9) ai)))) (aa (ae 10) ai))) (λ_=>rfl)))
 (SF.ret (k:=λx55=>(Lp.out x55)) HQ λ_=>rfl)
 (SF.Zg (cS (NM rfl (a6 hr)) (eC w5 hr (aa (ae 4) (aa (ae 5) (aa (ae 7) ai)))) (ae 8))
 (SF.ret (k:=λx59=>(Lp.out x59)) HQ λ_=>rfl)
 (SF.fP rfl (.keep (.drop (.drop (.drop (.drop (.drop (.drop (.drop (.drop (.drop (.drop (.refl _))))))))))))))))))))))) λs6=>
 (SF.dh HQ λ_=>rfl))
end
open PySem PySem.Spec PyProof.Rows L2 PL FL
def all_d {K:Ab} (X:K.In h) (G:h.Ns ev mg) (HK:DX K "parts_of" (top 1)) (R0:DX K "nodes" (top 2)) (OS:DX K "halves" (top 3)) (HS:DX K "ahead_of" (top 4)) (HH:DX K "under_at" (top 9)) (FJ:DX K "beside_at" (top 10)) (Lj:DX K "is_home" (top 11)) (Li:DX K "name_of" (top 12)) (HM:DX K "lines_up" (top 13)) (xF:DX K "apart_from" (top 14)) (OT:DX K "ground" (top 15)) (FH:DX K "split_ins" (top 22)) (HL:DX K "over_ins" (top 23)) (HN:DX K "deeds_at" (top 24)) (OM:DX K "summed" (top 27)) (HP:DX K "cheapest" (top 28)) (HJ:DX K "price_of" (top 29)) (FI:DX K "deed_cost" (top 30)) (xE:DX K "deed_costs" (top 31)) (FG:DX K "step_cost" (top 32)) (xB:DX K "step_costs" (top 33)) (OO:DX K "row_of" (top 34)) (RZ:DX K "table" (top 35)) (uh:DX K "split_dates" (top 37)) (HI:DX K "standing" (top 38)) (Lh:DX K "stay_of" (top 39)) (R1:DX K "dated" (top 40)) (FP:DX K "_law_hand" (top 42)) (FK:DX K "_law_take" (top 43)) (FO:DX K "_law_pick" (top 44)) (xH:DX K "_law_words" (top 45)) (uj:DX K "_law_joined" (top 46)) (xO:DX K "_law_great" (top 47)) (xK:DX K "_law_small" (top 48)) (xM:DX K "_law_nodes" (top 49)) (xQ:DX K "_law_dates" (top 50)) (xJ:DX K "_law_stays" (top 51)) (ui:DX K "_law_prices" (top 52)) (xP:DX K "_law_deeds" (top 53)) (xI:DX K "_law_steps" (top 54)) (xG:DX K "_law_worth" (top 55)) (xN:DX K "_law_known" (top 56)) (FN:DX K "_law_rows" (top 57)) (FQ:DX K "_law_case" (top 58)) (qo:DX K "_law_is_table" (top 59)) (nX:AA K ev "UNDER"=am (am (.int 2 IG))) (kQ:AA K ev "BESIDE"=am (am (.int 3 yJ))) (tq:AA K ev "NAME"=am (am (.int 0 Ma))) (nZ:AA K ev "FOUND"=am (am (.str "found" II))) (nY:AA K ev "SPLIT"=am (am (.str "split" IH))) (tm:AA K ev "OVER"=am (am (.str "over" L9))) (iR:AA K ev "DOUBLED"=am (am (.str "doubled" ux))) (lE:AA K ev "DEEDS"=am (am (.ref qO))) (qH:Ph K qO ["split","doubled","over"]) (tu:AA K ev "LOST"=am (am (.int 3 Mb))) (vq:AA K ev "isinstance"=am bm) (Xy:AA K ev "str"=am bm) (T5:AA K ev "list"=am bm) (Gq:AA K ev "reversed"=am bm) (XB:AA K ev "len"=am bm) (PN:AA K ev "tuple"=am bm) (yB:AA K ev "enumerate"=am bm) (PQ:AA K ev "range"=am bm) (LR:AA K ev "sorted"=am bm) (Xx:AA K ev "sum"=am bm) (Xz:AA K ev "min"=am bm) (Xw:AA K ev "zip"=am bm) (T6:AA K ev "dict"=am bm) (XE:AA K ev "abs"=am bm) (XC:AA K ev "int"=am bm) (T7:AA K ev "bool"=am bm) (XD:AA K ev "any"=am bm) (XA:AA K ev "max"=am bm):aaC K mg TV:=by
 constructor
 rintro v rfl rfl D;have q:NB v:=⟨AD X G vq,AD X G Xy,AD X G T5,AD X G Gq,AD X G XB,AD X G PN,AD X G yB,AD X G PQ,AD X G LR,AD X G Xx,AD X G Xz,AD X G Xw,AD X G T6,AD X G XE,AD X G XC,AD X G T7,AD X G XD,AD X G XA⟩;replace nX:=BF X G nX;replace kQ:=BF X G kQ;replace tq:=BF X G tq;replace nZ:=BF X G nZ;replace nY:=BF X G nY;replace tm:=BF X G tm;replace iR:=BF X G iR;replace lE:=BF X G lE;replace tu:=BF X G tu;refine HK.go (d:=mE) X G (λD=>Hg D q) λIp=>?_;refine R0.go (d:=lA) X G (λD=>Ro D q Ip) λqP=>?_;refine OS.go (d:=iQ) X G (λD=>NH D q) λoe=>?_;refine HS.go (d:=jB) X G (λD=>Hl D q qP oe) λtD=>?_;refine HH.go (d:=eX) X G (λD=>Hd D nX) λjP=>?_;refine FJ.go (d:=kK) X G (λD=>zJ D kQ) λGa=>?_;refine Lj.go (d:=pA) X G (λD=>KZ D tq jP) λLH=>?_;refine Li.go (d:=lB) X G (λD=>KY D q) λvm=>?_;refine HM.go (d:=mG) X G (λD=>Hi D q tD) λIr=>?_;refine xF.go (d:=jA) X G (λD=>wB D q) λye=>?_;refine OT.go (d:=sY) X G (λD=>NI D q qP Ir vm oe ye) λPk=>?_;refine FH.go (d:=kI) X G (λD=>zH D q jP) λF8=>?_;refine HL.go (d:=mF) X G (λD=>Hh D Ga) λIq=>?_;refine HN.go (d:=mH) X G (λD=>Hj D q nZ nY tm iR LH F8 Iq) λIu=>?_;refine OM.go (d:=nW) X G (λD=>ND D q) λF6=>?_;refine HP.go (d:=mI) X G (λD=>Hk D q) λIv=>?_;refine HJ.go (d:=mD) X G (λD=>Hf D lE qH) λIo=>?_;refine FI.go (d:=kJ) X G (λD=>zI D q oe F6 Io) λF9=>?_;refine xE.go (d:=jz) X G (λD=>wA D Iu F9) λyd=>?_;refine FG.go (d:=kH) X G (λD=>zG D q tu jP) λF7=>?_;refine xB.go (d:=jy) X G (λD=>wx D F7 jP F6) λyc=>?_;refine OO.go (d:=sX) X G (λD=>NF D q yd yc Iv) λPj=>?_;refine RZ.go (d:=xU) X G (λD=>Rn D q qP Pj) λSr=>?_;refine uh.go (d:=ir) X G (λD=>t6 D q) λuo=>?_;refine HI.go (d:=mC) X G (λD=>He D q tD) λIm=>?_;refine Lh.go (d:=pz) X G (λD=>KW D q oe vm) λLG=>?_;refine R1.go (d:=xV) X G (λD=>Rp D q qP uo Im LG) λSs=>?_;refine FP.go (d:=kM) X G (λD=>zN D q) λGd=>?_;refine FK.go (d:=bc) X G (λD=>zK D) λbS=>?_;refine FO.go (d:=d3) X G (λD=>zM D q bS) λhU=>?_;refine xH.go (d:=jD) X G (λD=>wD D q bS hU) λyg=>?_;refine uj.go (d:=fe) X G (λD=>uc D q bS) λmj=>?_;refine xO.go (d:=jI) X G (λD=>wJ D yg bS mj) λym=>?_;refine xK.go (d:=jG) X G (λD=>wH D q bS hU mj) λyj=>?_;refine xM.go (d:=fX) X G (λD=>nI D q 12) λog=>?_;refine xQ.go (d:=jK) X G (λD=>wL D q og hU bS) λyo=>?_;refine xJ.go (d:=jF) X G (λD=>wG D bS Pk Ss yo) λyi=>?_;refine ui.go (d:=fc) X G (λD=>ub D q bS hU) λmi=>?_;refine xP.go (d:=jJ) X G (λD=>wK D q) λyn=>?_;refine xI.go (d:=jE) X G (λD=>wF D q) λyh=>?_;refine xG.go (d:=jC) X G (λD=>wC D) λyf=>?_;refine xN.go (d:=jH) X G (λD=>wI D q yn yh yf) λyk=>?_;refine FN.go (d:=kL) X G (λD=>zL D q) λGb=>?_;refine FQ.go (d:=kN) X G (λD=>zO D ym yi yj og mi) λGe=>?_;refine qo.go (d:=fF) X G (λD=>qh D q) λqt=>?_;exact Zd D q Gd bS Ge Gb yk mi qt Sr
def walk {l:EH}{q:sK}{d:DefRec}{K:Params->Ab} (hn:l.most=am 63) (ZH:d.params.defaults=[])
  (hY:∀(w:tz) (h:lf),YP w h->(K w.params).In h)
  (F:∀(w:tz) (mg:Str->Option bn) (fa:ce) (h:lf),(K w.params).In h->h.Ns ev mg->mg d.name=am (.ref fa)->
   ∃fd:Db,(∀(s:ci) (u:bn),BindsTo s fd ⟨[u],[]⟩ [("_law_script",u)])/\∀base:lf,(K w.params).In base->base.Ns ev mg->iU l.prog w (K w.params) mg base mm 16 fa fd ["_law_script"] (IU (K w.params))) :
  PySem.W.WalkO q Ð XP YP l.row.toRowW d [] (λf vs=>Fy f vs):=
 L2.PU (n:=63) (k:=16) (x:="_law_script") (CX:=λ_=>mm) (sp:=λw=>IU (K w.params)) hn ⋯ ZH ⟨rfl,by decide,by decide,rfl⟩ hY F (λ_ _ a ns hl hO hS=>⟨a,ns,rfl,hO,hS,hl,λ_=>rfl⟩) λ_ _ _ _ _ z=>z
end My
end
open PySem PySem.W PyProof.Rows
inductive PySem.W.Fast:Prop|tw3196645444297962589|tw17713644019802285950|tw14558028684655579768|tw16502750009557063910|tw15005721307892995980|tw11723785461481788337|tw6158639525944850021|tw13740814077898866655|tw15050065615357725980|tw12340391681525587996|tw1813901573629210429|tw5498010372016080162|tw11101834858147853513|tw10765796024497657309|tw7041994349656733627|tw7409899742634616356|tw18180021368516740392|tw3128831015636027369|tw10468877642265225927|tw7499970936077737678|tw10382476385962975684|tw10934928363431520170|tw2403316169599477870|tw3026677425470938557|tw9269973867309353784|tw8497400894547029375|tw11698466244320628807|tw1653644602193274651|tw9680390423284979089|tw814498820173672577|tw11790927774691746138|tw16801664919097425809|tw18362868831937600128|tw14929869424046703452|tw11409804856752561721|tw1631652085985686718|tw16185628745810837137|tw3060752063246061291|tw1859359841003088726|tw3345980228834806867|tw1589953966605926487|tw1625086553440556729|tw3708726525049019635|tw17987000053563326095|tw6196004992842397943|tw242263806497562683|tw13951290837905487817|tw632442658543938943|tw12084900495812613194|tw2974356061251066732|tw17899428361719827815|tw12140108954836716442|tw375633905939395716|tw10758806689427282511|tw5792967090092612050|tw2373894033976638957|tw12042503776283392560|tw1241304217613593872|tw11829773055407708|tw4588702106919768516|tw6087584818963203129|tw5352835712895967694|tw1979376944797435304|tw2683498942217179261|tw1338916133625204327|tw3717676200280748021|tw16996571915426772024|tw9499499176628751842|tw4885501032909795005|tw4495066071437303649|tw6749934049498286960|tw14109921984812566231|tw6915625156516476545|tw16686979208866488158|tw8701036754040131232|tw16312034004514170523|tw8597402911413949269|tw6536192631930804424|tw7356508537122229448|tw11515262440566306881|tw7427978429992630413|tw12980306286983146157|tw11965046075781173942|tw4235506957909205088|tw1734680776621723803|tw8380858573988525744|tw9236345172938650550|tw2728134405375452380|tw7541046701709907576|tw14418021866131363054|tw11462482381458399840|tw4197757172520446824|tw15318515535832829334|tw9520402583267124584|tw6373977147954624197|tw15884568792500249231|tw5252076168918094251|tw7494782793835581788|tw1334864378950016208|tw697840850088939753
def PySem.W.Fast.tw11316577055530895402:=PySem.Challenge.pw_treewithin_k26_tables_by_sums
theorem PySem.W.Fast.te11316577055530895402:PySem.Challenge.pw_treewithin_k26_tables_by_sums=PySem.W.Fast.tw11316577055530895402:=rfl
set_option maxRecDepth 100000 in
set_option maxHeartbeats 0 in
theorem PySem.Challenge.cw_treewithin_k26_tables_by_sums_holds : PySem.Challenge.rw_treewithin_k26_tables_by_sums.Holds := by
 w_on;o_law;k_head;(case hw=>w_witness2)
 k_fill
 refine My.walk (l:=PySem.Challenge.rw_treewithin_k26_tables_by_sums) rfl rfl (fun w h Y=>PySem.W.kIn_of Y) ?F
 case F=>
  intro w mg fa h KX G hmg;refine' FL.mkAll (st:=My.top 60) (k:=16) My.law26_ok KX G hmg ?e (fun _ _ _ _ _ _=>FL.us1 fun _=>rfl) (My.all_d KX G ..)
  all_goals try first | (refine' FL.dx ?a ?l ?c ?k;(case a=>k_is);(case l=>k_is);(case c=>k_is);(case k=>k_is)) | (refine' FL.tup3K ?a;(case a=>k_is)) | k_is
#print axioms PySem.Challenge.cw_treewithin_k26_tables_by_sums_holds
