import PyProof.Rows.All
import Wide.All
import OpenK.AllK
import Wide.FinOn
import Lean
import PyProof.EqAt
import PyProof.EqKinds
import PyProof.TupleCall
import PyProof.NeKinds
import PyProof.FactsAll.tuple_2
import PyProof.FactsAll.str_0
import PyProof.FactsAll.str_1
import PyProof.FactsAll.str_2
import PyProof.FactsAll.str_3
import PyProof.Rows.MinMaxN
import PyProof.Rows.SumAny
import PyProof.Rows.SetFrom
import PyProof.ReprRoads
import PyProof.Rows.StrKeys3
import PyProof.CallFns
import KE.KSortTup
import KE.KDictSum
import PyProof.Rows.CallKwBuiltin
import KE.KMinBuiltin
import PySem.Challenge.RW_treewithin_k27_least_costs
local macro_rules | `(tactic| omega) => `(tactic| lia)
open PySem renaming wpAny_bind -> Aa, wpAny_pure -> Ae, wpAny_setField_rec -> AX, Value -> AZ, wpAny_newObj_type -> A1, wpAny_field -> A4, wpAny_callSpecial?_slot -> A5, wpAny_holding -> Bk, wpAny_call_entry -> Bl, wpAny_seqItems -> Bq, Addr -> BC, wpAny_Call_Name_kw -> BD, wpAny_mono -> BJ, mem_of_lookup -> BK, wpAny_typeNameOfWhole_keyiter -> BV, Str -> B1, Expr -> B4, Pos -> B9, wpAny_passesOwn -> Cf, wpAny_typeNameOf_keyiter -> Cj, wpAny_of_eq -> Cr, wpAny_letGo -> Cs, wpAny_updateSeq -> Cv, wpAny_newTuple -> CK, wpAny_attempt -> CV, wpAny_rule -> CZ, wpAny_truthy_bool -> C3, wpAny_pyIter_list -> C4, wpAny_pyIter_enum -> C5, wpAny_isInstance -> Dj, wpAny_eqBool_str -> Dk, wpAny_updateSeq_pair -> Dv, wpAny_execs_nil -> DB, Shared -> DK, wpAny_tryCatch -> DU, wpAny_setField -> DV, wpAny_pyIter_tuple -> DW, wpAny_letOwnedTupleGo_enum -> DY, wpAny_dictEntries -> Eb, wpAny_standAt -> Ee, wpAny_onRaise -> Ef, wpAny_comprehension_free -> Eg, wpAny_typeOf -> Et, wpAny_specialOf -> EK, wpAny_dictEpoch -> EL, Heap -> Fm, Obj -> Fv, call -> FA
open PySem.W renaming Frag -> Ab, nsIn -> AE, mg_none_of -> AH, kia_one -> A7, kitOne -> Bp, mg_of -> BH, fnOf -> BU, KasT -> DH, keepIn -> DN, codeIn -> DP, methodObj -> D7, kitx_list -> D8, kitx_dict -> D9, cellsFrom_some -> Eo, kas_rev -> EG, instObj -> EH, OpenLaw -> EI, lookIn -> EX, kitx_tuple -> Fg, plainGet -> Fq, kat_cons -> Fs, kas_sort -> Ft
open List renaming getElem?_eq_getElem -> Ad, length_map -> Af, getD_eq_getElem?_getD -> Ah, length_append -> Ai, size_toArray -> Aj, getElem?_map -> Ak, getElem?_eq_some_iff -> Al, replicate -> Am, length_cons -> Ao, map_cons -> Aq, mem_map -> Av, mem_cons -> Aw, append_assoc -> Ay, range -> Az, map_map -> AB, getElem?_eq_none -> AI, getElem?_append_left -> AL, map_append -> AN, mem_append_right -> AQ, mem_singleton -> AR, mem_cons_of_mem -> AV, getElem?_append_right -> AW, mem_range -> AY, mem_append -> A2, filterMap_cons -> A6, mem_filter -> A8, find?_cons -> Be, lookup_cons -> Bf, drop_eq_getElem_cons -> Bh, length_nil -> Bj, length_replicate -> Bm, getElem?_replicate -> Bo, mem_of_getElem? -> Br, mem_cons_self -> Bs, not_mem_nil -> Bt, replicate_succ -> Bu, getElem?_range -> Bv, length_filter_le -> Bw, any_cons -> Bx, idxOf_lt_length_of_mem -> BG, map_congr_left -> BL, length_set -> BM, length -> BN, forIn_cons -> BO, pairwise_iff_getElem -> BP, getElem?_set_ne -> BW, eq_nil_of_length_eq_zero -> BX, flatten_cons -> B2, ext_getElem? -> B3, length_reverse -> B5, cons_append -> Ca, mem_append_left -> Ci, length_pos_iff -> Cm, getElem_mem -> Cp, eraseIdx_cons_succ -> Cq, getElem?_set_self -> Cu, append_nil -> Cz, perm_append_comm -> CF, reverse_cons -> CH, length_range -> CI, flatMap_cons -> CJ, getElem?_of_mem -> CM, all_eq_true -> CN, mergeSort_perm -> CS, foldl_cons -> CW, take_succ -> C7, pairwise_lt_range -> C8, replicate_append_replicate -> C9, eraseIdxIfInBounds_toArray -> Dc, length_singleton -> De, take_length -> Dl, filter_cons -> Dm, drop_length -> Dn, sum_cons -> Dp, getElem_toArray -> Dx, nodup_cons -> DC, getElem_of_mem -> DG, pairwise_cons -> D1, nodup_nil -> D2, mem_filterMap -> D3, filter_append -> D4, pairwise_map -> Ec, length_erase_of_mem -> Eh, pairwise_mergeSort -> Em, length_take -> En, take_of_length_le -> Ex, map_set -> Ey, map_nil -> Ez, length_pos_of_mem -> EA, filter_eq_nil_iff -> EB, drop_eq_nil_of_le -> EC, of_mem_zip -> EM, nil_append -> EN, getElem?_toArray -> EW, map -> E4, length_eraseIdx -> E5, reverse_append -> Fc, length_take_le -> Fd
open PySem.Heap renaming get?_push_of_some -> Ag, get?_push_size -> Ap, lt_size -> Ar, get?_update_other -> BI, get?_update_self -> BQ, SameBut -> B8, size_push -> Cn, size_update -> Ei, get?_update_ne -> Fb, ExtBut -> Fx
open Nat renaming le_refl -> An, ne_of_lt -> AA, lt_of_lt_of_le -> AD, zero_add -> AG, lt_irrefl -> AU, zero_le -> A9, add_assoc -> Bg, le_trans -> BB, le_add_right -> BE, sub_self -> Ct, strongRecOn -> Cy, lt_or_ge -> C6, le_succ -> Dw, le_of_lt -> DL, eq_or_lt_of_le -> DZ, lt_succ_self -> Ek, add_sub_cancel_left -> El, succ_mul -> Ew, le_of_ble_eq_true -> EU, sub_sub -> E2, mul_le_mul_right -> E3, sub_zero -> Fp, succ -> FC
open Bool renaming false_eq_true -> Au, and_eq_true -> AO, false_ne_true -> A3, not_true -> CB, and_false -> D5, not_false -> E6, false_and -> E7, true_and -> Ff
open PySem.Value renaming ref -> Ax, none -> AM, str -> Bc, type -> BR, int -> DM, bool -> Fh
open PySem.PassesOwn renaming never -> AJ
open Int renaming toNat_natCast -> Ba, le_refl -> BF, emod_lt_of_pos -> Ce, emod_nonneg -> CA, zero_add -> ED, le_antisymm -> EO
open PySem.NameKind renaming free -> Bb, cell -> Fe
open PyProof.Rows renaming callWith_type1 -> Bd, slot_tuple_getitem -> Ck
open PySem.Obj renaming mapSeq -> Bi, data_mapFields -> CY, isFreed_of_fields -> ER
open False renaming elim -> Bn
open PySem.F renaming slot_dict_keyiterator_next -> Bz, plainAttrs_list -> BZ, slot_tuple_iterator_next -> Cc, plain_min_loop -> Co, slot_enumerate_next -> CC, args_tuple_add_2 -> CT, slot_list_getattribute -> CU, entry_tuple_add -> C1, slot_tuple_add -> C2, args_dict_keyiterator_next_1 -> Dh, entry_dict_keyiterator_next -> Dq, args_list_extend_2 -> Dr, slot_zip_next -> Dy, args_tuple_iterator_next_1 -> Dz, entry_list_extend -> DE, entry_tuple_iterator_next -> DJ, slot_list_extend -> DS, args_enumerate_next_1 -> Ej, entry_enumerate_next -> Ep, type_list_pop -> ES, slot_list_pop -> ET
open Ne renaming symm -> BA
open PySem.AutoSeq1 renaming wpAny_loadPart' -> BS, sub_tuple_tuple -> Di, sub_tuple_list -> Ds, sub_list_tuple -> Du, sub_list_list -> DA, idx_int -> Es
open Array renaming length_toList -> B6, getElem?_eq_getElem -> CP, getElem?_toList -> Df, perm_iff_toList_perm -> D6, getElem?_eq_none -> EE
open PySem.Str renaming ofString -> B7
open True renaming intro -> Cb
open PySem.Calls renaming spliced_cons -> Cd, spliced_nil -> CG, Name_function_global -> DT, callWith_builtin -> Er
open ForInStep renaming yield -> Cg
open Option renaming map_some -> Cw, map_eq_none_iff -> Eu
open Or renaming inr -> CD, inl -> C0
open And renaming right -> CO
open PySem.SeqAt renaming EqAt -> Dg
open PySem.SeqAt.RcNeAt renaming lists_lengths -> DQ, lists -> Fi
open PySem.SeqAt.EqAt renaming int_int -> DR, of_refs -> Fj, same -> Fy
open PySem.EqBoolInt renaming of_rcne -> Ea, of_rc -> EJ
open PySem.SeqAt.RcAt renaming lists_lengths -> Ed, tuples -> Fo, lists -> Fu
open PySem.Fin renaming done -> EY
open PySem.Data renaming seq -> EZ
open PySem.Around renaming under_plainId -> E1
open Sum renaming inr -> E8, inl -> E9
open PyProof.Rows.IsTup renaming new -> Fw
open PySem.Flow renaming ret -> Fz
set_option compiler.extract_closed false
set_option Elab.async false
set_option linter.all false
set_option maxRecDepth 100000
set_option maxHeartbeats 1000000
open Option renaming some→am,none→bm
open PyProof.Rows renaming envOfC→r9,seqObj→sB,IntsAre→tz,boot_str→xz,AllBare→Fa
open PySem renaming Value→bn,Addr→ce,Shared→ci,wpAny→db,model→dL,mainGlobals→ev,starEach→f8,Expr→ii,swapsWith→im,eval→kw,bootBuiltins→lc,Heap→lf,tupleKind→lw,compareOp→mo,Around→nw,attributeBase→o0,cLine→pc,Scope→pr,behindInMarks→re,binaryOp→sn,Stmt→ss,sysModules→sw,call_meets→sK,Program→tt,World→t0,rawInt→ul,plainId_quiet→ut,Builtin→u8,backTo→v4,PassesOwn→wf,setField→wn,NameKind→wv,IntMulOk→ww,assignEach→wP,sliceBounds→wT,storedH→xL,holding→zn,codeAny→BT,swapsWithSole→Ch,swappedStores→Da,assign→Db,FuncData→Ev,typeLookup→EQ,letOwnedTupleGo→Fk,codeAny_builtin→FB
local macro_rules | `(∅)=>`(by omega)
local macro_rules | `(⋯)=>`(by decide)
namespace L2
open PySem PySem.Spec PyProof.Rows
abbrev Key:=Sum Int Str
def ve:Key->bn->Bool
 | .inl k,v=>Value.isInt k v
 | .inr x,v=>Value.isStrOf x v
def adt (w:t0):Key->Int
 | .inl k=>hashInt k
 | .inr x=>hashStr w x
def bL:∀{k:Key}{v:bn},ve k v=true->(∃i t,k=E9 i/\v=DM i t)\/(∃x t,k=E8 x/\v=Bc x t)
 | .inl i,v,h=>by
  obtain⟨t,e⟩:=Value.isInt_shape (k:=i) (v:=v) h;exact .inl ⟨i,t,rfl,e⟩
 | .inr x,v,h=>by
  obtain⟨t,e⟩:=Value.isStrOf_shape (x:=x) (v:=v) h;exact .inr ⟨x,t,rfl,e⟩
def Lo (i:Int) (t:Tok):ve (.inl i) (.int i t)=true:=by simp [ve,Value.isInt]
def Ln (x:Str) (t:Tok):ve (.inr x) (.str x t)=true:=by simp [ve,Value.isStrOf]
def Wg (a b:Int):decide ((E9 a:Key)=E9 b)=(a==b):=by
 by_cases e:a=b
 ·subst e;simp
 ·have h:¬(E9 a:Key)=E9 b:=λq=>e (E9.inj q);rw [decide_eq_false h];exact (beq_eq_false_iff_ne.mpr e).symm
def Wc (a b:Str):decide ((E8 a:Key)=E8 b)=decide (a=b):=by
 by_cases e:a=b
 ·subst e;simp
 ·have h:¬(E8 a:Key)=E8 b:=λq=>e (E8.inj q);rw [decide_eq_false h,decide_eq_false e]
def Wf (a:Int) (b:Str):decide ((E9 a:Key)=E8 b)=false:=decide_eq_false (λq=>nomatch q)
def We (a:Str) (b:Int):decide ((E8 a:Key)=E9 b)=false:=decide_eq_false (λq=>nomatch q)
def bF (prog:tt) (w:t0):PySem.KeyKind prog w Key where
 is:=ve
 hash:=adt w
 inj:=λv a b ha hb=>by
  rcases bL ha with⟨i,t,rfl,rfl⟩ | ⟨x,t,rfl,rfl⟩
  ·rcases bL hb with⟨j,u,rfl,e⟩ | ⟨y,u,rfl,e⟩
   ·injection e with e1 _;rw [e1]
   ·exact nomatch e
  ·rcases bL hb with⟨j,u,rfl,e⟩ | ⟨y,u,rfl,e⟩
   ·exact nomatch e
   ·injection e with e1 _;rw [e1]
 byValue:=λk v h=>by
  rcases bL h with⟨i,t,rfl,rfl⟩ | ⟨x,t,rfl,rfl⟩ <;> rfl
 pyHash:=λhv h=>by
  rcases bL hv with⟨i,t,rfl,rfl⟩ | ⟨x,t,rfl,rfl⟩
  ·exact wpAny_pyHash_int h
  ·exact wpAny_pyHash_str h
 eqBool:=λhu hv h=>by
  rcases bL hu with⟨i,t,rfl,rfl⟩ | ⟨x,t,rfl,rfl⟩
  ·rcases bL hv with⟨j,u,rfl,rfl⟩ | ⟨y,u,rfl,rfl⟩
   ·rw [Wg] at h;exact wpAny_eqBool_int h
   ·rw [Wf] at h;exact Dg.int_str i t y u _ _ _ _ h
  ·rcases bL hv with⟨j,u,rfl,rfl⟩ | ⟨y,u,rfl,rfl⟩
   ·rw [We] at h;exact Dg.str_int x t j u _ _ _ _ h
   ·rw [Wc] at h;exact Dk h
 «strs»:=λk x t v h=>by
  rcases bL h with⟨i,u,rfl,e⟩ | ⟨y,u,rfl,e⟩
  ·exact nomatch e
  ·injection e with e1 _;subst e1;cases v <;> rfl
def zM (prog:tt) (w:t0) (i:Int) (t:Tok):(bF prog w).is (.inl i) (.int i t)=true:=Lo i t
def zL (prog:tt) (w:t0) (x:Str) (t:Tok):(bF prog w).is (.inr x) (.str x t)=true:=Ln x t
end L2
variable {us:List AZ}{u:AZ}{κ α β:Type}{a b e:BC}{P:PySem.Program}{w:PySem.World}{h h':Fm}{ob:Fv}
namespace L2
open PySem PySem.Spec PyProof.Rows
inductive V where
 | aG | bl (b:Bool) | int (i:Int) | str (x:Str) | Xc (b:Array UInt8) | XR (b:UInt64) | ref (a:ce) | ty (n:String)
 deriving DecidableEq
def RelV:V->bn->Prop
 | .aG,u=>u=AM
 | .bl b,u=>u=Fh b
 | .int i,u=>∃t,u=DM i t
 | .str x,u=>∃t,u=Bc x t
 | .Xc b,u=>∃t,u=Value.bytes b t
 | .XR b,u=>∃t,u=Value.float b t
 | .ref a,u=>u=Ax a
 | .ty n,u=>u=BR n
abbrev Vals:List V->List bn->Prop:=Paired RelV
def Vals.length {xs:List V} (r:Vals xs us):xs.length=us.length:=Paired.length r
theorem Vals.get:∀{xs:List V}{us:List bn}{i:Nat}{x:V},Vals xs us->xs[i]?=am x->∃u,us[i]?=am u/\RelV x u
 | _,_,_,_,.nil,e=>by simp at e
 | _,_,0,_,.cons r _,e=>by simp at e;subst e;exact⟨_,rfl,r⟩
 | _,_,i+1,x,.cons _ t,e=>by
  obtain⟨u,h1,h2⟩:=Vals.get (i:=i) (x:=x) t (by simpa using e);exact⟨u,by simpa using h1,h2⟩
theorem Vals.set {x:V} (r:RelV x u):∀{xs:List V}{us:List bn} (i:Nat),Vals xs us->Vals (xs.set i x) (us.set i u)
 | _,_,_,.nil=>.nil
 | _,_,0,.cons _ t=>.cons r t
 | _,_,i+1,.cons q t=>.cons q (Vals.set r i t)
theorem Vals.append:∀{xs ys:List V}{us ws:List bn},Vals xs us->Vals ys ws->Vals (xs++ys) (us++ws)
 | _,_,_,_,.nil,s=>s
 | _,_,_,_,.cons r t,s=>.cons r (Vals.append t s)
theorem Vals.take:∀{xs:List V}{us:List bn} (n:Nat),Vals xs us->Vals (xs.take n) (us.take n)
 | _,_,0,_=>.nil
 | _,_,_+1,.nil=>.nil
 | _,_,n+1,.cons r t=>.cons r (Vals.take n t)
theorem Vals.drop:∀{xs:List V}{us:List bn} (n:Nat),Vals xs us->Vals (xs.drop n) (us.drop n)
 | _,_,0,r=>r
 | _,_,_+1,.nil=>.nil
 | _,_,n+1,.cons _ t=>Vals.drop n t
def tY:Option V->Option bn->Prop
 | some v,am u=>RelV v u
 | none,bm=>True
 | _,_=>False
def KV:List (κ×V)->List (κ×bn)->Prop:=Paired λ(p:κ×V) (q:κ×bn)=>p.1=q.1/\RelV p.2 q.2
def kV:Key->V
 | .inl i=>.int i
 | .inr x=>.str x
inductive HO where
 | lst (xs:List V)
 | tup (xs:List V)
 | dK (kvs:List (Key×V)) | dT (kvs:List (List Key×V))
 | set (S:Int->Bool) (n:Nat)
 | ins (C dx:ce) (fs:List (Str×V))
 | own (x:ce)
 | xd (fs:List (Str×V))
 | met (f x:ce)
 | rng (lo hi:Int)
 | cu (o:Obj) (u:HO)
 | UL (ps:Array bn)
 | ext (φ:lf->Prop)
abbrev Hp:=ce->Option HO
def upd (H:Hp) (a:ce) (o:HO):Hp:=λb=>if b=a then am o else H b
def aM {H:Hp}{o:HO}:upd H a o a=am o:=by unfold upd;rw [if_pos rfl]
def av {H:Hp}{o:HO} (h:b≠a):upd H a o b=H b:=by unfold upd;rw [if_neg h]
def JP {H:Hp}{o u:HO} (h:H a=am o) (h':H b=am u) (d:o≠u):a≠b:=by
 intro e;subst e;rw [h] at h';exact d (Option.some.inj h')
def bq {H:Hp}{o:HO} (h:H a=am o) (h':H b=bm):a≠b:=by
 intro e;subst e;rw [h] at h';cases h'
section
variable (P:tt) (w:t0)
def a7 (H:Hp) (h:lf) (a:ce):HO->Prop
 | .lst xs=>xs.length<=sizeLine/\∃(aq:List bn) (n:Nat),Vals xs aq/\h.get? a=am {cls:=.type "list",data:=.seq aq.toArray n}
 | .tup xs=>xs.length<=sizeLine/\∃aq:List bn,Vals xs aq/\IsTup h a aq.toArray
 | .dK kvs=>kvs.length<=sizeLine/\(a==sw)=false/\∃vs,KV kvs vs/\h.DictOf (bF P w) a vs
 | .dT kvs=>kvs.length<=sizeLine/\(a==sw)=false/\∃xs:List (List Key×ce×bn),
   Paired (λ(p:List Key×V) (q:List Key×ce×bn)=>p.1=q.1/\H q.2.1=am (.tup (p.1.map kV))/\RelV p.2 q.2.2) kvs xs/\
   ∃o es ep,h.get? a=am o/\o.ExactDict/\o.data=.dict es ep/\es.toList=xs.map (entryOfKey (lw (bF P w)))/\(xs.map (·.1)).Nodup
 | .set S n=>h.SetOf (intKind P w) a S n
 | .ins C dx fs=>H dx=am (.own a)/\fs.length<=1000/\dx≠a/\h.get? a=am (EH C dx)/\
   ∃mA,h.Ns1 dx mA/\(∀f,tY (fs.lookup f) (mA f))/\PySem.Within mA (fs.map (·.1))
 | .own _=>∃o,h.get? a=am o
 | .xd fs=>∃mA,h.Ns1 a mA/\∀f,tY (fs.lookup f) (mA f)
 | .rng lo hi=>∃t u v,h.get? a=am {cls:=.type "range",data:=.fields #[.int lo t,.int hi u,.int 1 v]}
 | .cu o u=>h.get? a=am o/\a7 H h a u
 | .UL ps=>h.get? a=am {cls:=.none,data:=.fields ps}
 | .met f x=>h.get? a=am (D7 (.ref f) (.ref x))
 | .ext φ=>φ h/\(∃o,h.get? a=am o)/\∀h1 h2:lf,φ h1->(∀o,h1.get? a=am o->h2.get? a=am o)->φ h2
def lN (H:Hp) (h:lf):Prop:=∀a o,H a=am o->a7 P w H h a o
end
section
variable {H H':Hp}{o:HO}
def a7.lt (x:a7 P w H h a o):a < h.objs.size:=by
 cases o with
 | lst xs=>obtain⟨_,_,_,_,e⟩:=x;exact Ar e
 | tup xs=>obtain⟨_,_,_,p⟩:=x;exact p.lt
 | dK kvs=>obtain⟨_,_,_,_,o,_,_,e,_⟩:=x;exact Ar e
 | dT kvs=>obtain⟨_,_,_,_,o,_,_,e,_⟩:=x;exact Ar e
 | set S n=>obtain⟨o,_,_,_,e,_⟩:=x;exact Ar e
 | ins C dx fs=>obtain⟨_,_,_,e,_⟩:=x;exact Ar e
 | own y=>obtain⟨_,e⟩:=x;exact Ar e
 | xd fs=>obtain⟨_,⟨_,_,_,e,_⟩,_⟩:=x;exact Ar e
 | rng lo hi=>obtain⟨_,_,_,e⟩:=x;exact Ar e
 | cu ob u=>obtain⟨e,_⟩:=x;exact Ar e
 | UL ps=>exact Ar (show h.get? a=am _ from x)
 | met f y=>exact Ar (show h.get? a=am _ from x)
 | ext φ=>obtain⟨_,⟨_,e⟩,_⟩:=x;exact Ar e
theorem Paired.VY {F G:α->β->Prop}:∀{l₁:List α}{l₂:List β},Paired F l₁ l₂->(∀a b,F a b->G a b)->Paired G l₁ l₂
 | _,_,.nil,_=>.nil
 | _,_,.cons r t,f=>.cons (f _ _ r) (Paired.VY t f)
def a7.vV (x:a7 P w H h a o) (k:∀b u,(b=a\/H b=am (.own a))->h.get? b=am u->h'.get? b=am u)
  (ho:∀b,H b=am (.own a)->H' b=am (.own a)) (ht:∀b xs,H b=am (.tup xs)->H' b=am (.tup xs)):a7 P w H' h' a o:=by
 induction o with
 | lst xs=>obtain⟨z,aq,n,r,e⟩:=x;exact⟨z,aq,n,r,k _ _ (.inl rfl) e⟩
 | tup xs=>obtain⟨z,aq,r,ob,e,c⟩:=x;exact⟨z,aq,r,ob,k _ _ (.inl rfl) e,c⟩
 | dK kvs=>obtain⟨z,y,vs,r,ob,es,ep,e,c⟩:=x;exact⟨z,y,vs,r,ob,es,ep,k _ _ (.inl rfl) e,c⟩
 | dT kvs=>
  obtain⟨z,y,xs,r,ob,es,ep,e,c⟩:=x;exact⟨z,y,xs,Paired.VY r λp q z=>⟨z.1,ht _ _ z.2.1,z.2.2⟩,ob,es,ep,k _ _ (.inl rfl) e,c⟩
 | set S n=>obtain⟨ob,es,ep,t,e,c⟩:=x;exact⟨ob,es,ep,t,k _ _ (.inl rfl) e,c⟩
 | ins C dx fs=>
  obtain⟨d,z,ne,e,mA,⟨od,es,ep,e2,c⟩,r⟩:=x;exact⟨ho _ d,z,ne,k _ _ (.inl rfl) e,mA,⟨od,es,ep,k _ _ (.inr d) e2,c⟩,r⟩
 | own y=>obtain⟨ob,e⟩:=x;exact⟨ob,k _ _ (.inl rfl) e⟩
 | xd fs=>obtain⟨mA,⟨od,es,ep,e,c⟩,r⟩:=x;exact⟨mA,⟨od,es,ep,k _ _ (.inl rfl) e,c⟩,r⟩
 | rng lo hi=>obtain⟨t,u,v,e⟩:=x;exact⟨t,u,v,k _ _ (.inl rfl) e⟩
 | cu ob u ih=>obtain⟨e,q⟩:=x;exact⟨k _ _ (.inl rfl) e,ih q⟩
 | UL ps=>
  have e:h.get? a=am {cls:=.none,data:=.fields ps}:=x;show h'.get? a=am {cls:=.none,data:=.fields ps};exact k a _ (.inl rfl) e
 | met f y=>
  have e:h.get? a=am (D7 (.ref f) (.ref y)):=x;show h'.get? a=am (D7 (.ref f) (.ref y));exact k a _ (.inl rfl) e
 | ext φ=>obtain⟨p,⟨o,e⟩,st⟩:=x;exact⟨st _ _ p λo q=>k _ _ (.inl rfl) q,⟨o,k _ _ (.inl rfl) e⟩,st⟩
def lN.lt (x:lN P w H h) (e:H a=am o):a < h.objs.size:=(x a o e).lt
def lN.fresh (x:lN P w H h) (e:h.objs.size<=a):H a=bm:=by
 cases q:H a with
 | none=>rfl
 | some u=>exact absurd (AD (x.lt q) e) (AU _)
def lN.kept (x:lN P w H h) (k:∀b u,h.get? b=am u->h'.get? b=am u):lN P w H h':=λa o e=>
 (x a o e).vV (λb u _ q=>k b u q) (λ_ q=>q) λ_ _ q=>q
def lN.laid (x:lN P w H h) (k:∀b u,h.get? b=am u->h'.get? b=am u) (hp:h.objs.size<=a) (new:a7 P w (upd H a o) h' a o):lN P w (upd H a o) h':=λb u e=>by
 have hn:=x.fresh hp;by_cases hb:b=a
 ·subst hb;rw [aM] at e;cases e;exact new
 ·rw [av hb] at e;exact (x b u e).vV (λc v _ q=>k c v q) (λc q=>by rw [av (bq q hn)];exact q) λc xs q=>by rw [av (bq q hn)];exact q
end
def Rd (H:Hp) (a:ce) (u:HO):Prop:=H a=am u\/∃o,H a=am (.cu o u)
def Rd.ok {H:Hp}{u:HO} (r:Rd H a u) (x:lN P w H h):a7 P w H h a u:=by
 rcases r with r | ⟨o,r⟩
 ·exact x a u r
 ·obtain⟨_,q⟩:=x a _ r;exact q
def Mut:Option HO->Prop
 | some (.lst _)=>True
 | some (.dK _)=>True
 | some (.dT _)=>True
 | some (.set _ _)=>True
 | some (.ins _ _ _)=>True
 | some (.ext _)=>True
 | _=>False
section
variable {H:Hp}{x:ce}{o':HO}
def lN.write (ok:lN P w H h) (mu:Mut (H x)) (he:e=x\/H e=am (.own x)) (k:∀b u,b≠e->h.get? b=am u->h'.get? b=am u) (XJ:∃u,h'.get? e=am u)
  (new:a7 P w (upd H x o') h' x o'):lN P w (upd H x o') h':=λb u q=>by
 have Zj:∀c y,H c=am (.own y)->c≠x:=λc y r z=>by subst z;rw [r] at mu;exact mu
 have ac7:∀c xs,H c=am (.tup xs)->c≠x:=λc xs r z=>by subst z;rw [r] at mu;exact mu
 by_cases hb:b=x
 ·subst hb;rw [aM] at q;cases q;exact new
 ·rw [av hb] at q;by_cases WD:b=e
  ·have q':H b=am (.own x):=by
    rcases he with z | z
    ·exact absurd (WD.trans z) hb
    ·rw [WD];exact z
   rw [q] at q';cases q';obtain⟨v,hv⟩:=XJ;exact⟨v,by rw [WD];exact hv⟩
  ·refine (ok b u q).vV (λc v hc r=>k c v ?_ r) (λc r=>by rw [av (Zj c b r)];exact r) λc xs r=>by rw [av (ac7 c xs r)];exact r
   rcases hc with rfl | hc
   ·exact WD
   ·rintro rfl;rcases he with z | z
    ·exact Zj c b hc z
    ·rw [hc] at z;cases z;exact hb rfl
end
structure Un (fs ex:List ce) (H H':Hp) (h h':lf):Prop where
 keep:∀b o,h.get? b=am o->H b=bm->b∉fs->b∉ex->h'.get? b=am o
 slot:∀b o,h.get? b=am o->H b=bm->b∈fs->b∉ex->∃sl,h'.get? b=am {o with slots:=sl}
 free:∀b o,h.get? b=am o->H b=bm->b∉ex->H' b=bm
 there:∀b o,h.get? b=am o->b∉ex->∃o',h'.get? b=am o'
 d5:∀b xs,H b=am (.tup xs)->H' b=am (.tup xs)
 tj:∀b o u,H b=am (.cu o u)->H' b=am (.cu o u)
 vS:∀b ps,H b=am (.UL ps)->∃more,H' b=am (.UL (ps++more))
section
variable {fs ex:List ce}{H H1:Hp}{h1:lf}{x:ce}{o:HO}
def Un.any (u:Un fs ex H H1 h h1) (q:h.get? b=am ob) (n:H b=bm) (hx:b∉ex):∃sl,h1.get? b=am {ob with slots:=sl}:=by
 by_cases hb:b∈fs
 ·exact u.slot b ob q n hb hx
 ·exact⟨ob.slots,u.keep b ob q n hb hx⟩
def Un.kept (k:∀b u,h.get? b=am u->h'.get? b=am u):Un fs ex H H h h':=
 ⟨λb ob q _ _ _=>k b ob q,λb ob q _ _ _=>⟨ob.slots,k b ob q⟩,λ_ _ _ n _=>n,λb ob q _=>⟨ob,k b ob q⟩,λ_ _ q=>q,λ_ _ _ q=>q,λ_ ps q=>⟨#[],by rw [q];simp⟩⟩
def Un.refl:Un fs ex H H h h:=Un.kept λ_ _ q=>q
def Un.laid (k:∀b u,h.get? b=am u->h'.get? b=am u) (hp:h.objs.size<=a) (hn:H a=bm):Un fs ex H (upd H a o) h h' where
 keep:=λb u q _ _ _=>k b u q
 slot:=λb u q _ _ _=>⟨u.slots,k b u q⟩
 free:=λb u q n _=>by rw [av (AA (AD (Ar q) hp))];exact n
 there:=λb u q _=>⟨u,k b u q⟩
 d5:=λb xs q=>by rw [av (bq q hn)];exact q
 tj:=λb u xs q=>by rw [av (bq q hn)];exact q
 vS:=λb ps q=>⟨#[],by rw [av (bq q hn),q];simp⟩
def Un.write (mu:Mut (H x)) (he:e=x\/H e=am (.own x)) (k:∀b u,b≠e->h.get? b=am u->h'.get? b=am u) (XJ:∃u,h'.get? e=am u):Un fs ex H (upd H x o) h h':=by
 have hx:∀b,H b=bm->b≠x:=λb n z=>by subst z;rw [n] at mu;exact mu
 have hb:∀b,H b=bm->b≠e:=λb n z=>by
  subst z;rcases he with r | r
  ·exact hx b n r
  ·rw [n] at r;cases r
 have hm:∀b u,H b=am u->¬Mut (am u)->b≠x:=λb u q nm z=>by subst z;rw [q] at mu;exact nm mu
 refine⟨λb u q n _ _=>k b u (hb b n) q,λb u q n _ _=>⟨u.slots,k b u (hb b n) q⟩,λb u q n _=>by rw [av (hx b n)];exact n,λb u q _=>?_,
  λb xs q=>by rw [av (hm b _ q λz=>z)];exact q,λb u xs q=>by rw [av (hm b _ q λz=>z)];exact q,λb ps q=>⟨#[],by rw [av (hm b _ q λz=>z),q];simp⟩⟩
 by_cases WD:b=e
 ·subst WD;exact XJ
 ·exact⟨u,k b u WD q⟩
end
def trk (h:lf) (H:Hp):List ce:=(Az h.objs.size).filter λa=>(H a).isSome
def xq (h:lf) (H:Hp):lf:=PySem.W.hideAll h (trk h H)
def LC (h:lf) (H:Hp):(xq h H).objs.size=h.objs.size:=PySem.W.hideAll_size _ _
def OG {H:Hp}{o:Obj} (e:h.get? b=am o) (n:H b=bm):(xq h H).get? b=am o:=
 PySem.W.hideAll_get _ e λhm=>by
  have q:=(A8.mp hm).2;rw [n] at q;simp at q
def Rq {H:Hp}{o:Obj} (e:(xq h H).get? b=am o):h.get? b=am o/\H b=bm:=by
 have e':=PySem.W.of_hideAll (trk h H) e;refine⟨e',?_⟩;cases q:H b with
 | none=>rfl
 | some x=>
  have hm:b∈trk h H:=A8.mpr ⟨AY.mpr (Ar e'),by simp [q]⟩;have z:(xq h H).get? b=bm:=PySem.W.hideAll_none (trk h H) hm;rw [z] at e;cases e
def SY (g h:lf) (L:ce):List (ce×Obj):=(Az h.objs.size).filterMap λa=>if a=L\/(g.get? a).isSome=true then bm else (h.get? a).map λo=>(a,o)
def rest (g h:lf) (L d:ce):List (ce×Obj):=(SY g h L).filter λp=>decide (p.1≠d)
end L2
variable {H H':L2.Hp}{o:Fv}{Z:List (BC×Fv)}{s s':DK}{g':Array PySem.GenState}{ch:List BC}{it:BC}{i j:Nat}{M:PySem.Model}{A:PySem.Around}{E:AZ->DK->Prop}{v:L2.V}{Q:Unit->DK->Prop}
namespace L2
open PySem PySem.Spec PyProof.Rows
structure Mod (K:Ab) (mg:Str->Option bn) (base:lf):Prop where
 kin:K.In base
 glob:base.Ns ev mg
 blt:∃mb,base.Ns builtinsNs mb/\∀x:Str,x≠"__name__"->mb x=lc x
 nolimit:base.NoLimit
structure Cx where
 prog:tt
 w:t0
 K:Ab
 mg:Str->Option bn
 base:lf
 A:nw
 N:List Str
 s₀:ci
 H₀:Hp
 env:Env
 outer:List Env
 stack:List Env
 ex:List ce
 fn:Str->Bool
 calm:Bool
 pn:List (ce×Obj)
 xe:bn->ci->Prop
abbrev i5 (x:Str):Prop:=(x==("__debug__":Str))=false
abbrev GL (x:Str):Prop:=(x==("__classdict__":Str))=false
abbrev gM (X:Cx) (e:ii) (es:List ii):Prop:=f8 (e::es) X.env=(false,kw e X.env)::f8 es X.env
abbrev lT (X:Cx) (p:Pos) (es:List ii):Prop:=(v4 p (f8 es X.env)).any (·.1)=false
abbrev uc (X:Cx) (e:ii):Prop:=∀x,foldedSetIterable e X.env x=pure x
abbrev Xt (X:Cx) (p:Pos) (l:List ii):Prop:=((v4 p (f8 l X.env)).all (λx=>!x.1)&&(backToKw p (keywordEach [] X.env)).all (λx=>x.1.isSome)&&decide (l.length+([]:List Keyword).length+(if ([]:List Keyword).isEmpty then 0 else 1) < 30))=true
abbrev Qm (p q:Pos):Prop:=(p.endLine==q.line)=true
abbrev Mn (X:Cx) (y:Str):Prop:=X.fn y=true\/X.env.scope.names.lookup y=am .local
def Ml (l:List Env):List ce:=l.filterMap (·.frame)
abbrev Cx.fs (X:Cx):List ce:=Ml X.outer
def Gs (sc:pr) (x:Str):Prop:=sc.names.lookup x=am .local\/sc.names.lookup x=am .cell\/sc.names.lookup x=am .free
def Loc (sc:pr) (x:Str):Prop:=sc.names.lookup x=am .local\/sc.names.lookup x=am .cell
def Look (env:Env) (h:lf) (m:Str->Option bn) (x:Str) (u:bn):Prop:=
 (env.kindOf x=am .local/\m x=am u)\/((env.kindOf x=am .cell\/env.kindOf x=am .free)/\∃c,env.cells.lookup x=am c/\h.IsCell c (am u))
structure Cx.Ok (X:Cx):Prop where
 mod:Mod X.K X.mg X.base
 kind:X.env.scope.kind=.function
 glob:X.env.globals=ev
 blt:X.env.builtins=builtinsNs
 above:X.s₀.heap.objs.size<=X.env.locals
 inj:∀x y c,X.env.cells.lookup x=am c->X.env.cells.lookup y=am c->x=y
 has:∀x,(X.env.kindOf x=am .cell\/X.env.kindOf x=am .free)->∃c,X.env.cells.lookup x=am c
 cab:∀x c,X.fn x=true->X.env.cells.lookup x=am c->X.s₀.heap.objs.size<=c
 hd:X.calm=true->X.A.handled=bm
 frames:X.A.frames=am X.stack
 stk:X.stack=X.outer\/(X.stack=X.env::X.outer/\X.env.frame=am X.env.locals)
 exf:∀b∈X.ex,b≠X.env.locals/\∀x c,X.env.cells.lookup x=am c->c≠b
 bs:∀b o,X.base.get? b=am o->X.s₀.heap.get? b=am o/\X.H₀ b=bm
 Uu:X.base.objs.size<=X.s₀.heap.objs.size
 NU:∀b o,X.base.get? b=am o->b∉X.ex
 O4:∀b∈X.ex,b∉X.fs
 sZ:X.s₀.heap.FunFrames X.base X.outer
 XN:∀b∈X.fs,X.H₀ b=bm
structure Inv (X:Cx) (Z:List (ce×Obj)) (σ:List (Option V)) (H:Hp) (s:ci):Prop where
 ok:X.Ok
 os:s.os=X.s₀.os
 bare:Fa s.gens
 base:Un X.fs X.ex X.H₀ H X.s₀.heap s.heap
 loc:∃m,s.heap.Ns X.env.locals m/\∀(i:Nat) (x:Str) (v:V),X.N[i]?=am x->σ[i]?=am (am v)->Gs X.env.scope x->∃u,RelV v u/\Look X.env s.heap m x u
 cell:∀x c,X.env.cells.lookup x=am c->∃v,s.heap.IsCell c v
 free:H X.env.locals=bm
 j6:∀x c,X.env.cells.lookup x=am c->H c=bm
 pin:∀p∈X.pn++Z,s.heap.get? p.1=am p.2/\H p.1=bm/\p.1≠X.env.locals/\p.1∉X.fs/\∀v,p.2.data≠.cell v
 br:lN X.prog X.w H s.heap
 len:σ.length=X.N.length
section
variable {X:Cx}{σ:List (Option V)}
def Cx.Ok.ac9 (ok:X.Ok) (e:X.base.get? b=am o):b∉X.fs:=λhb=>by
 have:=(ok.sZ.mem hb).1;rw [e] at this;cases this
def Inv.bs (I:Inv X Z σ H s):∀b o,X.base.get? b=am o->s.heap.get? b=am o/\H b=bm:=λb o e=>
 ⟨I.base.keep b o (I.ok.bs b o e).1 (I.ok.bs b o e).2 (I.ok.ac9 e) (I.ok.NU b o e),I.base.free b o (I.ok.bs b o e).1 (I.ok.bs b o e).2 (I.ok.NU b o e)⟩
def Inv.bk (I:Inv X Z σ H s):∀b o,X.base.get? b=am o->s.heap.get? b=am o:=λb o e=>(I.bs b o e).1
def Inv.mod (I:Inv X Z σ H s):Mod X.K X.mg X.base:=I.ok.mod
def Inv.vg (I:Inv X Z σ H s):X.K.In s.heap:=I.ok.mod.kin.keeps I.bk
def Inv.lt (I:Inv X Z σ H s):X.env.locals < s.heap.objs.size:=let ⟨_,hn,_⟩:=I.loc;hn.lt
def Inv.sz (I:Inv X Z σ H s):X.s₀.heap.objs.size<=s.heap.objs.size:=BB I.ok.above (DL I.lt)
def Inv.ac8 (I:Inv X Z σ H s) (h:s.heap.objs.size<=a):a∉X.fs:=λhb=>by
 obtain⟨_,o,ho,_⟩:=I.ok.sZ.mem hb;exact absurd (AD (Ar ho) (BB I.sz h)) (AU _)
def Inv.W9 (I:Inv X Z σ H s):∀x c,X.env.cells.lookup x=am c->c≠X.env.locals:=λx c e z=>by
 obtain⟨v,o,ho,hd⟩:=I.cell x c e;obtain⟨m,⟨o',es,ep,Wx,ģ,_⟩,_⟩:=I.loc;rw [z,Wx] at ho;cases ho;rw [ģ] at hd;cases hd
def Inv.sZ (I:Inv X Z σ H s):s.heap.FunFrames X.base X.outer:=by
 have all:∀(l:List Env),(∀b∈Ml l,b∈X.fs)->X.s₀.heap.FunFrames X.base l->s.heap.FunFrames X.base l:=by
  intro l
  induction l with
  | nil=>intro _ _;trivial
  | cons env r ih=>
   intro hs hl;obtain⟨hk,⟨L,o,hf,hn,ho,hd⟩,hr⟩:=hl;have hL:=hs L (by unfold Ml;rw [A6,hf];exact Bs);obtain⟨sl,e⟩:=I.base.slot L o ho (I.ok.XN L hL) hL λz=>I.ok.O4 L z hL;exact⟨hk,⟨L,_,hf,hn,e,hd⟩,ih (λb hb=>hs b (by unfold Ml;rw [A6,hf];exact AV _ hb)) hr⟩
 exact all X.outer (λ_ hb=>hb) I.ok.sZ
def Inv.stack (I:Inv X Z σ H s):s.heap.FunFrames X.base X.stack:=by
 rcases I.ok.stk with e | ⟨e,hf⟩
 ·rw [e];exact I.sZ
 ·rw [e];obtain⟨m,hn,_⟩:=I.loc;refine .cons (by rw [I.ok.kind];decide) hf hn ?_ I.sZ;exact Heap.get?_none_of_le (BB I.ok.Uu I.ok.above)
def Inv.GY (I:Inv X Z σ H s):∀b∈Ml X.stack,b∈X.env.locals::X.fs:=λb hb=>by
 rcases I.ok.stk with e | ⟨e,hf⟩
 ·rw [e] at hb;exact AV _ hb
 ·rw [e] at hb;unfold Ml at hb;rw [A6,hf] at hb;exact hb
def Inv.Jl (I:Inv X Z σ H s):∀b∈Ml X.stack,H b=bm:=λb hb=>by
 rcases Aw.mp (I.GY b hb) with e | hb
 ·rw [e];exact I.free
 ·obtain⟨_,o,ho,_⟩:=I.ok.sZ.mem hb;exact I.base.free b o ho (I.ok.XN b hb) λz=>I.ok.O4 b z hb
def Inv.step {t':Nat}{d':Drawn} (I:Inv X Z σ H s)
  (Qg:∀b∈ch,(b∈X.ex\/X.s₀.heap.objs.size<=b)/\b≠X.env.locals/\(∀x c,X.env.cells.lookup x=am c->c≠b)/\∀p∈X.pn++Z,p.1≠b)
  (keep:∀b o,b≠X.env.locals->b∉X.fs->b∉ch->s.heap.get? b=am o->H b=bm->h'.get? b=am o)
  (slot:∀b o,b≠X.env.locals->b∈X.fs->b∉ch->s.heap.get? b=am o->H b=bm->∃sl,h'.get? b=am {o with slots:=sl}) (free:∀b o,b∉ch->s.heap.get? b=am o->H b=bm->H' b=bm)
  (there:∀b o,b∉ch->s.heap.get? b=am o->∃o',h'.get? b=am o')
  (d5:∀b xs,H b=am (.tup xs)->H' b=am (.tup xs)) (tj:∀b o u,H b=am (.cu o u)->H' b=am (.cu o u)) (vS:∀b ps,H b=am (.UL ps)->∃more,H' b=am (.UL (ps++more)))
  (ns:∀m,s.heap.Ns X.env.locals m->h'.Ns X.env.locals m) (br:lN X.prog X.w H' h') (hg:Fa g') :
  Inv X Z σ H' {s with heap:=h',gens:=g',drawn:=d',toks:=t'}:=by
 have neL:∀b o,X.s₀.heap.get? b=am o->b≠X.env.locals:=λb o e=>AA (AD (Ar e) I.ok.above);have ñ:∀b o,X.s₀.heap.get? b=am o->b∉X.ex->b∉ch:=λb o e hx hb=>by
  rcases (Qg b hb).1 with z | z
  ·exact hx z
  ·exact absurd (AD (Ar e) z) (AU _)
 have Ü:∀x c,X.env.cells.lookup x=am c->∀v,s.heap.IsCell c v->h'.IsCell c v:=λx c e v ⟨o,ho,hd⟩=>by
  have Zl:c∉ch:=λz=>(Qg c z).2.2.1 x c e rfl;by_cases hc:c∈X.fs
  ·obtain⟨sl,q⟩:=slot c o (I.W9 x c e) hc Zl ho (I.j6 x c e);exact⟨_,q,hd⟩
  ·exact⟨o,keep c o (I.W9 x c e) hc Zl ho (I.j6 x c e),hd⟩
 refine⟨I.ok,I.os,hg,⟨λb o e n hb hx=>?_,λb o e n hb hx=>?_,λb o e n hx=>?_,λb o e hx=>?_,λb xs e=>d5 b xs (I.base.d5 b xs e),λb o xs e=>tj b o xs (I.base.tj b o xs e),λb ps e=>?_⟩,?_,λx c e=>?_,?_,λx c e=>?_,λp hp=>?_,br,I.len⟩
 ·exact keep b o (neL b o e) hb (ñ b o e hx) (I.base.keep b o e n hb hx) (I.base.free b o e n hx)
 ·obtain⟨sl,e1⟩:=I.base.slot b o e n hb hx;obtain⟨sl',e2⟩:=slot b _ (neL b o e) hb (ñ b o e hx) e1 (I.base.free b o e n hx);exact⟨sl',e2⟩
 ·obtain⟨o',e1⟩:=I.base.there b o e hx;exact free b o' (ñ b o e hx) e1 (I.base.free b o e n hx)
 ·obtain⟨o',e1⟩:=I.base.there b o e hx;exact there b o' (ñ b o e hx) e1
 ·obtain⟨m1,e1⟩:=I.base.vS b ps e;obtain⟨m2,e2⟩:=vS b _ e1;exact⟨m1++m2,by rw [e2,Array.append_assoc]⟩
 ·obtain⟨m,hn,hl⟩:=I.loc;refine⟨m,ns m hn,λi x v e1 e2 e3=>?_⟩;obtain⟨u,r,l⟩:=hl i x v e1 e2 e3;refine⟨u,r,?_⟩;rcases l with l | ⟨k,c,e,z⟩
  ·exact .inl l
  ·exact .inr ⟨k,c,e,Ü x c e _ z⟩
 ·obtain⟨v,z⟩:=I.cell x c e;exact⟨v,Ü x c e v z⟩
 ·obtain⟨m,⟨o,_,_,ho,_⟩,_⟩:=I.loc;exact free _ o (λz=>(Qg _ z).2.1 rfl) ho I.free
 ·obtain⟨v,o,ho,hd⟩:=I.cell x c e;exact free c o (λz=>(Qg c z).2.2.1 x c e rfl) ho (I.j6 x c e)
 ·obtain⟨e,n,ne,nf,d⟩:=I.pin p hp;have Zl:p.1∉ch:=λz=>(Qg p.1 z).2.2.2 p hp rfl;exact⟨keep p.1 p.2 ne nf Zl e n,free p.1 p.2 Zl e n,ne,nf,d⟩
def Inv.un {t':Nat} (I:Inv X Z σ H s) (u:Un X.fs [] H H' s.heap h') (br:lN X.prog X.w H' h'):Inv X Z σ H' {s with heap:=h',toks:=t'}:=by
 obtain⟨m,⟨o,es,ep,ho,r⟩,_⟩:=id I.loc;obtain⟨sl,hL⟩:=u.any ho I.free (by simp);exact I.step (g':=s.gens) (d':=s.drawn) (ch:=[]) (λ_ z=>nomatch z) (λb o _ hb _ e n=>u.keep b o e n hb (by simp)) (λb o _ hb _ e n=>u.slot b o e n hb (by simp)) (λb o _ e n=>u.free b o e n (by simp)) (λb o _ e=>u.there b o e (by simp)) u.d5 u.tj u.vS (λm' hm=>by
  obtain⟨o',Ā,ā,Wx,r'⟩:=hm;rw [ho] at Wx;cases Wx;exact⟨_,Ā,ā,hL,r'⟩) br I.bare
def Inv.call {t':Nat}{d':Drawn} (I:Inv X Z σ H s) (u:Un (Ml X.stack) ch H H' s.heap h') (br:lN X.prog X.w H' h') (hg:Fa g')
  (Qg:∀b∈ch,(b∈X.ex\/X.s₀.heap.objs.size<=b)/\b≠X.env.locals/\(∀x c,X.env.cells.lookup x=am c->c≠b)/\∀p∈X.pn++Z,p.1≠b) :
  Inv X Z σ H' {s with heap:=h',gens:=g',drawn:=d',toks:=t'}:=by
 obtain⟨m,⟨o,es,ep,ho,r⟩,_⟩:=id I.loc;obtain⟨sl,hL⟩:=u.any ho I.free λz=>(Qg _ z).2.1 rfl;exact I.step (ch:=ch) Qg (λb o hL hb hc e n=>u.keep b o e n (λz=>(Aw.mp (I.GY b z)).elim hL hb) hc) (λb o _ _ hc e n=>u.any e n hc) (λb o hc e n=>u.free b o e n hc) (λb o hc e=>u.there b o e hc) u.d5 u.tj u.vS (λm' hm=>by
  obtain⟨o',Ā,ā,Wx,r'⟩:=hm;rw [ho] at Wx;cases Wx;exact⟨_,Ā,ā,hL,r'⟩) br hg
def Inv.turned {t':Nat} (I:Inv X Z σ H s) (k:∀b o,b≠it->s.heap.get? b=am o->h'.get? b=am o) (hn:H it=bm) (hL:it≠X.env.locals)
  (h1:it∈X.ex\/X.s₀.heap.objs.size<=it) (h2:∀x c,X.env.cells.lookup x=am c->c≠it) (h3:∀p∈X.pn++Z,p.1≠it):Inv X Z σ H {s with heap:=h',toks:=t'}:=by
 have TB:∀b u,H b=am u->b≠it:=λb u e z=>by rw [z,hn] at e;cases e
 refine I.step (g':=s.gens) (d':=s.drawn) (ch:=[it]) (λb hb=>?_) (λb o _ _ hc e _=>k b o (λz=>hc (by simp [z])) e) (λb o _ _ hc e _=>⟨o.slots,k b o (λz=>hc (by simp [z])) e⟩) (λ_ _ _ _ n=>n)
  (λb o hc e=>⟨o,k b o (λz=>hc (by simp [z])) e⟩) (λ_ _ e=>e) (λ_ _ _ e=>e) (λb ps e=>⟨#[],by rw [e];simp⟩) (λm hm=>?_) (λb u e=>?_) I.bare
 ·have e:b=it:=by simpa using hb
  subst e;exact⟨h1,hL,h2,h3⟩
 ·obtain⟨o,es,ep,ho,r⟩:=hm;exact⟨o,es,ep,k _ o (BA hL) ho,r⟩
 ·refine (I.br b u e).vV (λc v hc q=>k c v ?_ q) (λ_ q=>q) λ_ _ q=>q;rcases hc with z | z
  ·rw [z];exact TB b u e
  ·exact TB c _ z
def Inv.tok (I:Inv X Z σ H s) (t:Nat):Inv X Z σ H {s with toks:=t}:=I.un (h':=s.heap) (t':=t) Un.refl I.br
def Inv.kept {t':Nat} (I:Inv X Z σ H s) (k:∀b u,s.heap.get? b=am u->h'.get? b=am u):Inv X Z σ H {s with heap:=h',toks:=t'}:=I.un (Un.kept k) (I.br.kept k)
def Inv.laid {o:HO}{t':Nat} (I:Inv X Z σ H s) (k:∀b u,s.heap.get? b=am u->h'.get? b=am u) (hp:s.heap.objs.size<=a) (new:a7 X.prog X.w (upd H a o) h' a o) :
  Inv X Z σ (upd H a o) {s with heap:=h',toks:=t'}:=I.un (Un.laid k hp (I.br.fresh hp)) (I.br.laid k hp new)
def Inv.write {x:ce}{o:HO}{t':Nat} (I:Inv X Z σ H s) (mu:Mut (H x)) (he:e=x\/H e=am (.own x)) (k:∀b u,b≠e->s.heap.get? b=am u->h'.get? b=am u) (XJ:∃u,h'.get? e=am u)
  (new:a7 X.prog X.w (upd H x o) h' x o):Inv X Z σ (upd H x o) {s with heap:=h',toks:=t'}:=I.un (Un.write mu he k XJ) (I.br.write mu he k XJ new)
def Inv.JA {zr:List (ce×Obj)} (I:Inv X Z σ H s) (h:∀p∈zr,s.heap.get? p.1=am p.2/\H p.1=bm/\p.1≠X.env.locals/\p.1∉X.fs/\∀v,p.2.data≠.cell v):Inv X zr σ H s:=
 ⟨I.ok,I.os,I.bare,I.base,I.loc,I.cell,I.free,I.j6,λp hp=>(A2.mp hp).elim (λz=>I.pin p (Ci _ z)) (h p),I.br,I.len⟩
def zG {N:List Str} (hN:N.Nodup) {x:Str} (a:N[i]?=am x) (b:N[j]?=am x):i=j:=by
 obtain⟨h1,e1⟩:=Al.mp a;obtain⟨h2,e2⟩:=Al.mp b;exact (List.getElem_inj hN).mp (e1.trans e2.symm)
def uU {x:Str} (I:Inv X Z σ H s) (hN:X.N.Nodup) (hi:X.N[i]?=am x) (hx:Loc X.env.scope x) (r:RelV v u)
  (h:∀s',Inv X Z (σ.set i (am v)) H s'->(∃a,B8 a s.heap s'.heap/\(a=X.env.locals\/X.env.cells.lookup x=am a))->Q () s') (hf:Mn X x:=by first | exact .inl rfl | exact .inr rfl | assumption):db M A (storeName X.env x u) Q E s:=by
 obtain⟨m,hn,hl⟩:=id I.loc;have ad7:(X.env.scope.kind==.class||(X.env.scope.kind==.module&&X.env.locals != X.env.globals))=false:=by rw [I.ok.kind];rfl
 have ZX:i < σ.length:=by rw [I.len];exact (Al.mp hi).1
 have W9:=I.W9;have Ï:∀{a:ce}{h':lf},(∃o,s.heap.get? a=am o/\H a=bm)->B8 a s.heap h'->lN X.prog X.w H h':=λ{a h'} ha hs b ob e=>by
  obtain⟨_,_,Ub⟩:=ha;refine (I.br b ob e).vV (λc w' hc q=>(hs.2 c ?_).trans q) (λ_ q=>q) λ_ _ q=>q;rintro rfl;rcases hc with rfl | hc
  ·rw [Ub] at e;cases e
  ·rw [Ub] at hc;cases hc
 rcases hx with hk | hk
 ·refine wpAny_storeName_local hk hn (λh' hn' hs=>?_) ad7;obtain⟨oL,_,_,û,_⟩:=id hn;refine h _ ⟨I.ok,I.os,I.bare,⟨λb o e n hb hx=>?_,λb o e n hb hx=>?_,I.base.free,λb o e hx=>?_,I.base.d5,I.base.tj,I.base.vS⟩,⟨_,hn',λj y v' e1 e2 e3=>?_⟩,λy c e=>?_,I.free,I.j6,λp hp=>?_,Ï ⟨oL,û,I.free⟩ hs,by simpa using I.len⟩ ⟨_,hs,.inl rfl⟩
  ·exact (hs.2 b (AA (AD (Ar e) I.ok.above))).trans (I.base.keep b o e n hb hx)
  ·obtain⟨sl,e1⟩:=I.base.slot b o e n hb hx;exact⟨sl,(hs.2 b (AA (AD (Ar e) I.ok.above))).trans e1⟩
  ·obtain⟨o',e1⟩:=I.base.there b o e hx;exact⟨o',(hs.2 b (AA (AD (Ar e) I.ok.above))).trans e1⟩
  ·by_cases hj:j=i
   ·subst hj;rw [hi] at e1;cases e1;rw [Cu ZX] at e2;cases e2;exact⟨u,r,.inl ⟨hk,by simp⟩⟩
   ·rw [BW (BA hj)] at e2;obtain⟨u',r',q⟩:=hl j y v' e1 e2 e3;refine⟨u',r',?_⟩;rcases q with⟨k,e⟩ | ⟨k,c,e,z⟩
    ·refine .inl ⟨k,?_⟩;have:y≠x:=λe=>hj (zG hN e1 (e▸hi));simp [this,e]
    ·exact .inr ⟨k,c,e,z.sameBut hs (W9 y c e)⟩
  ·obtain⟨w',z⟩:=I.cell y c e;exact⟨w',z.sameBut hs (W9 y c e)⟩
  ·obtain⟨e,n,ne,nf,d⟩:=I.pin p hp;exact⟨(hs.2 p.1 ne).trans e,n,ne,nf,d⟩
 ·have Z3:X.fn x=true:=by
   rcases hf with z | z
   ·exact z
   ·rw [z] at hk;cases hk
  obtain⟨c,hc⟩:=I.ok.has x (.inl hk);obtain⟨w',z⟩:=I.cell x c hc;refine wpAny_storeName_cell I.ok.kind hk hc z (λh' XM hs=>?_);obtain⟨oc,hoc,adT⟩:=id z;refine h {s with heap:=h'} ⟨I.ok,I.os,I.bare,⟨λb o e n hb hx=>?_,λb o e n hb hx=>?_,I.base.free,λb o e hx=>?_,I.base.d5,I.base.tj,I.base.vS⟩,⟨m,hn.sameBut hs (BA (W9 x c hc)),λj y v' e1 e2 e3=>?_⟩,λy c' e=>?_,I.free,I.j6,λp hp=>?_,Ï ⟨oc,hoc,I.j6 x c hc⟩ hs,by simpa using I.len⟩ ⟨c,hs,.inr hc⟩
  ·exact (hs.2 b (AA (AD (Ar e) (I.ok.cab x c Z3 hc)))).trans (I.base.keep b o e n hb hx)
  ·obtain⟨sl,e1⟩:=I.base.slot b o e n hb hx;exact⟨sl,(hs.2 b (AA (AD (Ar e) (I.ok.cab x c Z3 hc)))).trans e1⟩
  ·obtain⟨o',e1⟩:=I.base.there b o e hx;exact⟨o',(hs.2 b (AA (AD (Ar e) (I.ok.cab x c Z3 hc)))).trans e1⟩
  ·by_cases hj:j=i
   ·subst hj;rw [hi] at e1;cases e1;rw [Cu ZX] at e2;cases e2;exact⟨u,r,.inr ⟨.inl hk,c,hc,XM⟩⟩
   ·rw [BW (BA hj)] at e2;obtain⟨u',r',q⟩:=hl j y v' e1 e2 e3;refine⟨u',r',?_⟩;rcases q with q | ⟨k,c',e,z'⟩
    ·exact .inl q
    ·refine .inr ⟨k,c',e,z'.sameBut hs ?_⟩;rintro rfl;exact hj (zG hN e1 (I.ok.inj _ _ _ e hc▸hi))
  ·by_cases hcc:c'=c
   ·subst hcc;exact⟨_,XM⟩
   ·obtain⟨w2,z2⟩:=I.cell y c' e;exact⟨w2,z2.sameBut hs hcc⟩
  ·obtain⟨e,n,ne,nf,d⟩:=I.pin p hp;refine⟨(hs.2 p.1 ?_).trans e,n,ne,nf,d⟩;intro q;rw [q,hoc] at e;have q':oc=p.2:=Option.some.inj e;exact d w' (by rw [<- q'];exact adT)
def m9 {x:Str} (I:Inv X Z σ H s) (hN:X.N.Nodup) (hi:X.N[i]?=am x) (hx:Loc X.env.scope x) (r:RelV v u)
  (h:∀s',Inv X Z (σ.set i (am v)) H s'->Q () s') (hf:Mn X x:=by first | exact .inl rfl | exact .inr rfl | assumption):db M A (storeName X.env x u) Q E s:=
 uU I hN hi hx r (λs' I' _=>h s' I') hf
def Inv.aaL (I:Inv X Z σ H s) (ho:s'.os=s.os) (u:Un (Ml X.stack) ch H H' s.heap s'.heap) (br:lN X.prog X.w H' s'.heap) (hg:Fa s'.gens)
  (Qg:∀b∈ch,(b∈X.ex\/X.s₀.heap.objs.size<=b)/\b≠X.env.locals/\(∀x c,X.env.cells.lookup x=am c->c≠b)/\∀p∈X.pn++Z,p.1≠b):Inv X Z σ H' s':=by
 obtain⟨h',g',d',t',o'⟩:=s';have e:o'=s.os:=ho;subst e;exact I.call (g':=g') (t':=t') (d':=d') u br hg Qg
end
abbrev XK:=bn->Option ce->Hp->Prop
abbrev St:=List (Option V)
abbrev VK:=V->Hp->Prop
abbrev TE:=St->Hp->VK->Prop
abbrev TT:=St->Hp->(Bool->Hp->Prop)->Prop
abbrev TA:=St->Hp->(List V->Hp->Prop)->Prop
structure Ends where
 nx:St->Hp->Prop
 rt:VK
 bk:St->Hp->Prop:=λ_ _=>False
 ct:St->Hp->Prop:=λ_ _=>False
abbrev TS:=Ends->St->Hp->Prop
def EP (X:Cx) (Z:List (ce×Obj)) (σ:St) (Q:VK) (u:bn) (s':ci):Prop:=∃v H',Inv X Z σ H' s'/\RelV v u/\Q v H'
def TP (X:Cx) (Z:List (ce×Obj)) (σ:St) (Q:Bool->Hp->Prop) (b:Bool) (s':ci):Prop:=∃H',Inv X Z σ H' s'/\Q b H'
def AP (X:Cx) (Z:List (ce×Obj)) (σ:St) (Q:List V->Hp->Prop) (us:List bn) (s':ci):Prop:=∃vs H',Inv X Z σ H' s'/\Vals vs us/\Q vs H'
def SP (X:Cx) (Z:List (ce×Obj)) (D:Ends) (f:Flow) (s':ci):Prop:=
 match f with
 | .next=>∃σ' H',Inv X Z σ' H' s'/\D.nx σ' H'
 | .brk=>∃σ' H',Inv X Z σ' H' s'/\D.bk σ' H'
 | .cont=>∃σ' H',Inv X Z σ' H' s'/\D.ct σ' H'
 | .ret u=>∃v σ' H',Inv X Z σ' H' s'/\RelV v u/\D.rt v H'
def PE (X:Cx) (e:ii) (t:TE):Prop:=
 ∀(Z:List (ce×Obj)) (s:ci) (σ:St) (H:Hp) (Q:VK),Inv X Z σ H s->t σ H Q->db (dL X.prog X.w) X.A (kw e X.env) (EP X Z σ Q) X.xe s
def PT (X:Cx) (e:ii) (t:TT):Prop:=
 ∀(Z:List (ce×Obj)) (s:ci) (σ:St) (H:Hp) (Q:Bool->Hp->Prop),Inv X Z σ H s->t σ H Q->db (dL X.prog X.w) X.A (isTrue e X.env (kw e X.env)) (TP X Z σ Q) X.xe s
def PW (X:Cx) (e:ii) (t:TT):Prop:=
 ∀(Æ:Sem bn) (Z:List (ce×Obj)) (s:ci) (σ:St) (H:Hp) (Q:Bool->Hp->Prop),Inv X Z σ H s->t σ H Q->db (dL X.prog X.w) X.A (isTrue e X.env Æ) (TP X Z σ Q) X.xe s
def PW.pt {X:Cx}{e:ii}{t:TT} (h:PW X e t):PT X e t:=h _
def PA (X:Cx) (es:List ii) (t:TA):Prop:=
 ∀(pos:Pos) (Z:List (ce×Obj)) (s:ci) (σ:St) (H:Hp) (Q:List V->Hp->Prop),Inv X Z σ H s->t σ H Q->db (dL X.prog X.w) X.A (spliced (v4 pos (f8 es X.env))) (AP X Z σ Q) X.xe s
def PS (X:Cx) (st:ss) (t:TS):Prop:=
 ∀(Z:List (ce×Obj)) (s:ci) (σ:St) (H:Hp) (D:Ends),Inv X Z σ H s->t D σ H->db (dL X.prog X.w) X.A (exec st X.env) (SP X Z D) X.xe s
def rm (X:Cx) (st:List ss) (t:TS):Prop:=
 ∀(Z:List (ce×Obj)) (s:ci) (σ:St) (H:Hp) (D:Ends),Inv X Z σ H s->t D σ H->db (dL X.prog X.w) X.A (execs st X.env) (SP X Z D) X.xe s
def bV {t:Sem α}{Q Q':α->ci->Prop} (h:db M A t Q E s) (hQ:∀a s,Q a s->Q' a s):db M A t Q' E s:=BJ h hQ λ_ _ x=>x
end L2
variable {x:B1}{a:B4}{X:L2.Cx}{σ:L2.St}{Q:AZ->DK->Prop}{ta tb:L2.TE}{R:L2.V->L2.V->L2.Hp->Prop}{pos:B9}
namespace L2
open PySem PySem.Spec PyProof.Rows
section
def bin {b:ii} (ha:PE X a ta) (hb:PE X b tb) (I:Inv X Z σ H s) (h:ta σ H λx H1=>tb σ H1 λy H2=>R x y H2) {Q:α->ci->Prop}{f:bn->bn->Sem α}
  (hf:∀v u s2 x y H2,Inv X Z σ H2 s2->RelV x v->RelV y u->R x y H2->db (dL X.prog X.w) X.A (f v u) Q X.xe s2) :
  db (dL X.prog X.w) X.A (kw a X.env) (λv s₁=>db (dL X.prog X.w) X.A (kw b X.env) (λu s₂=>db (dL X.prog X.w) X.A (f v u) Q X.xe s₂) X.xe s₁) X.xe s:=by
 refine bV (ha Z s σ H _ I h) λv s1 ⟨x,H1,I1,r1,q1⟩=>?_;refine bV (hb Z s1 σ H1 _ I1 q1) λu s2 ⟨y,H2,I2,r2,q2⟩=>?_;exact hf v u s2 x y H2 I2 r1 r2 q2
def acF (i:Nat):TE:=λσ H Q=>∃v,σ[i]?=am (am v)/\Q v H
def tC (v:V):TE:=λ_ H Q=>Q v H
def d8 (hN:X.N[i]?=am x) (hv:Gs X.env.scope x) (hd:i5 x:=by decide) (jt:GL x:=by decide):PE X (.Name x pos) (acF i):=by
 intro Z s σ H Q I h;obtain⟨v,e,h⟩:=h;obtain⟨m,hn,hl⟩:=I.loc;obtain⟨u,r,l⟩:=hl i x v hN e hv;have fin:EP X Z σ Q u s:=⟨v,H,I,r,h⟩;rcases l with⟨hk,hm⟩ | ⟨hk,c,hc,Ue⟩
 ·exact wpAny_Name (wpAny_loadName_local I.ok.kind hk hn hm fin) hd
 ·rcases hk with hk | hk
  ·exact wpAny_Name (wpAny_loadName_cell I.ok.kind hk hc Ue fin) hd
  ·exact wpAny_Name (wpAny_loadName_free I.ok.kind hk hc Ue fin jt) hd
def Vu {i j pos}:PE X (.Constant (.int i) j pos) (tC (.int i)):=λ_ _ _ H _ I h=>wpAny_Constant_int ⟨.int i,H,I.tok _,⟨_,rfl⟩,h⟩
def Y6 {b j pos}:PE X (.Constant (.bool b) j pos) (tC (.bl b)):=λ_ _ _ H _ I h=>Constant_bool ⟨.bl b,H,I,rfl,h⟩
def NH {j pos}:PE X (.Constant .none j pos) (tC .aG):=λ_ _ _ H _ I h=>Constant_none ⟨.aG,H,I,rfl,h⟩
def Vs {x j pos}:PE X (.Constant (.str x) j pos) (tC (.str x)):=λ_ _ _ H _ I h=>Calls.Constant_str ⟨.str x,H,I.tok _,⟨_,rfl⟩,h⟩
def Gl (X:Cx) (x:Str):Prop:=X.env.kindOf x=am .globalImplicit
def JX (I:Inv X Z σ H s) (hg:Gl X x) (hm:X.mg x=am u) (h:Q u s)
  (hd:i5 x:=by decide):db (dL X.prog X.w) X.A (kw (.Name x pos) X.env) Q E s:=
 DT I.ok.kind hg (Calls.loadGlobal_global (by rw [I.ok.glob];exact I.mod.glob.keeps I.bk) hm h) hd
def ib (I:Inv X Z σ H s) (hg:Gl X x) (hm:X.mg x=bm) (hv:lc x=am u) (h:Q u s)
  (hn:x≠"__name__":=by decide) (hd:i5 x:=by decide):db (dL X.prog X.w) X.A (kw (.Name x pos) X.env) Q E s:=by
 obtain⟨mb,h1,h2⟩:=I.mod.blt;exact DT I.ok.kind hg (Calls.loadGlobal_builtin (by rw [I.ok.glob];exact I.mod.glob.keeps I.bk) hm (by rw [I.ok.blt];exact h1.keeps I.bk) ((h2 x hn).trans hv) h) hd
def qP (hg:Gl X x) (hm:X.mg x=am u) (r:RelV v u) (hd:i5 x:=by decide):PE X (.Name x pos) (tC v):=
 λ_ _ _ H _ I h=>JX I hg hm ⟨v,H,I,r,h⟩ hd
def Rb (hg:Gl X x) (hm:X.mg x=bm) (hv:lc x=am u) (r:RelV v u) (hn:x≠"__name__":=by decide) (hd:i5 x:=by decide):PE X (.Name x pos) (tC v):=
 λ_ _ _ H _ I h=>ib I hg hm hv ⟨v,H,I,r,h⟩ hn hd
variable {b:ii}
variable {tA è:TT}{rest:List ii}
def acP (t u:TT):TT:=λσ H Q=>t σ H λc H1=>if c=true then u σ H1 Q else Q false H1
def tOr (t u:TT):TT:=λσ H Q=>t σ H λc H1=>if c=true then Q true H1 else u σ H1 Q
def acK (t:TT):TT:=λσ H Q=>t σ H λc H1=>Q (!c) H1
def QU (ha:PT X a tA):PW X (.BoolOp .And [a] pos) tA:=by
 intro wh Z s σ H Q I h;refine isTrue_and (bV (ha Z s σ H Q I h) λc s1 e=>?_);cases c with
 | true=>exact isTrue_and_nil e
 | false=>exact e
def Vk (ha:PT X a tA):PW X (.BoolOp .Or [a] pos) tA:=by
 intro wh Z s σ H Q I h;refine isTrue_or (bV (ha Z s σ H Q I h) λc s1 e=>?_);cases c with
 | false=>exact isTrue_or_nil e
 | true=>exact e
def Vl (ha:PT X a tA) (hb:PW X (.BoolOp .And (b::rest) pos) è):PW X (.BoolOp .And (a::b::rest) pos) (acP tA è):=by
 intro wh Z s σ H Q I h;refine isTrue_and (bV (ha Z s σ H _ I h) λc s1 ⟨H1,I1,q1⟩=>?_);cases c with
 | true=>exact hb wh Z s1 σ H1 Q I1 q1
 | false=>exact⟨H1,I1,q1⟩
def Y0 (ha:PT X a tA) (hb:PW X (.BoolOp .Or (b::rest) pos) è):PW X (.BoolOp .Or (a::b::rest) pos) (tOr tA è):=by
 intro wh Z s σ H Q I h;refine isTrue_or (bV (ha Z s σ H _ I h) λc s1 ⟨H1,I1,q1⟩=>?_);cases c with
 | true=>exact⟨H1,I1,q1⟩
 | false=>exact hb wh Z s1 σ H1 Q I1 q1
def Vm (ha:PT X a tA):PT X (.UnaryOp .Not a pos) (acK tA):=by
 intro Z s σ H Q I h;exact isTrue_not (ha Z s σ H (λc H1=>Q (!c) H1) I h)
def Yz (ta tb:TE):TE:=λσ H Q=>ta σ H λx H1=>∃c,x=.bl c/\if c=true then tb σ H1 Q else Q (.bl false) H1
def Vt {op}{t:TE} (h:PE X a t):PE X (.BoolOp op [a] pos) t:=λZ s σ H Q I hw=>BoolOp_one (h Z s σ H Q I hw)
def Vw (ha:PE X a ta) (hb:PE X (.BoolOp .And (b::rest) pos) tb):PE X (.BoolOp .And (a::b::rest) pos) (Yz ta tb):=by
 intro Z s σ H Q I h;refine BoolOp_and (bV (ha Z s σ H _ I h) λv s1 ⟨x,H1,I1,r1,q1⟩=>?_);obtain⟨c,rfl,q1⟩:=q1;cases r1;refine C3 ?_;cases c with
 | true=>exact hb Z s1 σ H1 Q I1 q1
 | false=>exact⟨.bl false,H1,I1,rfl,q1⟩
def tIf (t:TT) (ta tb:TE):TE:=λσ H Q=>t σ H λc H1=>if c=true then ta σ H1 Q else tb σ H1 Q
def zv {c:ii} (hc:PT X c tA) (ha:PE X a ta) (hb:PE X b tb):PE X (.IfExp c a b pos) (tIf tA ta tb):=by
 intro Z s σ H Q I h;refine wpAny_IfExp (bV (hc Z s σ H _ I h) λd s1 ⟨H1,I1,q1⟩=>?_);cases d with
 | true=>exact ha Z s1 σ H1 Q I1 q1
 | false=>exact hb Z s1 σ H1 Q I1 q1
end
end L2
variable {xs ys:List L2.V}{e tg:B4}{y:L2.V}{D:L2.Ends}{te:L2.TE}{es:List B4}{k n:Nat}{Ø px py pt:B9}{body:List PySem.Stmt}
namespace L2
open PySem PySem.Spec PyProof.Rows
def c7 (K:Ab) (H:Hp) (a:ce) (xs:List V):Prop:=
 Rd H a (.lst xs)\/
  ∃(o:Obj) (aq:Array bn) (n:Nat),K.lookup a=am o/\o.cls=.type "list"/\o.dict=bm/\o.data=.seq aq n/\aq.size<=sizeLine/\Vals xs aq.toList
def d4 (K:Ab) (H:Hp) (a:ce) (xs:List V):Prop:=
 Rd H a (.tup xs)\/
  ∃(o:Obj) (aq:Array bn) (n:Nat),K.lookup a=am o/\o.cls=.type "tuple"/\o.data=.seq aq n/\aq.size<=sizeLine/\Vals xs aq.toList
def aeE:bn->Option V
 | .none=>am .aG
 | .bool b=>am (.bl b)
 | .int i _=>am (.int i)
 | .str x _=>am (.str x)
 | .bytes b _=>am (.Xc b)
 | .float b _=>am (.XR b)
 | .ref a=>am (.ref a)
 | .type n=>am (.ty n)
 | _=>bm
def RelV.abs {x:V} (r:RelV x u):aeE u=am x:=by
 cases x with
 | aG=>cases r;rfl
 | bl _=>cases r;rfl
 | int _=>obtain⟨t,rfl⟩:=r;rfl
 | str _=>obtain⟨t,rfl⟩:=r;rfl
 | Xc _=>obtain⟨t,rfl⟩:=r;rfl
 | XR _=>obtain⟨t,rfl⟩:=r;rfl
 | ref _=>cases r;rfl
 | ty _=>cases r;rfl
def RelV.inj {x:V} (r:RelV x u) (q:RelV y u):x=y:=Option.some.inj (r.abs.symm.trans q.abs)
theorem Vals.inj:∀{xs ys:List V}{us:List bn},Vals xs us->Vals ys us->xs=ys
 | _,_,_,.nil,.nil=>rfl
 | _,_,_,.cons r t,.cons r' t'=>by rw [r.inj r',Vals.inj t t']
section
variable {a:ce}
def c7.of {K:Ab} (h:H a=am (.lst xs)):c7 K H a xs:=.inl (.inl h)
def d4.of {K:Ab} (h:H a=am (.tup xs)):d4 K H a xs:=.inl (.inl h)
theorem Inv.list (I:Inv X Z σ H s) (h:c7 X.K H a xs):∃aq:List bn,Vals xs aq/\PlainL s.heap a aq.toArray/\xs.length<=sizeLine:=by
 rcases h with h | ⟨o,aq,n,hk,hc,hd,hs,hz,r⟩
 ·obtain⟨z,aq,n,r,e⟩:=h.ok I.br;exact⟨aq,r,⟨_,n,e,rfl,rfl,rfl⟩,z⟩
 ·refine⟨aq.toList,r,⟨o,n,I.vg a o hk,hc,hd,by simpa using hs⟩,?_⟩;have e:=r.length;simp only [B6] at e;omega
theorem Inv.tuple (I:Inv X Z σ H s) (h:d4 X.K H a xs):∃aq:List bn,Vals xs aq/\IsTup s.heap a aq.toArray/\xs.length<=sizeLine:=by
 rcases h with h | ⟨o,aq,n,hk,hc,hs,hz,r⟩
 ·obtain⟨z,aq,r,p⟩:=h.ok I.br;exact⟨aq,r,p,z⟩
 ·refine⟨aq.toList,r,⟨o,I.vg a o hk,hc,n,by simpa using hs⟩,?_⟩;have e:=r.length;simp only [B6] at e;omega
def Inv.zR (I:Inv X Z σ H s) (h:c7 X.K H a xs) (h':c7 X.K H a ys):xs=ys:=by
 obtain⟨aq,r,⟨o,n,e,_,_,d⟩,_⟩:=I.list h;obtain⟨its',r',⟨o',n',e',_,_,d'⟩,_⟩:=I.list h';rw [e] at e';cases e';rw [d] at d';injection d' with d1 _;have:aq=its':=by simpa using congrArg Array.toList d1
 subst this;exact r.inj r'
def Inv.k6 (I:Inv X Z σ H s) (h:d4 X.K H a xs) (h':d4 X.K H a ys):xs=ys:=by
 obtain⟨aq,r,⟨o,e,_,n,d⟩,_⟩:=I.tuple h;obtain⟨its',r',⟨o',e',_,n',d'⟩,_⟩:=I.tuple h';rw [e] at e';cases e';rw [d] at d';injection d' with d1 _;have:aq=its':=by simpa using congrArg Array.toList d1
 subst this;exact r.inj r'
end
abbrev Cx.uf (X:Cx) (E:bn->ci->Prop):Cx:={X with xe:=E}
abbrev Cx.uZ (X:Cx):Cx:=X.uf λ_ _=>False
def Cx.Ok.uf (ok:X.Ok) (E:bn->ci->Prop):(X.uf E).Ok:=
 ⟨ok.mod,ok.kind,ok.glob,ok.blt,ok.above,ok.inj,ok.has,ok.cab,ok.hd,ok.frames,ok.stk,ok.exf,ok.bs,ok.Uu,ok.NU,ok.O4,ok.sZ,ok.XN⟩
def Cx.Ok.kl (ok:(X.uf E).Ok):X.Ok:=
 ⟨ok.mod,ok.kind,ok.glob,ok.blt,ok.above,ok.inj,ok.has,ok.cab,ok.hd,ok.frames,ok.stk,ok.exf,ok.bs,ok.Uu,ok.NU,ok.O4,ok.sZ,ok.XN⟩
section
def Inv.uf (I:Inv X Z σ H s) (E:bn->ci->Prop):Inv (X.uf E) Z σ H s:=⟨I.ok.uf E,I.os,I.bare,I.base,I.loc,I.cell,I.free,I.j6,I.pin,I.br,I.len⟩
def Inv.kl (I:Inv (X.uf E) Z σ H s):Inv X Z σ H s:=⟨I.ok.kl,I.os,I.bare,I.base,I.loc,I.cell,I.free,I.j6,I.pin,I.br,I.len⟩
def SP.kl {f:Flow} (h:SP (X.uf E) Z D f s'):SP X Z D f s':=by
 cases f with
 | next=>obtain⟨σ',H',I,q⟩:=h;exact⟨σ',H',I.kl,q⟩
 | brk=>obtain⟨σ',H',I,q⟩:=h;exact⟨σ',H',I.kl,q⟩
 | cont=>obtain⟨σ',H',I,q⟩:=h;exact⟨σ',H',I.kl,q⟩
 | ret u=>obtain⟨v,σ',H',I,r,q⟩:=h;exact⟨v,σ',H',I.kl,r,q⟩
def rm.uZ {st:List ss}{t:TS} (h:rm X.uZ st t):rm X st t:=λZ s σ H D I hw=>
 BJ (h Z s σ H D (I.uf _) hw) (λ_ _ q=>q.kl) λ_ _ z=>Bn z
end
section
variable {st:ss}{rest:List ss}{t u:TS}
def Ys:TS:=λD σ H=>D.nx σ H
def acH (t u:TS):TS:=λD σ H=>t {D with nx:=u D} σ H
def wo:rm X [] Ys:=λ_ _ σ H _ I h=>DB ⟨σ,H,I,h⟩
def zk (h1:PS X st t) (h2:rm X rest u):rm X (st::rest) (acH t u):=by
 intro Z s σ H D I h;refine wpAny_execs_cons (bV (h1 Z s σ H {D with nx:=u D} I h) λf s1 q=>?_);cases f with
 | next=>
  obtain⟨σ',H',I',q⟩:=q;exact h2 Z s1 σ' H' D I' q
 | ret v=>exact q
 | brk=>exact q
 | cont=>exact q
def QX (h1:PS X st t):rm X [st] t:=by
 intro Z s σ H D I h;refine wpAny_execs_cons (bV (h1 Z s σ H D I h) λf s1 q=>?_);cases f with
 | next=>exact DB q
 | ret v=>exact q
 | brk=>exact q
 | cont=>exact q
def Yw:TS:=λD σ H=>D.ct σ H
def zm:PS X (.Continue pos) Yw:=λ_ _ σ H _ I h=>wpAny_Continue ⟨σ,H,I,h⟩
def Inv.quiet (I:Inv X Z σ H s):interactive X.env=false:=by simp [interactive,I.ok.kind]
def Yu (te:TE):TS:=λD σ H=>te σ H λ_ H1=>D.nx σ H1
def qO (he:PE X e te) (hs:im e bm pos.line X.env=pure false:=by rfl):PS X (.Expr e pos) (Yu te):=by
 intro Z s σ H D I h;exact wpAny_Expr_any (bV (he Z s σ H _ I h) λv s1 ⟨x,H1,I1,r1,q1⟩=>⟨σ,H1,I1,q1⟩) I.quiet hs
def acI (te:TE):TS:=λD σ H=>te σ H D.rt
def wq (he:PE X e te):PS X (.Return (am e) pos) (acI te):=by
 intro Z s σ H D I h;exact wpAny_Return_some (bV (he Z s σ H _ I h) λv s1 ⟨x,H1,I1,r1,q1⟩=>⟨x,σ,H1,I1,r1,q1⟩)
def acM (c:TT) (t u:TS):TS:=λD σ H=>c σ H λb H1=>if b=true then t D σ H1 else u D σ H1
def Nv {c:ii}{a b:List ss}{tc:TT} (hc:PT X c tc) (ha:rm X a t) (hb:rm X b u):PS X (.If c a b pos) (acM tc t u):=by
 intro Z s σ H D I h;refine wpAny_If (bV (hc Z s σ H _ I h) λd s1 ⟨H1,I1,q1⟩=>?_);cases d with
 | true=>exact ha Z s1 σ H1 D I1 q1
 | false=>exact hb Z s1 σ H1 D I1 q1
def UQ:TS:=λ_ _ _=>False
end
abbrev TG:=V->St->Hp->(St->Hp->Prop)->Prop
abbrev Xn:=List V->St->Hp->(St->Hp->Prop)->Prop
def PG (X:Cx) (É:ii) (t:TG):Prop:=
 ∀(Z:List (ce×Obj)) (s:ci) (σ:St) (H:Hp) (v:V) (u:bn) (Q:St->Hp->Prop),Inv X Z σ H s->RelV v u->t v σ H Q->
  db (dL X.prog X.w) X.A (Db É X.env u) (λ_ s'=>∃σ' H',Inv X Z σ' H' s'/\Q σ' H') X.xe s
def PGs (X:Cx) (ts:List ii) (t:Xn):Prop:=
 ∀(Z:List (ce×Obj)) (s:ci) (σ:St) (H:Hp) (vs:List V) (us:List bn) (Q:St->Hp->Prop),Inv X Z σ H s->Vals vs us->t vs σ H Q->
  db (dL X.prog X.w) X.A (assignInOrder ((wP ts X.env).map (·.2)) us) (λ_ s'=>∃σ' H',Inv X Z σ' H' s'/\Q σ' H') X.xe s
abbrev P6:=V->V->V->Hp->(Hp->Prop)->Prop
def Md (X:Cx) (t:P6):Prop:=
 ∀(Z:List (ce×Obj)) (s:ci) (σ:St) (H:Hp) (o i v:V) (ov iv u:bn) (Q:Hp->Prop),Inv X Z σ H s->RelV o ov->RelV i iv->RelV v u->t o i v H Q->
  db (dL X.prog X.w) X.A (setItem ov iv u) (λ_ s'=>∃H',Inv X Z σ H' s'/\Q H') X.xe s
section
def dZ (i:Nat):TG:=λv σ H Q=>Q (σ.set i (am v)) H
def Q3 (hN:X.N.Nodup) (hi:X.N[i]?=am x) (hx:Loc X.env.scope x) (hf:Mn X x:=by first | exact .inl rfl | exact .inr rfl | assumption):PG X (.Name x pos) (dZ i):=by
 intro Z s σ H v u Q I r h;exact wpAny_assign_Name (m9 I hN hi hx r (λs' I'=>⟨_,H,I',h⟩) hf)
def WM:Xn:=λvs σ H Q=>vs=[]/\Q σ H
def sY (t:TG) (u:Xn):Xn:=λvs σ H Q=>∃v r,vs=v::r/\t v σ H λσ' H'=>u r σ' H' Q
def dG:PGs X [] WM:=by
 intro Z s σ H vs us Q I r h;obtain⟨e,h⟩:=h;subst e;cases r;exact assignInOrder_nil ⟨σ,H,I,h⟩
def aJ {t:TG}{u:Xn} (h1:PG X e t) (h2:PGs X es u)
  (hs:(wP (e::es) X.env).map (·.2)=Db e X.env::(wP es X.env).map (·.2):=by rfl):PGs X (e::es) (sY t u):=by
 intro Z s σ H vs us Q I r h;obtain⟨v,vr,e1,h⟩:=h;subst e1;cases r with
 | cons r rr=>
  rw [hs];refine assignInOrder_cons (bV (h1 Z s σ H _ _ _ I r h) λ_ s1 ⟨σ1,H1,I1,q1⟩=>?_);exact h2 Z s1 σ1 H1 _ _ Q I1 rr q1
def WK (K:Ab) (n:Nat) (t:Xn):TG:=λv σ H Q=>∃a xs,v=.ref a/\d4 K H a xs/\xs.length=n/\t xs σ H Q
def fF {t:Xn} (hc:X.calm=true) (h:PGs X es t)
  (hn:(wP es X.env).length=n:=by rfl) (qX:(wP es X.env).findIdx? (·.1)=bm:=by rfl):PG X (.Tuple es k pos) (WK X.K n t):=by
 intro Z s σ H v u Q I r hw;obtain⟨a,xs,e1,hq,hl,hw⟩:=hw;subst e1;cases r;obtain⟨aq,rv,ht,hz⟩:=I.tuple hq;refine assign_Tuple_tuple (I.ok.hd hc) ht (by simp [hn,<- hl,rv.length]) qX λh' hx=>?_;have I1:Inv X Z σ H {s with heap:=h'}:=I.kept (t':=s.toks) λb o e=>hx b o (AA (Ar e)) e;exact h Z _ σ H xs _ Q I1 (by simpa using rv) hw
def aej (to ti:TE) (t:P6):TG:=λv σ H Q=>to σ H λo H1=>ti σ H1 λi H2=>t o i v H2 λH3=>Q σ H3
def Vr {o i:ii}{to ti:TE}{t:P6} (ho:PE X o to) (hi:PE X i ti) (hs:Md X t)
  (ha:∀v,Db (.Subscript o i pos) X.env v=(do
   let ov <- zn [v] (kw o X.env)
   let iv <- zn [v,ov] (kw i X.env)
   standAt pos
   zn [v,ov,iv] (setItem ov iv v)
   release [v,ov,iv] []):=by intro _;rfl):PG X (.Subscript o i pos) (aej to ti t):=by
 intro Z s σ H v u Q I r h;refine Aa (Bk (bV (ho Z s σ H _ I h) λov s1 ⟨x,H1,I1,r1,q1⟩=>?_));refine Aa (Bk (bV (hi Z s1 σ H1 _ I1 q1) λiv s2 ⟨y,H2,I2,r2,q2⟩=>?_));refine Aa (Ee (Aa (Bk (bV (hs Z s2 σ H2 x y v ov iv u _ I2 r1 r2 r q2) λ_ s3 ⟨H3,I3,q3⟩=>?_))));exact wpAny_release ⟨σ,H3,I3,q3⟩
def US (te:TE) (g:TG):TS:=λD σ H=>te σ H λx H1=>g x σ H1 D.nx
def Nw {g:TG} (he:PE X e te) (hg:PG X tg g) (hs:Ch [tg] e pos.line X.env=pure false:=by rfl) (hw:Da [tg] e X.env=pure bm:=by rfl)
  (h1:(wP [tg] X.env).map (·.2)=[Db tg X.env]:=by rfl):PS X (.Assign [tg] e pos) (US te g):=by
 intro Z s σ H D I h;refine wpAny_Assign_stores (bV (he Z s σ H _ I h) λv s1 ⟨x,H1,I1,r1,q1⟩=>?_) hs hw;rw [h1];exact bV (hg Z s1 σ H1 x v _ I1 r1 q1) λ_ s2 q=>q
def rT (hN:X.N.Nodup) (hi:X.N[i]?=am x) (hx:Loc X.env.scope x) (he:PE X e te) (hs:im e (am (.Name x Ø)) pos.line X.env=pure false:=by rfl) (hf:Mn X x:=by first | exact .inl rfl | exact .inr rfl | assumption) :
  PS X (.Assign [.Name x Ø] e pos) (US te (dZ i)):=by
 intro Z s σ H D I h;refine wpAny_Assign_Name (bV (he Z s σ H _ I h) λv s1 ⟨y,H1,I1,r1,q1⟩=>?_) hs;exact m9 I1 hN hi hx r1 (λs2 I2=>⟨_,H1,I2,q1⟩) hf
def acJ (i j:Nat) (ta:TA):TS:=λD σ H=>ta σ H λvs H1=>∃v w,vs=[v,w]/\D.nx ((σ.set i (am v)).set j (am w)) H1
def Vo {y:Str}{b:ii}{ta:TA}{kt k2 Vn} (hc:X.calm=true) (hN:X.N.Nodup) (hi:X.N[i]?=am x) (hj:X.N[j]?=am y) (ZZ:i≠j)
  (hx:X.env.scope.names.lookup x=am .local) (hy:X.env.scope.names.lookup y=am .local) (ha:PA X [a,b] ta)
  (hw:Da [.Tuple [.Name x px,.Name y py] kt pt] (.Tuple [a,b] k2 Vn) X.env=pure (am [x,y]))
  (hs:Ch [.Tuple [.Name x px,.Name y py] kt pt] (.Tuple [a,b] k2 Vn) pos.line X.env=pure false:=by rfl) :
  PS X (.Assign [.Tuple [.Name x px,.Name y py] kt pt] (.Tuple [a,b] k2 Vn) pos) (acJ i j ta):=by
 intro Z s σ H D I h;refine Aa (Ee ?_);refine Aa (Ae ?_);rw [if_neg ⋯];refine Aa (Tuple_ (bV (ha _ Z s σ H _ I h) λus s1 ⟨vs,H1,I1,r1,q1⟩=>?_));obtain⟨v,w,e1,q1⟩:=q1;subst e1;obtain⟨u1,u2,rfl,rv,wd⟩:∃u1 u2,us=[u1,u2]/\RelV v u1/\RelV w u2:=by
  cases r1 with
  | cons p q=>
   cases q with
   | cons p' q'=>
    cases q';exact⟨_,_,rfl,p,p'⟩
 refine A1 ?_ (by show 2<=sizeLine;decide);have I2:Inv X Z σ H1 {s1 with heap:=s1.heap.push {cls:=.type "tuple",data:=.seq [u1,u2].toArray}}:=I1.kept (t':=s1.toks) λb o e=>Ag _ e;rw [hw];refine Aa (Ae ?_);refine Aa (CZ (Aa (unpackItems_tuple (items:=#[u1,u2]) (I.ok.hd hc) (Fw s1.heap _) λh' vk=>?_)));have I3:=I2.kept (h':=h') (t':=s1.toks) λb o e=>vk b o (AA (Ar e)) e;show db _ _ (assignInOrder [λv=>bindName X.env y v,λv=>bindName X.env x v] [u2,u1] >>= λ_=>pure Flow.next) _ _ _;refine Aa (assignInOrder_cons (wpAny_bindName (m9 I3 hN hj (.inl hy) wd (λs2 I4=>?_) (.inr hy))));refine assignInOrder_cons (wpAny_bindName (m9 I4 hN hi (.inl hx) rv (λs3 I5=>assignInOrder_nil (Ae ?_)) (.inr hx)));rw [List.set_comm _ _ (BA ZZ)] at I5;exact⟨_,H1,I5,q1⟩
end
section
def UO (c:TT) (tb:TS):TS:=λD σ H=>∃W:Nat->St->Hp->Prop,(∃m,W m σ H)/\∀m σ H,W m σ H->
 c σ H λb H1=>if b=true then ∃N:St->Hp->Prop,(∀σ' H',N σ' H'->∃m',m' < m/\W m' σ' H')/\tb {D with nx:=N,ct:=N,bk:=D.nx} σ H1 else D.nx σ H1
def Nu {c:ii}{tc:TT}{tb:TS} (hp:wf (dL X.prog X.w) X.A X.env X.xe) (hc:PT X c tc) (hb:rm X body tb):PS X (.While c body [] pos) (UO tc tb):=by
 intro Z s σ H D I h;obtain⟨W,⟨m0,w0⟩,turn⟩:=h;refine wpAny_While (codeAny_whileLoop (λn s'=>∃σ' H',Inv X Z σ' H' s'/\W n σ' H') ?_ m0 ⟨σ,H,I,w0⟩);rintro n s1 ⟨σ1,H1,I1,w1⟩;refine Cf hp (bV (hc Z s1 σ1 H1 _ I1 (turn n σ1 H1 w1)) λb s2 ⟨H2,I2,q2⟩=>?_);cases b with
 | true=>
  obtain⟨N,hN,q2⟩:=q2;refine Cf hp (bV (hb Z s2 σ1 H2 _ I2 q2) λf s3 q3=>?_);cases f with
  | next=>
   obtain⟨σ3,H3,I3,n3⟩:=q3;obtain⟨m',hm,w3⟩:=hN σ3 H3 n3;exact⟨m',hm,σ3,H3,I3,w3⟩
  | cont=>
   obtain⟨σ3,H3,I3,n3⟩:=q3;obtain⟨m',hm,w3⟩:=hN σ3 H3 n3;exact⟨m',hm,σ3,H3,I3,w3⟩
  | brk=>exact q3
  | ret v=>exact q3
 | false=>
  exact DB ⟨σ1,H2,I2,q2⟩
end
structure It where
 go:Nat->Hp->Prop
 Te:Nat->Hp->V->Hp->Prop
 stop:Nat->Hp->Prop
def uO (X:Cx) (Z:List (ce×Obj)) (H:Hp) (b:ce):Prop:=
 H b=bm/\b≠X.env.locals/\b∉X.fs/\(b∈X.ex\/X.s₀.heap.objs.size<=b)/\(∀x c,X.env.cells.lookup x=am c->c≠b)/\∀p∈X.pn++Z,p.1≠b
def Inv.xI (I:Inv X Z σ H s) (hb:s.heap.objs.size<=b) (hn:H' b=bm):uO X Z H' b:=by
 refine⟨hn,Nat.ne_of_gt (AD I.lt hb),I.ac8 hb,.inr (BB I.sz hb),λx c e z=>?_,λp hp z=>?_⟩
 ·obtain⟨v,q⟩:=I.cell x c e;exact absurd (AD q.lt (by rw [z];exact hb)) (AU _)
 ·exact absurd (AD (Ar (I.pin p hp).1) (by rw [z];exact hb)) (AU _)
structure Turn (P:tt) (w:t0) (K:Ab) (tg:ii) (J:It) (fp:List ce) (it:ce) (tn:Nat->lf->Prop):Prop where
 mem:it∈fp
 obj:∀i h,tn i h->∀b∈fp,∃o,h.get? b=am o/\∀v,o.data≠.cell v
 keep:∀i h h',tn i h->(∀b∈fp,∀o,h.get? b=am o->h'.get? b=am o)->tn i h'
 item:∀(X:Cx),X.prog=P->X.w=w->X.K=K->X.calm=true->∀(i:Nat) (Z:List (ce×Obj)) (s:ci) (σ:St) (H:Hp) (E:bn->ci->Prop),Inv X Z σ H s->(∀b∈fp,uO X Z H b)->tn i s.heap->J.go i H->
  db (dL P w) X.A (pyNext (.ref it)) (λr s1=>∃u,r=am u/\
   db (dL P w) X.A (Fk tg (.ref it) u) (λ_ s2=>∃x H',Inv X Z σ H' s2/\RelV x u/\J.Te i H x H'/\tn (i+1) s2.heap/\∀b∈fp,H' b=bm) E s1) E s
 done:∀(X:Cx),X.prog=P->X.w=w->X.K=K->X.calm=true->∀(i:Nat) (Z:List (ce×Obj)) (s:ci) (σ:St) (H:Hp) (E:bn->ci->Prop),Inv X Z σ H s->(∀b∈fp,uO X Z H b)->tn i s.heap->J.stop i H->
  db (dL P w) X.A (pyNext (.ref it)) (λr s1=>r=bm/\Inv X Z σ H s1) E s
 self:∀(A:nw) (i:Nat) (s:ci) (Q:bn->ci->Prop) (E:bn->ci->Prop),tn i s.heap->Q (.ref it) s->db (dL P w) A (pyIter (.ref it)) Q E s
abbrev TI:=St->Hp->(It->Hp->Prop)->Prop
def PIE (X:Cx) (Z:List (ce×Obj)) (σ:St) (tg:ii) (R:It->Hp->Prop) (ó:bn) (s2:ci):Prop:=
 ∃(it:ce) (fp:List ce) (tn:Nat->lf->Prop) (J:It) (H':Hp),ó=.ref it/\Inv X Z σ H' s2/\Turn X.prog X.w X.K tg J fp it tn/\tn 0 s2.heap/\(∀b∈fp,uO X Z H' b)/\R J H'
def PI (X:Cx) (tg iter:ii) (wi:TI):Prop:=
 ∀(Z:List (ce×Obj)) (s:ci) (σ:St) (H:Hp) (R:It->Hp->Prop),Inv X Z σ H s->wi σ H R->
  db (dL X.prog X.w) X.A (kw iter X.env) (λv s1=>db (dL X.prog X.w) X.A (pyIter v) (PIE X Z σ tg R) X.xe s1) X.xe s
def FK {n:String}{vs:Array bn}{Q:Unit->ci->Prop} (ho:s.heap.get? it=am o) (hc:o.cls=.type n) (hd:o.data=.fields vs)
  (hn:["enumerate","zip","dict_itemiterator","dict_reverseitemiterator","odict_iterator","itertools.zip_longest","itertools.pairwise"].contains n=false) (hQ:Q () s):db M A (Fk tg (.ref it) u) Q E s:=by
 unfold Fk;cases tg <;> first
  | exact Ae hQ
  | (cases u <;> first
    | exact Ae hQ
    | (
      refine Aa (wpAny_load ho ?_);rw [hc,hd];show db M A (if (["enumerate","zip","dict_itemiterator","dict_reverseitemiterator","odict_iterator","itertools.zip_longest","itertools.pairwise"].contains n&&vs[0]?==am (ul _))=true then _ else _) Q E s;rw [if_neg (by intro h;rw [hn,E7] at h;cases h)];exact Ae hQ))
def Itl (K:Ab) (a:ce):It:=
 ⟨λi H=>∃xs x,c7 K H a xs/\xs[i]?=am x,λi H x H'=>H'=H/\∀xs,c7 K H a xs->xs[i]?=am x,λi H=>∃xs,c7 K H a xs/\xs.length<=i⟩
def Itt (K:Ab) (a:ce):It:=
 ⟨λi H=>∃xs x,d4 K H a xs/\xs[i]?=am x,λi H x H'=>H'=H/\∀xs,d4 K H a xs->xs[i]?=am x,λi H=>∃xs,d4 K H a xs/\xs.length<=i⟩
def Itr (lo:Int) (n:Nat):It:=⟨λi _=>i < n,λi H x H'=>H'=H/\x=.int (lo+i),λi _=>n<=i⟩
theorem uQ {K:Ab} (a it:ce):Turn P w K tg (Itl K a) [it] it (λi h=>h.IsListIter it a i) where
 mem:=by simp
 obj:=λi h st b hb=>by
  have e:b=it:=by simpa using hb
  subst e;obtain⟨o,e,c,d⟩:=st;exact⟨o,e,λv z=>by rw [d] at z;cases z⟩
 keep:=λi h h' st k=>st.at λo e=>k it (by simp) o e
 item:=by
  intro X hP hw hK hc i Z s σ H E I hf st hg;subst hP hw hK;obtain⟨xs,x,hq,hx⟩:=hg;obtain⟨aq,rv,p,hz⟩:=I.list hq;obtain⟨u,hu,ru⟩:=rv.get hx;obtain⟨f0,f1,f2,f3,f4,f5⟩:=hf it (by simp);refine wpAny_pyNext_list_item st p.isList (x:=u) (by simpa using hu) λh' qN sb=>?_;have I1:Inv X Z σ H {s with heap:=h'}:=I.turned (t':=s.toks) (λb o hb e=>(sb.2 b hb).trans e) f0 f1 f3 f4 f5;obtain⟨o,e,c,d⟩:=id qN;exact⟨u,rfl,FK (s:={s with heap:=h'}) e c d ⋯ ⟨x,H,I1,ru,⟨rfl,λys hy=>by rw [I.zR hy hq];exact hx⟩,qN,λb hb=>(hf b hb).1⟩⟩
 done:=by
  intro X hP hw hK hc i Z s σ H E I hf st hg;subst hP hw hK;obtain⟨xs,hq,hx⟩:=hg;obtain⟨aq,rv,p,hz⟩:=I.list hq;obtain⟨f0,f1,f2,f3,f4,f5⟩:=hf it (by simp);have hl:=rv.length;exact wpAny_pyNext_list_end (I.ok.hd hc) st p.isList (by simp;omega) λh' eb=>⟨rfl,I.turned (t':=s.toks) (λb o hb e=>eb b o hb e) f0 f1 f3 f4 f5⟩
 self:=λ_ _ _ _ _ st h=>wpAny_pyIter_listiter st h
theorem GU {K:Ab} (a it:ce):Turn P w K tg (Itt K a) [it] it (λi h=>h.IsTupleIter it a i) where
 mem:=by simp
 obj:=λi h st b hb=>by
  have e:b=it:=by simpa using hb
  subst e;obtain⟨o,e,c,d⟩:=st;exact⟨o,e,λv z=>by rw [d] at z;cases z⟩
 keep:=λi h h' st k=>st.at λo e=>k it (by simp) o e
 item:=by
  intro X hP hw hK hc i Z s σ H E I hf st hg;subst hP hw hK;obtain⟨xs,x,hq,hx⟩:=hg;obtain⟨aq,rv,p,hz⟩:=I.tuple hq;obtain⟨u,hu,ru⟩:=rv.get hx;obtain⟨f0,f1,f2,f3,f4,f5⟩:=hf it (by simp);refine wpAny_pyNext_tuple_item st (show s.heap.IsTuple a aq.toArray from p) (x:=u) (by simpa using hu) λh' qN sb=>?_;have I1:Inv X Z σ H {s with heap:=h'}:=I.turned (t':=s.toks) (λb o hb e=>(sb.2 b hb).trans e) f0 f1 f3 f4 f5;obtain⟨o,e,c,d⟩:=id qN;exact⟨u,rfl,FK (s:={s with heap:=h'}) e c d ⋯ ⟨x,H,I1,ru,⟨rfl,λys hy=>by rw [I.k6 hy hq];exact hx⟩,qN,λb hb=>(hf b hb).1⟩⟩
 done:=by
  intro X hP hw hK hc i Z s σ H E I hf st hg;subst hP hw hK;obtain⟨xs,hq,hx⟩:=hg;obtain⟨aq,rv,p,hz⟩:=I.tuple hq;obtain⟨f0,f1,f2,f3,f4,f5⟩:=hf it (by simp);have hl:=rv.length;exact wpAny_pyNext_tuple_end (I.ok.hd hc) st (show s.heap.IsTuple a aq.toArray from p) (by simp;omega) λh' eb=>⟨rfl,I.turned (t':=s.toks) (λb o hb e=>eb b o hb e) f0 f1 f3 f4 f5⟩
 self:=λ_ _ _ _ _ st h=>wpAny_pyIter_tupleiter st h
theorem GV {K:Ab} (it:ce) (lo:Int) (n:Nat):Turn P w K tg (Itr lo n) [it] it (λi h=>IsRangeIter h it (lo+(i:Nat)*1) ((n:Int)-(i:Nat)) 1) where
 mem:=by simp
 obj:=λi h st b hb=>by
  have e:b=it:=by simpa using hb
  subst e;exact⟨_,st,λv z=>by
   have z':=z;cases z'⟩
 keep:=λi h h' st k=>k it (by simp) _ st
 item:=by
  intro X hP hw hK hc i Z s σ H E I hf st hg;subst hP hw hK;obtain⟨f0,f1,f2,f3,f4,f5⟩:=hf it (by simp);have W:=Walks.range (prog:=X.prog) (w:=X.w) (I.ok.hd hc) it lo 1 n;refine W.item i s _ _ hg st λv h' tk hv qN kk=>?_;obtain⟨t,rfl⟩:=hv;have I1:Inv X Z σ H {s with heap:=h',toks:=tk}:=I.turned (λb o hb e=>kk b o (by simpa using hb) e) f0 f1 f3 f4 f5;refine⟨_,rfl,FK (s:={s with heap:=h',toks:=tk}) (n:="range_iterator") qN rfl rfl ⋯ ⟨.int (lo+i),H,I1,⟨t,?_⟩,⟨rfl,rfl⟩,qN,λb hb=>(hf b hb).1⟩⟩;rw [Int.mul_one]
 done:=by
  intro X hP hw hK hc i Z s σ H E I hf st hg;obtain⟨f0,f1,f2,f3,f4,f5⟩:=hf it (by simp);exact wpAny_pyNext_range_end (I.ok.hd hc) st (by have:n<=i:=hg;omega) λh' eb=>⟨rfl,I.turned (t':=s.toks) (λb o hb e=>eb b o hb e) f0 f1 f3 f4 f5⟩
 self:=λ_ _ _ _ _ st h=>wpAny_pyIter_rangeiter st h
end L2
variable {tl:L2.TE}{hi:Int}{p:B9}{fp:List BC}{iter:B4}{wi:L2.TI}
namespace L2
open PySem PySem.Spec PyProof.Rows
section
def T6 (K:Ab) (tl:TE):TI:=λσ H R=>tl σ H λx H1=>∃a,x=.ref a/\(∃xs,c7 K H1 a xs)/\R (Itl K a) H1
def Q2 {l:ii} (hl:PE X l tl):PI X tg l (T6 X.K tl):=by
 intro Z s σ H R I h;refine bV (hl Z s σ H _ I h) λv s1 ⟨x,H1,I1,r1,q1⟩=>?_;obtain⟨a,e,⟨xs,hq⟩,q⟩:=q1;subst e;cases r1;obtain⟨aq,rv,p,hz⟩:=I1.list hq;refine C4 p.isList ?_;refine⟨s1.heap.objs.size,[s1.heap.objs.size],_,_,H1,rfl,I1.kept (t':=s1.toks) λb o e=>Ag _ e,uQ a _,⟨_,Ap _ rfl,rfl,rfl⟩,λb hb=>?_,q⟩;have e:b=s1.heap.objs.size:=by simpa using hb
 subst e;exact I1.xI (An _) (I1.br.fresh (An _))
theorem Nh {R:It->Hp->Prop}{lo:Int}{t u v:Tok}{tk:Nat} (I:Inv X Z σ H s) (h1:-(2 ^ 62)<=lo) (h2:lo < 2 ^ 62) (h3:-(2 ^ 62)<=hi) (h4:hi < 2 ^ 62)
  (q:R (Itr lo (hi-lo).toNat) H):db (dL X.prog X.w) X.A (pyIter (.ref s.heap.objs.size)) (PIE X Z σ tg R) E {s with heap:=s.heap.push {cls:=.type "range",data:=.fields #[.int lo t,.int hi u,.int 1 v]},toks:=tk}:=by
 refine wpAny_pyIter_range (IsRange.new ..) (small_one h1 h2 h3 h4) ?_;have I1:Inv X Z σ H {s with heap:=s.heap.push {cls:=.type "range",data:=.fields #[.int lo t,.int hi u,.int 1 v]},toks:=tk}:=I.kept λb o e=>Ag _ e;refine⟨(s.heap.push {cls:=.type "range",data:=.fields #[.int lo t,.int hi u,.int 1 v]}).objs.size,[(s.heap.push {cls:=.type "range",data:=.fields #[.int lo t,.int hi u,.int 1 v]}).objs.size],_,_,H,rfl,
  I1.kept (t':=tk) λb o e=>Ag _ e,GV _ lo (hi-lo).toNat,?_,λb hb=>?_,q⟩
 ·have e1:lo+((0:Nat):Int)*1=lo:=by simp
  have e2:(((hi-lo).toNat:Nat):Int)-((0:Nat):Int)=Builtin.Range.rangeSize lo hi 1:=by rw [rangeSize_one];split <;> omega
  show IsRangeIter _ _ (lo+((0:Nat):Int)*1) ((((hi-lo).toNat:Nat):Int)-((0:Nat):Int)) 1;rw [e1,e2];exact Ap _ rfl
 ·have e:b=(s.heap.push {cls:=.type "range",data:=.fields #[.int lo t,.int hi u,.int 1 v]}).objs.size:=by simpa using hb
  subst e;exact I1.xI (An _) (I1.br.fresh (An _))
def ZH (ta:TA):TI:=λσ H R=>ta σ H λvs H1=>∃j:Int,vs=[.int j]/\-(2 ^ 62)<=j/\j < 2 ^ 62/\R (Itr 0 j.toNat) H1
theorem K5 {ta:TA} (hg:Gl X "range") (hm:X.mg "range"=bm) (ha:PA X [a] ta) (hs:f8 [a] X.env=[(false,kw a X.env)]:=by rfl):PI X tg (.Call (.Name "range" p) [a] [] pos) (ZH ta):=by
 intro Z s σ H R I h;refine Call_ (ib I hg hm boot_range (Bd (bV (ha pos Z s σ H _ I h) λus s1 ⟨vs,H1,I1,r1,q1⟩=>?_) hs rfl));obtain⟨j,e,q1,q2,q⟩:=q1;subst e;cases r1 with
 | cons r rr=>
  cases rr;obtain⟨t,rfl⟩:=r;exact call_range_1 (Nh I1 ∅ ∅ q1 q2 (by simpa using q))
def acN (wi:TI) (g:TG) (tb:TS):TS:=λD σ H=>wi σ H λJ H1=>∃W:Nat->Nat->St->Hp->Prop,(∃m,W 0 m σ H1)/\∀i m σ H,W i m σ H->
 (J.stop i H/\D.nx σ H)\/(J.go i H/\∃N:St->Hp->Prop,(∀σ' H',N σ' H'->∃m',m' < m/\W (i+1) m' σ' H')/\∀x H',J.Te i H x H'->g x σ H' λσ2 H2=>tb {D with nx:=N,ct:=N,bk:=D.nx} σ2 H2)
def pz (fp:List ce) (h:lf):List (ce×Obj):=fp.filterMap λb=>(h.get? b).map λo=>(b,o)
def jk (hb:b∈fp) (e:h.get? b=am o):(b,o)∈pz fp h:=D3.mpr ⟨b,hb,by rw [e];rfl⟩
def K8 {p:ce×Obj} (hp:p∈pz fp h):p.1∈fp/\h.get? p.1=am p.2:=by
 obtain⟨b,hb,e⟩:=D3.mp hp;cases q:h.get? b with
 | none=>rw [q] at e;cases e
 | some o=>
  rw [q] at e;have e':=Option.some.inj e;subst e';exact⟨hb,q⟩
def Inv.pinned (I:Inv X Z σ H s) (hf:∀b∈fp,uO X Z H b) (ho:∀b∈fp,∃o,s.heap.get? b=am o/\∀v,o.data≠.cell v):Inv X (Z++pz fp s.heap) σ H s:=
 I.JA λp hp=>(A2.mp hp).elim (λz=>I.pin p (AQ _ z)) λz=>by
  obtain⟨hb,e⟩:=K8 z;obtain⟨f0,f1,f2,_⟩:=hf p.1 hb;obtain⟨o,e',d⟩:=ho p.1 hb;rw [e] at e';cases e';exact⟨e,f0,f1,f2,d⟩
def Inv.km {pl:List (ce×Obj)} (I:Inv X (Z++pl) σ H s):Inv X Z σ H s:=I.JA λp hp=>I.pin p (AQ _ (Ci _ hp))
def G8 {g:TG}{tb:TS} (hp:wf (dL X.prog X.w) X.A X.env X.xe) (hc:X.calm=true) (hi:PI X tg iter wi) (hg:PG X tg g) (hb:rm X body tb)
  (hs:uc X iter:=by intro _;rfl):PS X (.For tg iter body [] pos) (acN wi g tb):=by
 intro Z s σ H D I h;refine wpAny_For (bV (hi Z s σ H _ I h) λv s1 h1=>bV h1 λó s2 h2=>?_) hs;obtain⟨it,fp,tn,J,H2,e,I2,T,KO,f2,W,⟨m0,w0⟩,turn⟩:=h2;subst e;have UX:∀{H':Hp},(∀b∈fp,H' b=bm)->∀b∈fp,uO X Z H' b:=λhn b hb=>⟨hn b hb,(f2 b hb).2⟩;refine codeAny_forLoop_any (λn s'=>∃i σ' H',Inv X Z σ' H' s'/\tn i s'.heap/\(∀b∈fp,H' b=bm)/\W i n σ' H') ?_ m0 ⟨0,σ,H2,I2,KO,λb hb=>(f2 b hb).1,w0⟩;rintro n s3 ⟨i,σ3,H3,I3,YE,å,w3⟩;rcases turn i n σ3 H3 w3 with⟨stop,qn⟩ | ⟨go,N,hN,step⟩
 ·refine Cf hp (bV (T.done X rfl rfl rfl hc i Z s3 σ3 H3 X.xe I3 (UX å) YE stop) λr s4 ⟨hr,I4⟩=>?_);subst hr;exact DB ⟨σ3,H3,I4,qn⟩
 ·refine Cf hp (bV (T.item X rfl rfl rfl hc i Z s3 σ3 H3 X.xe I3 (UX å) YE go) λr s4 ⟨u,hr,h4⟩=>?_);subst hr;refine Cf hp (bV h4 λ_ s5 ⟨x,H5,I5,r5,y5,UY,Ĩ⟩=>?_);have Ĭ:=I5.pinned (UX Ĩ) (T.obj _ _ UY);refine Cf hp (bV (hg _ s5 σ3 H5 x u _ Ĭ r5 (step x H5 y5)) λ_ s6 ⟨σ6,H6,I6,q6⟩=>?_);refine Cf hp (bV (hb _ s6 σ6 H6 _ I6 q6) λf s7 q7=>?_);have again:∀{σ7:St}{H7:Hp},Inv X (Z++pz fp s5.heap) σ7 H7 s7->N σ7 H7->∃m,m < n/\∃i σ' H',Inv X Z σ' H' s7/\tn i s7.heap/\(∀b∈fp,H' b=bm)/\W i m σ' H':=λ{σ7 H7} I7 n7=>by
   obtain⟨m',hm,w7⟩:=hN σ7 H7 n7;refine⟨m',hm,i+1,σ7,H7,I7.km,T.keep _ _ _ UY λb hb o e=>(I7.pin (b,o) (AQ _ (AQ _ (jk hb e)))).1,λb hb=>?_,w7⟩;obtain⟨o,e,d⟩:=T.obj _ _ UY b hb;exact (I7.pin (b,o) (AQ _ (AQ _ (jk hb e)))).2.1
  cases f with
  | next=>obtain⟨σ7,H7,I7,n7⟩:=q7;exact again I7 n7
  | cont=>obtain⟨σ7,H7,I7,n7⟩:=q7;exact again I7 n7
  | brk=>obtain⟨σ7,H7,I7,q7⟩:=q7;exact⟨σ7,H7,I7.km,q7⟩
  | ret v=>obtain⟨x7,σ7,H7,I7,r7,q7⟩:=q7;exact⟨x7,σ7,H7,I7.km,r7,q7⟩
end
end L2
variable {i:Int}{g:Int->Int->Int}{aq:List AZ}
namespace L2
open PySem PySem.Spec PyProof.Rows
abbrev R2:=V->V->Hp->VK->Prop
def iC (X:Cx) (f:bn->bn->Sem bn) (r:R2):Prop:=
 ∀(Z:List (ce×Obj)) (s:ci) (σ:St) (H:Hp) (x y:V) (v u:bn) (Q:VK),Inv X Z σ H s->RelV x v->RelV y u->r x y H Q->
  db (dL X.prog X.w) X.A (f v u) (EP X Z σ Q) X.xe s
def UnR (X:Cx) (f:bn->Sem bn) (r:V->Hp->VK->Prop):Prop:=
 ∀(Z:List (ce×Obj)) (s:ci) (σ:St) (H:Hp) (x:V) (v:bn) (Q:VK),Inv X Z σ H s->RelV x v->r x H Q->
  db (dL X.prog X.w) X.A (f v) (EP X Z σ Q) X.xe s
def bP (X:Cx) (f:bn) (r:List V->Hp->VK->Prop):Prop:=
 ∀(Z:List (ce×Obj)) (s:ci) (σ:St) (H:Hp) (xs:List V) (us:List bn) (Q:VK),Inv X Z σ H s->Vals xs us->r xs H Q->
  db (dL X.prog X.w) X.A (call f us) (EP X Z σ Q) X.xe s
def aeG (X:Cx) (r:V->Hp->(Bool->Hp->Prop)->Prop):Prop:=
 ∀(Z:List (ce×Obj)) (s:ci) (σ:St) (H:Hp) (x:V) (v:bn) (Q:Bool->Hp->Prop),Inv X Z σ H s->RelV x v->r x H Q->
  db (dL X.prog X.w) X.A (truthy v) (TP X Z σ Q) X.xe s
def UP (r:R2) (ta tb:TE):TE:=λσ H Q=>ta σ H λx H1=>tb σ H1 λy H2=>r x y H2 Q
def tUn (r:V->Hp->VK->Prop) (ta:TE):TE:=λσ H Q=>ta σ H λx H1=>r x H1 Q
def rI (C:Int->Int->Prop) (g:Int->Int->V):R2:=λx y H Q=>∃i j,x=.int i/\y=.int j/\C i j/\Q (g i j) H
def QQ (g:Int->Int->V):R2:=λx y H Q=>∃i j,x=.int i/\y=.int j/\Q (g i j) H
def rU (g:Int->V):V->Hp->VK->Prop:=λx H Q=>∃i,x=.int i/\Q (g i) H
section
variable {b:ii}
def Xe (ha:PE X a ta) (hb:PE X b tb) (I:Inv X Z σ H s)
  (h:ta σ H λx H1=>tb σ H1 λy H2=>R x y H2) {f:bn->bn->Sem bn}
  (hf:∀v u s2 x y H2,Inv X Z σ H2 s2->RelV x v->RelV y u->R x y H2->db (dL X.prog X.w) X.A (f v u) Q X.xe s2) :
  db (dL X.prog X.w) X.A (kw a X.env) (λv s₁=>db (dL X.prog X.w) X.A (kw b X.env) (λu s₂=>db (dL X.prog X.w) X.A (f v u) Q X.xe s₂) X.xe s₁) X.xe s:=by
 refine bV (ha Z s σ H _ I h) λv s1 ⟨x,H1,I1,r1,q1⟩=>?_;refine bV (hb Z s1 σ H1 _ I1 q1) λu s2 ⟨y,H2,I2,r2,q2⟩=>?_;exact hf v u s2 x y H2 I2 r1 r2 q2
def JB {op:Operator}{r:R2} (ho:iC X (sn op) r) (ha:PE X a ta) (hb:PE X b tb):PE X (.BinOp a op b pos) (UP r ta tb):=by
 intro Z s σ H Q I h;exact wpAny_BinOp (Xe ha hb I h λv u s2 x y H2 I2 rx ry q=>ho Z s2 σ H2 x y v u Q I2 rx ry q)
def Y3 {op:UnaryOp}{r:V->Hp->VK->Prop} (ho:UnR X (unaryOp op) r) (ha:PE X a ta):PE X (.UnaryOp op a pos) (tUn r ta):=by
 intro Z s σ H Q I h;exact UnaryOp_ (bV (ha Z s σ H _ I h) λv s1 ⟨x,H1,I1,r1,q1⟩=>ho Z s1 σ H1 x v Q I1 r1 q1)
def opI {f:bn->bn->Sem bn}{C:Int->Int->Prop}
  (rule:∀(i j:Int) (t u:Tok) (s:ci) (Q:bn->ci->Prop) (E:bn->ci->Prop),C i j->Q (.int (g i j) s.toks) {s with toks:=s.toks+1}->db (dL X.prog X.w) X.A (f (.int i t) (.int j u)) Q E s) :
  iC X f (rI C λi j=>.int (g i j)):=by
 intro Z s σ H x y v u Q I rx ry h;obtain⟨i,j,rfl,rfl,hc,q⟩:=h;obtain⟨t,rfl⟩:=rx;obtain⟨t',rfl⟩:=ry;exact rule i j t t' s _ _ hc ⟨.int (g i j),H,I.tok _,⟨_,rfl⟩,q⟩
def Ze {f:bn->bn->Sem bn}
  (rule:∀(i j:Int) (t u:Tok) (s:ci) (Q:bn->ci->Prop) (E:bn->ci->Prop),Q (.int (g i j) s.toks) {s with toks:=s.toks+1}->db (dL X.prog X.w) X.A (f (.int i t) (.int j u)) Q E s) :
  iC X f (QQ λi j=>.int (g i j)):=by
 intro Z s σ H x y v u Q I rx ry h;obtain⟨i,j,rfl,rfl,q⟩:=h;obtain⟨t,rfl⟩:=rx;obtain⟨t',rfl⟩:=ry;exact rule i j t t' s _ _ ⟨.int (g i j),H,I.tok _,⟨_,rfl⟩,q⟩
def Rp {f:bn->bn->Sem bn}{g:Int->Int->Bool}
  (rule:∀(i j:Int) (t u:Tok) (s:ci) (Q:bn->ci->Prop) (E:bn->ci->Prop),Q (.bool (g i j)) s->db (dL X.prog X.w) X.A (f (.int i t) (.int j u)) Q E s) :
  iC X f (QQ λi j=>.bl (g i j)):=by
 intro Z s σ H x y v u Q I rx ry h;obtain⟨i,j,rfl,rfl,q⟩:=h;obtain⟨t,rfl⟩:=rx;obtain⟨t',rfl⟩:=ry;exact rule i j t t' s _ _ ⟨.bl (g i j),H,I,rfl,q⟩
def Me (i j:Int):Prop:=0 < j/\j < 1073741824
def P9 (i j:Int):Prop:=0<=j/\j<=1000000/\i.natAbs < 2 ^ 64
def Td (i j:Int):Prop:=(-(2 ^ 64) < i/\i < 2 ^ 64)\/(-(2 ^ 64) < j/\j < 2 ^ 64)
def Td.ok {j:Int} (h:Td i j):ww i j:=by
 rcases h with⟨h1,h2⟩ | ⟨h1,h2⟩
 ·exact .of_left (intBits_le_64 h1 h2)
 ·exact .of_right (intBits_le_64 h1 h2)
def VH:iC X (sn .Add) (QQ λi j=>.int (i+j)):=Ze λ_ _ _ _ _ _ _ q=>add_int q
def Vz:iC X (sn .Sub) (QQ λi j=>.int (i-j)):=Ze λ_ _ _ _ _ _ _ q=>sub_int q
theorem Rk:iC X (sn .FloorDiv) (rI Me λi j=>.int (i / j)):=opI λi j _ _ _ _ _ hc q=>by
 have h1:(0:Int) < j:=hc.1;have h2:j < 1073741824:=hc.2;exact floordiv_int ∅ (by rw [Int.fdiv_eq_ediv_of_nonneg i ∅];exact q) (.inl (PyProof.noPylong_small ∅))
theorem VD:iC X (sn .Mod) (rI (λ_ j=>0 < j) λi j=>.int (i % j)):=opI λi j _ _ _ _ _ hc q=>by
 have h1:(0:Int) < j:=hc;exact mod_int' ∅ (by rw [Int.fmod_eq_emod_of_nonneg i ∅];exact q)
def VB:iC X (sn .Pow) (rI P9 λi j=>.int (i ^ j.toNat)):=opI λ_ _ _ _ _ _ _ hc q=>pow_int_small hc.1 hc.2.1 hc.2.2 q
def unI {f:bn->Sem bn}{g:Int->Int}
  (rule:∀(i:Int) (t:Tok) (s:ci) (Q:bn->ci->Prop) (E:bn->ci->Prop),Q (.int (g i) s.toks) {s with toks:=s.toks+1}->db (dL X.prog X.w) X.A (f (.int i t)) Q E s) :
  UnR X f (rU λi=>.int (g i)):=by
 intro Z s σ H x v Q I rx h;obtain⟨i,rfl,q⟩:=h;obtain⟨t,rfl⟩:=rx;exact rule i t s _ _ ⟨.int (g i),H,I.tok _,⟨_,rfl⟩,q⟩
def UI:UnR X (unaryOp .USub) (rU λi=>.int (-i)):=unI λ_ _ _ _ _ q=>neg_int q
end
section
variable {b c:ii}
def OZ {Q:VK}{k k':Bool} (I:Inv X Z σ H s) (q:Q (.bl k) H) (e:k=k'):EP X Z σ Q (.bool k') s:=by
 subst e;exact⟨.bl k,H,I,rfl,q⟩
def Za:iC X (mo .Lt) (QQ λi j=>.bl (decide (i < j))):=Rp λ_ _ _ _ _ _ _ q=>lt_int q
def Zb:iC X (mo .LtE) (QQ λi j=>.bl (decide (i<=j))):=Rp λ_ _ _ _ _ _ _ q=>le_int q
def Zc:iC X (mo .Gt) (QQ λi j=>.bl (decide (j < i))):=Rp λ_ _ _ _ _ _ _ q=>gt_int q
def Zd:iC X (mo .GtE) (QQ λi j=>.bl (decide (j<=i))):=Rp λ_ _ _ _ _ _ _ q=>ge_int q
def VE:iC X (mo .Is) (λx y H Q=>y=.aG/\Q (.bl (decide (x=.aG))) H):=by
 intro Z s σ H x y v u Q I rx ry h;obtain⟨rfl,q⟩:=h;cases ry;refine is_none_gen (OZ I q ?_);cases x <;> first
  | (cases rx;rfl)
  | (obtain⟨t,rfl⟩:=rx;rfl)
def Rh:iC X (mo .IsNot) (λx y H Q=>y=.aG/\Q (.bl (!decide (x=.aG))) H):=by
 intro Z s σ H x y v u Q I rx ry h;obtain⟨rfl,q⟩:=h;cases ry;refine isnot_none_gen (OZ I q ?_);cases x <;> first
  | (cases rx;rfl)
  | (obtain⟨t,rfl⟩:=rx;rfl)
def iC.or {f:bn->bn->Sem bn}{r r':R2} (h:iC X f r) (h':iC X f r'):iC X f (λx y H Q=>r x y H Q\/r' x y H Q):=by
 intro Z s σ H x y v u Q I rx ry q;rcases q with q | q
 ·exact h Z s σ H x y v u Q I rx ry q
 ·exact h' Z s σ H x y v u Q I rx ry q
def kx (b:ii) {op:CmpOp} (h:op≠.In:=by decide) (h2:op≠.NotIn:=by decide):re op b=false:=by
 have e1:(op==CmpOp.In)=false:=by cases op <;> first | rfl | exact absurd rfl h
 have e2:(op==CmpOp.NotIn)=false:=by cases op <;> first | rfl | exact absurd rfl h2
 cases b <;> simp [re,e1,e2]
def JE {op:CmpOp}{r:R2} (ho:iC X (mo op) r) (ha:PE X a ta) (hb:PE X b tb) (hm:re op b=false):PE X (.Compare a [op] [b] pos) (UP r ta tb):=by
 intro Z s σ H Q I h;exact wpAny_Compare1 (Xe ha hb I h λv u s2 x y H2 I2 rx ry q=>ho Z s2 σ H2 x y v u Q I2 rx ry q) hm
def Yo (t:TE):TT:=λσ H Q=>t σ H λx H'=>∃k,x=.bl k/\Q k H'
def nA {op:CmpOp}{r:R2} (ho:iC X (mo op) r) (ha:PE X a ta) (hb:PE X b tb) (hm:re op b=false):PT X (.Compare a [op] [b] pos) (Yo (UP r ta tb)):=by
 intro Z s σ H Q I h;refine wpAny_isTrue_Compare1 (bV (ha Z s σ H _ I h) λv s1 ⟨x,H1,I1,r1,q1⟩=>bV (hb Z s1 σ H1 _ I1 q1) λu s2 ⟨y,H2,I2,r2,q2⟩=>
  bV (ho Z s2 σ H2 x y v u _ I2 r1 r2 q2) λc s3 ⟨z,H3,I3,r3,k,e,q3⟩=>?_) hm
 subst e;cases r3;exact C3 ⟨H3,I3,q3⟩
def Xm (K:Ab) (x:V) (H:Hp) (k:Bool):Prop:=
 match x with
 | .aG=>k=false
 | .bl b=>k=b
 | .int i=>k=(i != 0)
 | .str y=>y.length<=sizeLine/\k=((y.length:Int) != 0)
 | .Xc y=>y.size<=sizeLine/\k=((y.size:Int) != 0)
 | .ref p=>(∃xs,c7 K H p xs/\k=!xs.isEmpty)\/(∃xs,d4 K H p xs/\k=!xs.isEmpty)\/∃kvs,H p=am (.dK kvs)/\k=!kvs.isEmpty
 | _=>False
def HL {kvs:List (κ×V)}{vs:List (κ×bn)} (r:KV kvs vs):(!vs.isEmpty)=!kvs.isEmpty:=by
 cases r <;> rfl
def sQ (r:Vals xs aq):(!aq.toArray.isEmpty)=!xs.isEmpty:=by
 cases r <;> simp
def wK:(sizeLine:Nat) < 2 ^ 63:=by rw [sizeLine_eq];decide
theorem UK:aeG X (λx H Q=>∃k,Xm X.K x H k/\Q k H):=by
 intro Z s σ H x v Q I rx h;obtain⟨k,e,q⟩:=h;have hs:=sizeLine_eq;cases x with
 | aG=>
  cases rx;have e':=e;subst e';exact truthy_none ⟨H,I,q⟩
 | bl b=>
  cases rx;have e':=e;subst e';exact C3 ⟨H,I,q⟩
 | int i=>
  obtain⟨t,rfl⟩:=rx;have e':=e;subst e';exact PySem.P.truthy_int ⟨H,I,q⟩
 | str y=>
  obtain⟨t,rfl⟩:=rx;obtain⟨hy,e'⟩:y.length<=sizeLine/\k=((y.length:Int) != 0):=e;subst e';exact PySem.P.truthy_str ∅ ⟨H,I.tok _,q⟩
 | Xc y=>
  obtain⟨t,rfl⟩:=rx;obtain⟨hy,e'⟩:y.size<=sizeLine/\k=((y.size:Int) != 0):=e;subst e';exact PySem.W.truthy_bytes ∅ ⟨H,I.tok _,q⟩
 | ref p=>
  cases rx;have e':=e;rcases e' with⟨xs,hx,e'⟩ | ⟨xs,hx,e'⟩ | ⟨kvs,hx,e'⟩
  ·subst e';obtain⟨aq,r,pl,hz⟩:=I.list hx;have Â:=r.length;exact wpAny_truthy_list pl.isList (by simp only [Aj];omega) ⟨H,I.tok _,by rw [sQ r];exact q⟩
  ·subst e';obtain⟨aq,r,pl,hz⟩:=I.tuple hx;have Â:=r.length;exact truthy_tuple pl (by simp only [Aj];omega) ⟨H,I.tok _,by rw [sQ r];exact q⟩
  ·subst e';obtain⟨hz,hS,vs,r,m⟩:kvs.length<=sizeLine/\(p==sw)=false/\∃vs,KV kvs vs/\s.heap.DictOf (bF X.prog X.w) p vs:=I.br p _ hx;have Â:=Paired.length r;exact wpAny_truthy_dict hS m ∅ ⟨H,I.tok _,by rw [HL r];exact q⟩
 | _=>exact (show False from e).elim
def Nt (ha:PE X a ta) (he:∀Æ,isTrue a X.env Æ=(do let v <- Æ;standAt a.pos;zn [v] (truthy v))) :
  PT X a (λσ H Q=>ta σ H λx H'=>∃k,Xm X.K x H' k/\Q k H'):=by
 intro Z s σ H Q I h;exact isTrue_plain (bV (ha Z s σ H _ I h) λv s1 ⟨x,H1,I1,r1,q1⟩=>UK Z s1 σ H1 x v Q I1 r1 q1) (he _)
def He:iC X (sn .Add) (λx y H Q=>∃i j,x=.str i/\y=.str j/\i.length+j.length<=sizeLine/\Q (.str (i++j)) H):=by
 intro Z s σ H x y v u Q I rx ry h;obtain⟨i,j,rfl,rfl,hz,q⟩:=h;obtain⟨t,rfl⟩:=rx;obtain⟨t',rfl⟩:=ry;exact add_str (λt' tk=>⟨.str (i++j),H,I.tok _,⟨_,rfl⟩,q⟩) hz
def vals1 {x:V} (r:Vals [x] us):∃u,us=[u]/\RelV x u:=by
 cases r with
 | cons r1 r2=>cases r2;exact⟨_,rfl,r1⟩
def vals2 {x:V} (r:Vals [x,y] us):∃u w',us=[u,w']/\RelV x u/\RelV y w':=by
 cases r with
 | cons r1 r2=>
  cases r2 with
  | cons r3 r4=>cases r4;exact⟨_,_,rfl,r1,r3⟩
def PJ:bP X (.builtin "abs") (λxs H Q=>∃i,xs=[.int i]/\Q (.int (if i < 0 then -i else i)) H):=by
 intro Z s σ H xs us Q I r h;obtain⟨i,rfl,q⟩:=h;obtain⟨u,rfl,t,rfl⟩:=vals1 r;exact call_abs_int λu tk=>⟨.int (if i < 0 then -i else i),H,I.tok _,⟨_,rfl⟩,q⟩
def L3 (hc:X.calm=true):bP X (.builtin "max") (λxs H Q=>∃i j,xs=[.int i,.int j]/\Q (.int (if j > i then j else i)) H):=by
 intro Z s σ H xs us Q I r h;obtain⟨i,j,rfl,q⟩:=h;obtain⟨u,w',rfl,⟨t,rfl⟩,⟨t',rfl⟩⟩:=vals2 r;refine max_two_ints (I.ok.hd hc) λh' tk k=>⟨_,H,I.kept k,?_,q⟩;by_cases hj:j > i
 ·rw [if_pos hj,if_pos hj];exact⟨_,rfl⟩
 ·rw [if_neg hj,if_neg hj];exact⟨_,rfl⟩
def L1 (hc:X.calm=true):bP X (.builtin "min") (λxs H Q=>∃i j,xs=[.int i,.int j]/\Q (.int (if j < i then j else i)) H):=by
 intro Z s σ H xs us Q I r h;obtain⟨i,j,rfl,q⟩:=h;obtain⟨u,w',rfl,⟨t,rfl⟩,⟨t',rfl⟩⟩:=vals2 r;refine min_two_ints (I.ok.hd hc) λh' tk k=>⟨_,H,I.kept k,?_,q⟩;by_cases hj:j < i
 ·rw [if_pos hj,if_pos hj];exact⟨_,rfl⟩
 ·rw [if_neg hj,if_neg hj];exact⟨_,rfl⟩
def L6:bP X (.type "int") (λxs H Q=>(∃i,xs=[.int i]/\Q (.int i) H)\/∃k,xs=[.bl k]/\Q (.int (if k then 1 else 0)) H):=by
 intro Z s σ H xs us Q I r h;rcases h with⟨i,rfl,q⟩ | ⟨k,rfl,q⟩
 ·obtain⟨u,rfl,t,rfl⟩:=vals1 r;exact call_int_int ⟨.int i,H,I,⟨_,rfl⟩,q⟩
 ·obtain⟨u,rfl,r1⟩:=vals1 r;cases r1;exact call_int_bool ⟨.int (if k then 1 else 0),H,I.tok _,⟨_,rfl⟩,q⟩
def aaS (K:Ab) (x:V) (H:Hp) (n:Nat):Prop:=
 match x with
 | .str y=>y.length<=sizeLine/\n=y.length
 | .Xc y=>y.size<=sizeLine/\n=y.size
 | .ref p=>(∃xs,c7 K H p xs/\n=xs.length)\/∃xs,d4 K H p xs/\n=xs.length
 | _=>False
theorem PF:bP X (.builtin "len") (λxs H Q=>∃x n,xs=[x]/\aaS X.K x H n/\Q (.int n) H):=by
 intro Z s σ H xs us Q I r h;obtain⟨x,n,rfl,e,q⟩:=h;obtain⟨u,rfl,rx⟩:=vals1 r;have hs:=sizeLine_eq;cases x with
 | str y=>
  obtain⟨t,rfl⟩:=rx;obtain⟨hy,e'⟩:y.length<=sizeLine/\n=y.length:=e;subst e';exact len_str ∅ ⟨.int _,H,I.tok _,⟨_,rfl⟩,q⟩
 | Xc y=>
  obtain⟨t,rfl⟩:=rx;obtain⟨hy,e'⟩:y.size<=sizeLine/\n=y.size:=e;subst e';exact PySem.W.len_bytes ∅ ⟨.int _,H,I.tok _,⟨_,rfl⟩,q⟩
 | ref p=>
  cases rx;have e':=e;rcases e' with⟨xs,hx,e'⟩ | ⟨xs,hx,e'⟩
  ·subst e';obtain⟨aq,r',pl,hz⟩:=I.list hx;have Â:=r'.length;exact Calls.call_len_list pl.isList (by simp only [Aj];omega) ⟨.int xs.length,H,I.tok _,⟨_,by simp only [Aj];rw [Â]⟩,q⟩
  ·subst e';obtain⟨aq,r',pl,hz⟩:=I.tuple hx;have Â:=r'.length;exact len_tuple pl (by simp only [Aj];omega) ⟨.int xs.length,H,I.tok _,⟨_,by simp only [Aj];rw [Â]⟩,q⟩
 | _=>exact (show False from e).elim
end
end L2
variable {a:BC}{mA:B1->Option AZ}
namespace L2
open PySem PySem.Spec PyProof.Rows
structure Xp (h:lf) (x dx C:ce) (mA:Str->Option bn):Prop where
 obj:h.get? x=am (EH C dx)
 ns:h.Ns1 dx mA
 ne:dx≠x
def Lk {dx:ce} (n:h.Ns1 dx mA):∃od,h.get? dx=am od/\∀name,EX name od=am (mA name):=by
 obtain⟨o,es,ep,ho,hd,hk,_,hm⟩:=n;refine⟨o,ho,λname=>?_⟩;have e:=hm name;unfold nsFind findBy at e;rw [<- Array.find?_toList] at e;unfold EX;rw [hd];dsimp only
 split
 ·rename_i y q;rw [q] at e;exact congrArg am e
 ·rename_i q;rw [q] at e;have a:es.toList.any (·.refKey)=false:=by
   rw [List.any_eq_false];intro y hy;obtain⟨z,t,adX⟩:=hk y (Array.mem_toList_iff.mp hy);simp [DictEntry.refKey,adX]
  have a':¬es.toList.any (·.refKey)=true:=by rw [a];exact A3
  rw [if_neg a'];exact congrArg am e
def Xp.look {x dx C:ce} (I:Xp h x dx C mA):∃od,PySem.W.InstAt h x (EH C dx) C (am od)/\∀name,EX name od=am (mA name):=
 let ⟨od,ho,hl⟩:=Lk I.ns
 ⟨od,⟨I.obj,rfl,rfl,ho⟩,hl⟩
def tY.some_of {o:Option bn} (r:tY (am v) o):∃u,o=am u/\RelV v u:=by
 cases o with
 | none=>exact (show False from r).elim
 | some u=>exact⟨u,rfl,r⟩
section
variable {C dx:ce}{fs:List (Str×V)}
def R5 (br:lN P w H h) (e:H a=am (.ins C dx fs)):∃mA,Xp h a dx C mA/\(∀f,tY (fs.lookup f) (mA f))/\PySem.Within mA (fs.map (·.1))/\fs.length<=1000/\H dx=am (.own a):=by
 obtain⟨d,z,ne,ob,mA,n,r,q⟩:=(show a7 P w H h a (.ins C dx fs) from br a _ e);exact⟨mA,⟨ob,n,ne⟩,r,q,z,d⟩
end
structure Cls (K:Ab) (C:ce):Prop where
 pg:Fq K C Str.empty=true
 hd:PySem.W.hasDictIn K C=true
 po:PySem.W.plainOver K C=true
 sa:PySem.W.findIn K (.ref C) "__setattr__"=am (am (.builtin "object.__setattr__"))
def Cls.get {K:Ab}{C:ce} (c:Cls K C) (f:Str):Fq K C f=true:=c.pg
section
variable {c:bn}{b:Bool}
inductive lS (K:Ab) (H:Hp):V->bn->Prop where
 | aG:lS K H .aG (.type "NoneType")
 | bl (x:Bool):lS K H (.bl x) (.type "bool")
 | int (i:Int):lS K H (.int i) (.type "int")
 | str (x:Str):lS K H (.str x) (.type "str")
 | XR (x:UInt64):lS K H (.XR x) (.type "float")
 | lst {a:ce}{xs:List V} (e:H a=am (.lst xs)):lS K H (.ref a) (.type "list")
 | cu {a:ce}{o:Obj}{xs:List V} (e:H a=am (.cu o (.lst xs))):lS K H (.ref a) (.type "list")
 | tup {a:ce}{xs:List V} (e:H a=am (.tup xs)):lS K H (.ref a) (.type "tuple")
 | dK {a:ce}{kvs:List (Key×V)} (e:H a=am (.dK kvs)):lS K H (.ref a) (.type "dict")
 | dT {a:ce}{kvs:List (List Key×V)} (e:H a=am (.dT kvs)):lS K H (.ref a) (.type "dict")
 | ins {a C dx:ce}{fs:List (Str×V)} (e:H a=am (.ins C dx fs)) (cl:Cls K C) (ha:PySem.W.findIn K (.ref C) "__class__"=am (am (.builtin "object.__class__")))
   (hn:PySem.W.specialIn K (.builtin "object.__class__") "__get__"=am (am (.builtin "getset_descriptor.__get__"))) (htk:PySem.W.takesIn K (.builtin "object.__class__")=am true)
   (hm:PySem.W.mroIn K C (.type "object")=am true):lS K H (.ref a) (.ref C)
def Lv {x:V}{t:bn} (I:Inv X Z σ H s) (rx:RelV x u) (ty:lS X.K H x t) (e:Bp X.K t c=am b) (h:∀tk,Q (.bool b) {s with toks:=tk}) :
  db (dL X.prog X.w) A (call (.builtin "isinstance") [u,c]) Q E s:=by
 cases ty with
 | aG=>cases (show u=AM from rx);exact A7 PySem.W.kitx_none I.vg Cb e (λz=>nomatch z) h
 | bl y=>cases (show u=Fh y from rx);exact A7 PySem.W.kitx_bool I.vg Cb e (λz=>nomatch z) h
 | int i=>obtain⟨t,q⟩:=(show ∃t,u=DM i t from rx);cases q;exact A7 PySem.W.kitx_int I.vg Cb e (λz=>nomatch z) h
 | str y=>obtain⟨t,q⟩:=(show ∃t,u=Bc y t from rx);cases q;exact A7 PySem.W.kitx_str I.vg Cb e (λz=>nomatch z) h
 | XR y=>obtain⟨t,q⟩:=(show ∃t,u=Value.float y t from rx);cases q;exact A7 PySem.W.kitx_float I.vg Cb e (λz=>nomatch z) h
 | @lst a xs ea=>
  cases (show u=Ax a from rx);obtain⟨_,_,n,_,h1⟩:=(show a7 X.prog X.w H s.heap a (.lst xs) from I.br a _ ea);exact A7 D8 I.vg ⟨_,h1,rfl⟩ e (λz=>nomatch z) h
 | @cu a ob xs ea=>
  cases (show u=Ax a from rx);obtain⟨_,_,_,n,_,h1⟩:=(show a7 X.prog X.w H s.heap a (.cu ob (.lst xs)) from I.br a _ ea);exact A7 D8 I.vg ⟨_,h1,rfl⟩ e (λz=>nomatch z) h
 | @tup a xs ea=>
  cases (show u=Ax a from rx);obtain⟨_,_,_,p⟩:=(show a7 X.prog X.w H s.heap a (.tup xs) from I.br a _ ea);obtain⟨o,h1,h2,_⟩:=p;exact A7 Fg I.vg ⟨o,h1,h2⟩ e (λz=>nomatch z) h
 | @dK a kvs ea=>
  cases (show u=Ax a from rx);obtain⟨_,_,vs,_,p⟩:=(show a7 X.prog X.w H s.heap a (.dK kvs) from I.br a _ ea);obtain⟨o,es,ep,h1,h2,_⟩:=p;exact A7 D9 I.vg ⟨o,h1,h2.1⟩ e (λz=>nomatch z) h
 | @dT a kvs ea=>
  cases (show u=Ax a from rx);obtain⟨_,_,xs,_,o,es,ep,h1,h2,_⟩:=(show a7 X.prog X.w H s.heap a (.dT kvs) from I.br a _ ea);exact A7 D9 I.vg ⟨o,h1,h2.1⟩ e (λz=>nomatch z) h
 | @ins a C dx fs ea cl ha hn htk hm=>
  cases (show u=Ax a from rx);obtain⟨mA,O,_⟩:=R5 I.br ea;obtain⟨od,J,_⟩:=O.look;exact A7 (PySem.W.kitx_own (cl.get _) cl.hd ha hn htk hm) I.vg J e (λz=>nomatch z) h
end
end L2
variable {v È pm bQ ct oc:AZ}{vs:List L2.V}{mg:B1->Option AZ}{base:Fm}{fd:PySem.FuncData}{ps:List B1}{Ã:B9}{sc scope:PySem.Scope}{qual:B1}{an od:Option BC}{Qc:Array (Option AZ)}
namespace L2
open PySem PySem.Spec PyProof.Rows
structure cC (k:Nat) (A:nw):Prop where
 hd:A.handled=bm
 dp:A.depth+3*k+5 < recursionLimit
 un:A.units+16*k+200 < pc
 gd:A.guards=am []
theorem cC.mono (r:cC k A) (h:j<=k):cC j A:=⟨r.hd,by have:=r.dp;omega,by have:=r.un;omega,r.gd⟩
theorem cC.deeper (r:cC (k+1) A) (env:Env):cC k (A.deeper env):=
 ⟨r.hd,by have:=r.dp;show A.depth+1+3*k+5 < _;omega,by have:=r.un;show A.units+3+16*k+200 < _;omega,r.gd⟩
theorem cC.depth (r:cC k A):A.depth < recursionLimit:=by have:=r.dp;omega
def Yr:TA:=λ_ H Q=>Q [] H
def Th (ta:TE) (tr:TA):TA:=λσ H Q=>ta σ H λx H1=>tr σ H1 λxs H2=>Q (x::xs) H2
section
variable {t:TA}
def b9:PA X [] Yr:=λ_ _ _ _ H Q I h=>CG ⟨[],H,I,.nil,h⟩
def aZ (ha:PE X e te) (hr:PA X es t) (hs:gM X e es:=by rfl):PA X (e::es) (Th te t):=by
 intro pos Z s σ H Q I h;rw [hs];refine Cd (bV (ha Z s σ H _ I h) λu s1 ⟨x,H1,I1,r1,q1⟩=>?_);exact bV (hr pos Z s1 σ H1 _ I1 q1) λus s2 ⟨xs,H2,I2,r2,q2⟩=>⟨x::xs,H2,I2,.cons r1 r2,q2⟩
end
abbrev Sp:=List V->Hp->VK->XK->Prop
abbrev P8:=List Env->Hp->ci->XK->bn->ci->Prop
structure S9 (P:tt) (w:t0) (K:Ab) (mg:Str->Option bn) (base:lf) (A:nw) (outer:List Env) (s:ci) (H:Hp):Prop where
 frames:A.frames=am outer
 mod:Mod K mg base
 bs:∀b o,base.get? b=am o->s.heap.get? b=am o/\H b=bm
 Uu:base.objs.size<=s.heap.objs.size
 sZ:s.heap.FunFrames base outer
 XN:∀b∈Ml outer,H b=bm
 br:lN P w H s.heap
 bare:Fa s.gens
def CE (outer:List Env) (P:tt) (w:t0) (H:Hp) (s:ci) (Q:VK) (u:bn) (s':ci):Prop:=
 ∃v H',s'.os=s.os/\Fa s'.gens/\Un (Ml outer) [] H H' s.heap s'.heap/\lN P w H' s'.heap/\RelV v u/\Q v H'
def CR (CX:P8) (outer:List Env) (P:tt) (w:t0) (H:Hp) (s:ci) (Q:VK) (E:XK) (r:Result) (s':ci):Prop:=
 match r with
 | .ok (.ret u)=>CE outer P w H s Q u s'
 | .ok _=>False
 | .error e=>CX outer H s E e s'
structure iZ (P:tt) (w:t0) (K:Ab) (mg:Str->Option bn) (base:lf) (CX:P8) (k:Nat) (f:ce) (fd:Ev) (ps:List Str) (sp:Sp):Prop where
 len:∀vs H Q E,sp vs H Q E->vs.length=ps.length
 run:∀(A:nw) (outer:List Env) (s:ci) (H:Hp) (args:Args) (us:List bn) (vs:List V) (Q:VK) (E:XK),cC k A->S9 P w K mg base A outer s H->BindsTo s fd args (ps.zip us)->Vals vs us->sp vs H Q E->
  BT (dL P w) A (.call (.ref f) args) (CR CX outer P w H s Q E) s
def iZ.imp {K:Ab}{CX:P8}{f:ce}{sp sp':Sp} (F:iZ P w K mg base CX k f fd ps sp)
  (h:∀vs H Q E,sp' vs H Q E->sp vs H Q E):iZ P w K mg base CX k f fd ps sp':=
 ⟨λvs H Q E q=>F.len vs H Q E (h _ _ _ _ q),λA outer s H args us vs Q E hr he hb hv hs=>F.run A outer s H args us vs Q E hr he hb hv (h _ _ _ _ hs)⟩
section
def Inv.aey (I:Inv X Z σ H s):S9 X.prog X.w X.K X.mg X.base X.A X.stack s H:=
 ⟨I.ok.frames,I.ok.mod,I.bs,BB I.ok.Uu I.sz,I.stack,I.Jl,I.br,I.bare⟩
def Inv.after {Q:VK} (I:Inv X Z σ H s) (h:CE X.stack X.prog X.w H s Q u s'):EP X Z σ Q u s':=by
 obtain⟨v,H',os,bare,un,br,r,q⟩:=h;obtain⟨hh,g,d,t,os'⟩:=s';obtain rfl:os'=s.os:=os;exact⟨v,H',I.call (h':=hh) (g':=g) (d':=d) (t':=t) (ch:=[]) un br bare (λb z=>absurd z (by simp)),r,q⟩
end
def Binds (K:Ab) (fd:Ev) (ps:List Str) (ds:List bn):Prop:=
 ∀(s:ci) (us:List bn),K.In s.heap->(us++ds).length=ps.length->BindsTo s fd ⟨us,[]⟩ (ps.zip (us++ds))
def Binds.all {K:Ab} (h:∀us:List bn,us.length=ps.length->bindArgs fd ⟨us,[]⟩=pure (ps.zip us)):Binds K fd ps []:=λs us _ hl=>by
 rw [Cz] at hl ⊢;exact .of_eq (h us hl)
def Passes (CX:P8) (X:Cx) (E:XK):Prop:=∀(Z:List (ce×Obj)) (σ:St) (H:Hp) (s:ci) (e:bn) (s':ci),Inv X Z σ H s->CX X.stack H s E e s'->X.xe e s'
section
variable {CX:P8}{f:ce}{sp:Sp}{dvs:List V}{ds:List bn}{E:XK}
def U4 {Q:VK} (F:iZ X.prog X.w X.K X.mg X.base CX k f fd ps sp) (hr:cC k X.A) (hb:Binds X.K fd ps ds) (hd:Vals dvs ds) (hx:Passes CX X E)
  (I:Inv X Z σ H s) (r:Vals vs us) (h:sp (vs++dvs) H Q E):db (dL X.prog X.w) X.A (call (.ref f) us) (EP X Z σ Q) X.xe s:=by
 have r2:Vals (vs++dvs) (us++ds):=r.append hd;have hl:(us++ds).length=ps.length:=by rw [<- r2.length];exact F.len _ _ _ _ h
 refine wpAny_call (codeAny_mono (F.run X.A X.stack s H ⟨us,[]⟩ (us++ds) (vs++dvs) Q E hr I.aey (hb s us I.vg hl) r2 h) λr s' hq=>?_);cases r with
 | error e=>exact hx Z σ H s e s' I hq
 | ok fl=>
  cases fl with
  | ret u=>exact I.after hq
  | next=>exact Bn hq
  | brk=>exact Bn hq
  | cont=>exact Bn hq
end
structure ao (N P:List Str) (sc:pr):Prop where
 kind:sc.kind=.function
 co:sc.isCoroutine=false
 gen:sc.isGenerator=false
 nd:N.Nodup
 pre:N.take P.length=P
 par:∀x∈P,sc.names.lookup x=am .local\/sc.names.lookup x=am .cell
 VN:∀y∈sc.names,y.2≠.free
theorem vF {kindOf:Str->Option wv}:∀{binds:List (Str×bn)}{m:Str->Option bn},(∀v,(x,v)∉binds)->bindL kindOf binds m x=m x
 | [],_,_=>rfl
 | (n,v)::r,m,h=>by
  unfold bindL;rw [vF λw hw=>h w (AV _ hw)]
  split
  ·have:x≠n:=by rintro rfl;exact h v Bs
   simp [this]
  ·rfl
theorem vH {kindOf:Str->Option wv}:∀{binds:List (Str×bn)}{m:Str->Option bn},(∀v,(x,v)∉binds)->bindC kindOf binds m x=m x
 | [],_,_=>rfl
 | (n,v)::r,m,h=>by
  unfold bindC;rw [vH λw hw=>h w (AV _ hw)]
  split
  ·rfl
  ·have:x≠n:=by rintro rfl;exact h v Bs
   simp [this]
theorem vG {kindOf:Str->Option wv}:∀{P:List Str}{vs:List bn}{i:Nat}{m:Str->Option bn},P.Nodup->P[i]?=am x->vs[i]?=am v->kindOf x=am .local->
  bindL kindOf (P.zip vs) m x=am v
 | [],_,_,_,_,h,_,_=>by simp at h
 | _::_,[],_,_,_,_,h,_=>by simp at h
 | p::P,w::vs,0,m,nd,h1,h2,hk=>by
  simp at h1 h2;subst h1;subst h2;show bindL kindOf ((p,w)::P.zip vs) m p=_;unfold bindL;rw [vF λv hv=>(DC.mp nd).1 (EM hv).1,if_pos hk];simp
 | p::P,w::vs,i+1,m,nd,h1,h2,hk=>by
  show bindL kindOf ((p,w)::P.zip vs) m x=_;unfold bindL;exact vG (i:=i) (DC.mp nd).2 (by simpa using h1) (by simpa using h2) hk
theorem vI {kindOf:Str->Option wv}:∀{P:List Str}{vs:List bn}{i:Nat}{m:Str->Option bn},P.Nodup->P[i]?=am x->vs[i]?=am v->kindOf x≠am .local->
  bindC kindOf (P.zip vs) m x=am v
 | [],_,_,_,_,h,_,_=>by simp at h
 | _::_,[],_,_,_,_,h,_=>by simp at h
 | p::P,w::vs,0,m,nd,h1,h2,hk=>by
  simp at h1 h2;subst h1;subst h2;show bindC kindOf ((p,w)::P.zip vs) m p=_;unfold bindC;rw [vH λv hv=>(DC.mp nd).1 (EM hv).1,if_neg hk];simp
 | p::P,w::vs,i+1,m,nd,h1,h2,hk=>by
  show bindC kindOf ((p,w)::P.zip vs) m x=_;unfold bindC;exact vI (i:=i) (DC.mp nd).2 (by simpa using h1) (by simpa using h2) hk
def start (N:List Str) (vs:List V):St:=vs.map am++Am (N.length-vs.length) bm
def gJ (CX:P8) (P:tt) (w:t0) (K:Ab) (mg:Str->Option bn) (base:lf) (N:List Str) (qual:Str) (scope:pr) (f:ce) (cd:bn) (A:nw) (outer:List Env) (s:ci) (H:Hp) (E:XK):Cx where
 prog:=P
 w:=w
 K:=K
 mg:=mg
 base:=base
 A:=A.deeper (r9 qual scope s.heap.objs.size f cd)
 N:=N
 s₀:=s
 H₀:=H
 env:=r9 qual scope s.heap.objs.size f cd
 outer:=outer
 stack:=r9 qual scope s.heap.objs.size f cd::outer
 ex:=[]
 calm:=true
 fn:=λ_=>true
 pn:=[]
 xe:=λe s'=>db (dL P w) (A.deeper (r9 qual scope s.heap.objs.size f cd)) (leaving (r9 qual scope s.heap.objs.size f cd) e) (λ_ YJ=>CX outer H s E e YJ) (λe' YJ=>CX outer H s E e' YJ) s'
def Gi (h:sc.names.lookup x=am .cell):∃c,(cellsFrom n sc.names []).lookup x=am c:=by
 have q:=Eo sc.names n [] (.inl h);exact Option.isSome_iff_exists.mp q
theorem Lx {CX:P8}{K:Ab}{N:List Str}{f:ce}{cd:bn}{outer:List Env}{s1:ci}{E:XK}
  (S:ao N ps scope) (hd:A.handled=bm) (e0:S9 P w K mg base A outer s H) (hl:vs.length=ps.length) (r:Vals vs us)
  (x:InCallC s s.heap.objs.size (bindL (r9 qual scope s.heap.objs.size f cd).kindOf (ps.zip us) λ_=>bm) (cellsFrom (s.heap.objs.size+1) scope.names []) (bindC (r9 qual scope s.heap.objs.size f cd).kindOf (ps.zip us) λ_=>bm) s1) :
  Inv (gJ CX P w K mg base N qual scope f cd A outer s H E) [] (start N vs) H s1:=by
 have dH:ps.length<=N.length:=by have:=congrArg BN S.pre;rw [En] at this;omega
 obtain⟨h1,tk,rfl,hk⟩:=x.done;have Zk:∀b:ce,b∉(gJ CX P w K mg base N qual scope f cd A outer s H E).ex:=λb z=>absurd (show b∈([]:List ce) from z) (by simp);refine⟨⟨e0.mod,S.kind,rfl,rfl,An _,λy z c h1 h2=>?_,λy hy=>?_,λy c _ h=>?_,λ_=>hd,Around.frames_deeper e0.frames,.inr ⟨rfl,rfl⟩,λb z=>absurd z (Zk b),e0.bs,e0.Uu,λb _ _=>Zk b,λb z=>absurd z (Zk b),e0.sZ,e0.XN⟩,
  rfl,e0.bare,Un.kept hk,⟨_,x.toInCall.ns,λi y v h1 h2 h3=>?_⟩,λy c h=>⟨_,x.cell y c h⟩,e0.br.fresh (An _),λy c h=>?_,λp hp=>absurd (show p∈([]:List (ce×Obj)) from hp) (by simp),e0.br.kept hk,?_⟩
 ·exact name_of_addr x.apart (BK h1) (BK h2)
 ·rcases hy with hy | hy
  ·exact Gi hy
  ·exact absurd rfl (S.VN _ (BK hy))
 ·exact DL (x.above y c (BK h))
 ·have hi:i < vs.length:=by
   unfold start at h2;by_cases hi:i < vs.length
   ·exact hi
   ·rw [AW (by simpa using hi)] at h2;rw [Bo] at h2
    split at h2 <;> cases h2
  have ha:vs[i]?=am v:=by
   unfold start at h2;rw [AL (by simpa using hi),Ak] at h2;cases e:vs[i]? with
   | none=>rw [e] at h2;cases h2
   | some a=>rw [e] at h2;cases h2;rfl
  obtain⟨u,hu,rv⟩:=r.get ha;have hp:ps[i]?=am y:=by
   rw [<- S.pre,List.getElem?_take_of_lt ∅];exact h1
  have ndP:ps.Nodup:=by rw [<- S.pre];exact S.nd.sublist (List.take_sublist _ _)
  refine⟨u,rv,?_⟩;rcases S.par y (Br hp) with k | k
  ·exact .inl ⟨k,vG ndP hp hu k⟩
  ·obtain⟨c,e⟩:=Gi (n:=s.heap.objs.size+1) k;refine .inr ⟨.inl k,c,e,?_⟩;have q:=x.cell y c e;rw [vI ndP hp hu (by show scope.names.lookup y≠_;rw [k];decide)] at q;exact q
 ·exact e0.br.fresh (DL (x.above y c (BK h)))
 ·unfold start;show _=N.length;rw [Ai,Af,Bm];omega
def aal {CX:P8}{K:Ab}{f:ce}{name:Str}{params:Arguments}{dV kV:bn}{N:List Str}{sp:Sp} (lk:K.lookup f=am ⟨oc,od,.func (BU name qual params body scope dV kV È pm an bQ ct),Qc⟩) (jt:DP K bQ qual=true) (S:ao N ps scope)
  (len:∀vs H Q E,sp vs H Q E->vs.length=ps.length)
  (OK:∀(A:nw) (outer:List Env) (s:ci) (H:Hp) (vs:List V) (Q:VK) (E:XK),cC k (A.deeper (r9 qual scope s.heap.objs.size f bQ))->sp vs H Q E->
   ∃t,rm (gJ CX P w K mg base N qual scope f bQ A outer s H E) body t/\t {nx:=λ_ H'=>Q .aG H',rt:=Q} (start N vs) H) :
  iZ P w K mg base CX (k+1) f (BU name qual params body scope dV kV È pm an bQ ct) ps sp:=by
 refine⟨len,λA outer s H args us vs Q E hr e0 hb r Sa=>?_⟩;have hl:=len _ _ _ _ Sa;have KX:K.In s.heap:=e0.mod.kin.keeps λb o e=>(e0.bs b o e).1;have lim:s.heap.NoLimit:=e0.mod.nolimit.keeps λb o e=>(e0.bs b o e).1;have ZW:∀y∈ps.zip us,scope.names.lookup y.1=am .local\/(scope.names.lookup y.1=am .cell/\((cellsFrom (s.heap.objs.size+1) scope.names []).lookup y.1).isSome=true):=λ⟨n,v⟩ hy=>by
  rcases S.par n (EM hy).1 with q | q
  ·exact .inl q
  ·exact .inr ⟨q,Eo _ _ _ (.inl q)⟩
 refine codeAny_call_function hr.depth (KX _ _ lk) rfl S.co S.gen rfl (PySem.W.codeRec_of KX jt) (hb _ _ _ _ ?_);refine wpAny_newFunctionEnv_cells S.kind ZW λenv he s1 x=>?_;subst he;refine⟨lim.keeps x.toInCall.keep,codeAny_func ?_⟩;obtain⟨t,ht,hq⟩:=OK A outer s H vs Q E (hr.deeper _) Sa;have I:Inv (gJ CX P w K mg base N qual scope f bQ A outer s H E) [] (start N vs) H s1:=Lx S hr.hd e0 hl r x;refine BJ (ht [] s1 (start N vs) H _ I hq) (λfl s' hs=>?_) λe s' hs=>hs;have fin:∀{σ':St}{H':Hp}{v:V}{u:bn},Inv (gJ CX P w K mg base N qual scope f bQ A outer s H E) [] σ' H' s'->RelV v u->Q v H'->CE outer P w H s Q u s':=
  λ{σ' H' v u} J rv q=>⟨v,H',J.os,J.bare,J.base,J.br,rv,q⟩
 cases fl with
 | ret u=>
  obtain⟨v,σ',H',J,rv,q⟩:=hs;exact fin J rv q
 | next=>
  obtain⟨σ',H',J,q⟩:=hs;exact fin (v:=V.aG) (u:=AM) J rfl q
 | brk=>
  obtain⟨_,_,_,q⟩:=hs;exact Bn q
 | cont=>
  obtain⟨_,_,_,q⟩:=hs;exact Bn q
end L2
variable {T:String}
namespace L2
open PySem PySem.Spec PyProof.Rows
section
variable {t:TA}{id:String}{r:List V->Hp->VK->Prop}
def tCB (r:List V->Hp->VK->Prop) (t:TA):TE:=λσ H Q=>t σ H λvs H1=>r vs H1 Q
def ft (hc:bP X (.builtin id) r) (hg:Gl X x) (hm:X.mg x=bm) (hv:lc x=am (.builtin id)) (ha:PA X (e::es) t) (hn:x≠"__name__":=by decide) (om:i5 x:=by decide)
  (he:gM X e es:=by rfl) (dH:lT X pos es:=by rfl):PE X (.Call (.Name x p) (e::es) [] pos) (tCB r t):=by
 intro Z s σ H Q I h;refine BD (ib I hg hm hv ?_ hn om);exact PyProof.Rows.callWith_builtin1 (bV (ha pos Z s σ H _ I h) λus s1 ⟨vs,H1,I1,r1,q1⟩=>hc Z s1 σ H1 vs us Q I1 r1 q1) he dH
def lh (hc:bP X (.type T) r) (hg:Gl X x) (hm:X.mg x=bm) (hv:lc x=am (.type T)) (ha:PA X (e::es) t) (hn:x≠"__name__":=by decide) (om:i5 x:=by decide)
  (he:gM X e es:=by rfl) (dH:lT X pos es:=by rfl):PE X (.Call (.Name x p) (e::es) [] pos) (tCB r t):=by
 intro Z s σ H Q I h;refine BD (ib I hg hm hv ?_ hn om);exact Bd (bV (ha pos Z s σ H _ I h) λus s1 ⟨vs,H1,I1,r1,q1⟩=>hc Z s1 σ H1 vs us Q I1 r1 q1) he dH
end
end L2
variable {l:BC}{prog:PySem.Program}{items:Array AZ}{ns ms:List Int}
namespace HT
open PySem PyProof.Rows
def lexLt:List Int->List Int->Bool
 | [],[]=>false
 | [],_::_=>true
 | _::_,[]=>false
 | x::xs,y::ys=>if x=y then lexLt xs ys else decide (x < y)
theorem Hs (x y:Int) (xs ys:List Int):lexLt (x::xs) (y::ys)=if x=y then lexLt xs ys else decide (x < y):=rfl
def Pe (A:nw) (s:ci) (a:Int) (t:Tok) (c:Int) (u:Tok):∃e,Dg A s (.int a t) (.int c u) e/\(e=true↔a=c):=
 ⟨(a==c),DR a t c u,by simp⟩
def Ng (A:nw) (s:ci) (a:Int) (t:Tok) (c:Int) (u:Tok) (prog:tt) (w:t0) (E:bn->ci->Prop) (Q:bn->ci->Prop) (h:Q (.bool (decide (a < c))) s) :
  db (dL prog w) A (richCompare .Lt (.int a t) (.int c u)) Q E s:=
 (PyProof.Rows.lt_int h:db (dL prog w) A (mo .Lt (.int a t) (.int c u)) Q E s)
section
open PySem.SeqAt
open PySem.AutoSeq1 (wpAny_loadPart')
open PySem.MeetsSeq PySem.MeetsSeq2 PySem.MeetsSeq3
theorem uh (l b:ce) (items bJ:Array bn) (n n2:Nat) (dd SI:Option ce) (sl Qb:Array (Option bn)) (ns ms:List Int) (hi:tz items.toList ns) (hj:tz bJ.toList ms) :
  Meets (u8.«tuple.__lt__» ⟨[.ref l,.ref b],[]⟩)
   (λ_ R s=>s.heap.get? l=am {cls:=.type "tuple",dict:=dd,data:=.seq items n,slots:=sl}/\s.heap.get? b=am {cls:=.type "tuple",dict:=SI,data:=.seq bJ n2,slots:=Qb}/\
    R (.ok (.ret (.bool (lexLt ns ms)))) s):=
 .of_wp λprog w A R s h=>by
  obtain⟨hp,g,d,tk,os⟩:=s;obtain⟨hl,hb,h⟩:=h;have f2:=AutoSeq1.sub_tuple_tuple;have z1:items.size=ns.length:=by rw [<- hi.length];simp
  have z2:bJ.size=ms.length:=by rw [<- hj.length];simp
  wp_walk using wpAny_loadPart' hl,wpAny_loadPart' hb,wpAny_forIn_list _ (λrest b s'=>b.1=bm/\s'=⟨hp,g,d,tk,os⟩/\∃(vs ws:List bn) (zF Xz:List Int),rest=vs.zip ws/\
   tz vs zF/\tz ws Xz/\zF.length+bJ.size=Xz.length+items.size/\R (.ok (.ret (.bool (lexLt zF Xz)))) ⟨hp,g,d,tk,os⟩) _
  case turn=>
   rintro⟨y,x⟩ rest b s' ⟨ÿ,rfl,vs,ws,zF,Xz,hz,hvi,hwi,Â,hR⟩;cases hvi with
   | nil=>rw [List.zip_nil_left] at hz;cases hz
   | cons a t adE=>
    cases hwi with
    | nil=>rw [List.zip_nil_right] at hz;cases hz
    | cons c u adD=>
     rw [List.zip_cons_cons] at hz;injection hz with hyx ZQ;injection hyx with hy hx;subst hy hx;rw [Hs] at hR;simp only [Ao] at Â;obtain⟨e,he,Z0⟩:=Pe A.in1 ⟨hp,g,d,tk,os⟩ a t c u;refine Aa (he prog w _ _ ?_);cases e with
     | true=>
      rw [if_pos (Z0.mp rfl)] at hR
      wp_walk
      exact⟨rfl,rfl,_,_,_,_,ZQ,adE,adD,by omega,hR⟩
     | false=>
      rw [if_neg (λq=>absurd (Z0.mpr q) A3)] at hR;have hri:=Ng A.in1 ⟨hp,g,d,tk,os⟩ a t c u prog w
      wp_walk using hri
      exact⟨_,rfl,by simpa using hR⟩
  case fin=>
   rintro⟨b1,b2⟩ s' ⟨ÿ,rfl,vs,ws,zF,Xz,hz,hvi,hwi,Â,hR⟩;simp only at ÿ;subst ÿ;have hv:lexLt zF Xz=decide (items.size < bJ.size):=by
    cases hvi with
    | nil=>
     cases hwi with
     | nil=>
      exact (decide_eq_false ∅).symm
     | cons c u hw=>
      simp only [Bj,Ao] at Â;exact (decide_eq_true ∅).symm
    | cons a t hv=>
     cases hwi with
     | nil=>
      simp only [Bj,Ao] at Â;exact (decide_eq_false ∅).symm
     | cons c u hw=>
      rw [List.zip_cons_cons] at hz;cases hz
   rw [hv] at hR
   wp_walk
   exact⟨_,rfl,by simpa [Builtin.Tuple.tupleCompareSizes] using hR⟩
  case h=>
   exact⟨rfl,rfl,items.toList,bJ.toList,ns,ms,rfl,hi,hj,by omega,h⟩
end
section
def Ho {bJ:Array bn} (hl:IsTup s.heap l items) (hb:IsTup s.heap b bJ) (hi:tz items.toList ns) (hj:tz bJ.toList ms)
  (hu:A.units < pc) (h:Q (.bool (lexLt ns ms)) s):db (dL prog w) A (mo .Lt (.ref l) (.ref b)) Q E s:=by
 obtain⟨⟨cls,dd,data,sl⟩,ho,hc,n,hd⟩:=id hl;obtain⟨⟨Xb,SI,data2,Qb⟩,LB,OJ,n2,Ò⟩:=id hb;simp only at hc hd OJ Ò;subst hc hd OJ Ò;exact richCompare_meets_room (op:=.Lt) ⟨_,ho,rfl⟩ ⟨_,LB,rfl⟩ PySem.F.slot_tuple_lt PySem.F.entry_tuple_lt (PySem.F.args_tuple_lt_2 _ _) (uh l b items bJ n n2 dd SI sl Qb ns ms hi hj)
  ⟨ho,LB,show Fh (lexLt ns ms)≠Value.notImplemented/\Q (.bool (lexLt ns ms)) s from⟨(λx=>nomatch x),h⟩⟩ hu
def SM {t:ce}{vs ws:List bn} (ht:IsTup s.heap t vs.toArray) (hb:IsTup s.heap b ws.toArray) (hv:vs≠[])
  (h1:ws=[]->Q (.ref t) s) (h2:ws≠[]->Q (.ref s.heap.objs.size) {s with heap:=s.heap.push {cls:=.type "tuple",data:=.seq (vs++ws).toArray}})
  (hsz:vs.length+ws.length<=sizeLine):db (dL prog w) A (sn .Add (.ref t) (.ref b)) Q E s:=by
 obtain⟨⟨cls,dd,data,sl⟩,ho,hc,n,hd⟩:=id ht;obtain⟨⟨Xb,SI,data2,Qb⟩,LB,OJ,n2,Ò⟩:=id hb;simp only at hc hd OJ Ò;subst hc hd OJ Ò;have e:vs.toArray++ws.toArray=(vs++ws).toArray:=by simp
 by_cases hw:ws=[]
 ·exact concat_meets ⟨_,ho,rfl⟩ ⟨_,LB,rfl⟩ noFill_tuple_add seq_tuple_add C2 C1 (CT _ _)
   (tuple_addW1 t b vs.toArray ws.toArray n n2 dd SI sl Qb (by simpa using hv) (by simp [hw])) ⟨ho,LB,h1 hw⟩
 ·refine concat_meets ⟨_,ho,rfl⟩ ⟨_,LB,rfl⟩ noFill_tuple_add seq_tuple_add C2 C1 (CT _ _)
   (tuple_addW2 t b vs.toArray ws.toArray n n2 dd SI sl Qb (by simpa using hv) (by simpa using hw) (by rw [Aj,Aj];exact hsz)) ⟨ho,LB,?_⟩
  rw [e];exact h2 hw
def G6 (n d:Nat):Option Int->Nat
 | none=>d
 | some v=>if v < 0 then (v+(n:Int)).toNat else min v.toNat n
def mD {o:Option Int}{Q:Option Int->ci->Prop} (p:IsPart v o) (h:Q o s):db (dL prog w) A (Builtin.Slice.slicePartIndex v) Q E s:=by
 cases p with
 | none=>exact slicePart_none h
 | int i t=>exact slicePart_int h
end
end HT
variable {p2:B9}
namespace L2
open PySem PySem.Spec PyProof.Rows
abbrev TO:=St->Hp->(Option Int->Hp->Prop)->Prop
def PO (X:Cx) (e:Option ii) (t:TO):Prop:=
 ∀(Z:List (ce×Obj)) (s:ci) (σ:St) (H:Hp) (Q:Option Int->Hp->Prop),Inv X Z σ H s->t σ H Q->
  db (dL X.prog X.w) X.A (evalPart e X.env) (λu s'=>∃o H',Inv X Z σ H' s'/\IsPart u o/\Q o H') X.xe s
def Qx:TO:=λ_ H Q=>Q bm H
def Yq (t:TE):TO:=λσ H Q=>t σ H λx H1=>∃i,x=.int i/\Q (am i) H1
def intsAre_of:∀{us:List bn},Vals (ns.map V.int) us->tz us ns:=by
 induction ns with
 | nil=>intro us r;rw [Ez] at r;cases r;exact .nil
 | cons n ns ih=>
  intro us r;rw [Aq] at r;cases r with
  | cons r1 r2=>
   obtain⟨t,e⟩:=r1;subst e;exact .cons n t (ih r2)
section
variable {lo hi:Option ii}
def Q0:PO X bm Qx:=by
 intro Z s σ H Q I h;exact Ae ⟨bm,H,I,.none,h⟩
def QZ (h:PE X e te):PO X (am e) (Yq te):=by
 intro Z s σ H Q I hw;refine bV (h Z s σ H _ I hw) λu s1 ⟨x,H1,I1,r1,q1⟩=>?_;obtain⟨i,rfl,q⟩:=q1;obtain⟨t,rfl⟩:=r1;exact⟨am i,H1,I1,.int i t,q⟩
def SlR (X:Cx) (r:V->Option Int->Option Int->Hp->VK->Prop):Prop:=
 ∀(Z:List (ce×Obj)) (s:ci) (σ:St) (H:Hp) (x:V) (v vl vu:bn) (lo hi:Option Int) (sl:ce) (Q:VK),Inv X Z σ H s->RelV x v->s.heap.IsSliceOf sl vl vu .none->IsPart vl lo->IsPart vu hi->r x lo hi H Q->
  ∃T id,EQ (.type T) "__getitem__"=pure (am (.builtin id))/\s.TypeIs v T/\db (dL X.prog X.w) X.A (getItem v (.ref sl)) (EP X Z σ Q) X.xe s
def SK (xs:List V) (lo hi:Option Int):List V:=(xs.drop (HT.G6 xs.length 0 lo)).take (HT.G6 xs.length xs.length hi-HT.G6 xs.length 0 lo)
theorem Gf (xs:List V) (lo hi:Option Int):(SK xs lo hi).length<=xs.length:=by
 unfold SK;rw [En,List.length_drop];omega
def Tv (K:Ab):R2:=λx y H Q=>∃a b xs ys,x=.ref a/\y=.ref b/\d4 K H a xs/\d4 K H b ys/\xs≠[]/\xs.length+ys.length<=sizeLine/\
 (ys=[]->Q (.ref a) H)/\(ys≠[]->∀p,H p=bm->Q (.ref p) (upd H p (.tup (xs++ys))))
def Vals.jh (r:Vals xs us):us=[]↔xs=[]:=by
 cases r with
 | nil=>simp
 | cons _ _=>simp
def JI:iC X (sn .Add) (Tv X.K):=by
 intro Z s σ H x y v u Q I rx ry h;obtain⟨a,b,xs,ys,rfl,rfl,ha,hb,hx,hz,q1,q2⟩:=h;cases rx;cases ry;obtain⟨aq,r1,p1,_⟩:=I.tuple ha;obtain⟨cH,r2,p2,_⟩:=I.tuple hb;refine HT.SM p1 p2 (λz=>hx (r1.jh.mp z)) (λz=>⟨.ref a,H,I,rfl,q1 (r2.jh.mp z)⟩) (λz=>?_) (by rw [<- r1.length,<- r2.length];exact hz);refine⟨.ref s.heap.objs.size,_,I.laid (t':=s.toks) (o:=.tup (xs++ys)) (λb ob q=>Ag _ q) (An _) ?_,rfl,q2 (λw=>z (r2.jh.mpr w)) _ (I.br.fresh (An _))⟩;exact⟨by rw [Ai];exact hz,_,r1.append r2,Fw _ _⟩
end
end L2
variable {its':List AZ}
namespace L2
open PySem PySem.Spec PyProof.Rows
def uB (n:Nat) (i:Int):Option Nat:=if 0<=i then (if i < n then am i.toNat else bm) else if -(n:Int)<=i then am (i+n).toNat else bm
def dq (xs:List α) (i:Int):Option α:=(uB xs.length i).bind λj=>xs[j]?
theorem xh (h:uB n i=am j):seqIndex? i n=am j/\j < n/\-(n:Int)<=i/\i < n:=by
 unfold uB at h;by_cases h0:0<=i
 ·rw [if_pos h0] at h;by_cases h1:i < n
  ·rw [if_pos h1] at h;have e:=Option.some.inj h;exact⟨by rw [seqIndex_of h0 h1,e],by omega,by omega,h1⟩
  ·rw [if_neg h1] at h;cases h
 ·rw [if_neg h0] at h;by_cases h1:-(n:Int)<=i
  ·rw [if_pos h1] at h;have e:=Option.some.inj h;exact⟨by rw [seqIndex_neg ∅ h1,e],by omega,h1,by omega⟩
  ·rw [if_neg h1] at h;cases h
def yq {xs:List α}{v:α} (h:dq xs i=am v):∃j,seqIndex? i xs.length=am j/\xs[j]?=am v/\j < xs.length/\-(xs.length:Int)<=i/\i < xs.length:=by
 unfold dq at h;cases e:uB xs.length i with
 | none=>rw [e] at h;cases h
 | some j=>
  rw [e] at h;obtain⟨h1,h2,h3,h4⟩:=xh e;exact⟨j,h1,h,h2,h3,h4⟩
theorem eK {xs:List α}{v:α} (h:xs[j]?=am v):dq xs (j:Int)=am v:=by
 have hj:=(Al.mp h).1;have e:uB xs.length (j:Int)=am j:=by
  unfold uB;rw [if_pos ∅,if_pos ∅];simp
 unfold dq;rw [e];exact h
def yM (b:ii):Prop:=∀o i,subscripted b false o i=operate [o,i] (getItem o i)
def Qk (X:Cx) (r:R2):Prop:=
 ∀(value Ç:ii) (Z:List (ce×Obj)) (s:ci) (σ:St) (H:Hp) (x y:V) (v u:bn) (Q:VK),Inv X Z σ H s->RelV x v->RelV y u->r x y H Q->
  subscripted Ç false v u=operate [v,u] (getItem v u)->db (dL X.prog X.w) X.A (subscriptTail value Ç v u) (EP X Z σ Q) X.xe s
def MtR (X:Cx) (id:String) (r:V->List V->Hp->VK->Prop):Prop:=
 ∀(Z:List (ce×Obj)) (s:ci) (σ:St) (H:Hp) (x:V) (xs:List V) (v:bn) (us:List bn) (Q:VK),Inv X Z σ H s->RelV x v->Vals xs us->r x xs H Q->
  db (dL X.prog X.w) X.A (call (.builtin id) (v::us)) (EP X Z σ Q) X.xe s
section
variable {X:Cx}{a b:ii}{ta tb:TE}{pos:Pos}
def Qk.or {r r':R2} (h:Qk X r) (h':Qk X r'):Qk X (λx y H Q=>r x y H Q\/r' x y H Q):=by
 intro value Ç Z s σ H x y v u Q I rx ry q hs;rcases q with q | q
 ·exact h value Ç Z s σ H x y v u Q I rx ry q hs
 ·exact h' value Ç Z s σ H x y v u Q I rx ry q hs
def Tw {r:R2} (hr:Qk X r) (ha:PE X a ta) (hb:PE X b tb) (hs:yM b):PE X (.Subscript a b pos) (UP r ta tb):=by
 intro Z s σ H Q I h;exact Subscript_ (Xe ha hb I h λv u s2 x y H2 I2 rx ry q=>hr a b Z s2 σ H2 x y v u Q I2 rx ry q (hs _ _))
def YU (K:Ab):R2:=λx y H Q=>∃p xs i v,x=.ref p/\y=.int i/\c7 K H p xs/\dq xs i=am v/\Q v H
def YT (K:Ab):R2:=λx y H Q=>∃p xs i v,x=.ref p/\y=.int i/\d4 K H p xs/\dq xs i=am v/\Q v H
def Vg:R2:=λx y H Q=>∃z i c,x=.str z/\y=.int i/\z.length<=sizeLine/\dq z.cps.toList i=am c/\Q (.str ⟨#[c]⟩) H
theorem R0:Qk X (YU X.K):=by
 intro value Ç Z s σ H x y v u Q I rx ry h hs;obtain⟨p,xs,i,z,rfl,rfl,hq,he,q⟩:=h;cases rx;obtain⟨t,rfl⟩:=ry;obtain⟨aq,r,pl,hz⟩:=I.list hq;obtain⟨j,h1,h2,h3,h4,h5⟩:=yq he;obtain⟨w,ew,wd⟩:=r.get h2;have hl:=r.length;have hn:=wK;have fin:EP X Z σ Q w s:=⟨z,H,I,wd,q⟩;by_cases h0:0<=i
 ·have hj:i.toNat=j:=by
   rw [seqIndex_of h0 h5] at h1;exact Option.some.inj h1
  exact item_listR pl.isList h0 ∅ (by rw [hj];simpa using ew) fin hs
 ·have hj:(i+(aq.toArray.size:Int)).toNat=j:=by
   rw [seqIndex_neg ∅ h4] at h1;rw [Aj,<- hl];exact Option.some.inj h1
  exact subscriptTail_builtinR (x:=w) pl.isList.typeIs slot_list_getitem.lookup
   (wpAny_getItem_list_neg (Q:=λr s'=>r=w/\EP X Z σ Q r s') pl.isList ∅ (by rw [Aj] <;> omega) ∅ (by rw [hj];simpa using ew) ⟨rfl,fin⟩) hs
theorem Wj:Qk X (YT X.K):=by
 intro value Ç Z s σ H x y v u Q I rx ry h hs;obtain⟨p,xs,i,z,rfl,rfl,hq,he,q⟩:=h;cases rx;obtain⟨t,rfl⟩:=ry;obtain⟨aq,r,pl,hz⟩:=I.tuple hq;obtain⟨j,h1,h2,h3,h4,h5⟩:=yq he;obtain⟨w,ew,wd⟩:=r.get h2;have hl:=r.length;have hn:=wK;have fin:EP X Z σ Q w s:=⟨z,H,I,wd,q⟩;exact subscriptTail_builtinR (x:=w) pl.typeIs slot_tuple_getitem.lookup
  (getItem_tuple (j:=j) (Q:=λr s'=>r=w/\EP X Z σ Q r s') pl ∅ ∅ (by rw [Aj,<- hl];exact h1) (by simpa using ew) ⟨rfl,fin⟩) hs
theorem Ot:Qk X Vg:=by
 intro value Ç Z s σ H x y v u Q I rx ry h hs;obtain⟨z,i,c,rfl,rfl,hz,he,q⟩:=h;obtain⟨t,rfl⟩:=rx;obtain⟨t',rfl⟩:=ry;obtain⟨j,h1,h2,h3,h4,h5⟩:=yq he;have hl:z.cps.toList.length=z.length:=by simp [Str.length]
 rw [hl] at h1 h4 h5;have hn:=wK;exact tail_any (typeIs_str s z t) slot_str_getitem.lookup (getItem_str (c:=c) (by
  have e1:decide (i < -(2 ^ 63:Int))=false:=decide_eq_false ∅;have e2:decide (i≥2 ^ 63)=false:=decide_eq_false ∅;rw [e1,e2,Bool.or_false]) (by rw [h1];simpa using h2) ⟨.str ⟨#[c]⟩,H,I.tok _,⟨_,rfl⟩,q⟩) hs
def rIx (K:Ab):R2:=λx y H Q=>YU K x y H Q\/YT K x y H Q\/Vg x y H Q
def Wk:Qk X (rIx X.K):=R0.or (Wj.or Ot)
def Hn (aq:List bn) (n j:Nat) (u:bn):Bi (·.setIfInBounds j u) {cls:=.type "list",data:=.seq aq.toArray n}={cls:=.type "list",data:=.seq (aq.set j u).toArray n}:=by
 simp [Bi]
def Inv.lst {Z:List (ce×Obj)}{σ:St}{H:Hp}{s:ci}{p:ce}{xs:List V} (I:Inv X Z σ H s) (h:H p=am (.lst xs)) :
  ∃(aq:List bn) (n:Nat),Vals xs aq/\s.heap.get? p=am {cls:=.type "list",data:=.seq aq.toArray n}/\xs.length<=sizeLine:=by
 obtain⟨z,aq,n,r,e⟩:=I.br p _ h;exact⟨aq,n,r,e,z⟩
def Inv.VZ {p:ce}{n':Nat}{f:Obj->Obj} (I:Inv X Z σ H s) (h:H p=am (.lst xs))
  (ho:s.heap.get? p=am {cls:=.type "list",data:=.seq aq.toArray n}) (hf:f {cls:=.type "list",data:=.seq aq.toArray n}={cls:=.type "list",data:=.seq its'.toArray n'}) (r:Vals ys its') (hz:ys.length<=sizeLine) (t:Nat) :
  Inv X Z σ (upd H p (.lst ys)) {s with heap:=s.heap.update p f,toks:=t}:=by
 have e:(s.heap.update p f).get? p=am {cls:=.type "list",data:=.seq its'.toArray n'}:=by
  rw [BQ f ho (by rw [hf] <;> rfl),hf]
 refine I.write (x:=p) (e:=p) (by rw [h];trivial) (.inl rfl) (λb u hb q=>(BI _ _ (BA hb)).trans q) ⟨_,e⟩ ?_;exact⟨hz,its',n',r,e⟩
def YQ:V->V->V->Hp->(Hp->Prop)->Prop:=λo i v H Q=>∃p xs k j,o=.ref p/\i=.int k/\H p=am (.lst xs)/\uB xs.length k=am j/\Q (upd H p (.lst (xs.set j v)))
theorem set_list:Md X YQ:=by
 intro Z s σ H o i v ov iv u Q I ro ri rv h;obtain⟨p,xs,k,j,rfl,rfl,hp,hj,q⟩:=h;cases ro;obtain⟨t,rfl⟩:=ri;obtain⟨aq,n,r,ho,hz⟩:=I.lst hp;obtain⟨h1,h2,h3,h4⟩:=xh hj;have hl:=r.length;have hn:=wK;have I':Inv X Z σ (upd H p (.lst (xs.set j v))) {s with heap:=s.heap.update p (Bi (·.setIfInBounds j u))}:=
  I.VZ hp ho (Hn aq n j u) (r.set rv j) (by rw [BM];exact hz) s.toks
 by_cases h0:0<=k
 ·have hk:k.toNat=j:=by
   rw [seqIndex_of h0 h4] at h1;exact Option.some.inj h1
  exact PySem.W.ki_setAt ho h0 ∅ (by rw [Aj,<- hl];exact h4) (by rw [hk];exact⟨_,I',q⟩)
 ·have hk:(k+(aq.toArray.size:Int)).toNat=j:=by
   rw [seqIndex_neg ∅ h3] at h1;rw [Aj,<- hl];exact Option.some.inj h1
  exact PySem.W.ki_setBack ho ∅ (by rw [Aj,<- hl];exact h3) ∅ (by rw [hk];exact⟨_,I',q⟩)
theorem vZ (lo hi:Option Int) (n:Nat):(wT lo hi bm n).1=((HT.G6 n 0 lo:Nat):Int)/\(wT lo hi bm n).2.1=((HT.G6 n n hi:Nat):Int)/\(wT lo hi bm n).2.2=1:=by
 refine⟨?_,?_,rfl⟩
 ·cases lo with
  | none=>simp [wT,HT.G6]
  | some i=>
   simp only [wT,HT.G6,Option.getD_none,show (1:Int) > 0 by decide,if_true];by_cases h:i < 0
   ·simp only [h,if_true] <;> omega
   ·simp only [h,if_false] <;> omega
 ·cases hi with
  | none=>simp [wT,HT.G6]
  | some i=>
   simp only [wT,HT.G6,Option.getD_none,show (1:Int) > 0 by decide,if_true];by_cases h:i < 0
   ·simp only [h,if_true] <;> omega
   ·simp only [h,if_false] <;> omega
def ui (aq:List bn) (lo hi:Option Int):slicePick aq.toArray lo hi bm=((aq.drop (HT.G6 aq.length 0 lo)).take (HT.G6 aq.length aq.length hi-HT.G6 aq.length 0 lo)).toArray:=by
 obtain⟨h1,h2,h3⟩:=vZ lo hi aq.toArray.size;unfold slicePick;rw [h1,h2,h3];simp only [sliceRange_one,pick_run,Aj] <;> rfl
def acZ (K:Ab):V->Option Int->Option Int->Hp->VK->Prop:=λx lo hi H Q=>∃a xs,x=.ref a/\c7 K H a xs/\∀p,H p=bm->Q (.ref p) (upd H p (.lst (SK xs lo hi)))
theorem aa5:SlR X (acZ X.K):=by
 intro Z s σ H x v vl vu lo hi sl Q I rx hs pl pu h;obtain⟨a,xs,rfl,hx,q⟩:=h;cases rx;obtain⟨aq,r,ht,hz⟩:=I.list hx;have Â:=r.length;refine⟨"list",_,slot_list_getitem.lookup,ht.isList.typeIs,?_⟩;refine wpAny_getItem_list_slice ht.isList hs pl pu .none (by simp) ?_ (by rw [Aj] <;> omega);rw [ui,<- Â];refine⟨.ref s.heap.objs.size,_,I.laid (t':=s.toks) (o:=.lst (SK xs lo hi)) (λb ob q=>Ag _ q) (An _) ?_,rfl,q _ (I.br.fresh (An _))⟩;exact⟨BB (Gf xs lo hi) hz,_,0,(r.drop (HT.G6 xs.length 0 lo)).take (HT.G6 xs.length xs.length hi-HT.G6 xs.length 0 lo),Ap _ rfl⟩
theorem yp:bP X (.type "list") (λxs H Q=>∃p ys,xs=[.ref p]/\(c7 X.K H p ys\/d4 X.K H p ys)/\∀l,H l=bm->Q (.ref l) (upd H l (.lst ys))):=by
 intro Z s σ H xs us Q I r h;obtain⟨p,ys,rfl,hq,q⟩:=h;obtain⟨u,rfl,rx⟩:=vals1 r;cases rx;have fin:∀(aq:List bn),Vals ys aq->ys.length<=sizeLine->∀(h':lf) (c':Nat),(∀b o',s.heap.get? b=am o'->h'.get? b=am o')->
   h'.get? s.heap.objs.size=am {cls:=.type "list",dict:=bm,data:=.seq aq.toArray c',slots:=#[]}->EP X Z σ Q (.ref s.heap.objs.size) {s with heap:=h'}:=λaq r' hz h' c' kp e=>
  ⟨.ref s.heap.objs.size,_,I.laid (t':=s.toks) kp (An _) (show a7 X.prog X.w _ h' _ (.lst ys) from⟨hz,aq,c',r',e⟩),rfl,q _ (I.br.fresh (An _))⟩
 rcases hq with hq | hq
 ·obtain⟨aq,r',pl,hz⟩:=I.list hq;have Â:=r'.length;obtain⟨o,ho,hc,n,hd⟩:=pl.isList;exact call_list_seq p (.inl rfl) ho hc hd (λh' c' kp e=>fin aq r' hz h' c' kp e) (by simp only [Aj] <;> omega)
 ·obtain⟨aq,r',pl,hz⟩:=I.tuple hq;have Â:=r'.length;obtain⟨o,ho,hc,n,hd⟩:=pl;exact call_list_seq p (.inr rfl) ho hc hd (λh' c' kp e=>fin aq r' hz h' c' kp e) (by simp only [Aj] <;> omega)
theorem uK:bP X (.type "tuple") (λxs H Q=>∃p ys,xs=[.ref p]/\((c7 X.K H p ys/\∀l,H l=bm->Q (.ref l) (upd H l (.tup ys)))\/(d4 X.K H p ys/\Q (.ref p) H))):=by
 intro Z s σ H xs us Q I r h;obtain⟨p,ys,rfl,h⟩:=h;obtain⟨u,rfl,rx⟩:=vals1 r;cases rx;rcases h with⟨hq,q⟩ | ⟨hq,q⟩
 ·obtain⟨aq,r',pl,hz⟩:=I.list hq;have Â:=r'.length;refine call_tuple_list pl.isList (λh' kp=>?_) (by simp only [Aj] <;> omega);have I1:Inv X Z σ H {s with heap:=h'}:=I.kept (t':=s.toks) kp;have I2:Inv X Z σ (upd H h'.objs.size (.tup ys)) {s with heap:=h'.push {cls:=.type "tuple",data:=.seq aq.toArray}}:=
   I1.laid (t':=s.toks) (λb o e=>Ag _ e) (An _) (show a7 X.prog X.w _ _ _ (.tup ys) from⟨hz,aq,r',Fw _ _⟩)
  exact⟨.ref h'.objs.size,_,I2,rfl,q _ (I1.br.fresh (An _))⟩
 ·obtain⟨aq,r',pl,hz⟩:=I.tuple hq;exact call_tuple_same pl ⟨.ref p,H,I,rfl,q⟩
def tyV (K:Ab) (T:String) (x:V) (H:Hp):Prop:=match x with
 | .str _=>T="str"
 | .int _=>T="int"
 | .ref p=>(T="list"/\∃xs,c7 K H p xs)\/(T="tuple"/\∃o,K.lookup p=am o/\o.cls=.type "tuple"/\o.dict=bm)\/
   (T="dict"/\((∃kvs,H p=am (.dK kvs))\/∃kvs,H p=am (.dT kvs)))\/(T="set"/\∃S n,H p=am (.set S n))
 | _=>False
def MB {x:V} (I:Inv X Z σ H s) (r:RelV x v) (ty:tyV X.K T x H) :
  s.TypeIs v T/\∀a,v=.ref a->∃ob,s.heap.get? a=am ob/\ob.dict=bm:=by
 cases x with
 | str z=>
  obtain⟨t,rfl⟩:=r;cases (show T="str" from ty);exact⟨typeIs_str s z t,λ_ e=>nomatch e⟩
 | int i=>
  obtain⟨t,rfl⟩:=r;cases (show T="int" from ty);exact⟨typeIs_int s i t,λ_ e=>nomatch e⟩
 | ref p=>
  cases r;rcases ty with⟨rfl,xs,hq⟩ | ⟨rfl,o,hk,hc,hd⟩ | ⟨rfl,hk⟩ | ⟨rfl,S,n,hk⟩
  ·obtain⟨aq,_,pl,_⟩:=I.list hq;refine⟨pl.isList.typeIs,λa e=>?_⟩;cases e;obtain⟨o,n,e,c,hd,_⟩:=pl;exact⟨o,e,hd⟩
  ·refine⟨⟨o,I.vg p o hk,hc⟩,λa e=>?_⟩;cases e;exact⟨o,I.vg _ o hk,hd⟩
  ·have z:∃o,s.heap.get? p=am o/\o.ExactDict:=by
    rcases hk with⟨kvs,hk⟩ | ⟨kvs,hk⟩
    ·obtain⟨_,_,_,_,o,_,_,e,ex,_⟩:=I.br p _ hk;exact⟨o,e,ex⟩
    ·obtain⟨_,_,_,_,o,_,_,e,ex,_⟩:=I.br p _ hk;exact⟨o,e,ex⟩
   obtain⟨o,e,ex⟩:=z;refine⟨⟨o,e,ex.1⟩,λa e2=>?_⟩;cases e2;exact⟨o,e,ex.2.1⟩
  ·obtain⟨o,_,_,_,e,ex,_⟩:=I.br p _ hk;refine⟨⟨o,e,ex.1⟩,λa e2=>?_⟩;cases e2;exact⟨o,e,ex.2.1⟩
 | _=>exact Bn ty
def Yy (K:Ab) (T:String) (r:V->List V->Hp->VK->Prop) (to:TE):TE:=λσ H Q=>to σ H λx H1=>tyV K T x H1/\r x [] H1 Q
def tBM (K:Ab) (T:String) (r:V->List V->Hp->VK->Prop) (to:TE) (t:TA):TE:=λσ H Q=>to σ H λx H1=>tyV K T x H1/\t σ H1 λxs H2=>r x xs H2 Q
variable {o e:ii}{es:List ii}{to:TE}{t:TA}{name:Str}{Ã bD:Pos}{T id:String}{r:V->List V->Hp->VK->Prop}
def Vv (pa:PlainAttrs T) (slot:Slot T name id) (Wv:typeOf (.builtin id)=pure (.type "method_descriptor")) (hm:MtR X id r) (ho:PE X o to)
  (eJ:o0 o name X.env (kw o X.env)=kw o X.env:=by rfl) (eI:Qm Ã bD:=by rfl):PE X (.Call (.Attribute o name Ã) [] [] bD) (Yy X.K T r to):=by
 intro Z s σ H Q I h;refine wpAny_Call_method0_late eJ eI (bV (ho Z s σ H _ I h) λv s1 ⟨x,H1,I1,r1,ty,q1⟩=>?_);obtain⟨h1,h2⟩:=MB I1 r1 ty;exact⟨T,id,pa,slot,Wv,h1,h2,Er rfl (PySem.evalArgs_none (hm Z s1 σ H1 x [] v [] Q I1 r1 .nil q1))⟩
def Y5 (pa:PlainAttrs T) (slot:Slot T name id) (Wv:typeOf (.builtin id)=pure (.type "method_descriptor")) (hm:MtR X id r) (ho:PE X o to) (ha:PA X (e::es) t)
  (eJ:o0 o name X.env (kw o X.env)=kw o X.env:=by rfl)
  (pM:Xt X bD (e::es):=by rfl)
  (eI:Qm Ã bD:=by rfl) (hs:gM X e es:=by rfl) (eX:lT X bD es:=by rfl) :
  PE X (.Call (.Attribute o name Ã) (e::es) [] bD) (tBM X.K T r to t):=by
 intro Z s σ H Q I h;refine wpAny_Call_method_late eJ pM eI rfl (bV (ho Z s σ H _ I h) λv s1 ⟨x,H1,I1,r1,ty,q1⟩=>?_);obtain⟨h1,h2⟩:=MB I1 r1 ty;refine⟨T,id,pa,slot,Wv,h1,h2,?_⟩;have hA:=ha bD Z s1 σ H1 _ I1 q1;rw [hs] at hA ⊢;refine Er (by show (false||(v4 bD (f8 es X.env)).any (·.1))=false;rw [eX] <;> rfl) (Calls.evalArgs_plain ?_);exact bV hA λus s2 ⟨vs,H2,I2,r2,q2⟩=>hm Z s2 σ H2 x vs v us Q I2 r1 r2 q2
end
def Kw (X:Cx) (id:String) (r:V->List V->Hp->VK->Prop):Prop:=
 ∀(Z:List (ce×Obj)) (s:ci) (σ:St) (H:Hp) (x:V) (xs:List V) (v:bn) (us:List bn) (Q:VK),Inv X Z σ H s->RelV x v->Vals xs us->r x xs H Q->
  db (dL X.prog X.w) X.A (call (.builtin id) (v::us)) (EP X Z σ Q) X.xe s
def Vals.one:∀{x:V}{us:List bn},Vals [x] us->∃u,us=[u]/\RelV x u
 | _,_,.cons r .nil=>⟨_,rfl,r⟩
def Vals.zero:∀{us:List bn},Vals [] us->us=[]
 | _,.nil=>rfl
def Vals.dropLast (h:Vals xs us):Vals xs.dropLast us.dropLast:=by
 induction h with
 | nil=>exact .nil
 | cons r t ih=>
  cases t with
  | nil=>exact .nil
  | cons q t'=>exact .cons r ih
theorem Vals.eraseIdx:∀{xs:List V}{us:List bn} (i:Nat),Vals xs us->Vals (xs.eraseIdx i) (us.eraseIdx i)
 | _,_,_,.nil=>.nil
 | _,_,0,.cons _ t=>t
 | _,_,i+1,.cons r t=>.cons r (Vals.eraseIdx i t)
theorem Vals.rep (h:Vals xs us):∀k:Nat,Vals (Am k xs).flatten (Am k us).flatten
 | 0=>.nil
 | k+1=>by
  rw [Bu,Bu,B2,B2];exact Vals.append h (Vals.rep h k)
theorem Ig (l:List α):l.eraseIdx (l.length-1)=l.dropLast:=by
 induction l with
 | nil=>rfl
 | cons a r ih=>
  cases r with
  | nil=>rfl
  | cons b r=>
   have e:(a::b::r).length-1=((b::r).length-1)+1:=by
    have h1:(a::b::r).length=r.length+2:=rfl;have h2:(b::r).length=r.length+1:=rfl;omega
   rw [e,Cq,ih]
   all_goals rfl
theorem va:∀(l:List α) (i:Nat),(l.eraseIdx i).length<=l.length
 | [],_=>An _
 | _::_,0=>Dw _
 | _::r,i+1=>Nat.succ_le_succ (va r i)
theorem foldl_rep (aq:List bn):∀(k:Nat) (Å:List bn),
  List.foldl (λx1 x2=>x1++x2) Å.toArray (Am k aq.toArray)=(Å++(Am k aq).flatten).toArray
 | 0,Å=>by simp
 | k+1,Å=>by
  have e:Å.toArray++aq.toArray=(Å++aq).toArray:=by simp
  have e2:(Å++aq)++(Am k aq).flatten=Å++(Am (k+1) aq).flatten:=by
   rw [Bu,B2,Ay]
  rw [<- e2,<- foldl_rep aq k (Å++aq),<- e,Bu,CW]
section
def Inv.Hq {f:Array bn->Array bn}{t':Nat} (I:Inv X Z σ H s) (hH:H l=am (.lst xs))
  (e:s.heap.get? l=am {cls:=.type "list",data:=.seq aq.toArray n}) (hf:f aq.toArray=its'.toArray) (hv:Vals ys its') (hz:ys.length<=sizeLine) :
  Inv X Z σ (upd H l (.lst ys)) {s with heap:=s.heap.update l (Bi f),toks:=t'}:=by
 have q:=PySem.IsL.update e f;rw [hf] at q;refine I.write (x:=l) (e:=l) (by rw [hH];exact trivial) (.inl rfl) (λb' u hb hu=>(BI s.heap (Bi f) (BA hb)).trans hu) ⟨_,q⟩ ?_;exact⟨hz,its',_,hv,q⟩
def Inv.V0 {t':Nat} (I:Inv X Z σ H s) (hv:Vals ys aq) (hz:ys.length<=sizeLine) :
  Inv X Z σ (upd H s.heap.objs.size (.lst ys)) {s with heap:=s.heap.push {cls:=.type "list",data:=.seq aq.toArray},toks:=t'}:=
 I.laid (λ_ _ q=>Ag _ q) (An _) ⟨hz,aq,0,hv,Ap _ rfl⟩
def Inv.fresh (I:Inv X Z σ H s):H s.heap.objs.size=bm:=I.br.fresh (An _)
def Inv.qv (I:Inv X Z σ H s) (hH:H l=am (.lst xs)):xs.length<=sizeLine/\∃(aq:List bn) (n:Nat),Vals xs aq/\xs.length=aq.length/\s.heap.get? l=am {cls:=.type "list",data:=.seq aq.toArray n}:=by
 obtain⟨z,aq,n,r,e⟩:=I.br l _ hH;exact⟨z,aq,n,r,r.length,e⟩
theorem nI (h:n<=sizeLine):Builtin.List.listTooLong n=false:=by
 exact decide_eq_false ∅
end
section
def QT:V->List V->Hp->VK->Prop:=λx vs H Q=>∃l xs y,x=.ref l/\vs=[y]/\H l=am (.lst xs)/\xs.length < sizeLine/\Q .aG (upd H l (.lst (xs++[y])))
theorem La:Kw X "list.append" QT:=by
 intro Z s σ H x vs v us Q I rx rv h;obtain⟨l,xs,y,rfl,rfl,hH,hz,q⟩:=h;cases rx;obtain⟨u,rfl,ru⟩:=rv.one;obtain⟨z,aq,n,r,hl,e⟩:=I.qv hH;refine sK F.slot_list_append ⟨_,e,rfl⟩ F.entry_list_append (F.args_list_append_2 _ _) (PySem.list_append l aq.toArray n u (by rw [Aj];omega)) ⟨e,?_⟩;refine⟨.aG,_,I.Hq (its':=aq++[u]) hH e (by simp) (r.append (.cons ru .nil)) ?_,rfl,q⟩;rw [Ai,De];omega
def QR:V->List V->Hp->VK->Prop:=λx vs H Q=>∃l b xs zs,x=.ref l/\vs=[.ref b]/\H l=am (.lst xs)/\H b=am (.lst zs)/\xs.length+zs.length<=sizeLine/\Q .aG (upd H l (.lst (xs++zs)))
theorem Xy:Kw X "list.extend" QR:=by
 intro Z s σ H x vs v us Q I rx rv h;obtain⟨l,b,xs,zs,rfl,rfl,hH,hB,hz,q⟩:=h;cases rx;obtain⟨u,rfl,ru⟩:=rv.one;cases ru;obtain⟨z,aq,n,r,hl,e⟩:=I.qv hH;obtain⟨z2,cH,n2,r2,Qf,e2⟩:=I.qv hB;have hsz:aq.toArray.size+cH.toArray.size<=sizeLine:=by rw [Aj,Aj];omega
 have sS:¬(!aq.toArray.isEmpty&&Builtin.List.listTooLong (aq.toArray.size+cH.toArray.size))=true:=by
  rw [nI hsz,D5];exact A3
 refine sK DS ⟨_,e,rfl⟩ DE (Dr _ _)
  (AutoSeq1.list_extend_list_list_0 l aq.toArray n b cH.toArray n2 sS (by rw [Aj];omega) ∅) ⟨e,e2,?_⟩
 refine⟨.aG,_,I.Hq (its':=aq++cH) hH e (by simp) (r.append r2) ?_,rfl,q⟩;rw [Ai];omega
def ac1:V->List V->Hp->VK->Prop:=λx vs H Q=>∃l xs y,x=.ref l/\vs=[]/\H l=am (.lst xs)/\xs[xs.length-1]?=am y/\Q y (upd H l (.lst xs.dropLast))
theorem VU:Kw X "list.pop" ac1:=by
 intro Z s σ H x vs v us Q I rx rv h;obtain⟨l,xs,y,rfl,rfl,hH,hy,q⟩:=h;cases rx;have hus:=rv.zero;subst hus;obtain⟨z,aq,n,r,hl,e⟩:=I.qv hH;obtain⟨u,hu,ru⟩:=r.get hy;have Wr:aq.toArray[aq.toArray.size-1]?=am u:=by
  show aq.toArray[aq.length-1]?=am u;rw [<- Df,<- hl];exact hu
 refine sK F.slot_list_pop ⟨_,e,rfl⟩ F.entry_list_pop (F.args_list_pop_1 _) (MeetsSeq.list_pop_last l aq.toArray n u Wr (by rw [Aj];omega)) ⟨e,?_⟩;refine⟨y,_,I.Hq (its':=aq.dropLast) hH e ?_ r.dropLast ?_,ru,q⟩
 ·rw [Aj,Dc,Ig]
 ·rw [List.length_dropLast];omega
def Vd:V->List V->Hp->VK->Prop:=λx vs H Q=>∃l xs i k y,x=.ref l/\vs=[.int i]/\H l=am (.lst xs)/\-(2 ^ 63)<=i/\i < 2 ^ 63/\seqIndex? i xs.length=am k/\xs[k]?=am y/\Q y (upd H l (.lst (xs.eraseIdx k)))
theorem NX:Kw X "list.pop" Vd:=by
 intro Z s σ H x vs v us Q I rx rv h;obtain⟨l,xs,i,k,y,rfl,rfl,hH,h1,h2,hk,hy,q⟩:=h;cases rx;obtain⟨u,rfl,ru⟩:=rv.one;obtain⟨t,rfl⟩:=ru;obtain⟨z,aq,n,r,hl,e⟩:=I.qv hH;obtain⟨w,hw,wd⟩:=r.get hy;refine sK F.slot_list_pop ⟨_,e,rfl⟩ F.entry_list_pop (F.args_list_pop_2 _ _)
  (MeetsSeq.list_pop_at l aq.toArray n i t k w (fitsIndex_both h1 h2) (by rw [Aj,<- hl];exact hk) (by rw [<- Df];exact hw) (by rw [Aj];omega)) ⟨e,?_⟩
 refine⟨y,_,I.Hq (its':=aq.eraseIdx k) hH e ?_ (r.eraseIdx k) ?_,wd,q⟩
 ·show aq.toArray.eraseIdxIfInBounds k=(aq.eraseIdx k).toArray;rw [Dc]
 ·have:=va xs k;omega
def ac2:R2:=λx y H Q=>∃l b xs zs,x=.ref l/\y=.ref b/\H l=am (.lst xs)/\H b=am (.lst zs)/\xs.length+zs.length<=sizeLine/\∀p,H p=bm->Q (.ref p) (upd H p (.lst (xs++zs)))
theorem VG:iC X (sn .Add) ac2:=by
 intro Z s σ H x y v u Q I rx ry h;obtain⟨l,b,xs,zs,rfl,rfl,hH,hB,hz,q⟩:=h;cases rx;cases ry;obtain⟨z,aq,n,r,hl,e⟩:=I.qv hH;obtain⟨z2,cH,n2,r2,Qf,e2⟩:=I.qv hB;refine PySem.P.add_list e e2 ?_ (by rw [Aj,Aj];omega);have ea:aq.toArray++cH.toArray=(aq++cH).toArray:=by simp
 rw [ea];exact⟨.ref _,_,I.V0 (t':=s.toks) (r.append r2) (by rw [Ai];omega),rfl,q _ I.fresh⟩
def ac0:R2:=λx y H Q=>∃l k xs,x=.ref l/\y=.int k/\H l=am (.lst xs)/\-(2 ^ 63)<=k/\k < 2 ^ 63/\xs.length*k.toNat<=sizeLine/\
 ∀p,H p=bm->Q (.ref p) (upd H p (.lst (Am k.toNat xs).flatten))
def len_rep (xs:List α) (k:Nat):(Am k xs).flatten.length=k*xs.length:=by
 induction k with
 | zero=>simp
 | succ k ih=>rw [Bu,B2,Ai,ih,Ew,Nat.add_comm]
theorem VA:iC X (sn .Mult) ac0:=by
 intro Z s σ H x y v u Q I rx ry h;obtain⟨l,k,xs,rfl,rfl,hH,h1,h2,hz,q⟩:=h;cases rx;obtain⟨t,rfl⟩:=ry;obtain⟨z,aq,n,r,hl,e⟩:=I.qv hH;have Â:aq.toArray.size*k.toNat<=sizeLine:=by rw [Aj,<- hl];exact hz
 have ad8:¬aq.toArray.size*k.toNat > (2 ^ 63-1) / 8:=by
  have:(sizeLine:Nat)<=(2 ^ 63-1) / 8:=by decide
  omega
 have ad1:¬(!Builtin.List.listFitsIndex k)=true:=by
  rw [fitsIndex_both h1 h2];exact A3
 have sS:¬Builtin.List.listTooLong (aq.toArray.size*k.toNat)=true:=by
  rw [nI Â];exact A3
 have Sf:List.foldl (λx1 x2=>x1++x2) #[] (Am (if aq.toArray.isEmpty=true then 0 else k.toNat) aq.toArray)=(Am k.toNat aq).flatten.toArray:=by
  have f0:∀m:Nat,List.foldl (λx1 x2=>x1++x2) #[] (Am m aq.toArray)=(Am m aq).flatten.toArray:=λm=>by
   have:=foldl_rep aq m [];exact this
  rw [f0];cases aq with
  | nil=>simp
  | cons a r'=>rw [if_neg (by simp)]
 refine wpAny_binaryOp_repeat_ref (T:="list") (U:="int") ⋯ ⟨_,e,rfl⟩ (λs'=>typeIs_int s' k t) noFill_list_mul F.fills_int_mul F.slot_int_rmul repeat_list F.slot_int_index.lookup
  (sK F.slot_int_rmul (typeIs_int s k t) F.entry_int_rmul (F.args_int_rmul_2 _ _) (int___rmul___int_list k t l aq.toArray n)
   ⟨e,rfl,⟨_,e,rfl⟩,sK F.slot_list_mul ⟨_,e,rfl⟩ F.entry_list_mul (F.args_list_mul_2 _ _) (AutoListH.list___mul___list_int_3 l aq.toArray n k t ad1 ad8 sS) ⟨e,?_⟩⟩)
 rw [Sf];exact⟨.ref _,_,I.V0 (t':=s.toks) (r.rep k.toNat) (by rw [len_rep,Nat.mul_comm];exact hz),rfl,q _ I.fresh⟩
end
end L2
variable {xs:List (List L2.Key×BC×AZ)}{o:Option L2.V}{v:L2.V}{kvs:List (List L2.Key×L2.V)}{env:PySem.Env}{value:B4}{vQ:B9}
namespace L2
open PySem PySem.Spec PyProof.Rows
section
variable {κ:Type} [DecidableEq κ]
def hV (kvs:List (κ×V)) (k:κ):Option V:=(kvs.find? λkv=>decide (kv.1=k)).map (·.2)
def putK (kvs:List (κ×V)) (k:κ) (v:V):List (κ×V):=
 if (kvs.any λkv=>decide (kv.1=k))=true then kvs.map (λkv=>if kv.1=k then (kv.1,v) else kv) else kvs++[(k,v)]
def ki {p:κ×V}{r:List (κ×V)}{k:κ} (e:p.1=k):hV (p::r) k=am p.2:=by simp [hV,Be,e]
def kj {p:κ×V}{r:List (κ×V)}{k:κ} (e:¬p.1=k):hV (p::r) k=hV r k:=by simp [hV,Be,e]
theorem rF (k:κ):∀kvs:List (κ×V),(kvs.any λkv=>decide (kv.1=k))=(hV kvs k).isSome
 | []=>rfl
 | p::r=>by
  rw [Bx];by_cases e:p.1=k
  ·simp only [ki e,decide_eq_true e,Bool.true_or,Option.isSome_some]
  ·rw [kj e,decide_eq_false e,Bool.false_or];exact rF k r
theorem qc (kvs:List (κ×V)) (k:κ) (v:V):(putK kvs k v).length<=kvs.length+1:=by
 unfold putK
 split
 ·rw [Af];omega
 ·rw [Ai,Ao,Bj];omega
def tY.Lw {u:Option bn} (r:tY o u):o.isSome=u.isSome:=by
 cases o with
 | none=>cases u with
  | none=>rfl
  | some _=>exact (show False from r).elim
 | some _=>cases u with
  | none=>exact (show False from r).elim
  | some _=>rfl
def KV.val {kvs:List (κ×V)}{vs:List (κ×bn)} (r:KV kvs vs) (k:κ):tY (hV kvs k) (valueAt vs k):=by
 unfold KV at r
 induction r with
 | nil=>exact Cb
 | @cons p q ps qs h t ih=>
  obtain⟨h1,h2⟩:=h;by_cases e:p.1=k
  ·have e':q.1=k:=h1.symm.trans e;have b:valueAt (q::qs) k=am q.2:=by simp [valueAt,Be,e']
   rw [ki e,b];exact h2
  ·have e':¬q.1=k:=λz=>e (h1.trans z);have b:valueAt (q::qs) k=valueAt qs k:=by simp [valueAt,Be,e']
   rw [kj e,b];exact ih
def KV.any {kvs:List (κ×V)}{vs:List (κ×bn)} (r:KV kvs vs) (k:κ):(kvs.any λkv=>decide (kv.1=k))=vs.any λkv=>decide (kv.1=k):=by
 induction r with
 | nil=>rfl
 | cons h t ih=>rw [Bx,Bx,ih,h.1]
def KV.U8 {kvs:List (κ×V)}{vs:List (κ×bn)} (r:KV kvs vs) (k:κ) (ry:RelV y u) :
  KV (kvs.map λkv=>if kv.1=k then (kv.1,y) else kv) (vs.map λkv=>if kv.1=k then (kv.1,u) else kv):=by
 induction r with
 | nil=>exact .nil
 | @cons p q ps qs h t ih=>
  rw [Aq,Aq];refine .cons ?_ ih;obtain⟨h1,h2⟩:=h;by_cases e:p.1=k
  ·rw [if_pos e,if_pos (h1.symm.trans e)];exact⟨h1,ry⟩
  ·rw [if_neg e,if_neg (λz=>e (h1.trans z))];exact⟨h1,h2⟩
def KV.put {kvs:List (κ×V)}{vs:List (κ×bn)} (r:KV kvs vs) (k:κ) (ry:RelV y u):KV (putK kvs k y) (stored vs k u):=by
 unfold putK stored;rw [r.any k];by_cases e:(vs.any λkv=>decide (kv.1=k))=true
 ·rw [if_pos e,if_pos e];exact r.U8 k ry
 ·rw [if_neg e,if_neg e];exact Paired.snoc r ⟨rfl,ry⟩
def KV.length {kvs:List (κ×V)}{vs:List (κ×bn)} (r:KV kvs vs):kvs.length=vs.length:=Paired.length r
end
def Om {k:Key} (r:RelV (kV k) u):(bF P w).is k u=true:=by
 cases k with
 | inl i=>obtain⟨t,e⟩:=(show ∃t,u=DM i t from r);subst e;exact zM P w i t
 | inr x=>obtain⟨t,e⟩:=(show ∃t,u=Bc x t from r);subst e;exact zL P w x t
theorem vh:∀{ks:List Key}{us:List bn},Vals (ks.map kV) us->ItemsAre (bF P w) ks us
 | [],_,r=>by rw [Ez] at r;cases r;exact .nil
 | k::ks,_,r=>by
  rw [Aq] at r;cases r with
  | cons h t=>exact .cons (Om h) (vh t)
abbrev KT (H:Hp):List (List Key×V)->List (List Key×ce×bn)->Prop:=Paired λp q=>p.1=q.1/\H q.2.1=am (.tup (p.1.map kV))/\RelV p.2 q.2.2
def KT.val (r:KT H kvs xs) (k:List Key):tY (hV kvs k) ((atKey xs k).map (·.2)):=by
 induction r with
 | nil=>exact Cb
 | @cons p q ps qs h t ih=>
  obtain⟨h1,_,h2⟩:=h;by_cases e:p.1=k
  ·have e':q.1=k:=h1.symm.trans e;have b:atKey (q::qs) k=am q.2:=by simp [atKey,Be,e']
   rw [ki e,b];exact h2
  ·have e':¬q.1=k:=λz=>e (h1.trans z);have b:atKey (q::qs) k=atKey qs k:=by simp [atKey,Be,e']
   rw [kj e,b];exact ih
def KT.U8 (r:KT H kvs xs) (k:List Key) (ry:RelV y u) :
  KT H (kvs.map λkv=>if kv.1=k then (kv.1,y) else kv) (xs.map (putAt k u)):=by
 induction r with
 | nil=>exact .nil
 | @cons p q ps qs h t ih=>
  rw [Aq,Aq];refine .cons ?_ ih;obtain⟨h1,h2,h3⟩:=h;unfold putAt;by_cases e:p.1=k
  ·rw [if_pos e,if_pos (h1.symm.trans e)];exact⟨h1,h2,ry⟩
  ·rw [if_neg e,if_neg (λz=>e (h1.trans z))];exact⟨h1,h2,h3⟩
def KT.put (r:KT H kvs xs) (k:List Key) (hb:H b=am (.tup (k.map kV))) (ry:RelV y u) :
  KT H (putK kvs k y) (xL xs k b u):=by
 have e:(kvs.any λkv=>decide (kv.1=k))=(atKey xs k).isSome:=by
  rw [rF,(r.val k).Lw,Option.isSome_map]
 unfold putK xL;rw [e];by_cases q:(atKey xs k).isSome=true
 ·rw [if_pos q,if_pos q];exact r.U8 k ry
 ·rw [if_neg q,if_neg q];exact Paired.snoc r ⟨rfl,hb,ry⟩
def KT.keeps (r:KT H kvs xs) (ht:∀b ys,H b=am (.tup ys)->H' b=am (.tup ys)):KT H' kvs xs:=
 Paired.VY r λ_ _ z=>⟨z.1,ht _ _ z.2.1,z.2.2⟩
section
def Tq {u:HO} (ok:lN P w H h) (e:Rd H a u):a7 P w H h a u:=e.ok ok
def vC {kvs:List (Key×V)} (ok:lN P w H h) (e:Rd H a (.dK kvs)):kvs.length<=sizeLine/\(a==sw)=false/\∃vs,KV kvs vs/\h.DictOf (bF P w) a vs:=
 show a7 P w H h a (.dK kvs) from Tq ok e
def aaH {kvs:List (Key×V)} (ok:lN P w H h) (e:H a=am (.dK kvs)):kvs.length<=sizeLine/\(a==sw)=false/\∃vs,KV kvs vs/\h.DictOf (bF P w) a vs:=vC ok (.inl e)
def wN {ks:List Key} (ok:lN P w H h) (e:H a=am (.tup (ks.map kV))):(lw (bF P w)).is h ks a:=by
 obtain⟨_,aq,r,o,h1,h2,n,h3⟩:=(show a7 P w H h a (.tup (ks.map kV)) from ok a _ e);exact⟨o,aq.toArray,n,h1,h2,h3,by simpa using vh r⟩
def vz (ok:lN P w H h) (e:Rd H a (.dT kvs)):kvs.length<=sizeLine/\(a==sw)=false/\
  ∃xs,KT H kvs xs/\h.DictOfH (lw (bF P w)) a xs:=by
 obtain⟨z,y,xs,r,o,es,ep,h1,h2,h3,h4,h5⟩:=(show a7 P w H h a (.dT kvs) from Tq ok e);refine⟨z,y,xs,r,o,es,ep,h1,h2,h3,h4,λx hx=>?_,h5⟩;have all:∀{l:List (List Key×V)}{m:List (List Key×ce×bn)},KT H l m->∀x∈m,(lw (bF P w)).is h x.1 x.2.1:=by
  intro l m q
  induction q with
  | nil=>intro x hx;exact nomatch hx
  | @cons p q ps qs hq t ih=>
   intro x hx;rcases Aw.mp hx with e | hx
   ·subst e;exact wN ok (by rw [<- hq.1];exact hq.2.1)
   ·exact ih x hx
 exact all r x hx
def aaF (ok:lN P w H h) (e:H a=am (.dT kvs)):kvs.length<=sizeLine/\(a==sw)=false/\
  ∃xs,KT H kvs xs/\h.DictOfH (lw (bF P w)) a xs:=vz ok (.inl e)
end
def IX (H:Hp) (a:ce) (y:V) (r:Option V):Prop:=
 (∃kvs k,Rd H a (.dK kvs)/\y=kV k/\r=hV kvs k)\/∃kvs k b,Rd H a (.dT kvs)/\y=.ref b/\H b=am (.tup (k.map kV))/\r=hV kvs k
def P7 (H:Hp) (a:ce) (y v:V) (H':Hp):Prop:=
 (∃kvs k,H a=am (.dK kvs)/\y=kV k/\kvs.length < sizeLine/\H'=upd H a (.dK (putK kvs k v)))\/
 ∃kvs k b,H a=am (.dT kvs)/\y=.ref b/\H b=am (.tup (k.map kV))/\kvs.length < sizeLine/\H'=upd H a (.dT (putK kvs k v))
def IX.t {k:List Key} (e:H a=am (.dT kvs)) (eb:H b=am (.tup (k.map kV))):IX H a (.ref b) (hV kvs k):=.inr ⟨kvs,k,b,.inl e,rfl,eb,rfl⟩
def P7.t {k:List Key} (e:H a=am (.dT kvs)) (eb:H b=am (.tup (k.map kV))) (hl:kvs.length < sizeLine) :
  P7 H a (.ref b) v (upd H a (.dT (putK kvs k v))):=.inr ⟨kvs,k,b,e,rfl,eb,hl,rfl⟩
section
variable {r:bn}
def Inv.big (I:Inv X Z σ H s):sw < s.heap.objs.size:=by
 have h:=(I.mod.glob.keeps I.bk).lt;exact Nat.lt_trans ⋯ h
def LX (hu:A.units+1 < pc) (I:Inv X Z σ H s) (g:IX H a y (am v)) (ry:RelV y u) (h:∀w' s',Inv X Z σ H s'->RelV v w'->Q w' s') :
  db (dL X.prog X.w) A (getItem (.ref a) u) Q E s:=by
 rcases g with⟨kvs,k,e,ey,l⟩ | ⟨kvs,k,b,e,ey,eb,l⟩
 ·subst ey;obtain⟨z,hd,vs,Ó,dd⟩:=vC I.br e;obtain⟨w',hw,wd⟩:=tY.some_of (v:=v) (o:=valueAt vs k) (by rw [l];exact Ó.val k);exact wpAny_getItem_of (Om ry) dd.mapOf hw (h w' _ (I.tok _) wd)
 ·subst ey;cases (show u=Ax b from ry);obtain⟨z,hd,xs,Ó,dd⟩:=vz I.br e;obtain⟨w',hw,wd⟩:=tY.some_of (v:=v) (o:=(atKey xs k).map (·.2)) (by rw [l];exact Ó.val k);obtain⟨p,hp,xn⟩:=Option.map_eq_some_iff.mp hw;refine wpAny_getItem_heap (tupleKind_room_in1 hu) (wN I.br eb) dd hp ?_;rw [xn];exact h w' _ (I.tok _) wd
def Ko {t':Nat}{ob:HO} (I:Inv X Z σ H s) (mu:Mut (H a)) (hs:B8 a s.heap h') (he:∃q,h'.get? a=am q) (new:a7 X.prog X.w (upd H a ob) h' a ob) :
  Inv X Z σ (upd H a ob) {s with heap:=h',toks:=t'}:=
 I.write (x:=a) (e:=a) mu (.inl rfl) (λb q hb z=>(hs.2 b hb).trans z) he new
def W6 {kvs:List (Key×V)}{vs:List (Key×bn)} (z:kvs.length<=sizeLine) (hd:(a==sw)=false) (Ó:KV kvs vs) (dd:h'.DictOf (bF P w) a vs) :
  a7 P w H' h' a (.dK kvs):=⟨z,hd,vs,Ó,dd⟩
theorem LW {Q:Unit->ci->Prop} (hu:A.units+1 < pc) (I:Inv X Z σ H s) (g:P7 H a y v H') (ry:RelV y u) (rv:RelV v r) (h:∀s',Inv X Z σ H' s'->Q () s') :
  db (dL X.prog X.w) A (setItem (.ref a) u r) Q E s:=by
 rcases g with⟨kvs,k,e,ey,l,eH⟩ | ⟨kvs,k,b,e,ey,eb,l,eH⟩
 ·subst ey eH;obtain⟨z,hd,vs,Ó,dd⟩:=aaH I.br e;have hz:vs.length<=sizeLine:=by rw [<- Ó.length];exact z
  have hl:(putK kvs k v).length<=sizeLine:=by have:=qc kvs k v;omega
  refine wpAny_setItem_pairs (hsz:=hz) (Om ry) dd λh' ă hs=>h _ ?_;have he:∃q,h'.get? a=am q:=let ⟨q,_,_,hq,_⟩:=ă;⟨q,hq⟩;exact Ko I (by rw [e];exact Cb) hs he (W6 hl hd (Ó.put k rv) ă)
 ·subst ey eH;cases (show u=Ax b from ry);obtain⟨z,hd,xs,Ó,dd⟩:=aaF I.br e;have hz:xs.length<=sizeLine:=by rw [<- Paired.length Ó];exact z
  have hl:(putK kvs k v).length<=sizeLine:=by have:=qc kvs k v;omega
  refine wpAny_setItem_heap (hsz:=hz) (tupleKind_room_in1 hu) (wN I.br eb) dd λh' ă hs=>h _ ?_;obtain⟨q,es,ep,hq,h2,h3,h4,_,h5⟩:=ă;refine Ko I (by rw [e];exact Cb) hs ⟨q,hq⟩ ⟨hl,hd,_,(Ó.put k eb rv).keeps λc ys ec=>?_,q,es,ep,hq,h2,h3,h4,h5⟩;rw [av (JP ec e (λz=>nomatch z))];exact ec
end
def S6 (i:ii):Prop:=∀ov iv,subscripted i false ov iv=operate [ov,iv] (getItem ov iv)
def QB {Ç:ii}{id:String}
  (hl:EQ (.type T) "__getitem__"=pure (am (.builtin id))) (hs:S6 Ç)
  (h:db (dL prog w) A (kw value env) (λo s₁=>db (dL prog w) A (kw Ç env) (λi s₂=>s₂.TypeIs o T/\db (dL prog w) A (getItem o i) Q E s₂) E s₁) E s) :
  db (dL prog w) A (kw (.Subscript value Ç pos) env) Q E s:=by
 refine Subscript_ (BJ h (λo s₁ h₁=>BJ h₁ (λi s₂ h₂=>?_) λ_ _ x=>x) λ_ _ x=>x);obtain⟨hT,h₂⟩:=h₂;refine Aa ?_;refine Aa (EK hT hl ?_);have fin:db (dL prog w) A (subscripted Ç false o i) (λr s₃=>db (dL prog w) A (letTemporaryGo value o r >>= λ_=>pure r) Q E s₃) E s₂:=by
  rw [hs o i];exact wpAny_operating (BJ h₂ (λr s₃ h₃=>Aa (wpAny_letTemporaryGo (Ae h₃))) λ_ _ x=>x)
 first
  | exact Ae (Aa fin)
  | exact Aa (Ae (Aa fin))
  | exact Aa fin
def Gd (I:Inv X Z σ H s) (g:IX H a y o):s.TypeIs (.ref a) "dict":=by
 rcases g with⟨kvs,k,e,_,_⟩ | ⟨kvs,k,b,e,_,_,_⟩
 ·obtain⟨_,_,vs,_,dd⟩:=vC I.br e;exact dd.typeIs
 ·obtain⟨_,_,xs,_,dd⟩:=vz I.br e;exact dd.typeIs
def Yv (td ty:TE):TE:=λσ H Q=>td σ H λx H1=>ty σ H1 λy H2=>∃a v,x=.ref a/\IX H2 a y (am v)/\Q v H2
def YI (td ty tv:TE):TS:=λD σ H=>tv σ H λv H1=>td σ H1 λx H2=>ty σ H2 λy H3=>∃a H4,x=.ref a/\P7 H3 a y v H4/\D.nx σ H4
section
variable {o i:ii}{td ty tv:TE}
def JD (hu:X.A.units+1 < pc) (ho:PE X o td) (hi:PE X i ty) (hs:S6 i):PE X (.Subscript o i pos) (Yv td ty):=by
 intro Z s σ H Q I h;refine QB PySem.F.slot_dict_getitem.lookup hs (bV (ho Z s σ H _ I h) λu s1 ⟨x,H1,I1,rx,q1⟩=>bV (hi Z s1 σ H1 _ I1 q1) λiv s2 ⟨y,H2,I2,ry,a,v,ex,g,q2⟩=>?_);subst ex;obtain rfl:u=Ax a:=rx;exact⟨Gd I2 g,LX hu I2 g ry λw' s3 I3 wd=>⟨v,H2,I3,wd,q2⟩⟩
def QY (hu:X.A.units+1 < pc) (ho:PE X o td) (hi:PE X i ty) (hv:PE X value tv) (hs:im value (am (.Subscript o i Ø)) pos.line X.env=pure false) :
  PS X (.Assign [.Subscript o i Ø] value pos) (YI td ty tv):=by
 intro Z s σ H D I h;refine wpAny_Assign_Subscript (bV (hv Z s σ H _ I h) λr s1 ⟨v,H1,I1,rv,q1⟩=>bV (ho Z s1 σ H1 _ I1 q1) λu s2 ⟨x,H2,I2,rx,q2⟩=>bV (hi Z s2 σ H2 _ I2 q2) λiv s3 ⟨y,H3,I3,ry,a,H4,ex,g,q3⟩=>?_) hs;subst ex;obtain rfl:u=Ax a:=rx;exact LW hu I3 g ry rv λs4 I4=>⟨σ,H4,I4,q3⟩
end
def Pr (h:lf) (hb:sw < h.objs.size):a7 P w H (h.push {cls:=.type "dict",data:=.dict #[]}) h.objs.size (.dT []):=
 ⟨A9 _,beq_eq_false_iff_ne.mpr (BA (AA hb)),[],.nil,_,#[],0,Ap _ rfl,⟨rfl,rfl,rfl⟩,rfl,rfl,D2⟩
def UR:TE:=λ_ H Q=>∀p,H p=bm->Q (.ref p) (upd H p (.dT []))
section
def NI:PE X (.Dict [] [] pos) UR:=λZ s σ H Q I h=>
 wpAny_Dict_empty ⟨.ref s.heap.objs.size,_,I.laid (a:=s.heap.objs.size) (o:=.dT []) (t':=s.toks) (λ_ _ q=>Ag _ q) (An _) (Pr s.heap I.big),rfl,h _ (I.br.fresh (An _))⟩
end
structure M2 (X:Cx) (o:ii) (m:Str) (Ã:Pos) (e f:ii) (bD:Pos):Prop where
 base:o0 o m X.env (kw o X.env)=kw o X.env
 few:((v4 bD (f8 [e,f] X.env)).all (λx=>!x.1)&&(backToKw bD (keywordEach [] X.env)).all (λx=>x.1.isSome)
  && decide (([e,f]:List ii).length+([]:List Keyword).length+(if ([]:List Keyword).isEmpty then 0 else 1) < 30))=true
 line:(Ã.endLine==bD.line)=true
 trees:v4 bD (f8 [e,f] X.env)=[(false,kw e X.env),(false,kw f X.env)]
def IsD (H:Hp) (a:ce):Prop:=(∃kvs,Rd H a (.dK kvs))\/∃kvs,Rd H a (.dT kvs)
end L2
variable {Ð:List B1}{XP:(B1->Option AZ)->Fm->Prop}{YP:PySem.World->Fm->Prop}{d:PySem.DefRec}
namespace Att
open PySem PySem.W PySem.Calls PyProof.Rows
def qA {P:Params}:∀(ns:List Int) (vs:List bn),WellAll P h vs (ns.map WData.int)->tz vs ns:=by
 intro ns
 induction ns with
 | nil=>
  intro vs w;cases w;exact .nil
 | cons n ns ih=>
  intro vs w;cases w with
  | cons a b=>
   cases a;exact .cons _ _ (ih _ b)
theorem KS {l:OpenLaw} (hn:l.most=am n) {P:Params}{args:List WData}{Ý:List bn}
  (Sb:l.row.toRowW.claim.pre args=true) (ē:WellAll P h Ý args) :
  ∃a vs ns,Ý=[Ax a]/\args=[WData.list (ns.map WData.int)]/\h.get? a=am {cls:=.type "list",data:=.seq vs.toArray}/\tz vs ns/\ns.length<=n:=by
 have hsh:=(pre_splitW Sb).1;have hc:l.pre.holds [] {args:=args}=true:=(pre_splitW Sb).2;obtain⟨d,r,rfl,h1,h2⟩:=hasAllW_cons hsh;obtain rfl:=hasAllW_nil h2;obtain⟨xs,rfl,h3⟩:=hasW_list h1;obtain⟨ns,rfl⟩:=items_int h3;have Â:ns.length<=n:=by
  unfold OpenLaw.pre at hc;have h4:(WTm.not (.lt (.lit (.int (n:Int))) (.len (.arg 0)))).holds [] {args:=[.list (ns.map .int)]}=true:=by
   have h4:=(holds_andW hc).1;rw [hn] at h4;exact h4
  have h5:=condW_of h4 (w_not (w_lt w_lit (w_len_list (w_arg rfl))));refine Nat.le_of_not_lt λq=>?_
  first
   | (rw [decide_eq_true q'] at h5;exact absurd h5 ⋯)
   | (simp at h5;omega)
 cases ē with
 | cons w1 w2=>
  cases w2;cases w1 with
  | list ho aeb=>exact⟨_,_,ns,rfl,rfl,ho,qA ns _ aeb,Â⟩
def K3 (l:OpenLaw) (args:List WData):l.row.toRowW.claim.post args (.bool true) args=true:=
 postW_of (r:=l.row.toRowW) (X:=(true==true))
  (show WShape.has [] (.bool true) .bool=true by first | rfl | decide | simp [WShape.has,WShape.arms,WShape.armsAll])
  (show (WTm.eq .res (.lit (.bool true))).value [] {args:=args,res:=am (.bool true),after:=args}=am (.bool (true==true)) from w_eq_bool (w_res rfl) w_lit) rfl
def Gm {l:OpenLaw}{q:tt}
  (hn:l.most=am n) (Z4:d.params.defaults=[])
  (call:∀(w:t0) (s₀ s₁:ci) (mg mb:Str->Option bn) (fa:ce) (o:Obj) (pm cd È:bn) (a:ce) (vs:List bn) (ns:List Int),
   Ground q Ð [] XP w s₀ mg mb s₁.heap->YP w s₁.heap->
   s₁.heap.get? fa=am o->o.data=.func (docDef d.name d.params d.body d.scope pm cd È)->s₁.heap.CodeRec cd d.name->mg d.name=am (.ref fa)->
   s₁.heap.get? a=am {cls:=.type "list",data:=.seq vs.toArray}->tz vs ns->ns.length<=n->s₁.gens=#[]->
   BT (dL l.prog w) callerA (.call (.ref fa) ⟨[.ref a],[]⟩) (λr s'=>r=.ok (.ret (.bool true))/\OldK s₁.heap s'.heap/\s'.os=s₁.os/\Fa s'.gens) s₁) :
  WalkO q Ð XP YP l.row.toRowW d [] (λf vs=>FA f vs):=by
 intro w s₀ s₁ mg mb G Y fa o pm cd È dV kV ho hd jt hD hmg hg args Ý as Sb ahO hrd ē hlo;obtain rfl:dV=.none:=Dflts.none hD Z4;obtain rfl:kV=.none:=Dflts.noKw hD;obtain⟨a,vs,ns,rfl,rfl,Ww,Õ,Â⟩:=KS hn Sb ē;refine enter_call (codeAny_mono (call w s₀ s₁ mg mb fa o pm cd È a vs ns G Y ho (fd_plain hd) jt hmg Ww Õ Â hg) λr s' hq=>?_);obtain⟨rfl,h2,h3,h4⟩:=hq;exact⟨.inl ⟨.bool true,.bool true,[],rfl,λ_=>rfl,.bool true,K3 l _,λ_=>⟨List.Pairwise.nil,λ_ hm=>(nomatch hm)⟩⟩,h2,h3,h4⟩
end Att
variable {sp:L2.Sp}
namespace L2
open PySem PySem.Spec PyProof.Rows
theorem o5:∀{vs:List bn}{ns:List Int},tz vs ns->Vals (ns.map V.int) vs
 | _,_,.nil=>.nil
 | _,_,.cons n t h=>.cons ⟨t,rfl⟩ (o5 h)
def S5 (H:Hp):Prop:=∀b,H b=bm\/∃o xs,H b=am (.cu o (.lst xs))
def N7 {K:Ab}{mb:Str->Option bn}{CX:P8}{fa:ce}{s₁:ci}{vs:List bn}
  (KX:K.In s₁.heap) (GI:s₁.heap.Ns ev mg) (hb:s₁.heap.Ns builtinsNs mb) (hbb:∀x:Str,x≠"__name__"->mb x=lc x) (adU:s₁.heap.NoLimit) (hg:s₁.gens=#[])
  (ha:s₁.heap.get? a=am {cls:=.type "list",data:=.seq vs.toArray}) (hi:tz vs ns) (hl:ns.length<=sizeLine) (hr:cC k callerA)
  (F:∀base:lf,K.In base->base.Ns ev mg->iZ P w K mg base CX k fa fd [x] sp) (Z6:∀(s:ci) (u:bn),BindsTo s fd ⟨[u],[]⟩ [(x,u)])
  (Sa:∀H:Hp,S5 H->c7 K H a (ns.map V.int)->sp [.ref a] H (λv _=>v=.bl true) λ_ _ _=>False)
  (Ħ:∀H e s',CX [] H s₁ (λ_ _ _=>False) e s'->False) :
  BT (dL P w) callerA (.call (.ref fa) ⟨[.ref a],[]⟩) (λr s'=>r=.ok (.ret (.bool true))/\OldK s₁.heap s'.heap/\s'.os=s₁.os/\Fa s'.gens) s₁:=by
 have rv:=o5 hi;have adi:=hi.length;have Ù:∀H:Hp,S5 H->c7 K H a (ns.map V.int)->lN P w H s₁.heap->(∀b,H b≠bm->b=a)->(H a≠bm->K.lookup a=bm)->
   BT (dL P w) callerA (.call (.ref fa) ⟨[.ref a],[]⟩) (λr s'=>r=.ok (.ret (.bool true))/\OldK s₁.heap s'.heap/\s'.os=s₁.os/\Fa s'.gens) s₁:=by
  intro H hO hS br hA hK;have Kp:∀{b:ce}{o:Obj},s₁.heap.get? b=am o->H b=bm->(xq s₁.heap H).get? b=am o:=λe n=>OG e n;have Zk:∀{b:ce}{o:Obj}{es:Array DictEntry}{ep:Nat},s₁.heap.get? b=am o->o.data=.dict es ep->H b=bm:=λ{b o es ep} e d=>by
   cases q:H b with
   | none=>rfl
   | some u=>
    have e':b=a:=hA b (by rw [q];simp);subst e';rw [ha] at e;cases e;have d':EZ vs.toArray _=Data.dict es ep:=d;cases d'
  have ð:∀{b:ce}{m:Str->Option bn},s₁.heap.Ns b m->(xq s₁.heap H).Ns b m:=λ{b m} ⟨o,es,ep,e,d,r⟩=>⟨o,es,ep,Kp e (Zk e d),d,r⟩;have hKb:K.In (xq s₁.heap H):=λb o e=>Kp (KX b o e) (by
   cases q:H b with
   | none=>rfl
   | some u=>
    have e':b=a:=hA b (by rw [q];simp);subst e';rw [hK (by rw [q];simp)] at e;cases e)
  have hM:Mod K mg (xq s₁.heap H):=⟨hKb,ð GI,⟨mb,ð hb,hbb⟩,let ⟨mc,h1,h2⟩:=adU;⟨mc,ð h1,h2⟩⟩;have e0:S9 P w K mg (xq s₁.heap H) callerA [] s₁ H:=⟨rfl,hM,λb o e=>Rq e,Nat.le_of_eq (LC _ _),trivial,λb hb=>absurd (show b∈([]:List ce) from hb) (by simp),br,.of_eq hg⟩;refine codeAny_mono ((F _ hKb (ð GI)).run callerA [] s₁ H ⟨[.ref a],[]⟩ [.ref a] [.ref a] _ _ hr e0 (Z6 s₁ (.ref a)) (.cons rfl .nil) (Sa H hO hS)) λr s' h=>?_;cases r with
  | error e=>exact (Ħ H e s' h).elim
  | ok fl=>
   cases fl with
   | next=>exact Bn h
   | brk=>exact Bn h
   | cont=>exact Bn h
   | ret u=>
    obtain⟨v,H',os,bare,un,adS,r',q⟩:=h;have q':v=.bl true:=q;subst q';obtain rfl:u=Fh true:=r';refine⟨rfl,OldK.of_keep λb o e=>?_,os,bare⟩;cases q:H b with
    | none=>exact un.keep b o e q (by intro z;exact absurd (show b∈([]:List ce) from z) (by simp)) (by simp)
    | some u=>
     rcases hO b with z | ⟨ob,xs,z⟩
     ·rw [q] at z;cases z
     ·have z2:=un.tj b ob _ z;obtain⟨e1,_⟩:=br b _ z;obtain⟨e2,_⟩:=adS b _ z2;rw [e] at e1;cases e1;exact e2
 cases hk:K.lookup a with
 | some o=>
  have e:=KX a o hk;rw [ha] at e;cases e;refine Ù (λ_=>bm) (λ_=>.inl rfl) (.inr ⟨_,vs.toArray,_,hk,rfl,rfl,rfl,by rw [Aj,adi];exact hl,by simpa using rv⟩) (λb u z=>by have z':(bm:Option HO)=am u:=z;cases z') (λb z=>absurd rfl z) λz=>absurd rfl z
 | none=>
  refine Ù (λb=>if b=a then am (.cu {cls:=.type "list",data:=.seq vs.toArray} (.lst (ns.map V.int))) else bm) (λb=>?_) (.inl (.inr ⟨{cls:=.type "list",data:=.seq vs.toArray},if_pos rfl⟩)) (λb u z=>?_) (λb z=>?_) λ_=>hk
  ·by_cases hb:b=a
   ·exact .inr ⟨_,_,if_pos hb⟩
   ·exact .inl (if_neg hb)
  ·by_cases hb:b=a
   ·have z':=(if_pos hb).symm.trans z;cases z';subst hb;exact⟨ha,by rw [Af];exact hl,vs,_,rv,ha⟩
   ·have z':=(if_neg hb).symm.trans z;cases z'
  ·by_cases hb:b=a
   ·exact hb
   ·exact absurd (if_neg hb) z
def Qq {l:EI}{q:tt}{K:Params->Ab}{CX:t0->P8}{sp:t0->Sp}
  (hn:l.most=am n) (hn2:n<=sizeLine) (Z4:d.params.defaults=[]) (hr:cC k callerA)
  (hY:∀(w:t0) (h:lf),YP w h->(K w.params).In h)
  (F:∀(w:t0) (mg:Str->Option bn) (fa:ce) (h:lf),(K w.params).In h->h.Ns ev mg->mg d.name=am (.ref fa)->
   ∃fd:Ev,(∀(s:ci) (u:bn),BindsTo s fd ⟨[u],[]⟩ [(x,u)])/\
    ∀base:lf,(K w.params).In base->base.Ns ev mg->iZ l.prog w (K w.params) mg base (CX w) k fa fd [x] (sp w))
  (Sa:∀(w:t0) (H:Hp) (a:ce) (ns:List Int),ns.length<=n->S5 H->c7 (K w.params) H a (ns.map V.int)->sp w [.ref a] H (λv _=>v=.bl true) λ_ _ _=>False)
  (Ħ:∀(w:t0) (H:Hp) (s:ci) (e:bn) (s':ci),CX w [] H s (λ_ _ _=>False) e s'->False) :
  PySem.W.WalkO q Ð XP YP l.row.toRowW d [] (λf vs=>FA f vs):=by
 refine Att.Gm hn Z4 λw s₀ s₁ mg mb fa o pm cd È a vs ns G Y ho hd jt hmg Ww Õ Â hg=>?_;have KX:=hY w _ Y;obtain⟨fd,hb,hF⟩:=F w mg fa _ KX G.T.g hmg;exact N7 KX G.T.g G.T.b G.T.builtins G.T.nolimit hg Ww Õ (BB Â hn2) hr hF hb (λH hO hS=>Sa w H a ns Â hO hS) λH e s'=>Ħ w H s₁ e s'
end L2
variable {B:Prop}
namespace L2
open PySem PySem.Spec PyProof.Rows
def fX (s:ss):Arguments:=match s with
 | .FunctionDef _ a _ _ _ _ _ _ _ _=>a
 | _=>{posonlyargs:=[],args:=[],vararg:=bm,kwonlyargs:=[],kw_defaults:=[],kwarg:=bm,defaults:=[]}
def aY (s:ss):List ss:=match s with
 | .FunctionDef _ _ b _ _ _ _ _ _ _=>b
 | _=>[]
def af (s:ss):pr:=match s with
 | .FunctionDef _ _ _ _ _ _ sc _ _ _=>sc
 | _=>{kind:=.function,names:=[],isGenerator:=false,isCoroutine:=false}
abbrev my:P8:=λ_ _ _ _ _ _=>False
abbrev E0:XK:=λ_ _ _=>False
def Y7:Passes my X E0:=λ_ _ _ _ _ _ _ h=>h.elim
structure Ql (K:Ab) (x qual:Str) (st:ss) (f:ce) (fd:Ev):Prop where
 ex:∃(oc:bn) (od:Option ce) (kV È pm:bn) (an:Option ce) (bQ ct:bn) (Qc:Array (Option bn)),
  fd=BU x qual (fX st) (aY st) (af st) .none kV È pm an bQ ct/\K.lookup f=am ⟨oc,od,.func fd,Qc⟩/\DP K bQ qual=true
 kp:DN K (.ref f)=true
section
variable {K:Ab}
def Ql.ok {st:ss}{f:ce}{N:List Str} (F:Ql K x qual st f fd) (S:ao N ps (af st)) (len:∀vs H Q E,sp vs H Q E->vs.length=ps.length)
  (OK:∀(bQ:bn) (A:nw) (outer:List Env) (s:ci) (H:Hp) (vs:List V) (Q:VK) (E:XK),cC k (A.deeper (r9 qual (af st) s.heap.objs.size f bQ))->sp vs H Q E->
   ∃t,rm (gJ my P w K mg base N qual (af st) f bQ A outer s H E).uZ (aY st) t/\t {nx:=λ_ H'=>Q .aG H',rt:=Q} (start N vs) H):iZ P w K mg base my (k+1) f fd ps sp:=by
 obtain⟨oc,od,kV,È,pm,an,bQ,ct,Qc,rfl,lk,jt⟩:=F.ex;refine aal lk jt S len λA outer s H vs Q E hr Sa=>?_;obtain⟨t,h,q⟩:=OK bQ A outer s H vs Q E hr Sa;exact⟨t,h.uZ,q⟩
def Ql.binds {st:ss}{f:ce} (F:Ql K x qual st f fd)
  (h:∀(kV È pm:bn) (an:Option ce) (bQ ct:bn) (us:List bn),us.length=ps.length->bindArgs (BU x qual (fX st) (aY st) (af st) .none kV È pm an bQ ct) ⟨us,[]⟩=pure (ps.zip us)):Binds K fd ps []:=by
 obtain⟨oc,od,kV,È,pm,an,bQ,ct,Qc,rfl,lk,jt⟩:=F.ex;exact .all (h kV È pm an bQ ct)
def WN {st:ss}{f:ce}{kV:bn} (l:K.lookup f=am ⟨oc,od,.func (BU x qual (fX st) (aY st) (af st) .none kV È pm an bQ ct),Qc⟩)
  (c:DP K bQ qual=true) (k:DN K (.ref f)=true):Ql K x qual st f (BU x qual (fX st) (aY st) (af st) .none kV È pm an bQ ct):=⟨⟨oc,od,kV,È,pm,an,bQ,ct,Qc,rfl,l,c⟩,k⟩
end
def KQ (h:n<=1000):n < sizeLine:=Nat.lt_of_le_of_lt h ⋯
def xj {A:Prop} (h:B):if false=true then A else B:=by
 exact h
def xi {A:Prop} (h:A):if true=true then A else B:=by
 exact h
def kW (H H':Hp):Prop:=∀b o,H b=am o->H' b=am o
def kW.refl (H:Hp):kW H H:=λ_ _ h=>h
end L2
variable {a b:Nat}{H2:L2.Hp}{R:PySem.Result->DK->Prop}{Xs:PySem.Scope}{N':List B1}{ix:List (Option Nat)}{Ä:B4}{Ê:List B4}{ka:B9}
namespace L2
open PySem PySem.Spec PyProof.Rows
def lsz {o:Obj} (e:h.get? b=am o):b < h.objs.size:=Ar e
def neN (h:a≠b):a≠b:=h
def ltN (h:a < b):a < b:=h
def Ut {c:Nat}{v:Option bn} (q:h.IsCell c v):c < h.objs.size:=q.lt
structure aw (Xs:pr) (N:List Str) (sc:pr) (N':List Str) (ix:List (Option Nat)):Prop where
 kind:sc.kind=.function
 nc:∀y∈sc.names,y.2≠.cell
 loc:∀y∈sc.names,y.2=.local->sc.names.lookup y.1=am .local
 fr:∀y∈sc.names,y.2=.free->(Xs.names.lookup y.1=am .cell\/Xs.names.lookup y.1=am .free)
 nd:N'.Nodup
 len:ix.length=N'.length
 map:((ix.zip N').all λp=>match p.1 with | none=>true | some j=>decide (N[j]?=am p.2)&&decide (sc.names.lookup p.2=am .free))=true
def aw.at {N:List Str} (S:aw Xs N sc N' ix) {i:Nat} (h1:ix[i]?=am (am j)) (h2:N'[i]?=am x) :
  N[j]?=am x/\sc.names.lookup x=am .free:=by
 have hm:((am j,x):Option Nat×Str)∈ix.zip N':=by
  refine Br (i:=i) ?_;rw [List.getElem?_zip_eq_some];exact⟨h1,h2⟩
 have q:=CN.mp S.map _ hm;simp only [AO,decide_eq_true_eq] at q;exact q
def oI (ix:List (Option Nat)) (σ:St):St:=ix.map λo=>match o with | some j=>(σ[j]?).getD bm | none=>bm
def fi (X:Cx) (sc:pr) (N':List Str) (cl:List (Str×ce)) (C:ce) (s2:ci) (H2:Hp) (fp:List ce):Cx where
 prog:=X.prog
 w:=X.w
 K:=X.K
 mg:=X.mg
 base:=X.base
 A:=X.A
 N:=N'
 s₀:=s2
 H₀:=H2
 env:=compEnvC sc cl C X.env
 outer:=X.stack
 stack:=X.stack
 ex:=fp
 calm:=X.calm
 fn:=λ_=>false
 pn:=[]
 xe:=λ_ _=>False
theorem mS:∀(names:List (Str×wv)) (cs:List (Str×ce)),(∀y∈names,y.2=.free->∃c,env.cells.lookup y.1=am c)->
  ∃cl,(forIn names cs λ(x:Str×wv) (c:List (Str×ce))=>(match x with | (name,kind)=>do
    let c <- if (kind==Bb)=true then do let a <- cellOf env name;pure ((name,a)::c) else pure c
    pure (Cg c):Sem (ForInStep (List (Str×ce)))))=pure cl/\(∀x c,cl.lookup x=am c->cs.lookup x=am c\/(env.cells.lookup x=am c/\(x,Bb)∈names))/\(∀x,((x,Bb)∈names\/(∃c,cs.lookup x=am c))->∃c,cl.lookup x=am c)
 | [],cs,_=>⟨cs,rfl,λ_ _ h=>.inl h,λx h=>h.elim (λz=>nomatch z) λz=>z⟩
 | (n,k)::r,cs,h=>by
  by_cases hk:k=.free
  ·subst hk;obtain⟨c,hc⟩:=h (n,.free) Bs rfl;obtain⟨cl,e,h1,h2⟩:=mS r ((n,c)::cs) λy hy=>h y (AV _ hy);refine⟨cl,?_,λx d hd=>?_,λx hx=>?_⟩
   ·rw [BO,<- e];simp only [beq_self_eq_true,if_true,cellOf,hc,pure_bind]
   ·rcases h1 x d hd with z | ⟨z1,z2⟩
    ·rw [Bf] at z;by_cases hx:(x==n)=true
     ·rw [hx] at z;have vk:x=n:=eq_of_beq hx;subst vk;cases z;exact .inr ⟨hc,Bs⟩
     ·have vk:(x==n)=false:=by simpa using hx
      rw [vk] at z;exact .inl z
    ·exact .inr ⟨z1,AV _ z2⟩
   ·refine h2 x ?_;rcases hx with hx | ⟨d,hd⟩
    ·rcases Aw.mp hx with z | z
     ·injection z with z1 _;subst z1;exact .inr ⟨c,by rw [Bf];simp⟩
     ·exact .inl z
    ·by_cases hx:(x==n)=true
     ·exact .inr ⟨c,by rw [Bf,hx]⟩
     ·have vk:(x==n)=false:=by simpa using hx
      exact .inr ⟨d,by rw [Bf,vk];exact hd⟩
  ·obtain⟨cl,e,h1,h2⟩:=mS r cs λy hy=>h y (AV _ hy);refine⟨cl,?_,λx d hd=>?_,λx hx=>?_⟩
   ·have hb:(k==Bb)=false:=by simpa using hk
    rw [BO,<- e];simp only [hb,Au,if_false,pure_bind]
   ·rcases h1 x d hd with z | ⟨z1,z2⟩
    ·exact .inl z
    ·exact .inr ⟨z1,AV _ z2⟩
   ·refine h2 x ?_;rcases hx with hx | hx
    ·rcases Aw.mp hx with z | z
     ·injection z with _ z2;exact absurd z2.symm hk
     ·exact .inl z
    ·exact .inr hx
def mq (h:∀y∈sc.names,y.2=.free->∃c,env.cells.lookup y.1=am c) :
  ∃cl,closureFor sc env=pure cl/\(∀x c,cl.lookup x=am c->env.cells.lookup x=am c/\(x,Bb)∈sc.names)/\(∀x,(x,Bb)∈sc.names->∃c,cl.lookup x=am c):=by
 obtain⟨cl,e,h1,h2⟩:=mS (env:=env) sc.names [] h;refine⟨cl,?_,λx c hc=>(h1 x c hc).resolve_left (λz=>nomatch z),λx hx=>h2 x (.inl hx)⟩;unfold closureFor;have e':(forIn sc.names ([]:List (Str×ce)) λx r=>(match x with | (name,kind)=>if (kind==Bb)=true then do let a <- cellOf env name;pure (Cg ((name,a)::r)) else pure (Cg r):Sem (ForInStep (List (Str×ce)))))=pure cl:=by
  rw [<- e]
  first
   | rfl
   | (
     congr 1;funext x r;obtain⟨n,k⟩:=x;by_cases hk:(k==Bb)=true
     ·simp only [hk,if_true,pure_bind]
     ·simp only [hk,if_false,pure_bind,Au])
   | simp only [pure_bind]
 simpa using e'
theorem gw {env:Env}:∀{names:List (Str×wv)}{x:Str},
  (names.map λ(n,k)=>if (k==Bb&&env.scope.kind==.function&&env.kindOf n==am .cell) then (n,Fe) else (n,k)).lookup x =
   (names.lookup x).map λk=>if (k==Bb&&env.scope.kind==.function&&env.kindOf x==am .cell) then Fe else k
 | [],_=>rfl
 | (n,k)::r,x=>by
  have ih:=@gw env r x;show List.lookup x ((if (k==Bb&&env.scope.kind==.function&&env.kindOf n==am .cell)=true then (n,Fe) else (n,k))::_)=_;cases hx:x==n with
  | true=>
   have e:=eq_of_beq hx;subst e;by_cases hc:(k==Bb&&env.scope.kind==.function&&env.kindOf x==am .cell)=true
   ·rw [if_pos hc,Bf,Bf,hx];simp only [Cw,hc,if_true]
   ·rw [if_neg hc,Bf,Bf,hx];simp only [Cw,hc,if_false];simp
  | false=>
   by_cases hc:(k==Bb&&env.scope.kind==.function&&env.kindOf n==am .cell)=true
   ·rw [if_pos hc,Bf,Bf,hx];exact ih
   ·rw [if_neg hc,Bf,Bf,hx];exact ih
def X1 (X:Cx) (Ê:List ii) (t:TT):Prop:=
 ∀(Z:List (ce×Obj)) (s:ci) (σ:St) (H:Hp) (Q:Bool->Hp->Prop),Inv X Z σ H s->t σ H Q->
  db (dL X.prog X.w) X.A (forIn Ê true λc r=>if r=true then do let ok <- isTrue c X.env (kw c X.env);pure (Cg ok) else pure (Cg r)) (TP X Z σ Q) X.xe s
def acQ:TT:=λ_ H Q=>Q true H
def Q5:X1 X [] acQ:=λZ s σ H Q I h=>by
 exact Ae ⟨H,I,h⟩
def Q4 {c:ii}{t:TT} (hc:PT X c t):X1 X [c] t:=λZ s σ H Q I h=>by
 rw [BO];simp only [if_true,bind_assoc,pure_bind];refine Aa (bV (hc Z s σ H Q I h) λb s1 q=>?_);exact Ae q
def tLc (ix:List (Option Nat)) (wi:TI) (g:TG) (tf:TT) (te:TE):TE:=λσ H Q=>wi σ H λJ H1=>∀D,H1 D=bm->∃W:Nat->Nat->St->List V->Hp->Prop,
 (∃m,W 0 m (oI ix σ) [] (upd H1 D (.lst [])))/\∀i m σ' ys H,W i m σ' ys H->H D=am (.lst ys)/\
  ((J.stop i H/\Q (.ref D) H)\/(J.go i H/\∀x H',J.Te i H x H'->g x σ' H' λσ2 H2=>tf σ2 H2 λb H3=>
   if b=true then te σ2 H3 λy H4=>H4 D=am (.lst ys)/\ys.length+1<=sizeLine/\∃m',m' < m/\W (i+1) m' σ2 (ys++[y]) (upd H4 D (.lst (ys++[y]))) else ∃m',m' < m/\W (i+1) m' σ2 ys H3))
def lR {É:ii}{it Å:bn} (I:Nat->ci->Prop)
  (turn:∀n s,I n s->db (dL prog w) A (pyNext it) (λr s₁=>match r with
   | none=>R (.ok .next) s₁
   | some v=>db (dL prog w) A (Fk É it v) (λ_ Ti=>db (dL prog w) A (Db É env v) (λ_ s₂=>
     db (dL prog w) A (forIn Ê true λc r=>if r=true then do let ok <- isTrue c env (kw c env);pure (Cg ok) else pure (Cg r)) (λok s₃=>
      if ok=true then db (dL prog w) A (kw Ä env) (λx s₄=>
       db (dL prog w) A (call (.builtin "list.append") [Å,x]) (λ_ s₅=>∃m,m < n/\I m s₅) (λ_ _=>False) s₄) (λ_ _=>False) s₃
      else ∃m,m < n/\I m s₃) (λ_ _=>False) s₂) (λ_ _=>False) Ti) (λ_ _=>False) s₁) (λ_ _=>False) s)
  (n:Nat) (h:I n s) :
  BT (dL prog w) A (.compLoop (.ListComp Ä [⟨É,iter,Ê,0⟩] scope pos) 0 it Å env) R s:=by
 refine codeAny_loop rfl I (λn s hI=>?_) n h;refine wpAny_noted ?_;rw [compTurn_list];refine Aa (Ee (Aa (BJ (turn n s hI) (λr s₁ h₁=>?_) λ_ _ h'=>h'.elim)));cases r with
 | none=>exact Ae h₁
 | some v=>
  refine Aa (BJ h₁ (λ_ Ti ZJ=>?_) λ_ _ h'=>h'.elim);refine Aa (BJ ZJ (λ_ s₂ h₂=>Aa (BJ h₂ (λok s₃ h₃=>?_) λ_ _ h'=>h'.elim)) λ_ _ h'=>h'.elim);cases ok with
  | false=>exact Ae ⟨rfl,h₃⟩
  | true=>
   have ZI:db (dL prog w) A (kw Ä env) (λx s₄=>
       db (dL prog w) A (call (.builtin "list.append") [Å,x]) (λ_ s₅=>∃m,m < n/\I m s₅) (λ_ _=>False) s₄) (λ_ _=>False) s₃:=h₃
   exact Aa (Aa (BJ ZI (λx s₄ h₄=>Aa (BJ h₄ (λ_ s₅ h₅=>Ae (Ae ⟨rfl,h₅⟩)) λ_ _ h'=>h'.elim)) λ_ _ h'=>h'.elim))
section
variable {g:TG}{tf:TT}
structure aaX (X:Cx) (Z:List (ce×Obj)) (H:Hp) (C:ce):Prop where
 hn:H C=bm
 hL:C≠X.env.locals
 ab:X.s₀.heap.objs.size<=C
 cl:∀x c,X.env.cells.lookup x=am c->c≠C
 pn:∀p∈X.pn++Z,p.1≠C
theorem JY (hc:X.calm=true) (S:aw X.env.scope X.N sc N' ix)
  (hg:∀cl C s2 H2 fp,PG (fi X sc N' cl C s2 H2 fp) tg g) (hf:∀cl C s2 H2 fp,X1 (fi X sc N' cl C s2 H2 fp) Ê tf) (he:∀cl C s2 H2 fp,PE (fi X sc N' cl C s2 H2 fp) Ä te) {s2:ci}{cl:List (Str×ce)} (sT:∀x c,cl.lookup x=am c->X.env.cells.lookup x=am c/\(x,Bb)∈sc.names) (LD:∀x,(x,Bb)∈sc.names->∃c,cl.lookup x=am c) {tn:Nat->lf->Prop}{J:It}{Q:VK} (I2:Inv X Z σ H2 s2) (T:Turn X.prog X.w X.K tg J fp it tn) (KO:tn 0 s2.heap) (f2:∀b∈fp,uO X Z H2 b)
  (hW:∀D,H2 D=bm->∃W:Nat->Nat->St->List V->Hp->Prop,
   (∃m,W 0 m (oI ix σ) [] (upd H2 D (.lst [])))/\∀i m σ' ys H,W i m σ' ys H->H D=am (.lst ys)/\
    ((J.stop i H/\Q (.ref D) H)\/(J.go i H/\∀x H',J.Te i H x H'->g x σ' H' λσ2 H2=>tf σ2 H2 λb H3=>
     if b=true then te σ2 H3 λy H4=>H4 D=am (.lst ys)/\ys.length+1<=sizeLine/\∃m',m' < m/\W (i+1) m' σ2 (ys++[y]) (upd H4 D (.lst (ys++[y]))) else ∃m',m' < m/\W (i+1) m' σ2 ys H3)))
  {RR:bn->ce->Result->ci->Prop}{E:bn->ci->Prop}
  (hRR:∀D C m s' H',Inv X Z σ H' s'->Q (.ref D) H'->s'.heap.Ns C m->aaX X Z H' C->RR (.ref D) C (.ok .next) s') :
  db (dL X.prog X.w) X.A (newList []) (λÅ s₃=>db (dL X.prog X.w) X.A (newFunctionEnv sc X.env.globals cl [] X.env.qual bm .none (am X.env)) (λaaK s₄=>
   BT (dL X.prog X.w) X.A (.compStart (.ListComp Ä [⟨tg,iter,Ê,0⟩] sc pos) 0 (.ref it) Å {aaK with scope:=relabel sc X.env}) (RR Å aaK.locals) s₄) E s₃) E s2:=by
 refine A1 (wpAny_newFunctionEnv S.nc (by intro y hy;simp at hy) (λh₁ HQ xl=>?_) S.kind);generalize hH2:s2.heap.push {cls:=.type "list",dict:=bm,data:=.seq ([]:List bn).toArray}=G2 at HQ xl ⊢;have hC:G2.objs.size=s2.heap.objs.size+1:=by rw [<- hH2,Cn]
 obtain⟨D,hD⟩:∃D:Nat,s2.heap.objs.size=D:=⟨_,rfl⟩;obtain⟨C,hCC⟩:∃C:Nat,G2.objs.size=C:=⟨_,rfl⟩;simp only [hD,hCC] at HQ xl hC ⊢;have hDC:D≠C:=by omega
 have Ì:∀b o,s2.heap.get? b=am o->h₁.get? b=am o:=λb o e=>by
  have hb:=lsz e;exact xl.extBut b o (neN ∅) (Ag _ (hH2▸Ag _ e))
 have Z8:h₁.get? D=am {cls:=.type "list",data:=.seq ([]:List bn).toArray}:=by
  refine xl.extBut D _ hDC (Ag _ ?_);rw [<- hH2,<- hD];exact Ap _ rfl
 have hD2:H2 D=bm:=I2.br.fresh ∅;have hC2:H2 C=bm:=I2.br.fresh ∅;obtain⟨W,⟨m0,w0⟩,turn⟩:=hW D hD2;have Us:∀x c,cl.lookup x=am c->∃v,s2.heap.IsCell c v:=λx c e=>I2.cell x c (sT x c e).1;have aeC:∀x c,cl.lookup x=am c->c < D:=λx c e=>by
  obtain⟨v,q⟩:=Us x c e;have:=Ut q;exact ltN ∅
 have Ī:∀b∈fp,b < D:=λb hb=>by
  obtain⟨o,e,_⟩:=T.obj 0 _ KO b hb;have:=lsz e;exact ltN ∅
 have Yok:(fi X sc N' cl C s2 H2 fp).Ok:=by
  refine⟨I2.ok.mod,S.kind,I2.ok.glob,I2.ok.blt,?_,?_,?_,?_,I2.ok.hd,I2.ok.frames,.inl rfl,?_,I2.bs,?_,?_,?_,I2.stack,I2.Jl⟩
  ·show s2.heap.objs.size<=C;omega
  ·intro x y c e1 e2;exact I2.ok.inj x y c (sT x c e1).1 (sT y c e2).1
  ·intro x hx;have vk:(relabel sc X.env).names.lookup x=am .cell\/(relabel sc X.env).names.lookup x=am .free:=hx;unfold relabel at vk;rw [gw] at vk;cases q:sc.names.lookup x with
   | none=>rw [q] at vk;simp at vk
   | some k=>
    have hm:=BK q;by_cases hk:k=.free
    ·subst hk;exact LD x hm
    ·have Wy:k≠.cell:=S.nc _ hm;rw [q] at vk;have hb:(k==Bb)=false:=by simpa using hk
     simp only [Cw,hb,E7,Au,if_false] at vk;rcases vk with z | z
     ·exact absurd (Option.some.inj z) Wy
     ·exact absurd (Option.some.inj z) hk
  ·intro x c Z3;exact absurd Z3 A3
  ·intro b hb;refine⟨?_,λx c e z=>(f2 b hb).2.2.2.2.1 x c (sT x c e).1 z⟩;show b≠C;have:=ltN (Ī b hb);exact neN ∅
  ·exact BB I2.ok.Uu I2.sz
  ·intro b o e hb;rcases (f2 b hb).2.2.2.1 with z | z
   ·exact I2.ok.NU b o e z
   ·have h1:=lsz (h:=X.base) e;have h2:=I2.ok.Uu;omega
  ·intro b hb z;rcases Aw.mp (I2.GY b z) with q | q
   ·exact (f2 b hb).2.1 q
   ·exact (f2 b hb).2.2.1 q
 have un0:Un (Ml X.stack) fp H2 (upd H2 D (.lst [])) s2.heap h₁:=Un.laid Ì ∅ hD2;have adR:lN X.prog X.w (upd H2 D (.lst [])) h₁:=I2.br.laid Ì ∅ ⟨A9 _,[],0,.nil,Z8⟩;have IY:∀tk,Inv (fi X sc N' cl C s2 H2 fp) [] (oI ix σ) (upd H2 D (.lst [])) {s2 with heap:=h₁,toks:=tk}:=λtk=>by
  refine⟨Yok,rfl,I2.bare,un0,⟨_,HQ,λi x v e1 e2 e3=>?_⟩,λx c e=>?_,?_,λx c e=>?_,λp hp=>absurd (show p∈([]:List (ce×Obj)) from hp) (by simp),adR,?_⟩
  ·have qG:N'[i]?=am x:=e1;unfold oI at e2;rw [Ak] at e2;cases q:ix[i]? with
   | none=>rw [q] at e2;cases e2
   | some o=>
    cases o with
    | none=>rw [q] at e2;cases e2
    | some j=>
     rw [q] at e2;have Ă:(σ[j]?).getD bm=am v:=Option.some.inj e2;have e4:σ[j]?=am (am v):=by
      cases z:σ[j]? with
      | none=>rw [z] at Ă;cases Ă
      | some y=>rw [z] at Ă;exact congrArg am Ă
     obtain⟨a1,a2⟩:=S.at q qG;have ZU:=BK a2;have hk:=S.fr _ ZU rfl;obtain⟨m,_,hl⟩:=I2.loc;obtain⟨u,r,l⟩:=hl j x v a1 e4 (.inr hk);refine⟨u,r,.inr ⟨?_,?_⟩⟩
     ·show (relabel sc X.env).names.lookup x=am .cell\/(relabel sc X.env).names.lookup x=am .free;unfold relabel;rw [gw,a2];by_cases hb:(X.env.scope.kind==.function&&X.env.kindOf x==am .cell)=true
      ·left
       simp only [Cw,beq_self_eq_true,Ff,hb,if_true]
      ·right
       simp only [Cw,beq_self_eq_true,Ff,hb,if_false,Au]
     ·obtain⟨c,hcx⟩:=LD x ZU;have hcX:=(sT x c hcx).1;refine⟨c,hcx,?_⟩;rcases l with⟨k,_⟩ | ⟨k,c',e',z⟩
      ·have k':X.env.scope.names.lookup x=am .local:=k;rcases hk with y | y <;> rw [k'] at y <;> cases y
      ·rw [hcX] at e';cases e';obtain⟨o,ho,hd⟩:=z;exact⟨o,Ì _ _ ho,hd⟩
  ·obtain⟨v,o,ho,hd⟩:=Us x c e;exact⟨v,o,Ì _ _ ho,hd⟩
  ·show upd H2 D (.lst []) C=bm;rw [av (BA hDC)];exact hC2
  ·have iB:=ltN (aeC x c e);show upd H2 D (.lst []) c=bm;rw [av (neN ∅)];exact I2.j6 x c (sT x c e).1
  ·unfold oI;rw [Af];exact S.len
 have ĩ:∀{zr:List (ce×Obj)}{H':Hp},(∀b∈fp,H' b=bm)->(∀p∈zr,p.1∉fp)->∀b∈fp,uO (fi X sc N' cl C s2 H2 fp) zr H' b:=λhn hp b hb=>by
  refine⟨hn b hb,?_,?_,.inl hb,λx c e z=>(f2 b hb).2.2.2.2.1 x c (sT x c e).1 z,λp ę z=>?_⟩
  ·show b≠C;have:=ltN (Ī b hb);exact neN ∅
  ·exact Yok.O4 b hb
  ·have adL:p∈([]:List (ce×Obj))++_:=ę;exact hp p adL (z▸hb)
 have ã:∀s₃:ci,s₃={s2 with heap:=h₁,toks:=s2.toks+([]:List (Str×bn)).length}->
   BT (dL X.prog X.w) X.A (.compLoop (.ListComp Ä [⟨tg,iter,Ê,0⟩] sc pos) 0 (.ref it) (.ref D) (compEnvC sc cl C X.env)) (RR (.ref D) C) s₃:=by
  rintro s₃ rfl;refine lR (λn s'=>∃i σ' ys H',Inv (fi X sc N' cl C s2 H2 fp) [] σ' H' s'/\tn i s'.heap/\(∀b∈fp,H' b=bm)/\W i n σ' ys H') ?_ m0
   ⟨0,_,[],_,IY _,T.keep _ _ _ KO (λb _ o e=>Ì b o e),λb hb=>by rw [av (AA (Ī b hb))];exact (f2 b hb).1,w0⟩
  rintro n s3 ⟨i,σ3,ys,H3,I3,YE,å,w3⟩;obtain⟨hDl,w3⟩:=turn i n σ3 ys H3 w3;rcases w3 with⟨stop,qn⟩ | ⟨go,step⟩
  ·refine bV (T.done (fi X sc N' cl C s2 H2 fp) rfl rfl rfl hc i [] s3 σ3 H3 _ I3 (ĩ å (by simp)) YE stop) λr s4 ⟨hr,I4⟩=>?_;subst hr;obtain⟨m,hn,_⟩:=I4.loc;refine hRR D C m s4 H3 (I2.aaL (ch:=fp) I4.os I4.base I4.br I4.bare λb hb=>?_) qn hn ?_
   ·obtain⟨a0,a1,a2,a3,a4,a5⟩:=f2 b hb;exact⟨a3,a1,a4,a5⟩
   ·refine⟨I4.free,?_,?_,λx c e z=>?_,λp hp z=>?_⟩
    ·have:=ltN I2.lt;exact neN ∅
    ·have:=I2.sz;omega
    ·obtain⟨v,q⟩:=I2.cell x c e;have:=Ut q;exact neN (a:=c) (b:=C) ∅ z
    ·have:=lsz (I2.pin p hp).1;exact neN (a:=p.1) (b:=C) ∅ z
  ·refine bV (T.item (fi X sc N' cl C s2 H2 fp) rfl rfl rfl hc i [] s3 σ3 H3 (λ_ _=>False) I3 (ĩ å (by simp)) YE go) λr s4 ⟨u,hr,h4⟩=>?_;subst hr;refine bV h4 λ_ s5 ⟨x,H5,I5,r5,y5,UY,Ĩ⟩=>?_;have Ĭ:=I5.pinned (ĩ Ĩ (by simp)) (T.obj _ _ UY);refine bV (hg _ _ _ _ _ _ s5 σ3 H5 x u _ Ĭ r5 (step x H5 y5)) λ_ s6 ⟨σ6,H6,I6,q6⟩=>?_;refine bV (hf _ _ _ _ _ _ s6 σ6 H6 _ I6 q6) λb s7 ⟨H7,I7,q7⟩=>?_;have Oc:∀{s8:ci}{σ8:St}{H8:Hp},Inv (fi X sc N' cl C s2 H2 fp) ([]++pz fp s5.heap) σ8 H8 s8->tn (i+1) s8.heap/\∀b∈fp,H8 b=bm:=λ{s8 σ8 H8} I8=>by
    refine⟨T.keep _ _ _ UY λb hb o e=>(I8.pin (b,o) (AQ _ (AQ _ (jk hb e)))).1,λb hb=>?_⟩;obtain⟨o,e,d⟩:=T.obj _ _ UY b hb;exact (I8.pin (b,o) (AQ _ (AQ _ (jk hb e)))).2.1
   cases b with
   | false=>
    have q7':=q7;obtain⟨m',hm,w7⟩:=q7';obtain⟨t7,fr7⟩:=Oc I7;exact⟨m',hm,i+1,σ6,ys,H7,I7.km,t7,fr7,w7⟩
   | true=>
    refine bV (he _ _ _ _ _ _ s7 σ6 H7 _ I7 q7) λyv s8 ⟨y,H8,I8,r8,hD8,hz8,m',hm,w8⟩=>?_;obtain⟨z,aq,k,rv,hl8,e8⟩:=I8.qv hD8;obtain⟨t8,fr8⟩:=Oc I8;refine wpAny_list_append_plain (s:=s8) (items:=aq.toArray) (hsz:=by rw [Aj];omega) ⟨_,e8⟩ λh9 hl9 hs9=>?_;obtain⟨k9,e9⟩:=hl9;have hv9:=Vals.append rv (.cons r8 .nil);have I9:Inv (fi X sc N' cl C s2 H2 fp) ([]++pz fp s5.heap) σ6 (upd H8 D (.lst (ys++[y]))) {s8 with heap:=h9,toks:=s8.toks}:=by
     refine I8.write (x:=D) (e:=D) (by rw [hD8];exact trivial) (.inl rfl) (λb u hb hu=>(hs9.2 b hb).trans hu) ⟨_,e9⟩ ?_;refine⟨by rw [Ai,De];exact hz8,aq++[yv],k9,hv9,?_⟩;rw [e9];simp
    obtain⟨t9,fr9⟩:=Oc I9;exact⟨m',hm,i+1,σ6,_,_,I9.km,t9,fr9,w8⟩
 exact codeAny_compStart_list (ã _ rfl) (T.self _ 0 _ _ _ (T.keep _ _ _ KO λb _ o e=>Ì b o e) (ã _ rfl))
def Y4 (hc:X.calm=true) (S:aw X.env.scope X.N sc N' ix) (hi:PI X tg iter wi)
  (hg:∀cl C s2 H2 fp,PG (fi X sc N' cl C s2 H2 fp) tg g) (hf:∀cl C s2 H2 fp,X1 (fi X sc N' cl C s2 H2 fp) Ê tf) (he:∀cl C s2 H2 fp,PE (fi X sc N' cl C s2 H2 fp) Ä te)
  (hs:uc X iter:=by intro _;rfl):PE X (.ListComp Ä [⟨tg,iter,Ê,0⟩] sc pos) (tLc ix wi g tf te):=by
 intro Z s σ H Q I h;have HS:∀y∈sc.names,y.2=.free->∃c,X.env.cells.lookup y.1=am c:=λy hy hk=>I.ok.has y.1 (S.fr y hy hk);obtain⟨cl,OH,sT,LD⟩:=mq HS;refine Eg (use:=bm) rfl hs OH S.kind S.loc (bV (hi Z s σ H _ I h) λv s1 h1=>bV h1 λó s2 h2=>?_);obtain⟨it,fp,tn,J,H2,rfl,I2,T,KO,f2,hW⟩:=h2;refine JY (RR:=λÅ C=>compPost (dL X.prog X.w) X.A X.xe bm (EP X Z σ Q) Å C) hc S hg hf he sT LD I2 T KO f2 hW λD C m s' H' I' q hn F=>?_;refine⟨m,hn,λh' Ę=>⟨.ref D,H',?_,rfl,q⟩⟩;exact I'.turned (it:=C) (t':=s'.toks) (λb o hb e=>(Ę.2 b hb).trans e) F.hn F.hL (.inr F.ab) F.cl F.pn
def zl {i:Nat} (hc:X.calm=true) (hN:X.N.Nodup) (xr:X.N[i]?=am x) (hx:X.env.scope.names.lookup x=am .local) (S:aw X.env.scope X.N sc N' ix) (hi:PI X tg iter wi)
  (hg:∀cl C s2 H2 fp,PG (fi X sc N' cl C s2 H2 fp) tg g) (hf:∀cl C s2 H2 fp,X1 (fi X sc N' cl C s2 H2 fp) Ê tf) (he:∀cl C s2 H2 fp,PE (fi X sc N' cl C s2 H2 fp) Ä te)
  (og:im (.ListComp Ä [⟨tg,iter,Ê,0⟩] sc pos) (am (.Name x px)) ka.line X.env=pure true:=by rfl)
  (hs:uc X iter:=by intro _;rfl):PS X (.Assign [.Name x px] (.ListComp Ä [⟨tg,iter,Ê,0⟩] sc pos) ka) (US (tLc ix wi g tf te) (dZ i)):=by
 intro Z s σ H D0 I h;rw [exec_Assign_Name_used _ _ _ _ og];refine Aa (Ee (Aa ?_));show db _ X.A (do let _ <- comprehension (.ListComp Ä [⟨tg,iter,Ê,0⟩] sc pos) sc X.env _ (newList []) false (kw iter X.env) (am (Db (.Name x px) X.env))) _ _ s;have HS:∀y∈sc.names,y.2=.free->∃c,X.env.cells.lookup y.1=am c:=λy hy hk=>I.ok.has y.1 (S.fr y hy hk);obtain⟨cl,OH,sT,LD⟩:=mq HS;refine Aa (BJ (Eg (use:=am (Db (.Name x px) X.env)) (Q:=λ_ s'=>SP X Z D0 .next s') rfl hs OH S.kind S.loc (bV (hi Z s σ H _ I h) λv s1 h1=>bV h1 λó s2 h2=>?_)) (λ_ s' hq=>Ae (Ae hq)) λ_ _ e=>e);obtain⟨it,fp,tn,J,H2,rfl,I2,T,KO,f2,hW⟩:=h2;refine JY (RR:=λÅ C=>compPost (dL X.prog X.w) X.A X.xe (am (Db (.Name x px) X.env)) (λ_ s'=>SP X Z D0 .next s') Å C) (Q:=λx H1=>dZ i x σ H1 D0.nx) hc S hg hf he sT LD I2 T KO f2 hW λD C m s' H' I' q hn F=>?_;show db _ X.A (Db (.Name x px) X.env (.ref D)) _ _ _;refine wpAny_assign_Name (uU (v:=.ref D) I' hN xr (.inl hx) rfl (λYJ I'' ė=>?_) (.inr hx));obtain⟨a,ė,ha⟩:=ė;have haC:C≠a:=by
  rcases ha with z | z
  ·rw [z];exact F.hL
  ·exact BA (F.cl _ _ z)
 refine⟨m,hn.sameBut ė haC,λh' Ę=>⟨_,H',?_,q⟩⟩;exact I''.turned (it:=C) (t':=YJ.toks) (λb o hb e=>(Ę.2 b hb).trans e) F.hn F.hL (.inr F.ab) F.cl F.pn
end
end L2
variable {a b:B4}
namespace L2
open PySem PySem.Spec PyProof.Rows
section
def qm:bP X (.builtin "isinstance") (λxs H Q=>∃x c t b,xs=[x,.ty c]/\lS X.K H x t/\Bp X.K t (.type c)=am b/\Q (.bl b) H):=by
 intro Z s σ H xs us Q I r h;obtain⟨x,c,t,b,rfl,ty,hk,q⟩:=h;obtain⟨u,w',rfl,ru,wd⟩:=vals2 r;cases (show w'=BR c from wd);exact Lv I ru ty hk λtk=>⟨.bl b,H,I.tok _,rfl,q⟩
def K7 (hu:X.A.units < pc):iC X (mo .NotEq) (λx y H Q=>∃p q xs,x=.ref p/\y=.ref q/\c7 X.K H p xs/\c7 X.K H q []/\Q (.bl (!xs.isEmpty)) H):=by
 intro Z s σ H x y v u Q I rx ry h;obtain⟨p,q,xs,rfl,rfl,hp,hq,k⟩:=h;cases rx;cases ry;obtain⟨aq,r,pl,hz⟩:=I.list hp;obtain⟨cH,r2,Y2,hz2⟩:=I.list hq;cases r2;cases xs with
 | nil=>
  cases r;refine Ea (Fi (e:=λ_=>true) pl.isList Y2.isList rfl hu λj h1=>absurd h1 (by simp)) ?_;exact⟨.bl false,H,I,rfl,k⟩
 | cons y ys=>
  have hl:=r.length;refine Ea (DQ pl.isList Y2.isList (by simp at hl ⊢;intro z;subst z;simp at hl) hu) ?_;exact⟨.bl true,H,I,rfl,k⟩
def qx (l:ce) (items:Array bn) (n:Nat) (b:ce) (bJ:Array bn) (n2:Nat) (dd:Option ce) (sl:Array (Option bn)) (hs0:¬(!items.isEmpty&&Builtin.List.listTooLong (items.size+bJ.size))=true) (GH:items.size<=sizeLine) (qY:items.size+bJ.size<=sizeLine+1) :
  Meets (u8.«list.extend» ⟨[.ref l,.ref b],[]⟩) (λ_ R s=>s.heap.get? l=am {cls:=.type "list",dict:=bm,data:=.seq items n,slots:=#[]}/\s.heap.get? b=am {cls:=.type "tuple",dict:=dd,data:=.seq bJ n2,slots:=sl}/\R (.ok (.ret AM)) {s with heap:=s.heap.update l (Bi λx=>x++bJ),toks:=s.toks}):=
 .of_wp λprog w A R s h=>by
  obtain⟨hp,g,d,tk,os⟩:=s;obtain⟨hl,hb,h⟩:=h;have f1:=Es;have f2:=Di;have f3:=DA;have f4:=Ds;have f5:=Du;have Lz:(items++bJ).size<=sizeLine+1:=by rw [Array.size_append];exact qY
  wp_walk using (Cv hl rfl (hz:=GH) (_hz':=Lz)),BS hl,BS hb;exact⟨_,rfl,h⟩
def Nm (K:Ab):V->List V->Hp->VK->Prop:=λx vs H Q=>∃l b xs zs,x=.ref l/\vs=[.ref b]/\H l=am (.lst xs)/\d4 K H b zs/\xs.length+zs.length<=sizeLine/\Q .aG (upd H l (.lst (xs++zs)))
theorem Hj:Kw X "list.extend" (Nm X.K):=by
 intro Z s σ H x vs v us Q I rx rv h;obtain⟨l,b,xs,zs,rfl,rfl,hH,hB,hz,q⟩:=h;cases rx;obtain⟨u,rfl,ru⟩:=rv.one;cases ru;obtain⟨z,aq,n,r,hl,e⟩:=I.qv hH;obtain⟨cH,r2,⟨⟨cls,dd,data,sl⟩,e2,hc,n2,hd⟩,z2⟩:=I.tuple hB;simp only at hc hd;subst hc hd;have Qf:=r2.length;have hsz:aq.toArray.size+cH.toArray.size<=sizeLine:=by rw [Aj,Aj];omega
 have sS:¬(!aq.toArray.isEmpty&&Builtin.List.listTooLong (aq.toArray.size+cH.toArray.size))=true:=by
  rw [nI hsz,D5];exact A3
 refine sK DS ⟨_,e,rfl⟩ DE (Dr _ _)
  (qx l aq.toArray n b cH.toArray n2 dd sl sS (by rw [Aj];omega) ∅) ⟨e,e2,?_⟩
 refine⟨.aG,_,I.Hq (its':=aq++cH) hH e (by simp) (r.append r2) ?_,rfl,q⟩;rw [Ai];omega
end
end L2
variable {o:L2.HO}{k':Nat}{bD:B9}
namespace L2
open PySem PySem.Spec PyProof.Rows
def oQ (l:ce) (H H':Hp):Prop:=∀b u,b≠l->H b=am u->H' b=am u
def iH {p:ce} (h:H p=bm) (o:HO):kW H (upd H p o):=λb u q=>by rw [av (bq q h)];exact q
def KY {p:ce} (o:HO):oQ p H (upd H p o):=λb u n q=>by rw [av n];exact q
def lO (H:Hp) (o:HO) (Q:VK):Prop:=∀p H',kW H H'->H' p=am o->H p=bm->Q (.ref p) H'
def lO.at {Q:VK} (h:lO H o Q) (p:ce) (hp:H p=bm):Q (.ref p) (upd H p o):=h p _ (iH hp o) aM hp
def yW (H:Hp) (l:ce) (o:HO) (Q:Hp->Prop):Prop:=∀H',oQ l H H'->H' l=am o->Q H'
def yW.at {Q:Hp->Prop} (h:yW H l o Q):Q (upd H l o):=h _ (KY o) aM
def iC.mono {f:bn->bn->Sem bn}{r r':R2} (h:iC X f r) (hr:∀x y H Q,r' x y H Q->r x y H Q):iC X f r':=λZ s σ H x y v u Q I rx ry q=>h Z s σ H x y v u Q I rx ry (hr _ _ _ _ q)
def bP.mono {f:bn}{r r':List V->Hp->VK->Prop} (h:bP X f r) (hr:∀xs H Q,r' xs H Q->r xs H Q):bP X f r':=λZ s σ H xs us Q I rx q=>h Z s σ H xs us Q I rx (hr _ _ _ q)
def Kw.mono {id:String}{r r':V->List V->Hp->VK->Prop} (h:Kw X id r) (hr:∀x xs H Q,r' x xs H Q->r x xs H Q):Kw X id r':=λZ s σ H x xs v us Q I rx rv q=>h Z s σ H x xs v us Q I rx rv (hr _ _ _ _ q)
def Md.mono {r r':P6} (h:Md X r) (hr:∀o i v H Q,r' o i v H Q->r o i v H Q):Md X r':=λZ s σ H o i v ov iv u Q I ro ri rv q=>h Z s σ H o i v ov iv u Q I ro ri rv (hr _ _ _ _ _ q)
section
variable {o:ii}{t:TA}
def Yn (t:TA):TE:=λσ H Q=>t σ H λxs H1=>xs.length<=sizeLine/\lO H1 (.tup xs) Q
def Yt (t:TA):TE:=λσ H Q=>t σ H λxs H1=>xs.length<=sizeLine/\lO H1 (.lst xs) Q
def Q6 {x1} (h:PA X es t):PE X (.Tuple es x1 pos) (Yn t):=by
 intro Z s σ H Q I hq;refine wpAny_Tuple_spliced (bV (h pos Z s σ H _ I hq) λus s1 ⟨xs,H1,I1,r,z,q⟩=>⟨by rw [<- r.length];exact z,?_⟩);have hf:=I1.br.fresh (An _);refine⟨.ref s1.heap.objs.size,upd H1 s1.heap.objs.size (.tup xs),I1.laid (t':=s1.toks) (λb u e=>Ag _ e) (An _) ?_,rfl,q.at _ hf⟩;exact⟨z,us,r,⟨_,Ap _ rfl,rfl,_,rfl⟩⟩
def Q9 (h:PA X es t):PE X (.List es pos) (Yt t):=by
 intro Z s σ H Q I hq;refine wpAny_List_spliced (bV (h pos Z s σ H _ I hq) λus s1 ⟨xs,H1,I1,r,z,q⟩=>⟨by rw [<- r.length];exact z,?_⟩);have hf:=I1.br.fresh (An _);refine⟨.ref s1.heap.objs.size,upd H1 s1.heap.objs.size (.lst xs),I1.laid (t':=s1.toks) (λb u e=>Ag _ e) (An _) ?_,rfl,q.at _ hf⟩;exact⟨z,us,0,r,Ap _ rfl⟩
def Ts (K:Ab):R2:=λx y H Q=>match x with
 | .int i=>∃j,y=.int j/\Q (.int (i+j)) H
 | .str i=>∃j,y=.str j/\i.length+j.length<=sizeLine/\Q (.str (i++j)) H
 | .ref a=>(∃b xs zs,y=.ref b/\H a=am (.lst xs)/\H b=am (.lst zs)/\xs.length+zs.length<=sizeLine/\lO H (.lst (xs++zs)) Q)\/Tv K x y H Q
 | _=>False
def Ro:iC X (sn .Add) (Ts X.K):=by
 refine ((VH.or He).or (VG.or JI)).mono λx y H Q h=>?_;cases x with
 | int i=>obtain⟨j,rfl,q⟩:=h;exact .inl (.inl ⟨i,j,rfl,rfl,q⟩)
 | str i=>obtain⟨j,rfl,hl,q⟩:=h;exact .inl (.inr ⟨i,j,rfl,rfl,hl,q⟩)
 | ref a=>
  rcases h with⟨b,xs,zs,rfl,h1,h2,hz,q⟩ | h
  ·exact .inr (.inl ⟨a,b,xs,zs,rfl,rfl,h1,h2,hz,λp hp=>q.at p hp⟩)
  ·exact .inr (.inr h)
 | _=>exact h.elim
def Rj:iC X (sn .Mult) (rI ww λi j=>.int (i*j)):=opI λ_ _ _ _ _ _ _ hc q=>mul_int q hc
def IE:bP X (.type "list") (λxs H Q=>∃p ys,xs=[.ref p]/\(c7 X.K H p ys\/d4 X.K H p ys)/\lO H (.lst ys) Q):=yp.mono λxs H Q ⟨p,ys,e,h,q⟩=>⟨p,ys,e,h,λl hl=>q.at l hl⟩
def Nn:V->List V->Hp->VK->Prop:=λx vs H Q=>∃l xs y,x=.ref l/\vs=[y]/\H l=am (.lst xs)/\xs.length < sizeLine/\yW H l (.lst (xs++[y])) (Q .aG)
def Hk:Kw X "list.append" Nn:=La.mono λx xs H Q ⟨l,ys,y,e1,e2,h,hz,q⟩=>⟨l,ys,y,e1,e2,h,hz,q.at⟩
def K1 (K:Ab):V->List V->Hp->VK->Prop:=λx vs H Q=>∃l b xs zs,x=.ref l/\vs=[.ref b]/\H l=am (.lst xs)/\d4 K H b zs/\xs.length+zs.length<=sizeLine/\yW H l (.lst (xs++zs)) (Q .aG)
def zI:Kw X "list.extend" (K1 X.K):=Hj.mono λx xs H Q ⟨l,b,ys,zs,e1,e2,h1,h2,hz,q⟩=>⟨l,b,ys,zs,e1,e2,h1,h2,hz,q.at⟩
def YR:V->List V->Hp->VK->Prop:=λx vs H Q=>∃l xs y,x=.ref l/\vs=[]/\H l=am (.lst (xs++[y]))/\yW H l (.lst xs) (Q y)
def Rz:Kw X "list.pop" YR:=VU.mono λx xs H Q ⟨l,ys,y,e1,e2,h,q⟩=>⟨l,ys++[y],y,e1,e2,h,by simp,by rw [List.dropLast_concat];exact q.at⟩
def Vc:P6:=λo i v H Q=>∃p xs k j,o=.ref p/\i=.int k/\H p=am (.lst xs)/\uB xs.length k=am j/\yW H p (.lst (xs.set j v)) Q
def KR:Md X Vc:=set_list.mono λo i v H Q ⟨p,xs,k,j,e1,e2,h,hj,q⟩=>⟨p,xs,k,j,e1,e2,h,hj,q.at⟩
end
section
variable (K:Ab) (hK:X.K=K) {o:ii}{to:TE}{t:TA}{name:Str}{XD:String}{r:V->List V->Hp->VK->Prop}{l:ii}
include hK
def RZ:Qk X (rIx K):=hK▸Wk
def Rn:iC X (sn .Add) (Ts K):=hK▸Ro
def Vf (K:Ab):List V->Hp->VK->Prop:=λxs H Q=>∃x n,xs=[x]/\aaS K x H n/\Q (.int n) H
def vD:bP X (.builtin "len") (Vf K):=hK▸PF
def Nk (K:Ab):List V->Hp->VK->Prop:=λxs H Q=>∃p ys,xs=[.ref p]/\(c7 K H p ys\/d4 K H p ys)/\lO H (.lst ys) Q
def ID:bP X (.type "list") (Nk K):=hK▸IE
def Ve (K:Ab):R2:=λx y H Q=>∃p q xs,x=.ref p/\y=.ref q/\c7 K H p xs/\c7 K H q []/\Q (.bl (!xs.isEmpty)) H
def Hc (hu:X.A.units < pc):iC X (mo .NotEq) (Ve K):=hK▸K7 hu
def acG (K:Ab) (ta:TE):TT:=λσ H Q=>ta σ H λx H'=>∃k,Xm K x H' k/\Q k H'
def uY (ha:PE X a ta) (he:∀Æ,isTrue a X.env Æ=(do let v <- Æ;standAt a.pos;zn [v] (truthy v))):PT X a (acG K ta):=hK▸Nt ha he
def NA (hl:PE X l tl):PI X tg l (T6 K tl):=hK▸Q2 hl
def Ra (pa:PlainAttrs T) (slot:Slot T name XD) (Wv:typeOf (.builtin XD)=pure (.type "method_descriptor")) (hm:MtR X XD r) (ho:PE X o to)
  (eJ:o0 o name X.env (kw o X.env)=kw o X.env:=by rfl) (eI:Qm Ã bD:=by rfl):PE X (.Call (.Attribute o name Ã) [] [] bD) (Yy K T r to):=hK▸Vv pa slot Wv hm ho eJ eI
def rV (pa:PlainAttrs T) (slot:Slot T name XD) (Wv:typeOf (.builtin XD)=pure (.type "method_descriptor")) (hm:MtR X XD r) (ho:PE X o to) (ha:PA X (e::es) t)
  (eJ:o0 o name X.env (kw o X.env)=kw o X.env:=by rfl)
  (pM:Xt X bD (e::es):=by rfl)
  (eI:Qm Ã bD:=by rfl) (hs:gM X e es:=by rfl) (eX:lT X bD es:=by rfl) :
  PE X (.Call (.Attribute o name Ã) (e::es) [] bD) (tBM K T r to t):=hK▸Y5 pa slot Wv hm ho ha eJ pM eI hs eX
omit hK
end
structure Tc (P:tt) (w:t0) (K:Ab) (mg:Str->Option bn) (base:lf) (x:Str) (k:Nat) (ps:List Str) (sp:Sp) where
 f:ce
 fd:Ev
 ok:iZ P w K mg base my k f fd ps sp
 bi:Binds K fd ps []
 kp:DN K (.ref f)=true
 at':mg x=am (.ref f)
section
variable {t:TA}
def Yx (sp:Sp) (t:TA):TE:=λσ H Q=>t σ H λvs H1=>sp vs H1 Q E0
def NJ (G:Tc X.prog X.w X.K X.mg X.base x k ps sp) (hr:cC k' X.A) (hk:k<=k') (hg:Gl X x) (ha:PA X (e::es) t) (om:i5 x:=by decide)
  (he:gM X e es:=by rfl) (dH:lT X pos es:=by rfl) :
  PE X (.Call (.Name x p) (e::es) [] pos) (Yx sp t):=by
 intro Z s σ H Q I h;refine BD (JX I hg G.at' ?_ om);refine PySem.W.callWith_K (h₀:=X.base) I.ok.mod.kin G.kp (bV (ha pos Z s σ H _ I h) λus s1 ⟨vs,H1,I1,r,q⟩=>⟨I1.vg,?_⟩) he dH;refine U4 (dvs:=[]) (ds:=[]) G.ok (hr.mono hk) G.bi .nil Y7 I1 r ?_;rw [Cz];exact q
end
section
theorem PU {xs:List α} (h0:0<=i) (h1:i < xs.length):∃v,dq xs i=am v/\xs[i.toNat]?=am v:=by
 have hk:i.toNat < xs.length:=by omega
 have q:=eK (by rw [Ad hk]);have e:((i.toNat:Nat):Int)=i:=by omega
 rw [e] at q;exact⟨_,q,by rw [Ad hk]⟩
def TC {j:Int} (h1:-18446744073709551616 < i) (h2:i < 18446744073709551616):ww i j:=Td.ok (.inl ⟨h1,h2⟩)
def mul_r {j:Int} (h1:-18446744073709551616 < j) (h2:j < 18446744073709551616):ww i j:=Td.ok (.inr ⟨h1,h2⟩)
end
def cv (h:n<=1000):n<=sizeLine:=DL (KQ h)
section
variable (K:Ab) (hK:X.K=K)
include hK
def Vi (K:Ab):R2:=λx y H Q=>∃p q xs,x=.ref p/\y=.ref q/\c7 K H p xs/\c7 K H q []/\Q (.bl xs.isEmpty) H
def Hd (hu:X.A.units < pc):iC X (mo .Eq) (Vi K):=by
 subst hK;intro Z s σ H x y v u Q I rx ry h;obtain⟨p,q,xs,rfl,rfl,hp,hq,k⟩:=h;cases rx;cases ry;obtain⟨aq,r,pl,hz⟩:=I.list hp;obtain⟨cH,r2,Y2,hz2⟩:=I.list hq;cases r2;cases xs with
 | nil=>
  cases r;refine EJ (Fu (e:=λ_=>true) pl.isList Y2.isList rfl hu λj h1=>absurd h1 (by simp)) ?_;exact⟨.bl true,H,I,rfl,k⟩
 | cons y ys=>
  have hl:=r.length;refine EJ (Ed pl.isList Y2.isList (by simp at hl ⊢;intro z;subst z;simp at hl) hu) ?_;exact⟨.bl false,H,I,rfl,k⟩
omit hK
end
end L2
variable {p1:B9}
namespace L2
open PySem PySem.Spec PyProof.Rows
theorem Vals.rR:∀{xs:List V}{us:List bn},Vals xs us->Vals xs.reverse us.reverse
 | _,_,.nil=>.nil
 | _,_,.cons h t=>by rw [CH,CH];exact (Vals.rR t).append (.cons h .nil)
def V1:EQ (.type "list_reverseiterator") (B7 "__len__")=pure bm:=by kernel_rfl
def RE:EQ (.type "list_reverseiterator") (B7 "__length_hint__")=pure (am (.builtin "list_reverseiterator.__length_hint__")):=by kernel_rfl
def QG:splitId "list_reverseiterator.__length_hint__"=am ("list_reverseiterator","__length_hint__"):=by kernel_rfl
def QA:isSubtype (.type "list_reverseiterator") (.type "list_reverseiterator")=pure true:=by kernel_rfl
def OE {r:ce}{Q:Bool->ci->Prop} (h:s.heap.IsRevIter r l i) (q:Q false s):db (dL prog w) A (Builtin.List.listLengthHint (Ax r)) Q E s:=by
 refine Aa (EK h.typeIs V1 ?_);refine Aa (EK h.typeIs RE ?_);dsimp only;rw [QG];dsimp only;refine Aa (Dj h.typeIs QA ?_);rw [if_neg ⋯];exact Ae q
def uw {r S:ce} (hA:A.handled=bm) (h:s.heap.IsRevIter r l (items.size-1)) (hl:s.heap.IsList l items) (Sg:l≠r) (Ĥ:S≠r) (hSl:S≠l) (hz:items.size<=sizeLine)
  (hS:s.heap.get? S=am {cls:=BR "list",data:=EZ #[]})
  (q:∀(h':lf) (tk:Nat) (Å:Array bn) (c:Nat),(∀b o,b≠S->b≠r->s.heap.get? b=am o->h'.get? b=am o)->h'.get? S=am {cls:=BR "list",data:=EZ Å c}->ItemsOf (λi v=>items[items.size-1-i]?=am v) Å items.size->R (.ok (.ret .none)) {s with heap:=h',toks:=tk}) :
  db (dL prog w) A.in1 (u8.«list.__init__» {pos:=[Ax S,Ax r]})
   (λfin s'=>match fin with | EY f=>R (Except.ok f) s' | Fin.again c'=>c'.quiet=true/\BT (dL prog w) A c' R s') (λe s'=>R (Except.error e) s') s:=by
 unfold u8.«list.__init__»;refine Aa (wpAny_listItems hS rfl ?_);refine Aa ?_;refine Cv hS rfl ?_ (by simp) (by simp);refine Aa (Cs ?_);have k1:∀b o,b≠S->s.heap.get? b=am o->(s.heap.update S (Bi λ_=>#[])).get? b=am o:=λb o hb e=>by rw [BI _ _ (BA hb)];exact e
 have hS1:=BQ (Bi λ_=>#[]) hS rfl;generalize s.heap.update S (Bi λ_=>#[])=h1 at k1 hS1 ⊢;have ø:h1.IsRevIter r l (items.size-1):=let ⟨o,e,p⟩:=h;⟨o,k1 _ _ (BA Ĥ) e,p⟩;have Ĝ:h1.IsList l items:=let ⟨o,e,p⟩:=hl;⟨o,k1 _ _ (BA hSl) e,p⟩;unfold Builtin.List.listExtendWith;refine Aa (Et (T:="list_reverseiterator") ø.typeIs ?_);rw [if_neg (by
  have e1:Builtin.List.listSameRef (Ax S) (Ax r)=false:=by
   unfold Builtin.List.listSameRef;simpa using Ĥ
  rw [e1];decide)]
 refine Aa (wpAny_pyIter_revIter ø ?_);refine Aa (Bk (OE ø ?_));rw [if_neg ⋯];refine Ae ⟨ut F.plain_extend_loop _,?_⟩;refine codeAny_extend_loopS (Walks.toS (Walks.listRev (A:=A.in1) hA r l Sg items)) hz S (by simp [Ĥ,hSl]) .none items.size 0 _ #[] _ (Fp _) (A9 _) ⟨A9 _,by simpa using ø,Ĝ⟩ hS1 (ItemsOf.nil _) ?_;intro s' Å c mv e io;rw [mv.eq_with];exact q s'.heap s'.toks Å c (λb o n1 n2 e'=>mv.heap b o (by simp [n1,n2]) (k1 b o n1 e')) e io
def uL {r:ce} (hA:A.handled=bm) (h:s.heap.IsRevIter r l (items.size-1)) (hl:s.heap.IsList l items) (Sg:l≠r) (hz:items.size<=sizeLine)
  (q:∀(h':lf) (tk:Nat) (Å:Array bn) (c:Nat),(∀b o,b≠r->s.heap.get? b=am o->h'.get? b=am o)->h'.get? s.heap.objs.size=am {cls:=BR "list",data:=EZ Å c}->ItemsOf (λi v=>items[items.size-1-i]?=am v) Å items.size->Q (.ref s.heap.objs.size) {s with heap:=h',toks:=tk}) :
  db (dL prog w) A (call (BR "list") [Ax r]) Q E s:=by
 have lr:=let ⟨_,e,_⟩:=h;Ar e;have ll:=let ⟨_,e,_⟩:=hl;Ar e;refine callType_codes F.called_list (F.typeCall_list_1 _) F.entry_list_init (code_list_new (Q₁:=λv s₁=>v=.ref s.heap.objs.size/\s₁={s with heap:=s.heap.push {cls:=BR "list",data:=EZ #[]}}) _ ⟨rfl,rfl⟩) ?_;rintro obj s₁ ⟨rfl,rfl⟩;refine⟨⟨_,Ap _ rfl,rfl⟩,F.args_list_init_2 _ _,?_⟩;have kp:∀b o,s.heap.get? b=am o->(s.heap.push {cls:=BR "list",data:=EZ #[]}).get? b=am o:=λb o e=>Ag _ e;refine uw (A:=A.in1) (items:=items) (l:=l) hA (let ⟨o,e,p⟩:=h;⟨o,kp _ _ e,p⟩) (let ⟨o,e,p⟩:=hl;⟨o,kp _ _ e,p⟩) Sg (λz=>by rw [z] at lr;exact AU _ lr) (λz=>by rw [z] at ll;exact AU _ ll) hz (Ap _ rfl) ?_;intro h' tk Å c k e io;exact⟨rfl,q h' tk Å c (λb o n e'=>k b o (λz=>by rw [z] at e';exact AU _ (Ar e')) n (kp b o e')) e io⟩
def tLR (K:Ab) (te:TE):TE:=λσ H Q=>te σ H λx H1=>∃p ys,x=.ref p/\c7 K H1 p ys/\lO H1 (.lst ys.reverse) Q
section
variable (K:Ab) (hK:X.K=K) {q1 q2:Pos}
include hK
theorem Hb (hc:X.calm=true) (ğ:Gl X "list") (ý:X.mg "list"=bm) (Ğ:Gl X "reversed") (XF:X.mg "reversed"=bm) (he:PE X e te)
  (GH:f8 [.Call (.Name "reversed" q1) [e] [] q2] X.env=(false,kw (.Call (.Name "reversed" q1) [e] [] q2) X.env)::f8 [] X.env:=by rfl) (qY:gM X e []:=by rfl) :
  PE X (.Call (.Name "list" p1) [.Call (.Name "reversed" q1) [e] [] q2] [] p2) (tLR K te):=by
 intro Z s σ H Q I h;subst hK;refine BD (ib I ğ ý boot_list ?_ ⋯ ⋯);refine Bd ?_ GH rfl;refine Cd ?_;refine BD (ib I Ğ XF boot_reversed ?_ ⋯ ⋯);refine Bd ?_ qY rfl;rw [qY];refine Cd (bV (he Z s σ H _ I h) λu s1 ⟨x,H1,I1,r1,pa,ys,ex,hS,q⟩=>CG ?_);subst ex;cases r1;obtain⟨aq,rv,pl,hz⟩:=I1.list hS;have Â:=rv.length;have lp:=let ⟨_,e,_⟩:=pl.isList;Ar e;refine call_reversed_list pl.isList ?_;refine CG ?_;have kp:∀b o,s1.heap.get? b=am o->(s1.heap.push (revObj pa (aq.toArray.size-1))).get? b=am o:=λb o e=>Ag _ e;refine uL (items:=aq.toArray) (l:=pa) (r:=s1.heap.objs.size) (I1.ok.hd hc) ⟨_,Ap _ rfl,rfl,rfl⟩ (let ⟨o,e,p⟩:=pl.isList;⟨o,kp _ _ e,p⟩) (λz=>by rw [z] at lp;exact AU _ lp) (by rw [Aj];omega) ?_;intro h' tk Å c k e io;have kk:∀b o,s1.heap.get? b=am o->h'.get? b=am o:=λb o eb=>k b o (λz=>by rw [z] at eb;exact AU _ (Ar eb)) (kp b o eb);have ea:Å=aq.reverse.toArray:=by
  obtain⟨z1,z2⟩:=io;apply Array.ext
  ·rw [z1,Aj,Aj,B5]
  ·intro j h1 h2;have:=z2 j Å[j] (CP h1);rw [Aj] at this;have hj:j < aq.length:=by rw [z1,Aj] at h1;exact h1
   rw [EW] at this;have e3:aq.reverse[j]?=am Å[j]:=by rw [List.getElem?_reverse hj];exact this
   rw [Dx];exact (Option.some.inj (((Ad (by rw [B5];exact hj)).symm.trans e3))).symm
 subst ea;have qY:s1.heap.objs.size<=(s1.heap.push (revObj pa (aq.toArray.size-1))).objs.size:=by simp [Heap.push]
 refine⟨.ref _,upd H1 _ (.lst ys.reverse),I1.laid (t':=tk) kk qY ?_,rfl,q.at _ (I1.br.fresh qY)⟩;exact⟨by rw [B5];exact hz,aq.reverse,c,rv.rR,e⟩
end
end L2
namespace My
open PySem PySem.Spec PyProof.Rows L2
def Wd (x:Str):Prop:=1<=x.length/\x.length<=8/\∀c∈x.cps.toList,97<=c/\c < 123
def Part (x:Str) (n:Nat):Prop:=x.length<=n/\∀c∈x.cps.toList,97<=c/\c < 123
theorem ux {d st:Int} (h:st=1\/st=3\/st=5\/st=7\/st=9\/st=11) (hn:n<=26):((Az n).map λk:Nat=>am (97+((d+st*(0+(k:Int))) % 26).toNat)).Nodup:=by
 unfold List.Nodup;rw [Ec];refine List.Pairwise.imp_of_mem ?_ C8;intro a b ha hb OO hz;have ÿ:=AY.mp hb;have Lz:=Option.some.inj hz;rcases h with rfl | rfl | rfl | rfl | rfl | rfl <;> omega
def wD {g:α->β}{l:List α} (h:(l.map g).Nodup):l.Nodup:=(Ec.mp h).imp λh e=>h (congrArg g e)
def Ht:∀k:_root_.Fin 26,dq ("abcdefghijklmnopqrstuvwxyz":Str).cps.toList (k.val:Int)=am (97+k.val):=by decide +kernel
theorem Ll {n:Int} (h0:0<=n) (h1:n < 26):dq ("abcdefghijklmnopqrstuvwxyz":Str).cps.toList n=am (97+n.toNat):=by
 have e:=Ht ⟨n.toNat,by omega⟩;have e2:((n.toNat:Nat):Int)=n:=by omega
 rw [e2] at e;exact e
inductive Tr where
 | leaf (x:Str)
 | node (l r:Tr)
def Tr.ax:Tr->List Str
 | .leaf x=>[x]
 | .node l r=>l.ax++r.ax
def Tr.size:Tr->Nat
 | .leaf _=>1
 | .node l r=>l.size+r.size+1
def Tr.depth:Tr->Nat
 | .leaf _=>0
 | .node l r=>max l.depth r.depth+1
def Tr.Ws (t:Tr):Prop:=∀x∈t.ax,Wd x
theorem Tr.jo:∀t:Tr,1<=t.ax.length
 | .leaf _=>An _
 | .node l r=>by have:=l.jo;show 1<=(l.ax++r.ax).length;rw [Ai];omega
theorem Tr.oA:∀t:Tr,t.depth < t.ax.length
 | .leaf _=>Ek 0
 | .node l r=>by
  have h1:=l.oA;have h2:=r.oA;have h3:=l.jo;have h4:=r.jo;show max l.depth r.depth+1 < (l.ax++r.ax).length;rw [Ai];omega
theorem Tr.size_eq:∀t:Tr,t.size+1=2*t.ax.length
 | .leaf _=>rfl
 | .node l r=>by
  have h1:=l.size_eq;have h2:=r.size_eq;show l.size+r.size+1+1=2*(l.ax++r.ax).length;rw [Ai];omega
def eN (ts:List Tr):Nat:=(ts.map Tr.size).sum
def fP (a b:List Tr):eN (a++b)=eN a+eN b:=by unfold eN;rw [AN,List.sum_append]
def pd (t:Tr):eN [t]=t.size:=by simp [eN]
theorem Tr.size_pos:∀t:Tr,1<=t.size
 | .leaf _=>An _
 | .node l r=>by show 1<=l.size+r.size+1;omega
theorem u9:∀ts:List Tr,ts.length<=eN ts
 | []=>An _
 | t::r=>by have:=u9 r;have:=t.size_pos;show r.length+1<=t.size+eN r;omega
def Tr.post:Tr->List Tr
 | .leaf x=>[.leaf x]
 | .node l r=>l.post++r.post++[.node l r]
def Tr.kr:∀t:Tr,t.post.length=t.size
 | .leaf _=>rfl
 | .node l r=>by show (l.post++r.post++[_]).length=l.size+r.size+1;rw [Ai,Ai,l.kr,r.kr];rfl
def iJ (ts:List Tr):List Tr:=(ts.map Tr.post).flatten
def jg (a b:List Tr):iJ (a++b)=iJ a++iJ b:=by unfold iJ;rw [AN,List.flatten_append]
def pw (t:Tr):iJ [t]=t.post:=by simp [iJ]
def K2 (t u:Tr):iJ [t,u]=t.post++u.post:=by simp [iJ]
inductive Ent where
 | word (x:Str)
 | pair (a b:Nat)
def Tr.nd:Tr->Nat->List Ent
 | .leaf x,_=>[.word x]
 | .node l r,o=>l.nd o++r.nd (o+l.size)++[.pair (o+l.size-1) (o+l.size+r.size-1)]
def Tr.ba:∀(t:Tr) (o:Nat),(t.nd o).length=t.size
 | .leaf _,_=>rfl
 | .node l r,o=>by show (l.nd o++r.nd (o+l.size)++[_]).length=l.size+r.size+1;rw [Ai,Ai,l.ba,r.ba];rfl
def run:List Tr->List Ent->List Nat->Option (List Ent×List Nat)
 | [],À,ls=>am (À,ls)
 | .leaf x::k,À,ls=>run k (À++[.word x]) (À.length::ls)
 | .node _ _::k,À,b::a::ls=>run k (À++[.pair a b]) (À.length::ls)
 | .node _ _::_,_,_=>bm
theorem rQ:∀(t:Tr) (k:List Tr) (À:List Ent) (ls:List Nat),run (t.post++k) À ls=run k (À++t.nd À.length) ((À.length+t.size-1)::ls)
 | .leaf x,k,À,ls=>rfl
 | .node l r,k,À,ls=>by
  have e1:(Tr.node l r).post++k=l.post++(r.post++(Tr.node l r::k)):=by show l.post++r.post++[_]++k=_;simp
  rw [e1,rQ l,rQ r];have e2:(À++l.nd À.length).length=À.length+l.size:=by rw [Ai,l.ba]
  rw [e2];show run k _ _=run k _ _;have e3:(À++l.nd À.length++r.nd (À.length+l.size)).length=À.length+(Tr.node l r).size-1:=by
   rw [Ai,Ai,l.ba,r.ba];show _=À.length+(l.size+r.size+1)-1;omega
  rw [e3];have e4:À++(Tr.node l r).nd À.length=À++l.nd À.length++r.nd (À.length+l.size)++[.pair (À.length+l.size-1) (À.length+l.size+r.size-1)]:=by
   show À++(l.nd À.length++r.nd (À.length+l.size)++[_])=_;simp
  rw [e4]
def KZ (t:Tr):run t.post [] []=am (t.nd 0,[t.size-1]):=by
 have:=rQ t [] [] [];rw [Cz] at this;rw [this];show am ([]++t.nd 0,[0+t.size-1])=_;simp
end My
variable {xs:List L2.V}{x:AZ}{σ:L2.St}{i:Nat}
namespace L2
open PySem PySem.Spec PyProof.Rows
def gT {t:ce} (h:s.heap.IsTupleIter it t i) (ht:s.heap.IsTuple t items) (hx:items[i]?=am x)
  (q:∀h':lf,h'.IsTupleIter it t (i+1)->B8 it s.heap h'->Q x {s with heap:=h'}):db (dL prog w) A (Builtin.SmallTypes.nextOf (.ref it)) Q E s:=by
 unfold Builtin.SmallTypes.nextOf;refine Aa (A5 h.typeIs Cc (Bl Cc h.typeIs DJ ?_ (Dz _)));obtain⟨o,ho,hc,hd⟩:=id h;obtain⟨ot,ě,htc,n,ĕ⟩:=id ht;show db _ _ (field (.ref it) 0 >>= λseq=>_) _ _ s;refine Aa (A4 ho hd rfl ?_);refine Aa (A4 ho hd rfl ?_);refine Aa (Bq ě ĕ ?_);show db _ _ (match items[i]? with | some x=>(do wn (.ref it) 1 (ul ((i:Int)+1));ret x) | none=>_) _ _ s;rw [hx];refine Aa (DV ho hd (show 1 < 2 by decide) ?_);refine Ae ⟨x,rfl,Ae (q _ ⟨_,BQ _ ho (by rw [ER (CY hd _)]),by rw [Obj.cls_mapFields];exact hc,by rw [CY hd];rfl⟩ (B8.update ..))⟩
def QC {Q:α->ci->Prop} (hA:A.handled=bm)
  (q:∀(h':lf) (e:ce),(∀b o,s.heap.get? b=am o->h'.get? b=am o)->(∃o,h'.get? e=am o/\o.cls=.type "StopIteration")->E (.ref e) {s with heap:=h'}):db (dL prog w) A (Builtin.SmallTypes.stopIteration (α:=α)) Q E s:=by
 refine Aa ?_;refine Aa (CK ?_ (by show 0<=sizeLine;decide));refine Aa (Cr (a:=AM) rfl ?_);refine A1 ?_ (sizeOk_excFields ..);unfold raiseNew;refine Aa (wpAny_handled ?_);rw [hA];refine wpAny_throw (q _ _ (λb o e=>Ag _ (Ag _ e)) ⟨_,Ap _ rfl,rfl⟩)
def iL {t:ce} (hA:A.handled=bm) (h:s.heap.IsTupleIter it t i) (ht:s.heap.IsTuple t items) (hx:items[i]?=bm)
  (q:∀(h':lf) (e:ce),Fx it s.heap h'->(∃o,h'.get? e=am o/\o.cls=.type "StopIteration")->E (.ref e) {s with heap:=h'}):db (dL prog w) A (Builtin.SmallTypes.nextOf (.ref it)) Q E s:=by
 unfold Builtin.SmallTypes.nextOf;refine Aa (A5 h.typeIs Cc (Bl Cc h.typeIs DJ ?_ (Dz _)));obtain⟨o,ho,hc,hd⟩:=id h;obtain⟨ot,ě,htc,n,ĕ⟩:=id ht;show db _ _ (field (.ref it) 0 >>= λseq=>_) _ _ s;refine Aa (A4 ho hd rfl ?_);refine Aa (A4 ho hd rfl ?_);refine Aa (Bq ě ĕ ?_);show db _ _ (match items[i]? with | some x=>(do wn (.ref it) 1 (ul ((i:Int)+1));ret x) | none=>(do rule _;wn (.ref it) 0 .none;Builtin.SmallTypes.stopIteration)) _ _ s;rw [hx];refine Aa (CZ ?_);refine Aa (DV ho hd (show 0 < 2 by decide) ?_);refine QC (A:=A.in1) hA λh' e k ex=>q h' e (λb o n eb=>k b o ?_) ex;rw [(B8.update _ _ _).2 b n];exact eb
def Inv.rH {t':Nat}{a:ce} (I:Inv X Z σ H s) (hf:∀b∈ch,uO X Z H b) (k:∀b u,b∉ch->s.heap.get? b=am u->h'.get? b=am u)
  (hp:s.heap.objs.size<=a) (new:a7 X.prog X.w (upd H a o) h' a o):Inv X Z σ (upd H a o) {s with heap:=h',toks:=t'}:=by
 have hn:=I.br.fresh hp;have TB:∀b u,H b=am u->b∉ch:=λb u e z=>by rw [(hf b z).1] at e;cases e
 have nL:X.env.locals∉ch:=λz=>(hf _ z).2.1 rfl;refine I.step (g':=s.gens) (d':=s.drawn) (ch:=ch) (λb hb=>⟨(hf b hb).2.2.2.1,(hf b hb).2.1,(hf b hb).2.2.2.2.1,(hf b hb).2.2.2.2.2⟩) (λb u _ _ hc e _=>k b u hc e) (λb u _ _ hc e _=>⟨u.slots,k b u hc e⟩)
  (λb u _ e n=>by rw [av (AA (AD (Ar e) hp))];exact n) (λb u hc e=>⟨u,k b u hc e⟩) (λb xs e=>by rw [av (bq e hn)];exact e) (λb u xs e=>by rw [av (bq e hn)];exact e)
  (λb ps e=>⟨#[],by rw [av (bq e hn),e];simp⟩) (λm hm=>?_) (λb u e=>?_) I.bare
 ·obtain⟨o',es,ep,ho,r⟩:=hm;exact⟨o',es,ep,k _ o' nL ho,r⟩
 ·by_cases hb:b=a
  ·subst hb;rw [aM] at e;cases e;exact new
  ·rw [av hb] at e;refine (I.br b u e).vV (λc v hc q=>k c v ?_ q) (λc q=>by rw [av (bq q hn)];exact q) λc xs q=>by rw [av (bq q hn)];exact q
   rcases hc with z | z
   ·rw [z];exact TB b u e
   ·exact TB c _ z
def Inv.vP {t':Nat} (I:Inv X Z σ H s) (hf:∀b∈ch,uO X Z H b) (k:∀b u,b∉ch->s.heap.get? b=am u->h'.get? b=am u) :
  Inv X Z σ H {s with heap:=h',toks:=t'}:=by
 have TB:∀b u,H b=am u->b∉ch:=λb u e z=>by rw [(hf b z).1] at e;cases e
 have nL:X.env.locals∉ch:=λz=>(hf _ z).2.1 rfl;refine I.step (g':=s.gens) (d':=s.drawn) (ch:=ch) (λb hb=>⟨(hf b hb).2.2.2.1,(hf b hb).2.1,(hf b hb).2.2.2.2.1,(hf b hb).2.2.2.2.2⟩) (λb u _ _ hc e _=>k b u hc e) (λb u _ _ hc e _=>⟨u.slots,k b u hc e⟩)
  (λ_ _ _ _ n=>n) (λb u hc e=>⟨u,k b u hc e⟩) (λ_ _ e=>e) (λ_ _ _ e=>e) (λb ps e=>⟨#[],by rw [e];simp⟩) (λm hm=>?_) (λb u e=>?_) I.bare
 ·obtain⟨o',es,ep,ho,r⟩:=hm;exact⟨o',es,ep,k _ o' nL ho,r⟩
 ·refine (I.br b u e).vV (λc v hc q=>k c v ?_ q) (λ_ q=>q) λ_ _ q=>q;rcases hc with z | z
  ·rw [z];exact TB b u e
  ·exact TB c _ z
def m5 (h:Vals xs us):∀{i:Nat}{x:V},xs[i]?=am x->∃u,us[i]?=am u/\RelV x u:=by
 induction h with
 | nil=>intro i x e;simp at e
 | cons r t ih=>
  intro i x e;cases i with
  | zero=>simp at e;subst e;exact⟨_,rfl,r⟩
  | succ i=>exact ih (by simpa using e)
end L2
variable {e:BC}{Ì:AZ}{Î:List B4}
namespace L2
open PySem PySem.Spec PyProof.Rows
def qE {E:bn->ci->Prop}{t:ce} (Mk:e≠it) (õ:t≠e) (R9:t≠it)
  (hz:IsEnum s.heap e it i Ì) (hi:s.heap.IsTupleIter it t i) (ht:s.heap.IsTuple t items) (hx:items[i]?=am x)
  (q:∀(h':lf) (tk:Nat),IsEnumOut h' e it (i+1:Nat) x s.heap.objs.size->h'.IsTupleIter it t (i+1)->IsPair h' s.heap.objs.size (.int i s.toks) x->(∀c o,c≠e->c≠it->s.heap.get? c=am o->h'.get? c=am o)->Q (.ref s.heap.objs.size) {s with heap:=h',toks:=tk}) :
  db (dL prog w) A (u8.«enumerate.__next__» {pos:=[.ref e]}) (λfin s'=>∃v,fin=EY (Fz v)/\Q v s') E s:=by
 show db _ _ (field (.ref e) 2 >>= λr=>_) _ _ s;refine Aa (A4 hz rfl rfl ?_);refine Aa (gT hi ht hx λh1 j1 b1=>?_);have z1:=(b1.2 _ Mk).trans hz;refine Aa (A4 z1 rfl rfl ?_);refine Aa (A4 z1 rfl rfl ?_);refine Aa (wpAny_mkInt ?_);refine Aa (AX z1 (show 3 < 6 by decide) λh2 z2 b2=>?_);refine Aa (AX z2 (show 4 < 6 by decide) λh3 z3 b3=>?_);have sz3:=b3.1.trans (b2.1.trans b1.1);have Í:∀b,b≠e->b≠it->h3.get? b=s.heap.get? b:=λb n1 n2=>(b3.2 b n1).trans ((b2.2 b n1).trans (b1.2 b n2));refine Aa (CK ?_ (by show 2<=sizeLine;decide));have kp:∀b o,h3.get? b=am o->(h3.push {cls:=.type "tuple",data:=.seq [DM i s.toks,x].toArray}).get? b=am o:=λb o e=>Ag _ e;have VQ:(h3.push {cls:=.type "tuple",data:=.seq [DM i s.toks,x].toArray}).get? h3.objs.size=am {cls:=.type "tuple",data:=.seq #[.int i s.toks,x]}:=Ap _ rfl;generalize h3.push {cls:=.type "tuple",data:=.seq [DM i s.toks,x].toArray}=h4 at kp VQ ⊢;have z4:h4.get? e=am {cls:=.type "enumerate",data:=.fields #[.none,.bool false,.ref it,ul (i+1),.none,Ì]}:=kp _ _ z3;refine Aa ?_;refine Aa (A4 z4 rfl rfl ?_);refine Ae ?_;refine Aa (CZ ?_);refine Aa (A4 z4 rfl rfl ?_);refine Aa (AX z4 (show 5 < 6 by decide) λh5 z5 b5=>?_);refine Aa ?_;refine Aa (AX z5 (show 0 < 6 by decide) λh6 z6 b6=>?_);refine AX z6 (show 1 < 6 by decide) λh7 z7 b7=>?_;refine Aa (Cs ?_);have WJ:∀b,b≠e->h7.get? b=h4.get? b:=λb n=>(b7.2 b n).trans ((b6.2 b n).trans (b5.2 b n));have ne:s.heap.objs.size≠e:=λz=>by have:=Ar hz;rw [<- z] at this;exact AU _ this
 refine Ae ⟨.ref h3.objs.size,rfl,?_⟩;rw [sz3] at z7 VQ ⊢;refine q h7 _ ?_ ?_ ?_ ?_
 ·exact z7
 ·obtain⟨o,eo,p⟩:=j1;refine⟨o,?_,p⟩;rw [WJ _ (BA Mk)];exact kp _ _ ((b3.2 _ (BA Mk)).trans ((b2.2 _ (BA Mk)).trans eo))
 ·rw [IsPair,WJ _ ne];exact VQ
 ·intro c o n1 n2 ec;rw [WJ _ n1];exact kp _ _ ((Í _ n1 n2).trans ec)
def tD {t:ce}{Q:PySem.Fin->ci->Prop} (hA:A.handled=bm)
  (hz:IsEnum s.heap e it i Ì) (hi:s.heap.IsTupleIter it t i) (ht:s.heap.IsTuple t items) (hx:items[i]?=bm)
  (q:∀(h':lf) (x:ce),(∀c o,c≠it->s.heap.get? c=am o->h'.get? c=am o)->(∃o,h'.get? x=am o/\o.cls=.type "StopIteration")->E (.ref x) {s with heap:=h'}) :
  db (dL prog w) A (u8.«enumerate.__next__» {pos:=[.ref e]}) Q E s:=by
 show db _ _ (field (.ref e) 2 >>= λr=>_) _ _ s;refine Aa (A4 hz rfl rfl ?_);exact Aa (iL hA hi ht hx λh' x k ex=>q h' x (λc o n e'=>k c o n e') ex)
def ny {t:ce}{Q:Option bn->ci->Prop} (Mk:e≠it) (õ:t≠e) (R9:t≠it)
  (hz:IsEnum s.heap e it i Ì) (hi:s.heap.IsTupleIter it t i) (ht:s.heap.IsTuple t items) (hx:items[i]?=am x)
  (q:∀(h':lf) (tk:Nat),IsEnumOut h' e it (i+1:Nat) x s.heap.objs.size->h'.IsTupleIter it t (i+1)->IsPair h' s.heap.objs.size (.int i s.toks) x->(∀c o,c≠e->c≠it->s.heap.get? c=am o->h'.get? c=am o)->Q (am (.ref s.heap.objs.size)) {s with heap:=h',toks:=tk}) :
  db (dL prog w) A (pyNext (.ref e)) Q E s:=by
 have ty:s.TypeIs (.ref e) "enumerate":=⟨_,hz,rfl⟩;refine Aa (CV (A5 ty CC (Bl CC ty Ep ?_ (Ej _))));exact qE Mk õ R9 hz hi ht hx λh' tk a b c d=>Ae (q h' tk a b c d)
def pq {t:ce}{Q:Option bn->ci->Prop} (hA:A.handled=bm)
  (hz:IsEnum s.heap e it i Ì) (hi:s.heap.IsTupleIter it t i) (ht:s.heap.IsTuple t items) (hx:items[i]?=bm)
  (q:∀h':lf,(∀c o,c≠it->s.heap.get? c=am o->h'.get? c=am o)->Q bm {s with heap:=h'}) :
  db (dL prog w) A (pyNext (.ref e)) Q E s:=by
 have ty:s.TypeIs (.ref e) "enumerate":=⟨_,hz,rfl⟩;refine Aa (CV (A5 ty CC (Bl CC ty Ep ?_ (Ej _))));refine tD (A:=A.in1) hA hz hi ht hx λh' x k ex=>?_;obtain⟨o,eo,hc⟩:=ex;refine Aa (Dj (T:="StopIteration") ⟨o,eo,hc⟩ isSubtype_stop ?_);exact Ae (q h' k)
def qu (t:ce) (items:Array bn):Meets (u8.«enumerate.__new__» {pos:=[.type "enumerate",.ref t]}) (λ_ R s=>s.heap.IsTuple t items/\
  ∀h':lf,IsEnum h' (s.heap.objs.size+1) s.heap.objs.size (0:Nat) .none->h'.IsTupleIter s.heap.objs.size t 0->(∀b o,s.heap.get? b=am o->h'.get? b=am o)->R (.ok (.ret (.ref (s.heap.objs.size+1)))) {s with heap:=h'}):=
 .of_wp λprog w A R s h=>by
  obtain⟨h1,q⟩:=h;refine Aa ?_;refine Aa (Cr (a:=true) rfl ?_);refine Aa (Cr sub_enumerate ?_);refine Ae ?_;refine Aa ?_;refine Aa (wpAny_stack_any λst=>Ae ?_);have fin:db (dL prog w) A.in1 (pyIter (.ref t) >>= λit=>(Builtin.SmallTypes.newRecord (.type "enumerate") (Builtin.SmallTypes.ownedTupleFields++[it,ul 0,.none,.none]) >>= λr=>ret r)) (λfin s'=>∃v,fin=EY (Fz v)/\R (Except.ok (Fz v)) s') (λe s'=>R (Except.error e) s') s:=by
   refine Aa (DW h1 ?_);have k1:∀b o,s.heap.get? b=am o->(s.heap.push {cls:=.type "tuple_iterator",data:=.fields #[.ref t,.int 0 0]}).get? b=am o:=λb o e=>Ag _ e;have g1:(s.heap.push {cls:=.type "tuple_iterator",data:=.fields #[.ref t,.int 0 0]}).get? s.heap.objs.size=am {cls:=.type "tuple_iterator",data:=.fields #[.ref t,.int 0 0]}:=Ap _ rfl;have z1:(s.heap.push {cls:=.type "tuple_iterator",data:=.fields #[.ref t,.int 0 0]}).objs.size=s.heap.objs.size+1:=Cn ..;generalize s.heap.push {cls:=.type "tuple_iterator",data:=.fields #[.ref t,.int 0 0]}=xo at k1 g1 z1 ⊢;show db _ _ (newObj (.type "enumerate") (.fields #[.none,.bool false,.ref s.heap.objs.size,ul 0,.none,.none]) >>= λr=>ret r) _ _ _;refine Aa (A1 ?_ (by simp [sizeOk];decide));have g2:(xo.push {cls:=.type "enumerate",data:=.fields #[.none,.bool false,.ref s.heap.objs.size,ul 0,.none,.none]}).get? xo.objs.size=am {cls:=.type "enumerate",data:=.fields #[.none,.bool false,.ref s.heap.objs.size,ul 0,.none,.none]}:=Ap _ rfl;refine Ae ⟨.ref xo.objs.size,rfl,?_⟩;rw [z1] at g2 ⊢;exact q _ g2 ⟨_,Ag _ g1,rfl,rfl⟩ λb o e=>Ag _ (k1 _ _ e)
  refine wpAny_ite_split (λ_=>?_) (λ_=>?_)
  ·exact Aa (Cr (a:=(Ax t,bm)) rfl fin)
  ·exact Aa (Cr (a:=(Ax t,bm)) rfl fin)
def IG {t:ce} (h1:s.heap.IsTuple t items)
  (q:∀h':lf,IsEnum h' (s.heap.objs.size+1) s.heap.objs.size (0:Nat) .none->h'.IsTupleIter s.heap.objs.size t 0->(∀b o,s.heap.get? b=am o->h'.get? b=am o)->Q (.ref (s.heap.objs.size+1)) {s with heap:=h'}) :
  db (dL prog w) A (call (.type "enumerate") [.ref t]) Q E s:=
 callType_new F.called_enumerate ⋯ (F.typeCall_enumerate_1 _) (F.newCall_enumerate_1 _) (λo=>F.args_object_init_2 o _) F.entry_enumerate_new (qu t items) ⟨h1,λh' z i k=>⟨⟨_,z,rfl⟩,q h' z i k⟩⟩
def Ite (K:Ab) (a:ce):It where
 go:=λi H=>∃xs x,d4 K H a xs/\xs[i]?=am x
 Te:=λi H v H'=>∃p x,v=.ref p/\H p=bm/\H'=upd H p (.tup [.int i,x])/\∀xs,d4 K H a xs->xs[i]?=am x
 stop:=λi H=>∃xs,d4 K H a xs/\xs.length<=i
theorem KD {K:Ab}{kk:Nat}{t:ce} (Mk:e≠it) (õ:t≠e) (R9:t≠it):Turn P w K (.Tuple Î kk pos) (Ite K t) [e,it] e (λi h=>(∃Ì,IsEnum h e it (i:Nat) Ì)/\h.IsTupleIter it t i) where
 mem:=by simp
 obj:=λi h st b hb=>by
  simp only [Aw,Bt,or_false] at hb;rcases hb with rfl | rfl
  ·obtain⟨⟨_,e⟩,_⟩:=st;exact⟨_,e,λv z=>by cases z⟩
  ·obtain⟨_,⟨o,e,_,d⟩⟩:=st;exact⟨o,e,λv z=>by rw [d] at z;cases z⟩
 keep:=λi h h' st k=>⟨let ⟨o,e'⟩:=st.1;⟨o,k e (by simp) _ e'⟩,let ⟨o,e',p⟩:=st.2;⟨o,k it (by simp) _ e',p⟩⟩
 item:=by
  intro X hP hw hK hc i Z s σ H E I hf st hg;subst hP hw hK;obtain⟨xs,x,hx,gx⟩:=hg;obtain⟨aq,rx,tx,_⟩:=I.tuple hx;obtain⟨u,gu,ru⟩:=m5 rx gx;obtain⟨⟨Ì,hz⟩,hi⟩:=st;refine ny Mk õ R9 hz hi tx (by simpa using gu) λh' tk zo j np k=>?_;refine⟨_,rfl,?_⟩;refine DY zo λh2 z2 b2=>?_;have le:=Ar hz;have li:=let ⟨_,e',_⟩:=hi;Ar e';have lt:∀b∈[e,it],b < s.heap.objs.size:=λb hb=>by
   simp only [Aw,Bt,or_false] at hb;rcases hb with rfl | rfl
   ·exact le
   ·exact li
  have nz:s.heap.objs.size≠e:=λz=>AU _ (by have:=le;rw [<- z] at this;exact this);have ZA:∀b o,b∉[e,it]->s.heap.get? b=am o->h2.get? b=am o:=λb o hb e'=>by
   have Lz:b≠e:=λq=>hb (by simp [q]);rw [b2.2 b Lz];exact k b o Lz (λq=>hb (by simp [q])) e'
  have Zi:h2.get? s.heap.objs.size=am {cls:=.type "tuple",data:=.seq #[.int i s.toks,u]}:=(b2.2 _ nz).trans np;have Z2:=I.br.fresh (An s.heap.objs.size);refine⟨.ref s.heap.objs.size,upd H s.heap.objs.size (.tup [.int i,x]),I.rH (t':=tk) hf ZA (An _) ⟨by show 2<=sizeLine;decide,[.int i s.toks,u],.cons ⟨_,rfl⟩ (.cons ru .nil),⟨_,Zi,rfl,_,rfl⟩⟩,rfl,⟨_,x,rfl,Z2,rfl,λxs' h'=>by rw [I.k6 h' hx];exact gx⟩,⟨⟨_,z2⟩,let ⟨o,e',p⟩:=j;⟨o,(b2.2 _ (BA Mk)).trans e',p⟩⟩,λb hb=>?_⟩;rw [av (AA (lt b hb))];exact (hf b hb).1
 done:=by
  intro X hP hw hK hc i Z s σ H E I hf st hg;subst hP hw hK;obtain⟨xs,hx,hl⟩:=hg;obtain⟨aq,rx,tx,_⟩:=I.tuple hx;have el:=rx.length;obtain⟨⟨Ì,hz⟩,hi⟩:=st;refine pq (I.ok.hd hc) hz hi tx (by simp;omega) λh' k=>⟨rfl,I.vP (t':=s.toks) hf λb o hb e'=>k b o (λz=>hb (by simp [z])) e'⟩
 self:=λA i s Q E st h=>let ⟨_,e'⟩:=st.1;C5 e' h
end L2
namespace My
open PySem PySem.Spec PyProof.Rows L2
def PZ (l:List V) (i:Nat):Ent->List V
 | .word _=>l
 | .pair a b=>(l.set a (.int i)).set b (.int i)
def ah:List Ent->Nat->List V->List V
 | [],_,l=>l
 | e::es,i,l=>ah es (i+1) (PZ l i e)
theorem yu:∀(es:List Ent) (e:Ent) (i:Nat) (l:List V),ah (es++[e]) i l=PZ (ah es i l) (i+es.length) e
 | [],e,i,l=>rfl
 | x::es,e,i,l=>by
  show ah (es++[e]) (i+1) (PZ l i x)=PZ (ah es (i+1) (PZ l i x)) (i+(es.length+1)) e;rw [yu es e];congr 1;omega
def S0 (l:List V) (i:Nat) (e:Ent):(PZ l i e).length=l.length:=by cases e with
 | word=>rfl
 | pair=>show ((l.set _ _).set _ _).length=_;rw [BM,BM]
theorem IJ:∀(es:List Ent) (i:Nat) (l:List V),(ah es i l).length=l.length
 | [],_,_=>rfl
 | e::es,i,l=>by show (ah es (i+1) (PZ l i e)).length=_;rw [IJ es,S0]
end My
namespace L2
open PySem PySem.Spec PyProof.Rows
def Itd (lo:Int) (n:Nat):It:=⟨λi _=>i < n,λi H x H'=>H'=H/\x=.int (lo-i),λi _=>n<=i⟩
theorem yY {K:Ab} (it:ce) (lo:Int) (n:Nat):Turn P w K tg (Itd lo n) [it] it (λi h=>IsRangeIter h it (lo+(i:Nat)*(-1)) ((n:Int)-(i:Nat)) (-1)) where
 mem:=by simp
 obj:=λi h st b hb=>by
  have e:b=it:=by simpa using hb
  subst e;exact⟨_,st,λv z=>by
   have z':=z;cases z'⟩
 keep:=λi h h' st k=>k it (by simp) _ st
 item:=by
  intro X hP hw hK hc i Z s σ H E I hf st hg;subst hP hw hK;obtain⟨f0,f1,f2,f3,f4,f5⟩:=hf it (by simp);have W:=Walks.range (prog:=X.prog) (w:=X.w) (I.ok.hd hc) it lo (-1) n;refine W.item i s _ _ hg st λv h' tk hv qN kk=>?_;obtain⟨t,rfl⟩:=hv;have I1:Inv X Z σ H {s with heap:=h',toks:=tk}:=I.turned (λb o hb e=>kk b o (by simpa using hb) e) f0 f1 f3 f4 f5;refine⟨_,rfl,FK (s:={s with heap:=h',toks:=tk}) (n:="range_iterator") qN rfl rfl ⋯ ⟨.int (lo-i),H,I1,⟨t,?_⟩,⟨rfl,rfl⟩,qN,λb hb=>(hf b hb).1⟩⟩;rw [show lo+(i:Int)*(-1)=lo-i by omega]
 done:=by
  intro X hP hw hK hc i Z s σ H E I hf st hg;obtain⟨f0,f1,f2,f3,f4,f5⟩:=hf it (by simp);exact wpAny_pyNext_range_end (I.ok.hd hc) st (by have:n<=i:=hg;omega) λh' eb=>⟨rfl,I.turned (t':=s.toks) (λb o hb e=>eb b o hb e) f0 f1 f3 f4 f5⟩
 self:=λ_ _ _ _ _ st h=>wpAny_pyIter_rangeiter st h
section
theorem K0 {σ:St}{R:It->Hp->Prop}{lo:Int}{t u v:Tok}{tk:Nat} (I:Inv X Z σ H s) (h1:-(2 ^ 62)<=lo) (h2:lo < 2 ^ 62) (h3:-(2 ^ 62)<=hi) (h4:hi < 2 ^ 62)
  (q:R (Itd lo (lo-hi).toNat) H):db (dL X.prog X.w) X.A (pyIter (.ref s.heap.objs.size)) (PIE X Z σ tg R) E {s with heap:=s.heap.push {cls:=.type "range",data:=.fields #[.int lo t,.int hi u,.int (-1) v]},toks:=tk}:=by
 refine wpAny_pyIter_range (IsRange.new ..) (PySem.W.small_down h1 h2 h3 h4) ?_;have I1:Inv X Z σ H {s with heap:=s.heap.push {cls:=.type "range",data:=.fields #[.int lo t,.int hi u,.int (-1) v]},toks:=tk}:=I.kept λb o e=>Ag _ e;refine⟨(s.heap.push {cls:=.type "range",data:=.fields #[.int lo t,.int hi u,.int (-1) v]}).objs.size,[(s.heap.push {cls:=.type "range",data:=.fields #[.int lo t,.int hi u,.int (-1) v]}).objs.size],_,_,H,rfl,
  I1.kept (t':=tk) λb o e=>Ag _ e,yY _ lo (lo-hi).toNat,?_,λb hb=>?_,q⟩
 ·have e1:lo+((0:Nat):Int)*(-1)=lo:=by simp
  have e2:(((lo-hi).toNat:Nat):Int)-((0:Nat):Int)=Builtin.Range.rangeSize lo hi (-1):=by rw [PySem.W.rangeSize_down];split <;> omega
  show IsRangeIter _ _ (lo+((0:Nat):Int)*(-1)) ((((lo-hi).toNat:Nat):Int)-((0:Nat):Int)) (-1);rw [e1,e2];exact Ap _ rfl
 ·have e:b=(s.heap.push {cls:=.type "range",data:=.fields #[.int lo t,.int hi u,.int (-1) v]}).objs.size:=by simpa using hb
  subst e;exact I1.xI (An _) (I1.br.fresh (An _))
def ZG (ta:TA):TI:=λσ H R=>ta σ H λvs H1=>∃i j:Int,vs=[.int i,.int j,.int (-1)]/\(-(2 ^ 62)<=i/\i < 2 ^ 62/\-(2 ^ 62)<=j/\j < 2 ^ 62)/\R (Itd i (i-j).toNat) H1
def K4 {c:ii}{ta:TA} (hg:Gl X "range") (hm:X.mg "range"=bm) (ha:PA X [a,b,c] ta) (hs:f8 [a,b,c] X.env=[(false,kw a X.env),(false,kw b X.env),(false,kw c X.env)]:=by rfl) (qY:f8 [b,c] X.env=[(false,kw b X.env),(false,kw c X.env)]:=by rfl) :
  PI X tg (.Call (.Name "range" p) [a,b,c] [] pos) (ZG ta):=by
 intro Z s σ H R I h;refine Call_ (ib I hg hm boot_range (Bd (bV (ha pos Z s σ H _ I h) λus s1 ⟨vs,H1,I1,r1,q1⟩=>?_) (by show f8 _ _=_;rw [hs,qY]) (by rw [qY];rfl)));obtain⟨i,j,e,⟨q1,q2,q3,q4⟩,q⟩:=q1;subst e;cases r1 with
 | cons r rr=>
  cases rr with
  | cons r' rr=>
   cases rr with
   | cons r'' rr=>
    cases rr;obtain⟨t,rfl⟩:=r;obtain⟨t',rfl⟩:=r';obtain⟨t'',rfl⟩:=r'';refine call_range_3 ⋯ (K0 I1 q1 q2 q3 q4 q) (.inl ?_);unfold Builtin.divisionGoesByPylong;have e1:decide ((if ((-1:Int)==0)=true then 0 else (-1:Int).natAbs.log2 / 30+1) > 300)=false:=by decide
    simp only [e1,E7]
end
def aaU (K:Ab) (a:ce):It where
 go:=λi H=>∃xs x,c7 K H a xs/\xs[i]?=am x
 Te:=λi H v H'=>∃p x,v=.ref p/\H p=bm/\H'=upd H p (.tup [.int i,x])/\∀xs,c7 K H a xs->xs[i]?=am x
 stop:=λi H=>∃xs,c7 K H a xs/\xs.length<=i
theorem GW {K:Ab}{kk:Nat}{t:ce} (Mk:e≠it):Turn P w K (.Tuple Î kk pos) (aaU K t) [e,it] e (λi h=>(∃Ì,IsEnum h e it (i:Nat) Ì)/\h.IsListIter it t i) where
 mem:=by simp
 obj:=λi h st b hb=>by
  simp only [Aw,Bt,or_false] at hb;rcases hb with rfl | rfl
  ·obtain⟨⟨_,e⟩,_⟩:=st;exact⟨_,e,λv z=>by cases z⟩
  ·obtain⟨_,⟨o,e,_,d⟩⟩:=st;exact⟨o,e,λv z=>by rw [d] at z;cases z⟩
 keep:=λi h h' st k=>⟨let ⟨o,e'⟩:=st.1;⟨o,k e (by simp) _ e'⟩,let ⟨o,e',p⟩:=st.2;⟨o,k it (by simp) _ e',p⟩⟩
 item:=by
  intro X hP hw hK hc i Z s σ H E I hf st hg;subst hP hw hK;obtain⟨xs,x,hx,gx⟩:=hg;obtain⟨aq,rx,tx,_⟩:=I.list hx;obtain⟨u,gu,ru⟩:=m5 rx gx;obtain⟨⟨Ì,hz⟩,hi⟩:=st;refine wpAny_pyNext_enum_item hz hi tx.isList (by simpa using gu) Mk λh' zo j np _ k=>?_;refine⟨_,rfl,?_⟩;refine DY zo λh2 z2 b2=>?_;have le:=Ar hz;have li:=let ⟨_,e',_⟩:=hi;Ar e';have lt:∀b∈[e,it],b < s.heap.objs.size:=λb hb=>by
   simp only [Aw,Bt,or_false] at hb;rcases hb with rfl | rfl
   ·exact le
   ·exact li
  have nz:s.heap.objs.size≠e:=λz=>AU _ (by have:=le;rw [<- z] at this;exact this);have ZA:∀b o,b∉[e,it]->s.heap.get? b=am o->h2.get? b=am o:=λb o hb e'=>by
   have Lz:b≠e:=λq=>hb (by simp [q]);rw [b2.2 b Lz];exact k b o Lz (λq=>hb (by simp [q])) e'
  have Zi:h2.get? s.heap.objs.size=am {cls:=.type "tuple",data:=.seq #[.int i s.toks,u]}:=(b2.2 _ nz).trans np;have Z2:=I.br.fresh (An s.heap.objs.size);refine⟨.ref s.heap.objs.size,upd H s.heap.objs.size (.tup [.int i,x]),I.rH (t':=s.toks+1) hf ZA (An _) ⟨by show 2<=sizeLine;decide,[.int i s.toks,u],.cons ⟨_,rfl⟩ (.cons ru .nil),⟨_,Zi,rfl,_,rfl⟩⟩,rfl,⟨_,x,rfl,Z2,rfl,λxs' h'=>by rw [I.zR h' hx];exact gx⟩,⟨⟨_,z2⟩,let ⟨o,e',p⟩:=j;⟨o,(b2.2 _ (BA Mk)).trans e',p⟩⟩,λb hb=>?_⟩;rw [av (AA (lt b hb))];exact (hf b hb).1
 done:=by
  intro X hP hw hK hc i Z s σ H E I hf st hg;subst hP hw hK;obtain⟨xs,hx,hl⟩:=hg;obtain⟨aq,rx,tx,_⟩:=I.list hx;have el:=rx.length;obtain⟨⟨Ì,hz⟩,hi⟩:=st;refine wpAny_pyNext_enum_end (I.ok.hd hc) hz hi tx.isList (by simp;omega) λh' k=>⟨rfl,I.vP (t':=s.toks) hf λb o hb e'=>k b o (λz=>hb (by simp [z])) e'⟩
 self:=λA i s Q E st h=>let ⟨_,e'⟩:=st.1;C5 e' h
end L2
namespace My
open PySem PySem.Spec PyProof.Rows L2
def en:Tr->Nat->Nat->Ent
 | .leaf x,_,_=>.word x
 | .node l r,o,j=>if j < l.size then en l o j else if j < l.size+r.size then en r (o+l.size) (j-l.size) else .pair (o+l.size-1) (o+l.size+r.size-1)
def up:Tr->Nat->Nat->List Nat->List Nat
 | .leaf _,o,_,ab=>o::ab
 | .node l r,o,j,ab=>if j < l.size then up l o j ((o+l.size+r.size)::ab) else if j < l.size+r.size then up r (o+l.size) (j-l.size) ((o+l.size+r.size)::ab) else (o+l.size+r.size)::ab
def ke:Tr->Nat->Nat->V->V
 | .leaf _,_,_,p=>p
 | .node l r,o,j,p=>if j < l.size then ke l o j (.int (o+l.size+r.size:Nat)) else if j < l.size+r.size then ke r (o+l.size) (j-l.size) (.int (o+l.size+r.size:Nat)) else p
def be:Tr->Nat->Nat->List Nat
 | .leaf _,o,_=>[o]
 | .node l r,o,j=>if j < l.size then be l o j else if j < l.size+r.size then be r (o+l.size) (j-l.size) else be l o (l.size-1)++be r (o+l.size) (r.size-1)
theorem gm:∀(t:Tr) (o j:Nat),j < t.size->(t.nd o)[j]?=am (en t o j)
 | .leaf x,o,j,h=>by
  have:j=0:=by have:j < 1:=h;omega
  subst this;rfl
 | .node l r,o,j,h=>by
  have es:(Tr.node l r).size=l.size+r.size+1:=rfl;have hn:(Tr.node l r).nd o=l.nd o++r.nd (o+l.size)++[.pair (o+l.size-1) (o+l.size+r.size-1)]:=rfl;have ln:=l.ba o;have rn:=r.ba (o+l.size);unfold en;by_cases c1:j < l.size
  ·rw [if_pos c1,hn,Ay,AL ∅];exact gm l o j c1
  ·rw [if_neg c1];by_cases c2:j < l.size+r.size
   ·rw [if_pos c2,hn,Ay,AW ∅,AL ∅,ln];exact gm r _ _ ∅
   ·rw [if_neg c2,hn,AW (by rw [Ai];omega),Ai,ln,rn];have:j-(l.size+r.size)=0:=by omega
    rw [this];rfl
theorem PN:∀(t:Tr) (o j:Nat),j < t.size->(∃x,en t o j=.word x/\be t o j=[o+j])\/∃a b,en t o j=.pair (o+a) (o+b)/\a < j/\b < j/\be t o j=be t o a++be t o b
 | .leaf x,o,j,h=>by
  have:j=0:=by have:j < 1:=h;omega
  subst this;exact .inl ⟨x,rfl,rfl⟩
 | .node l r,o,j,h=>by
  have es:(Tr.node l r).size=l.size+r.size+1:=rfl;have lp:=l.size_pos;have rp:=r.size_pos;by_cases c1:j < l.size
  ·have e1:en (.node l r) o j=en l o j:=by rw [en,if_pos c1]
   have e2:∀k,k < l.size->be (.node l r) o k=be l o k:=λk hk=>by rw [be,if_pos hk]
   rw [e1];rcases PN l o j c1 with⟨x,q1,q2⟩ | ⟨a,b,q1,q2,q3,q4⟩
   ·exact .inl ⟨x,q1,by rw [e2 j c1];exact q2⟩
   ·exact .inr ⟨a,b,q1,q2,q3,by rw [e2 j c1,e2 a ∅,e2 b ∅];exact q4⟩
  ·by_cases c2:j < l.size+r.size
   ·have e1:en (.node l r) o j=en r (o+l.size) (j-l.size):=by rw [en,if_neg c1,if_pos c2]
    have e2:∀k,k < r.size->be (.node l r) o (l.size+k)=be r (o+l.size) k:=λk hk=>by
     rw [be,if_neg ∅,if_pos ∅];congr 1;omega
    have ej:j=l.size+(j-l.size):=by omega
    rw [e1];rcases PN r (o+l.size) (j-l.size) ∅ with⟨x,q1,q2⟩ | ⟨a,b,q1,q2,q3,q4⟩
    ·refine .inl ⟨x,q1,?_⟩;rw [ej,e2 _ ∅,q2];congr 1;omega
    ·refine .inr ⟨l.size+a,l.size+b,?_,by omega,by omega,?_⟩
     ·rw [q1,Bg,Bg]
     ·rw [e2 a ∅,e2 b ∅,ej,e2 _ ∅,q4]
   ·have ej:j=l.size+r.size:=by omega
    refine .inr ⟨l.size-1,l.size+r.size-1,?_,by omega,by omega,?_⟩
    ·rw [en,if_neg c1,if_neg c2];congr 1 <;> omega
    ·rw [be,if_neg c1,if_neg c2,be,if_pos ∅,be,if_neg ∅,if_pos ∅];congr 2;omega
theorem rG:∀(t:Tr) (o j:Nat) (p:V) (ab:List Nat),j < t.size->(j=t.size-1/\ke t o j p=p/\up t o j ab=(o+j)::ab)\/∃a,j < a/\a < t.size/\ke t o j p=.int (o+a:Nat)/\up t o j ab=(o+j)::up t o a ab
 | .leaf x,o,j,p,ab,h=>by
  have:j=0:=by have:j < 1:=h;omega
  subst this;exact .inl ⟨rfl,rfl,rfl⟩
 | .node l r,o,j,p,ab,h=>by
  have es:(Tr.node l r).size=l.size+r.size+1:=rfl;have lp:=l.size_pos;have rp:=r.size_pos;have er:up (.node l r) o (l.size+r.size) ab=(o+l.size+r.size)::ab:=by rw [up,if_neg ∅,if_neg ∅]
  by_cases c1:j < l.size
  ·have e1:ke (.node l r) o j p=ke l o j (.int (o+l.size+r.size:Nat)):=by rw [ke,if_pos c1]
   have e2:∀k,k < l.size->up (.node l r) o k ab=up l o k ((o+l.size+r.size)::ab):=λk hk=>by rw [up,if_pos hk]
   rw [e1,e2 j c1];rcases rG l o j (.int (o+l.size+r.size:Nat)) ((o+l.size+r.size)::ab) c1 with⟨q1,q2,q3⟩ | ⟨a,q1,q2,q3,q4⟩
   ·refine .inr ⟨l.size+r.size,by omega,by omega,by rw [q2,Bg],by rw [q3,er]⟩
   ·exact .inr ⟨a,q1,by omega,q3,by rw [q4,e2 a q2]⟩
  ·by_cases c2:j < l.size+r.size
   ·have e1:ke (.node l r) o j p=ke r (o+l.size) (j-l.size) (.int (o+l.size+r.size:Nat)):=by rw [ke,if_neg c1,if_pos c2]
    have e2:∀k,k < r.size->up (.node l r) o (l.size+k) ab=up r (o+l.size) k ((o+l.size+r.size)::ab):=λk hk=>by
     rw [up,if_neg ∅,if_pos ∅];congr 1;omega
    obtain⟨i,rfl⟩:∃i,j=l.size+i:=⟨j-l.size,by omega⟩;have ei:l.size+i-l.size=i:=by omega
    rw [e1,e2 i ∅,ei];rcases rG r (o+l.size) i (.int (o+l.size+r.size:Nat)) ((o+l.size+r.size)::ab) ∅ with⟨q1,q2,q3⟩ | ⟨a,q1,q2,q3,q4⟩
    ·refine .inr ⟨l.size+r.size,by omega,by omega,by rw [q2,Bg],by rw [q3,er,Bg]⟩
    ·exact .inr ⟨l.size+a,by omega,by omega,by rw [q3,Bg],by rw [q4,e2 a q2,Bg]⟩
   ·have ej:j=l.size+r.size:=by omega
    refine .inl ⟨by omega,by rw [ke,if_neg c1,if_neg c2],?_⟩;rw [ej,er,Bg]
def mr:Tr->Nat->V->List V
 | .leaf _,_,p=>[p]
 | .node l r,o,p=>mr l o (.int (o+l.size+r.size:Nat))++mr r (o+l.size) (.int (o+l.size+r.size:Nat))++[p]
theorem jO:∀(t:Tr) (o:Nat) (p:V),(mr t o p).length=t.size
 | .leaf _,_,_=>rfl
 | .node l r,o,p=>by
  unfold mr;rw [Ai,Ai,jO l,jO r];rfl
theorem Ks (t:Tr) (o:Nat) (p q:V) (A B:List V):(A++mr t o p++B).set (A.length+t.size-1) q=A++mr t o q++B:=by
 have key:∃I,mr t o p=I++[p]/\mr t o q=I++[q]:=by
  cases t with
  | leaf _=>exact⟨[],rfl,rfl⟩
  | node l r=>exact⟨_,rfl,rfl⟩
 obtain⟨I,e1,e2⟩:=key;have h1:=jO t o p;rw [e1,Ai] at h1;have gC:I.length+1=t.size:=h1;rw [e1,e2];have ei:A.length+t.size-1=(A++I).length:=by rw [Ai];omega
 rw [ei,show A++(I++[p])++B=(A++I)++p::B by simp,List.set_append_right _ _ (An _),Ct];simp
theorem PY:∀(es fs:List Ent) (i:Nat) (l:List V),ah (es++fs) i l=ah fs (i+es.length) (ah es i l)
 | [],fs,i,l=>rfl
 | e::es,fs,i,l=>by
  show ah (es++fs) (i+1) (PZ l i e)=ah fs (i+(es.length+1)) (ah es (i+1) (PZ l i e));rw [PY es fs];congr 1;omega
theorem IK:∀(t:Tr) (A B:List V),ah (t.nd A.length) A.length (A++Am t.size .aG++B)=A++mr t A.length .aG++B
 | .leaf x,A,B=>rfl
 | .node l r,A,B=>by
  have es:(Tr.node l r).size=l.size+r.size+1:=rfl;have hn:(Tr.node l r).nd A.length=l.nd A.length++r.nd (A.length+l.size)++[.pair (A.length+l.size-1) (A.length+l.size+r.size-1)]:=rfl;have ln:=l.ba A.length;have rn:=r.ba (A.length+l.size);have h1:=IK l A (Am r.size .aG++([V.aG]++B));have e0:A++Am (Tr.node l r).size V.aG++B=A++Am l.size .aG++(Am r.size .aG++([V.aG]++B)):=by
   rw [es,<- C9,<- C9];simp only [Ay];rfl
  rw [hn,yu,PY,e0,h1,ln];have la:(A++mr l A.length V.aG).length=A.length+l.size:=by rw [Ai,jO]
  have h2:=IK r (A++mr l A.length V.aG) ([V.aG]++B);rw [la] at h2;have e1:A++mr l A.length V.aG++(Am r.size V.aG++([V.aG]++B))=A++mr l A.length V.aG++Am r.size V.aG++([V.aG]++B):=by simp [Ay]
  rw [e1,h2,Ai,ln,rn];show ((_:List V).set (A.length+l.size-1) _).set (A.length+l.size+r.size-1) _=_;have s1:=Ks l A.length .aG (.int (A.length+(l.size+r.size):Nat)) A (mr r (A.length+l.size) V.aG++([V.aG]++B));have e2:A++mr l A.length V.aG++mr r (A.length+l.size) V.aG++([V.aG]++B)=A++mr l A.length V.aG++(mr r (A.length+l.size) V.aG++([V.aG]++B)):=by simp [Ay]
  rw [e2,s1];have lb:(A++mr l A.length (V.int (A.length+(l.size+r.size):Nat))).length=A.length+l.size:=by rw [Ai,jO]
  have s2:=Ks r (A.length+l.size) .aG (.int (A.length+(l.size+r.size):Nat)) (A++mr l A.length (V.int (A.length+(l.size+r.size):Nat))) ([V.aG]++B);rw [lb] at s2;have e3:A++mr l A.length (V.int (A.length+(l.size+r.size):Nat))++(mr r (A.length+l.size) V.aG++([V.aG]++B))=A++mr l A.length (V.int (A.length+(l.size+r.size):Nat))++mr r (A.length+l.size) V.aG++([V.aG]++B):=by simp [Ay]
  rw [e3,s2];have e4:mr (.node l r) A.length .aG=mr l A.length (.int (A.length+l.size+r.size:Nat))++mr r (A.length+l.size) (.int (A.length+l.size+r.size:Nat))++[.aG]:=rfl;rw [e4,Bg A.length l.size r.size];simp [Ay]
theorem yr:∀(t:Tr) (o j:Nat) (p:V),j < t.size->(mr t o p)[j]?=am (ke t o j p)
 | .leaf x,o,j,p,h=>by
  have:j=0:=by have:j < 1:=h;omega
  subst this;rfl
 | .node l r,o,j,p,h=>by
  have es:(Tr.node l r).size=l.size+r.size+1:=rfl;have ln:=jO l o (.int (o+l.size+r.size:Nat));have rn:=jO r (o+l.size) (.int (o+l.size+r.size:Nat));unfold mr ke;by_cases c1:j < l.size
  ·rw [if_pos c1,Ay,AL ∅];exact yr l _ _ _ c1
  ·rw [if_neg c1];by_cases c2:j < l.size+r.size
   ·rw [if_pos c2,Ay,AW ∅,AL ∅,ln];exact yr r _ _ _ ∅
   ·rw [if_neg c2,AW (by rw [Ai];omega),Ai,ln,rn];have:j-(l.size+r.size)=0:=by omega
    rw [this];rfl
def Xi (t:Tr) (h:j < t.size):(ah (t.nd 0) 0 (Am t.size .aG))[j]?=am (ke t 0 j .aG):=by
 have q:=IK t [] [];have e:([]:List V)++Am t.size .aG++[]=Am t.size .aG:=by simp
 have e2:([]:List V)++mr t ([]:List V).length .aG++[]=mr t 0 .aG:=by simp
 rw [e,e2] at q;have q':ah (t.nd 0) 0 (Am t.size .aG)=mr t 0 .aG:=q;rw [q'];exact yr t 0 j .aG h
end My
variable {H1:L2.Hp}{ι:List BC}
namespace PL
section
open PySem PySem.Spec PyProof.Rows L2
variable {K:Ab}
def Uw (K:Ab) (H:Hp) (a:ce) (xs:List V):Prop:=(∃o,H a=am (.cu o (.lst xs)))\/
  ∃(o:Obj) (aq:Array bn) (n:Nat),K.lookup a=am o/\o.cls=.type "list"/\o.dict=bm/\o.data=.seq aq n/\aq.size<=sizeLine/\Vals xs aq.toList
def Uw.sq {a:ce} (h:Uw K H a xs):c7 K H a xs:=h.elim (λh=>.inl (.inr h)) .inr
structure bc (K:Ab) (H H':Hp):Prop where
 t:∀p vs,H p=am (.tup vs)->H' p=am (.tup vs)
 z:∀p o u,H p=am (.cu o u)->H' p=am (.cu o u)
def bc.f {H H':Hp} (t:bc K H H') (p:ce) (vs:List V) (h:Uw K H p vs):Uw K H' p vs:=h.elim (λ⟨o,h⟩=>.inl ⟨o,t.z _ _ _ h⟩) .inr
def bc.refl (H:Hp):bc K H H:=⟨λ_ _ h=>h,λ_ _ _ h=>h⟩
def bc.trans (a:bc K H H1) (b:bc K H1 H2):bc K H H2:=⟨λp vs h=>b.t p vs (a.t p vs h),λp o w h=>b.z p o w (a.z p o w h)⟩
def _root_.L2.kW.eM (s:kW H H'):bc K H H':=⟨λp vs h=>s _ _ h,λp o u h=>s _ _ h⟩
inductive PV where
 | aG | bl (b:Bool) | int (i:Int) | str (x:Str) | tup (l:List PV) | ref (n:Nat) | ty (n:String) | cl (l:List PV) | dv (ks vs:List PV)
def kP:Key->PV
 | .inl i=>.int i
 | .inr x=>.str x
inductive PO where
 | lst (xs:List PV) | dk (kvs:List (Key×PV)) | dt (kvs:List (List Key×PV)) | opq (φ:List V->Prop)
abbrev PH:=List PO
abbrev yR:=List (Option PV)
mutual
inductive VR (K:Ab) (ι:List ce) (H:Hp):V->PV->Prop
 | aG:VR K ι H .aG .aG
 | bl (b:Bool):VR K ι H (.bl b) (.bl b)
 | int (i:Int):VR K ι H (.int i) (.int i)
 | str (x:Str):VR K ι H (.str x) (.str x)
 | ty (n:String):VR K ι H (.ty n) (.ty n)
 | tup {p:ce}{vs:List V}{l:List PV} (h:H p=am (.tup vs)) (r:aE K ι H vs l):VR K ι H (.ref p) (.tup l)
 | ref {n:Nat}{a:ce} (h:ι[n]?=am a):VR K ι H (.ref a) (.ref n)
 | cl {a:ce}{vs:List V}{l:List PV} (h:Uw K H a vs) (r:aE K ι H vs l):VR K ι H (.ref a) (.cl l)
 | dk {a:ce}{o:Obj}{kvs:List (Key×V)}{ks l:List PV} (h:H a=am (.cu o (.dK kvs))) (e:ks=kvs.map λkv=>kP kv.1) (r:aE K ι H (kvs.map (·.2)) l):VR K ι H (.ref a) (.dv ks l)
 | dt {a:ce}{o:Obj}{kvs:List (List Key×V)}{ks l:List PV} (h:H a=am (.cu o (.dT kvs))) (e:ks=kvs.map λkv=>.tup (kv.1.map kP)) (r:aE K ι H (kvs.map (·.2)) l):VR K ι H (.ref a) (.dv ks l)
inductive aE (K:Ab) (ι:List ce) (H:Hp):List V->List PV->Prop
 | nil:aE K ι H [] []
 | cons {v:V}{p:PV}{vs:List V}{ps:List PV} (r:VR K ι H v p) (t:aE K ι H vs ps):aE K ι H (v::vs) (p::ps)
end
section
variable {ι':List ce}
mutual
theorem VR.mono (ht:bc K H H') (hi:∀(n:Nat) (a:ce),ι[n]?=am a->ι'[n]?=am a):∀{v:V}{p:PV},VR K ι H v p->VR K ι' H' v p
 | _,_,.aG=>.aG
 | _,_,.bl b=>.bl b
 | _,_,.int i=>.int i
 | _,_,.str x=>.str x
 | _,_,.ty n=>.ty n
 | _,_,.tup h r=>.tup (ht.t _ _ h) (aE.mono ht hi r)
 | _,_,.cl h r=>.cl (ht.f _ _ h) (aE.mono ht hi r)
 | _,_,.dk h e r=>.dk (ht.z _ _ _ h) e (aE.mono ht hi r)
 | _,_,.dt h e r=>.dt (ht.z _ _ _ h) e (aE.mono ht hi r)
 | _,_,.ref h=>.ref (hi _ _ h)
theorem aE.mono (ht:bc K H H') (hi:∀(n:Nat) (a:ce),ι[n]?=am a->ι'[n]?=am a):∀{vs:List V}{ps:List PV},aE K ι H vs ps->aE K ι' H' vs ps
 | _,_,.nil=>.nil
 | _,_,.cons r t=>.cons (VR.mono ht hi r) (aE.mono ht hi t)
end
theorem aE.length:∀{vs:List V}{ps:List PV},aE K ι H vs ps->vs.length=ps.length
 | _,_,.nil=>rfl
 | _,_,.cons _ t=>by rw [Ao,Ao,aE.length t]
theorem aE.get:∀{vs:List V}{ps:List PV}{i:Nat}{p:PV},aE K ι H vs ps->ps[i]?=am p->∃v,vs[i]?=am v/\VR K ι H v p
 | _,_,_,_,.nil,e=>by simp at e
 | _,_,0,_,.cons r _,e=>by simp at e;subst e;exact⟨_,rfl,r⟩
 | _,_,i+1,p,.cons _ t,e=>by
  obtain⟨v,h1,h2⟩:=aE.get (i:=i) (p:=p) t (by simpa using e);exact⟨v,by simpa using h1,h2⟩
theorem aE.aab:∀{vs:List V}{ps:List PV}{i:Nat}{v:V},aE K ι H vs ps->vs[i]?=am v->∃p,ps[i]?=am p/\VR K ι H v p
 | _,_,_,_,.nil,e=>by simp at e
 | _,_,0,_,.cons r _,e=>by simp at e;subst e;exact⟨_,rfl,r⟩
 | _,_,i+1,p,.cons _ t,e=>by
  obtain⟨v,h1,h2⟩:=aE.aab (i:=i) (v:=p) t (by simpa using e);exact⟨v,by simpa using h1,h2⟩
theorem aE.set {p:PV} (r:VR K ι H v p):∀{vs:List V}{ps:List PV} (i:Nat),aE K ι H vs ps->aE K ι H (vs.set i v) (ps.set i p)
 | _,_,_,.nil=>.nil
 | _,_,0,.cons _ t=>.cons r t
 | _,_,i+1,.cons q t=>.cons q (aE.set r i t)
theorem aE.append:∀{xs ys:List V}{us ws:List PV},aE K ι H xs us->aE K ι H ys ws->aE K ι H (xs++ys) (us++ws)
 | _,_,_,_,.nil,s=>s
 | _,_,_,_,.cons r t,s=>.cons r (aE.append t s)
theorem aE.reverse:∀{xs:List V}{us:List PV},aE K ι H xs us->aE K ι H xs.reverse us.reverse
 | _,_,.nil=>.nil
 | _,_,.cons r t=>by rw [CH,CH];exact (aE.reverse t).append (.cons r .nil)
def aE.one {p:PV} (r:VR K ι H v p):aE K ι H [v] [p]:=.cons r .nil
end
structure Go (ι ι':List ce) (H H':Hp):Prop where
 ext:∃m,ι'=ι++m
 new:∀a,a∈ι'->a∉ι->H a=bm
 keep:∀a o,a∉ι->H a=am o->H' a=am o
def Go.refl (ι:List ce) (H:Hp):Go ι ι H H:=⟨⟨[],by simp⟩,λa h n=>absurd h n,λ_ _ _ h=>h⟩
def OR (K:Ab) (ι:List ce) (H:Hp) (a:ce):PO->Prop
 | .lst xs=>∃vs,H a=am (.lst vs)/\aE K ι H vs xs
 | .dk kvs=>∃vs:List (Key×V),H a=am (.dK vs)/\vs.map (·.1)=kvs.map (·.1)/\aE K ι H (vs.map (·.2)) (kvs.map (·.2))
 | .dt kvs=>∃vs:List (List Key×V),H a=am (.dT vs)/\vs.map (·.1)=kvs.map (·.1)/\aE K ι H (vs.map (·.2)) (kvs.map (·.2))
 | .opq φ=>∃vs,H a=am (.lst vs)/\φ vs
structure HR (K:Ab) (ι:List ce) (H:Hp) (h:PH):Prop where
 nd:ι.Nodup
 len:ι.length=h.length
 obj:∀(n:Nat) (a:ce) (o:PO),ι[n]?=am a->h[n]?=am o->OR K ι H a o
end
end PL
variable {e:B4}
namespace PL
section
open PySem PySem.Spec PyProof.Rows L2
variable {K:Ab}
abbrev QV:=PV->PH->Prop
structure ME where
 run:yR->PH->QV->Prop
 mono:∀{ps h}{Q Q':QV},(∀v h',Q v h'->Q' v h')->run ps h Q->run ps h Q'
structure MT where
 run:yR->PH->(Bool->PH->Prop)->Prop
 mono:∀{ps h}{Q Q':Bool->PH->Prop},(∀v h',Q v h'->Q' v h')->run ps h Q->run ps h Q'
structure MA where
 run:yR->PH->(List PV->PH->Prop)->Prop
 mono:∀{ps h}{Q Q':List PV->PH->Prop},(∀v h',Q v h'->Q' v h')->run ps h Q->run ps h Q'
structure ML where
 run:yR->PH->(List PV->PH->Prop)->Prop
 mono:∀{ps h}{Q Q':List PV->PH->Prop},(∀v h',Q v h'->Q' v h')->run ps h Q->run ps h Q'
structure Src where
 items:List PV
 ok:PH->Prop
 fz:Bool
structure MI where
 run:yR->PH->(Src->PH->Prop)->Prop
 mono:∀{ps h}{Q Q':Src->PH->Prop},(∀v h',Q v h'->Q' v h')->run ps h Q->run ps h Q'
structure PD where
 nx:yR->PH->Prop
 rt:QV
 bk:yR->PH->Prop
 ct:yR->PH->Prop
structure PD.Le (D D':PD):Prop where
 nx:∀ps h,D.nx ps h->D'.nx ps h
 rt:∀v h,D.rt v h->D'.rt v h
 bk:∀ps h,D.bk ps h->D'.bk ps h
 ct:∀ps h,D.ct ps h->D'.ct ps h
structure MS where
 run:PD->yR->PH->Prop
 mono:∀{D D' ps h},PD.Le D D'->run D ps h->run D' ps h
structure MG where
 run:PV->yR->PH->(yR->PH->Prop)->Prop
 mono:∀{v ps h}{Q Q':yR->PH->Prop},(∀ps h,Q ps h->Q' ps h)->run v ps h Q->run v ps h Q'
def pQ (K:Ab) (ι:List ce) (H:Hp) (Q:VK):QV:=λp h'=>∀ι' v H',Go ι ι' H H'->HR K ι' H' h'->VR K ι' H' v p->Q v H'
def PE.imp {t t':TE} (h:PE X e t) (f:∀σ H Q,t' σ H Q->t σ H Q):PE X e t':=λZ s σ H Q I q=>h Z s σ H Q I (f _ _ _ q)
def PT.imp {t t':TT} (h:PT X e t) (f:∀σ H Q,t' σ H Q->t σ H Q):PT X e t':=λZ s σ H Q I q=>h Z s σ H Q I (f _ _ _ q)
def PW.imp {t t':TT} (h:PW X e t) (f:∀σ H Q,t' σ H Q->t σ H Q):PW X e t':=λw Z s σ H Q I q=>h w Z s σ H Q I (f _ _ _ q)
def PA.imp {e:List ii}{t t':TA} (h:PA X e t) (f:∀σ H Q,t' σ H Q->t σ H Q):PA X e t':=λpos Z s σ H Q I q=>h pos Z s σ H Q I (f _ _ _ q)
def PS.imp {e:ss}{t t':TS} (h:PS X e t) (f:∀D σ H,t' D σ H->t D σ H):PS X e t':=λZ s σ H D I q=>h Z s σ H D I (f _ _ _ q)
def rm.imp {e:List ss}{t t':TS} (h:rm X e t) (f:∀D σ H,t' D σ H->t D σ H):rm X e t':=λZ s σ H D I q=>h Z s σ H D I (f _ _ _ q)
def PG.imp {t t':TG} (h:PG X e t) (f:∀v σ H Q,t' v σ H Q->t v σ H Q):PG X e t':=λZ s σ H v u Q I r q=>h Z s σ H v u Q I r (f _ _ _ _ q)
def PI.imp {t t':TI} (h:PI X tg e t) (f:∀σ H Q,t' σ H Q->t σ H Q):PI X tg e t':=λZ s σ H R I q=>h Z s σ H R I (f _ _ _ q)
section
abbrev P2:=PV->PV->PH->QV->Prop
structure M2 where
 f:P2
 mono:∀{x y h}{Q Q':QV},(∀v h',Q v h'->Q' v h')->f x y h Q->f x y h Q'
def M2.Ok (K:Ab) (r:R2) (m:M2):Prop:=∀{ι H h u v x y Q},HR K ι H h->VR K ι H u x->VR K ι H v y->m.f x y h (pQ K ι H Q)->r u v H Q
end
end
section
open PySem PySem.Spec PyProof.Rows L2
variable {K:Ab}
section
def kE:∀{vs:List V}{l:List PV},aE K ι H vs l->(!l.isEmpty)=!vs.isEmpty
 | _,_,.nil=>rfl
 | _,_,.cons _ _=>rfl
structure MQ where
 run:yR->PH->(Src->PH->Prop)->Prop
 mono:∀{ps h}{Q Q':Src->PH->Prop},(∀v h',Q v h'->Q' v h')->run ps h Q->run ps h Q'
end
end
open PySem PySem.Spec PyProof.Rows L2
section
structure MGs where
 run:List PV->yR->PH->(yR->PH->Prop)->Prop
 mono:∀{v ps h}{Q Q':yR->PH->Prop},(∀ps h,Q ps h->Q' ps h)->run v ps h Q->run v ps h Q'
end
section
variable {K:Ab}
section
structure yS where
 f:List PV->PH->QV->Prop
 mono:∀{l h}{Q Q':QV},(∀v h',Q v h'->Q' v h')->f l h Q->f l h Q'
def yS.Ok (K:Ab) (r:List V->Hp->VK->Prop) (m:yS):Prop:=∀{ι H h vs l Q},HR K ι H h->aE K ι H vs l->m.f l h (pQ K ι H Q)->r vs H Q
end
end
end PL
variable {g':Int->Int->L2.V}{g:Int->Int->PL.PV}
namespace PL
section
open PySem PySem.Spec PyProof.Rows L2
variable {K:Ab}
def aI (g:Int->Int->PV):M2:=⟨λx y h Q=>match x,y with | .int i,.int j=>Q (g i j) h | _,_=>False,λf q=>by
 revert q
 split
 ·exact f _ _
 ·exact λz=>z⟩
def Xl (C:Int->Int->Prop) (g:Int->Int->PV):M2:=⟨λx y h Q=>match x,y with | .int i,.int j=>C i j/\Q (g i j) h | _,_=>False,λf q=>by
 revert q
 split
 ·exact λq=>⟨q.1,f _ _ q.2⟩
 ·exact λz=>z⟩
def Gr (hg:∀ι H i j,VR K ι H (g' i j) (g i j)):M2.Ok K (QQ g') (aI g):=by
 intro ι H h u v x y Q hr hu hv q;unfold aI at q;dsimp only at q;revert q
 split
 ·intro q;cases hu;cases hv;exact⟨_,_,rfl,rfl,q ι _ H (Go.refl _ _) hr (hg _ _ _ _)⟩
 ·exact Bn
def yw {C:Int->Int->Prop} (hg:∀ι H i j,VR K ι H (g' i j) (g i j)):M2.Ok K (rI C g') (Xl C g):=by
 intro ι H h u v x y Q hr hu hv q;unfold Xl at q;dsimp only at q;revert q
 split
 ·intro q;cases hu;cases hv;exact⟨_,_,rfl,rfl,q.1,q.2 ι _ H (Go.refl _ _) hr (hg _ _ _ _)⟩
 ·exact Bn
def wC:=aI λi j=>.int (i-j)
def nG:=Xl ww λi j=>.int (i*j)
def oDiv:=Xl Me λi j=>.int (i / j)
def oMod:=Xl (λ_ j=>0 < j) λi j=>.int (i % j)
def NR:=Xl P9 λi j=>.int (i ^ j.toNat)
def oLt:=aI λi j=>.bl (decide (i < j))
def oLe:=aI λi j=>.bl (decide (i<=j))
def oGt:=aI λi j=>.bl (decide (j < i))
def oGe:=aI λi j=>.bl (decide (j<=i))
section
def aE.jh:∀{vs:List V}{l:List PV},aE K ι H vs l->(vs=[]↔l=[])
 | _,_,.nil=>by simp
 | _,_,.cons _ _=>by simp
end
mutual
def PV.dat:PV->Bool
 | .tup l=>tJ l
 | .ref _=>false
 | .ty _=>false
 | .cl _=>false
 | .dv _ _=>false
 | _=>true
def tJ:List PV->Bool
 | []=>true
 | x::l=>x.dat&&tJ l
end
end
section
open PySem PySem.Spec PyProof.Rows L2
variable {K:Ab}
section
def PV.gA:PV->Bool
 | .aG=>true
 | _=>false
def zD:M2:=⟨λx y h Q=>match y with | .aG=>Q (.bl x.gA) h | _=>False,λf q=>by
 revert q
 split
 ·exact f _ _
 ·exact λz=>z⟩
def rY:M2:=⟨λx y h Q=>match y with | .aG=>Q (.bl (!x.gA)) h | _=>False,λf q=>by
 revert q
 split
 ·exact f _ _
 ·exact λz=>z⟩
def vi {x:PV} (h:VR K ι H v x):decide (v=.aG)=x.gA:=by cases h <;> simp [PV.gA]
def Ru:M2.Ok K (λx y H Q=>y=.aG/\Q (.bl (decide (x=.aG))) H) zD:=by
 intro ι H h u v x y Q hr hu hv q;cases hv with
 | aG=>exact⟨rfl,q ι _ H (Go.refl _ _) hr (by rw [vi hu];exact .bl _)⟩
 | _=>exact q.elim
def NS:M2.Ok K (λx y H Q=>y=.aG/\Q (.bl (!decide (x=.aG))) H) rY:=by
 intro ι H h u v x y Q hr hu hv q;cases hv with
 | aG=>exact⟨rfl,q ι _ H (Go.refl _ _) hr (by rw [vi hu];exact .bl _)⟩
 | _=>exact q.elim
end
end
end PL
variable {l:List PL.PV}
namespace PL
section
open PySem PySem.Spec PyProof.Rows L2
variable {K:Ab}
section
def Nf {v':V}{w:bn} (h:RelV v w) (h':RelV v' w):v=v':=Option.some.inj (h.abs.symm.trans h'.abs)
end
section
variable {c:ii}
def mIx (a:MQ) (b:ME):ME:=⟨λps h Q=>a.run ps h λS h1=>b.run ps h1 λy h2=>match y with
 | .int k=>S.ok h2/\match dq S.items k with | some v=>Q v h2 | none=>False
 | _=>False,λf q=>a.mono (λ_ _ q=>b.mono (λ_ _ q=>by
  revert q
  split
  ·rintro⟨q0,q⟩;refine⟨q0,?_⟩;revert q
   split
   ·exact f _ _
   ·exact λz=>z
  ·exact λz=>z) q) q⟩
def aE.dq (r:aE K ι H vs l) {k:Int}{p:PV} (e:L2.dq l k=am p):∃v,L2.dq vs k=am v/\VR K ι H v p:=by
 unfold L2.dq at e ⊢;rw [r.length];cases z:uB l.length k with
 | none=>rw [z] at e;cases e
 | some j=>
  rw [z] at e;exact r.get e
def NT:M2:=⟨λx y h Q=>match x,y with
 | .str z,.int k=>z.length<=sizeLine/\match L2.dq z.cps.toList k with | some c=>Q (.str ⟨#[c]⟩) h | none=>False
 | _,_=>False,λf q=>by
  revert q
  split
  ·rintro⟨q0,q⟩;refine⟨q0,?_⟩;revert q
   split
   ·exact f _ _
   ·exact λz=>z
  ·exact λz=>z⟩
def Rt:M2.Ok K Vg NT:=by
 intro ι H h u v x y Q hr hu hv q;unfold NT at q;dsimp only at q;revert q
 split
 ·rename_i z k;rintro⟨q0,q⟩;cases hu;cases hv;cases e:L2.dq z.cps.toList k with
  | none=>rw [e] at q;exact q.elim
  | some c=>rw [e] at q;exact⟨z,k,c,rfl,rfl,q0,e,q ι _ H (Go.refl _ _) hr (.str _)⟩
 ·exact Bn
def dR:yS:=⟨λl h Q=>match l with
 | [.str y]=>y.length<=sizeLine/\Q (.int y.length) h
 | [.tup l]=>Q (.int l.length) h
 | [.cl l]=>Q (.int l.length) h
 | [.ref n]=>match h[n]? with
  | some (.lst xs)=>Q (.int xs.length) h
  | _=>False
 | _=>False,λf q=>by
  revert q
  split
  ·exact λq=>⟨q.1,f _ _ q.2⟩
  ·exact f _ _
  ·exact f _ _
  ·split
   ·exact f _ _
   ·exact λz=>z
  ·exact λz=>z⟩
def SQ (K:Ab):yS.Ok K (Vf K) dR:=by
 intro ι H h vs l Q hr hv q;unfold dR at q;dsimp only at q;revert q
 split
 ·intro q;cases hv with
  | cons x t=>cases t;cases x;exact⟨_,_,rfl,⟨q.1,rfl⟩,q.2 ι _ H (Go.refl _ _) hr (.int _)⟩
 ·intro q;cases hv with
  | cons x t=>
   cases t;cases x with
   | tup e r=>exact⟨_,_,rfl,.inr ⟨_,d4.of e,r.length.symm⟩,q ι _ H (Go.refl _ _) hr (.int _)⟩
 ·intro q;cases hv with
  | cons x t=>
   cases t;cases x with
   | cl e r=>exact⟨_,_,rfl,.inl ⟨_,e.sq,r.length.symm⟩,q ι _ H (Go.refl _ _) hr (.int _)⟩
 ·rename_i n;cases hv with
  | cons x t=>
   cases t;cases x with
   | @ref _ a e=>
   split
   ·rename_i xs hn;intro q;obtain⟨ws,e1,e2⟩:=hr.obj n a _ e hn;exact⟨_,_,rfl,.inl ⟨ws,c7.of e1,e2.length.symm⟩,q ι _ H (Go.refl _ _) hr (.int _)⟩
   ·exact Bn
 ·exact Bn
inductive Kd where
 | str | tup | int | bool
def Kd.name:Kd->String
 | .str=>"str" | .tup=>"tuple" | .int=>"int" | .bool=>"bool"
def Kd.is:Kd->PV->Bool
 | .str,.str _=>true
 | .tup,.tup _=>true
 | .int,.int _=>true
 | .int,.bl _=>true
 | .bool,.bl _=>true
 | _,_=>false
def YV (K:Ab):List V->Hp->VK->Prop:=λxs H Q=>∃x c t b,xs=[x,.ty c]/\(lS K H x t\/(t=.type "tuple"/\∃a vs,x=.ref a/\d4 K H a vs))/\Bp K t (.type c)=am b/\Q (.bl b) H
def L4 (K:Ab) (hK:X.K=K):bP X (.builtin "isinstance") (YV K):=by
 subst hK;intro Z s σ H xs us Q I r h;obtain⟨x,c,t,b,rfl,ty | ⟨rfl,a,vs,rfl,hT⟩,e,q⟩:=h
 ·exact qm Z s σ H _ us Q I r ⟨x,c,t,b,rfl,ty,e,q⟩
 ·obtain⟨u,w,rfl,r1,r2⟩:=vals2 r;cases r1;cases r2;obtain⟨aq,_,⟨o,h1,h2,_⟩,_⟩:=I.tuple hT;exact A7 Fg I.vg ⟨o,h1,h2⟩ e (λz=>nomatch z) λtk=>⟨.bl b,H,I.tok _,rfl,q⟩
def qV (K:Ab):(∀k:Kd,Bp K (.type "NoneType") (.type k.name)=am false)/\(∀k:Kd,Bp K (.type "list") (.type k.name)=am false)/\(∀k:Kd,Bp K (.type "dict") (.type k.name)=am false):=
 ⟨λk=>by cases k <;> kernel_rfl,λk=>by cases k <;> kernel_rfl,λk=>by cases k <;> kernel_rfl⟩
def Wb (K:Ab) (b:Bool) (k:Kd):Bp K (.type "bool") (.type k.name)=am (k.is (.bl b)):=by cases k <;> kernel_rfl
def RQ (K:Ab) (b:Int) (k:Kd):Bp K (.type "int") (.type k.name)=am (k.is (.int b)):=by cases k <;> kernel_rfl
def RP (K:Ab) (b:Str) (k:Kd):Bp K (.type "str") (.type k.name)=am (k.is (.str b)):=by cases k <;> kernel_rfl
def RO (K:Ab) (b:List PV) (k:Kd):Bp K (.type "tuple") (.type k.name)=am (k.is (.tup b)):=by cases k <;> kernel_rfl
def Gk:yS:=⟨λl h Q=>match l with | [.int i]=>Q (.int (if i < 0 then -i else i)) h | _=>False,λf q=>by
 revert q
 split
 ·exact f _ _
 ·exact λz=>z⟩
def SS:yS.Ok K (λxs H Q=>∃i,xs=[.int i]/\Q (.int (if i < 0 then -i else i)) H) Gk:=by
 intro ι H h vs l Q hr hv q;unfold Gk at q;dsimp only at q;revert q
 split
 ·intro q;cases hv with
  | cons x t=>cases t;cases x;exact⟨_,rfl,q ι _ H (Go.refl _ _) hr (.int _)⟩
 ·exact Bn
def Gj:yS:=⟨λl h Q=>match l with | [.int i]=>Q (.int i) h | [.bl k]=>Q (.int (if k then 1 else 0)) h | _=>False,λf q=>by
 revert q
 split
 ·exact f _ _
 ·exact f _ _
 ·exact λz=>z⟩
def SR:yS.Ok K (λxs H Q=>(∃i,xs=[.int i]/\Q (.int i) H)\/∃k,xs=[.bl k]/\Q (.int (if k then 1 else 0)) H) Gj:=by
 intro ι H h vs l Q hr hv q;unfold Gj at q;dsimp only at q;revert q
 split
 ·intro q;cases hv with
  | cons x t=>cases t;cases x;exact .inl ⟨_,rfl,q ι _ H (Go.refl _ _) hr (.int _)⟩
 ·intro q;cases hv with
  | cons x t=>cases t;cases x;exact .inr ⟨_,rfl,q ι _ H (Go.refl _ _) hr (.int _)⟩
 ·exact Bn
def L9:yS:=⟨λl h Q=>match l with | [.int i,.int j]=>Q (.int (if j > i then j else i)) h | _=>False,λf q=>by
 revert q
 split
 ·exact f _ _
 ·exact λz=>z⟩
def L8:yS:=⟨λl h Q=>match l with | [.int i,.int j]=>Q (.int (if j < i then j else i)) h | _=>False,λf q=>by
 revert q
 split
 ·exact f _ _
 ·exact λz=>z⟩
def SO:yS.Ok K (λxs H Q=>∃i j,xs=[.int i,.int j]/\Q (.int (if j > i then j else i)) H) L9:=by
 intro ι H h vs l Q hr hv q;unfold L9 at q;dsimp only at q;revert q
 split
 ·intro q;cases hv with
  | cons x t=>cases t with
   | cons y t=>cases t;cases x;cases y;exact⟨_,_,rfl,q ι _ H (Go.refl _ _) hr (.int _)⟩
 ·exact Bn
def SN:yS.Ok K (λxs H Q=>∃i j,xs=[.int i,.int j]/\Q (.int (if j < i then j else i)) H) L8:=by
 intro ι H h vs l Q hr hv q;unfold L8 at q;dsimp only at q;revert q
 split
 ·intro q;cases hv with
  | cons x t=>cases t with
   | cons y t=>cases t;cases x;cases y;exact⟨_,_,rfl,q ι _ H (Go.refl _ _) hr (.int _)⟩
 ·exact Bn
end
end
end PL
variable {o:B4}
namespace PL
section
open PySem PySem.Spec PyProof.Rows L2
variable {K:Ab}
section
def Ni (K:Ab):List V->Hp->VK->Prop:=λxs H Q=>∃p ys,xs=[.ref p]/\((c7 K H p ys/\lO H (.tup ys) Q)\/(d4 K H p ys/\Q (.ref p) H))
def L0 (K:Ab) (hK:X.K=K):bP X (.type "tuple") (Ni K):=by
 subst hK;exact uK.mono λxs H Q ⟨p,ys,e,h⟩=>⟨p,ys,e,h.imp (λ⟨h1,h2⟩=>⟨h1,λl hl=>h2.at l hl⟩) λz=>z⟩
structure MQL where
 run:yR->PH->(Src->PH->Prop)->Prop
 mono:∀{ps h}{Q Q':Src->PH->Prop},(∀v h',Q v h'->Q' v h')->run ps h Q->run ps h Q'
structure MO where
 run:yR->PH->(Option Int->PH->Prop)->Prop
 mono:∀{ps h}{Q Q':Option Int->PH->Prop},(∀v h',Q v h'->Q' v h')->run ps h Q->run ps h Q'
def PO.imp {e:Option ii}{t t':TO} (h:L2.PO X e t) (f:∀σ H Q,t' σ H Q->t σ H Q):L2.PO X e t':=λZ s σ H Q I q=>h Z s σ H Q I (f _ _ _ q)
end
end
end PL
variable {t1:L2.TE}{tp:B9}
namespace PL
section
open PySem PySem.Spec PyProof.Rows L2
variable {K:Ab}
section
variable {c:ii}
def gX (lo:Int) (n:Nat):List PV:=(Az n).map λ(i:Nat)=>.int (lo+(i:Int))
def iT (lo:Int) (n:Nat):(gX lo n).length=n:=by unfold gX;simp
def pL {lo:Int}{p:PV} (h:(gX lo n)[i]?=am p):i < n/\p=.int (lo+i):=by
 unfold gX at h;rw [Ak] at h;cases z:(Az n)[i]? with
 | none=>rw [z] at h;cases h
 | some k=>
  rw [z] at h;obtain⟨h1,h2⟩:=Al.mp z;simp at h1 h2;subst h2;exact⟨h1,(Option.some.inj h).symm⟩
def qk (lo:Int) (n:Nat):List PV:=(Az n).map λ(i:Nat)=>.int (lo-(i:Int))
def vA (lo:Int) (n:Nat):(qk lo n).length=n:=by unfold qk;simp
def vB {lo:Int}{p:PV} (h:(qk lo n)[i]?=am p):i < n/\p=.int (lo-i):=by
 unfold qk at h;rw [Ak] at h;cases z:(Az n)[i]? with
 | none=>rw [z] at h;cases h
 | some k=>
  rw [z] at h;obtain⟨h1,h2⟩:=Al.mp z;simp at h1 h2;subst h2;exact⟨h1,(Option.some.inj h).symm⟩
def QK (i:Int):Prop:=-(2 ^ 62)<=i/\i < 2 ^ 62
def abk (m:MA):MI:=⟨λps h Q=>m.run ps h λl h1=>match l with | [.int j]=>QK j/\Q ⟨gX 0 j.toNat,λ_=>True,false⟩ h1 | _=>False,λf q=>m.mono (λl h1 q=>by
 revert q
 split
 ·exact λq=>⟨q.1,f _ _ q.2⟩
 ·exact λz=>z) q⟩
def dD (k:Nat):List PV->List PV
 | []=>[]
 | x::l=>.tup [.int (k:Int),x]::dD (k+1) l
theorem cg:∀(k:Nat) (l:List PV),(dD k l).length=l.length
 | _,[]=>rfl
 | k,x::l=>by rw [dD,Ao,Ao,cg]
theorem f7:∀{k:Nat}{l:List PV}{i:Nat}{p:PV},(dD k l)[i]?=am p->∃x,l[i]?=am x/\p=.tup [.int ((k+i:Nat):Int),x]
 | _,[],_,_,h=>by simp [dD] at h
 | k,x::l,0,p,h=>by simp [dD] at h;subst h;exact⟨x,rfl,by simp⟩
 | k,x::l,i+1,p,h=>by
  obtain⟨y,h1,h2⟩:=f7 (k:=k+1) (l:=l) (i:=i) (p:=p) (by simpa [dD] using h);exact⟨y,by simpa using h1,by rw [h2,show k+1+i=k+(i+1) by omega]⟩
def Wo (K:Ab) (t1:TE):TI:=λσ H R=>t1 σ H λx H1=>∃a,x=.ref a/\(((∃xs,c7 K H1 a xs)/\R (aaU K a) H1)\/((∃xs,d4 K H1 a xs)/\R (Ite K a) H1))
def NC {X:Cx} (K:Ab) (hK:X.K=K) {e1:ii}{kk:Nat} (hg:Gl X "enumerate") (hm:X.mg "enumerate"=bm) (h1:PE X e1 t1)
  (GH:gM X e1 []:=by rfl):PI X (.Tuple Î kk tp) (.Call (.Name "enumerate" p1) [e1] [] p2) (Wo K t1):=by
 subst hK;intro Z s σ H R I h;refine BD (ib I hg hm boot_enumerate ?_ ⋯ ⋯);refine Bd ?_ GH rfl;rw [GH];refine Cd (bV (h1 Z s σ H _ I h) λu1 s1 ⟨x,H1,I1,r1,a,ex,hh⟩=>CG ?_);subst ex;cases r1;have d1:s1.heap.objs.size+1≠s1.heap.objs.size:=Nat.succ_ne_self _;rcases hh with⟨⟨xs,hx⟩,q⟩ | ⟨⟨xs,hx⟩,q⟩
 ·obtain⟨aq,rx,tx,_⟩:=I1.list hx;refine call_enumerate_list tx.isList λh' ze hi _ k=>?_;refine C5 ze ?_;refine⟨_,_,_,_,H1,rfl,I1.kept (t':=s1.toks) k,GW d1,⟨⟨_,ze⟩,hi⟩,λc hc=>?_,q⟩;have Û:s1.heap.objs.size<=c:=by
   simp only [Aw,Bt,or_false] at hc;rcases hc with rfl | rfl
   ·exact BE _ _
   ·exact An _
  exact I1.xI Û (I1.br.fresh Û)
 ·obtain⟨aq,rx,tx,_⟩:=I1.tuple hx;have l1:=let ⟨_,e,_⟩:=tx;Ar e;refine IG tx λh' ze hi k=>?_;refine C5 ze ?_;refine⟨_,_,_,_,H1,rfl,I1.kept (t':=s1.toks) k,KD d1 (AA (AD l1 (BE _ 1))) (AA l1),⟨⟨_,ze⟩,hi⟩,λc hc=>?_,q⟩;have Û:s1.heap.objs.size<=c:=by
   simp only [Aw,Bt,or_false] at hc;rcases hc with rfl | rfl
   ·exact BE _ _
   ·exact An _
  exact I1.xI Û (I1.br.fresh Û)
def oZ:List PV->List PV->List PV
 | x::l,y::m=>.tup [x,y]::oZ l m
 | _,_=>[]
theorem rz:∀{l m:List PV}{i:Nat}{p:PV},(oZ l m)[i]?=am p->∃x y,l[i]?=am x/\m[i]?=am y/\p=.tup [x,y]
 | [],m,i,p,h=>by simp [oZ] at h
 | x::l,[],i,p,h=>by simp [oZ] at h
 | x::l,y::m,0,p,h=>by simp [oZ] at h;subst h;exact⟨x,y,rfl,rfl,rfl⟩
 | x::l,y::m,i+1,p,h=>by
  obtain⟨u,w,h1,h2,h3⟩:=rz (l:=l) (m:=m) (i:=i) (p:=p) (by simpa [oZ] using h);exact⟨u,w,by simpa using h1,by simpa using h2,h3⟩
end
end
end PL
variable {op:PySem.CmpOp}{p3 p4:B9}
namespace PL
open PySem PySem.Spec PyProof.Rows L2
section
variable {K:Ab}
section
structure JC (X:Cx) (K:Ab) (op:CmpOp) (b:ii) (m:M2):Prop where
 p:∃r,iC X (mo op) r/\M2.Ok K r m
 k:re op b=false
def Oq:JC X K .Lt b oLt:=⟨⟨_,Za,Gr λ_ _ _ _=>.bl _⟩,kx _⟩
def TZ:JC X K .LtE b oLe:=⟨⟨_,Zb,Gr λ_ _ _ _=>.bl _⟩,kx _⟩
def T3:JC X K .Gt b oGt:=⟨⟨_,Zc,Gr λ_ _ _ _=>.bl _⟩,kx _⟩
def ZE:JC X K .GtE b oGe:=⟨⟨_,Zd,Gr λ_ _ _ _=>.bl _⟩,kx _⟩
def xg:JC X K .Is b zD:=⟨⟨_,VE,Ru⟩,kx _⟩
def xf:JC X K .IsNot b rY:=⟨⟨_,Rh,NS⟩,kx _⟩
end
end
theorem Ge:∀{l:List PV},tJ l=true↔∀x∈l,x.dat=true
 | []=>by simp [tJ]
 | x::l=>by rw [tJ,AO,Ge];simp
section
variable {K:Ab}
section
variable {c:ii}
def Ph (h:aE K ι H vs l):vs.isEmpty=l.isEmpty:=by cases h <;> rfl
def aE.rep (h:aE K ι H vs l):∀k:Nat,aE K ι H (Am k vs).flatten (Am k l).flatten
 | 0=>.nil
 | k+1=>by
  rw [Bu,Bu,B2,B2];exact h.append (h.rep k)
def Nj:V->List V->Hp->VK->Prop:=λx vs H Q=>∃(l:ce) (ns:List Int) (k:Int),x=.ref l/\vs=[.int k]/\H l=am (.lst (ns.map V.int))/\k∈ns/\yW H l (.lst ((ns.erase k).map V.int)) (Q .aG)
theorem ints_get:∀{us:List bn}{ns:List Int},tz us ns->∀(i:Nat) (hi:i < us.length),∃n t,ns[i]?=am n/\us[i]=.int n t
 | _,_,.nil,i,hi=>by simp at hi
 | _,_,.cons _ _ r,i,hi=>by
  cases i with
  | zero=>exact⟨_,_,rfl,rfl⟩
  | succ i=>exact ints_get r i (by simpa using hi)
theorem OA {k:Int}:∀{ns:List Int}{m:Nat},ns[m]?=am k->ns.idxOf k<=m
 | [],m,h=>by simp at h
 | a::ns,0,h=>by
  have:a=k:=by simpa using h
  subst this;simp
 | a::ns,m+1,h=>by
  have:=OA (ns:=ns) (m:=m) (by simpa using h);rw [List.idxOf_cons];by_cases c:a=k
  ·have:(a==k)=true:=by simpa using c
   rw [this];exact A9 _
  ·have c2:(a==k)=false:=by simpa using c
   rw [c2];exact Nat.succ_le_succ this
theorem vq (f:α->β):∀(l:List α) (j:Nat),(l.eraseIdx j).map f=(l.map f).eraseIdx j
 | [],_=>rfl
 | a::l,0=>rfl
 | a::l,j+1=>by
  show f a::(l.eraseIdx j).map f=f a::(l.map f).eraseIdx j;rw [vq f l j]
def isK (k:Int):bn->Bool
 | .int a _=>a==k
 | _=>false
def ug (r:Vals vs us):∀j,Vals (vs.eraseIdx j) (us.eraseIdx j):=by
 induction r with
 | nil=>intro j;exact .nil
 | cons h r ih=>
  intro j;cases j with
  | zero=>exact r
  | succ j=>exact .cons h (ih j)
theorem Hi:Kw X "list.remove" Nj:=by
 intro Z s σ H x vs v us Q I rx rv h;obtain⟨l,ns,k,rfl,rfl,hH,hk,q⟩:=h;cases rx;obtain⟨u,rfl,ru⟩:=rv.one;obtain⟨t,rfl⟩:=ru;obtain⟨z,aq,n,r,hl,e⟩:=I.qv hH;have hi:=intsAre_of r;have Â:ns.length=aq.length:=by rw [Af] at hl;omega
 have hj:=BG hk;have hej:ns.erase k=ns.eraseIdx (ns.idxOf k):=by rw [List.erase_eq_eraseIdx_of_idxOf rfl]
 refine sK F.slot_list_remove ⟨_,e,rfl⟩ F.entry_list_remove (F.args_list_remove_2 _ _) (MeetsSeq.list_remove l aq.toArray n (.int k t) (isK k) (λy hy=>?_) (ns.idxOf k) (by rw [Aj];omega) ?_ (λm hm iB=>?_) (by rw [Aj];omega)) ⟨e,?_⟩
 ·have Wr:y∈aq:=by simpa using hy
  obtain⟨i,XI⟩:=CM Wr;obtain⟨h1,h2⟩:=Al.mp XI;obtain⟨n',t',g1,g2⟩:=ints_get hi i h1;rw [<- h2,g2];exact MeetsSeq.EqGives.int _ _ _ _
 ·have h1:ns.idxOf k < aq.length:=by omega
  obtain⟨n',t',g1,g2⟩:=ints_get hi (ns.idxOf k) h1;have g3:ns[ns.idxOf k]?=am k:=by rw [Ad hj,List.getElem_idxOf hj]
  rw [g3] at g1;cases g1;rw [Dx,g2];simp [isK]
 ·have h1:m < aq.length:=by rw [Aj] at hm;exact hm
  obtain⟨n',t',g1,g2⟩:=ints_get hi m h1;rw [Dx,g2];have:n'≠k:=λz=>by
   subst z;have:=OA g1;omega
  simp [isK,this]
 ·refine⟨.aG,_,I.Hq (its':=aq.eraseIdx (ns.idxOf k)) (ys:=(ns.erase k).map V.int) hH e (by simp [Array.toList_eraseIdxIfInBounds,<- Array.toList_inj]) ?_ ?_,rfl,q.at⟩
  ·rw [hej,vq];exact ug r _
  ·rw [hej,Af,E5]
   split <;> omega
theorem jr:∀{ns:List Int}{vs:List V},aE K ι H vs (ns.map PV.int)->vs=ns.map V.int
 | [],_,h=>by cases h;rfl
 | b::bs,_,h=>by
  cases h with
  | cons x t=>cases x;rw [jr t];rfl
theorem oe (ι:List ce) (H:Hp):∀ns:List Int,aE K ι H (ns.map V.int) (ns.map PV.int)
 | []=>.nil
 | n::ns=>.cons (.int n) (oe ι H ns)
def Vb (K:Ab):List V->Hp->VK->Prop:=λxs H Q=>∃(p:ce) (ns:List Int),xs=[.ref p]/\c7 K H p (ns.map V.int)/\ns.length < 64/\∀ms:List Int,ms.Perm ns->ms.Pairwise (·<=·)->lO H (.lst (ms.map V.int)) Q
theorem IC (K:Ab) (hK:X.K=K):bP X (.builtin "sorted") (Vb K):=by
 subst hK;intro Z s σ H xs us Q I r h;obtain⟨p,ns,rfl,hq,ä,q⟩:=h;obtain⟨u,rfl,rx⟩:=vals1 r;cases rx;obtain⟨aq,r',pl,hz⟩:=I.list hq;have hi:=intsAre_of r';have hl:=r'.length;rw [Af] at hl hz;refine PyProof.Rows.sorted_ints pl.isList hi ∅ λout ms a1 a2 a3=>?_;obtain⟨e,he⟩:=sortedAll_at s.heap aq out;refine⟨.ref (s.heap.objs.size+1),_,I.laid (t':=s.toks) (λ_ _=>sortedAll_old) (Dw _) (show a7 X.prog X.w _ _ _ (.lst (ms.map V.int)) from⟨?_,out.toList,e,o5 a1,?_⟩),rfl,(q ms a2 a3).at _ (I.br.fresh (Dw _))⟩
 ·rw [Af,a2.length_eq];exact hz
 ·rw [Array.toArray_toList];exact he
end
end
end PL
variable {xs:Array AZ}{a:BC}{o:Fv}
namespace L2
open PySem PySem.Spec PyProof.Rows
def mH {name:Str}{Q:Option bn->ci->Prop}
  (hx:s.heap.get? a=am o) (hc:o.cls=.type "list") (oo:o.data=.seq xs k) (hd:o.dict=bm) (ZT:EQ (.type "list") name=pure bm) (ZS:(["__module__","__name__","__qualname__","__doc__","__annotations__"]:List Str).contains name=false) (hA:A.handled=bm)
  (h:∀h' tk e,Heap.NewExcOf s.heap h' e "AttributeError"->Q bm {s with heap:=h',toks:=tk}) (hsz:name.length+100<=sizeLine:=by size_fits) :
  db (dL prog w) A (getAttr? (.ref a) name) Q E s:=by
 obtain⟨c,dct,dat,sl⟩:=o;simp only at hc oo hd;subst hc oo hd;obtain⟨hp,g,d,tk,os⟩:=s;have hT:∀ç,(⟨hp,g,d,ç,os⟩:ci).TypeIs (.ref a) "list":=λ_=>⟨_,hx,rfl⟩;have f1:=sub_AttributeError;have f3:=CU.lookup;have f4:=CU.bind (.ref a);have f5:=am_list_getattr_none
 repeat (any_goals (first | assumption | exact hT _ | ((with_reducible show db _ _ (call (Value.builtin "list.__getattribute__") _ _) _ _ _);refine sK CU (hT _) am_entry_list_getattribute (F.args_list_getattribute_2 _ _) (meets_getattribute_miss_list a xs k sl name _ ZT ZS hsz) ⟨hx,hA,λh' ç e vk=>?_⟩) | wp_step))
 obtain⟨t',u',he⟩:=vk.there;unfold getattributeRaised
 repeat (any_goals (first | assumption | wp_step))
 exact h _ _ _ vk.of
end L2
variable {b d:BC}{v:AZ}
namespace L2
open PySem PySem.Spec PyProof.Rows
def g8:entryFor table "dict.update.loop"=am u8.«dict.update.loop»:=entryFor_of_fast (by kernel_rfl)
def gQ:plainId "dict.update.loop"=true:=by decide +kernel
section
variable {K:Type} [DecidableEq K] {knd:KeyKind prog w K}
def yN (knd:KeyKind prog w K) (h:lf) (it d:ce) (v:bn) (x:List K×ce×bn):Prop:=
 ∃pa o n,v=.ref pa/\pa≠it/\pa≠d/\x.2.1≠it/\x.2.1≠d/\h.get? pa=am o/\o.cls=.type "tuple"/\o.data=.seq #[.ref x.2.1,x.2.2] n/\(lw knd).is h x.1 x.2.1
def vR {k:List K} (x:(lw knd).is h k b) (kp:∀o,h.get? b=am o->h'.get? b=am o):(lw knd).is h' k b:=by
 obtain⟨o,aq,n,h1,h2⟩:=x;exact⟨o,aq,n,kp _ h1,h2⟩
def yN.keep {x:List K×ce×bn} (p:yN knd h it d v x) (kp:∀b o,b≠it->b≠d->h.get? b=am o->h'.get? b=am o):yN knd h' it d v x:=by
 obtain⟨pa,o,n,e,n1,n2,n3,n4,h1,h2,h3,h4⟩:=p;exact⟨pa,o,n,e,n1,n2,n3,n4,kp _ _ n1 n2 h1,h2,h3,vR h4 λo q=>kp _ _ n3 n4 q⟩
def yj {xs:List (List K×ce×bn)} (m:h.DictOfH (lw knd) d xs) (hd:d≠it) (hx:∀x∈xs,x.2.1≠it) (kp:∀b o,b≠it->h.get? b=am o->h'.get? b=am o):h'.DictOfH (lw knd) d xs:=by
 obtain⟨o,es,ep,ho,hc,ģ,he,his,hn⟩:=m;exact⟨o,es,ep,kp _ _ hd ho,hc,ģ,he,λx q=>vR (his x q) λo z=>kp _ _ (hx x q) z,hn⟩
def y9 {xs:List (List K×ce×bn)}{k:List K} (hx:∀x∈xs,x.2.1≠it) (hb:b≠it):∀x∈xL xs k b v,x.2.1≠it:=by
 intro x q;unfold xL at q
 split at q
 ·obtain⟨y,hy,rfl⟩:=Av.mp q;have e:(putAt k v y).2.1=y.2.1:=by unfold putAt;split <;> rfl
  rw [e];exact hx y hy
 ·rcases A2.mp q with q | q
  ·exact hx x q
  ·rw [AR.mp q];exact hb
def za {xs:List (List K×ce×bn)}{k:List K}:(xL xs k b v).length<=xs.length+1:=by
 unfold xL
 split <;> simp
theorem yV (hA:A.handled=bm) (hu:A.units+1 < pc) {l:ce} (hz:items.size+items.size<=sizeLine) (Ģ:d≠it) (hli:l≠it) (hld:l≠d) :
  ∀(k i:Nat) (ys xs:List (List K×ce×bn)) (s:ci),items.size-i=k->i<=items.size->ys.length=items.size-i->xs.length<=i->s.heap.IsListIter it l i->s.heap.IsList l items->s.heap.DictOfH (lw knd) d xs->(∀x∈xs,x.2.1≠it)->
   (∀j x,ys[j]?=am x->∃v,items[i+j]?=am v/\yN knd s.heap it d v x)->
   (∀h' tk,h'.DictOfH (lw knd) d (ys.foldl (λa y=>xL a y.1 y.2.1 y.2.2) xs)->(∀b o,b≠it->b≠d->s.heap.get? b=am o->h'.get? b=am o)->R (.ok (.ret .none)) {s with heap:=h',toks:=tk})->
   BT (dL prog w) A (.builtin "dict.update.loop" ⟨[.ref d,.ref it,ul i,.none],[]⟩) R s:=by
 intro k
 induction k with
 | zero=>
  intro i ys xs s hk hi hy hxl Ñ hl hd hx hp q;have e0:ys=[]:=BX ∅;subst e0;refine FB g8 ?_;refine Aa (wpAny_pyNext_list_end (A:=A.in1) hA Ñ hl (by rw [EE];omega) λh' ex=>?_);have kp:=ex;exact Aa (Ae (Ae (q h' s.toks (yj hd Ģ hx kp) λb o n1 _ e=>kp b o n1 e)))
 | succ k ih=>
  intro i ys xs s hk hi hy hxl Ñ hl hd hx hp q
  match ys,hy,hp,q with
  | [],hy,_,_=>exact absurd hy (by simp only [Bj];omega)
  | y::ys,hy,hp,q=>
  obtain⟨v,hv,pa⟩:=hp 0 y rfl;refine FB g8 ?_;refine Aa (wpAny_pyNext_list_item Ñ hl (by simpa using hv) λh1 adY sb=>?_);have RN:∀b o,b≠it->s.heap.get? b=am o->h1.get? b=am o:=λb o hb e=>(sb.2 b hb).trans e;have pa1:=pa.keep λb o n1 _ e=>RN b o n1 e;have Z5:=yj hd Ģ hx RN;have Ĝ:h1.IsList l items:=let ⟨o,e,p⟩:=hl;⟨o,RN _ _ hli e,p⟩;obtain⟨p,o,n,rfl,n1,n2,n3,n4,g1,g2,g3,g4⟩:=pa1;refine Aa (Bk (Aa (DU ?_)));refine Aa (Et (T:="tuple") ⟨_,g1,g2⟩ ?_);refine Aa (Bq g1 g3 (Ae ?_));refine Bk (wpAny_dictSet_heap (knd:=lw knd) (tupleKind_room_in1 hu) g4 Z5 (λh2 Ò sb2=>?_) ∅);have č:∀b o,b≠d->h1.get? b=am o->h2.get? b=am o:=λb o hb e=>(sb2.2 b hb).trans e;refine Ae ⟨ut gQ _,?_⟩;have kp:∀b o,b≠it->b≠d->s.heap.get? b=am o->h2.get? b=am o:=λb o a1 a2 e=>č _ _ a2 (RN _ _ a1 e);refine ih (i+1) ys (xL xs y.1 y.2.1 y.2.2) _ ∅ ∅ (by rw [Ao] at hy;omega) (BB za ∅) ?_ ?_ Ò (y9 hx n3) (λj x hj=>?_) (λh' tk dd k3=>?_)
  ·obtain⟨o',e1,e2⟩:=adY;exact⟨o',č _ _ (BA Ģ) e1,e2⟩
  ·obtain⟨o',e1,e2⟩:=Ĝ;exact⟨o',č _ _ hld e1,e2⟩
  ·obtain⟨v',h3,h4⟩:=hp (j+1) x hj;exact⟨v',by rw [show i+1+j=i+(j+1) by omega];exact h3,h4.keep kp⟩
  ·exact q h' tk dd λb o a1 a2 e=>k3 b o a1 a2 (kp b o a1 a2 e)
end
def wI:EQ (.type "list") (B7 "keys")=pure bm:=am_miss_of_fast (by decide +kernel)
section
variable {K:Type} [DecidableEq K] {knd:KeyKind prog w K}
theorem qH {l:ce}{ys:List (List K×ce×bn)} (hA:A.handled=bm) (hu:A.units+2 < pc) (ho:s.heap.get? l=am o) (hc:o.cls=.type "list") (oo:o.data=.seq items n) (hd:o.dict=bm)
  (hz:items.size+items.size<=sizeLine) (hy:ys.length=items.size)
  (hp:∀(j:Nat) (x:List K×ce×bn),ys[j]?=am x->∃(pa:ce) (op:Obj) (m:Nat),items[j]?=am (Ax pa)/\s.heap.get? pa=am op/\op.cls=.type "tuple"/\op.data=.seq #[Ax x.2.1,x.2.2] m/\(lw knd).is s.heap x.1 x.2.1)
  (q:∀h' tk,(∀b o,s.heap.get? b=am o->h'.get? b=am o)->h'.DictOfH (lw knd) s.heap.objs.size (ys.foldl (λa y=>xL a y.1 y.2.1 y.2.2) [])->Q (.ref s.heap.objs.size) {s with heap:=h',toks:=tk}) :
  db (dL prog w) A (call (.type "dict") [.ref l]) Q E s:=by
 refine callType_codes (Q₁:=λobj s₁=>obj=.ref s.heap.objs.size/\s₁={s with heap:=s.heap.push {cls:=.type "dict",data:=.dict #[]}}) F.kt_called_dict (F.kt_typeCall_dict_1 _) F.entry_dict_init (kt_code_dict_new _ ⟨rfl,rfl⟩) ?_;rintro obj s₁ ⟨rfl,rfl⟩;have ò:∀b o,s.heap.get? b=am o->(s.heap.push {cls:=.type "dict",data:=.dict #[]}).get? b=am o:=λb o e=>Ag _ e;have Sf:(s.heap.push {cls:=.type "dict",data:=.dict #[]}).DictOf knd s.heap.objs.size []:=Heap.DictOf.new s.heap;have ZR:(s.heap.push {cls:=.type "dict",data:=.dict #[]}).DictOfH (lw knd) s.heap.objs.size []:=⟨_,#[],0,Ap _ rfl,⟨rfl,rfl,rfl⟩,rfl,rfl,λx hx=>absurd hx (Bt),D2⟩;have ls:∀b o,s.heap.get? b=am o->b≠s.heap.objs.size:=λb o e z=>by subst z;exact AU _ (Ar e)
 refine⟨Sf.typeIs,F.args_dict_init_2 _ _,?_⟩;refine Aa ?_;refine Aa (wpAny_notOrdered_dict Sf.typeIs ?_);refine Ae ?_;refine Aa (Et (T:="list") ⟨_,ò _ _ ho,hc⟩ ?_);refine Aa (mH (ò _ _ ho) hc oo hd wI (by decide +kernel) hA (λh1 tk e nx=>?_) ⋯);refine Aa (CZ (Aa ?_));refine C4 (items:=items) ⟨_,nx.keeps _ _ (ò _ _ ho),hc,n,oo⟩ ?_;have hsz:=Ar (nx.keeps _ _ (Ap s.heap rfl));have RN:∀b o,s.heap.get? b=am o->(h1.push {cls:=.type "list_iterator",data:=.fields #[.ref l,.int 0 0]}).get? b=am o:=λb o e=>Ag _ (nx.keeps _ _ (ò _ _ e));have ni:∀b o,s.heap.get? b=am o->b≠h1.objs.size:=λb o e z=>by
  have h3:=Ar e;subst z;exact AU _ (Nat.lt_trans h3 hsz)
 refine Ae ⟨ut gQ _,?_⟩;refine yV (A:=A.in1) (knd:=knd) hA (by show A.units+1+1 < _;omega) (items:=items) (d:=s.heap.objs.size) (it:=h1.objs.size) (l:=l) hz (AA hsz) (ni _ _ ho) (ls _ _ ho) items.size 0 ys [] _ (Fp _) (A9 _) (by rw [hy];rfl) (An _)
  ⟨_,Ap _ rfl,rfl,rfl⟩ ⟨_,RN _ _ ho,hc,n,oo⟩ ?_ (λx hx=>nomatch hx) (λj x hj=>?_) (λh' ç dd kp=>?_)
 ·refine yj (it:=h1.objs.size) ZR (AA hsz) (λx hx=>nomatch hx) λb o _ e=>Ag _ (nx.keeps _ _ e)
 ·obtain⟨pa,op,m,e1,e2,e3,e4,e5⟩:=hp j x hj;have kb:∃ob,s.heap.get? x.2.1=am ob:=let ⟨ob,_,_,z,_⟩:=e5;⟨ob,z⟩;obtain⟨ob,eb⟩:=kb;exact⟨.ref pa,by rw [AG];exact e1,pa,op,m,rfl,ni _ _ e2,ls _ _ e2,ni _ _ eb,ls _ _ eb,RN _ _ e2,e3,e4,vR e5 λo z=>RN _ _ z⟩
 ·exact⟨rfl,q h' ç (λb o e=>kp b o (ni _ _ e) (ls _ _ e) (RN _ _ e)) dd⟩
end
structure Pz where
 pa:ce
 k:List Key
 b:ce
 v:V
def Pz.At (H:Hp) (z:Pz):Prop:=H z.pa=am (.tup [.ref z.b,z.v])/\H z.b=am (.tup (z.k.map kV))
def Vj (K:Ab):List V->Hp->VK->Prop:=λxs H Q=>∃(p:ce) (zs:List Pz),xs=[.ref p]/\c7 K H p (zs.map λz=>.ref z.pa)/\(∀z∈zs,z.At H)/\(zs.map (·.k)).Nodup/\zs.length<=1000/\lO H (.dT (zs.map λz=>(z.k,z.v))) Q
theorem qg {K:Type} [DecidableEq K]:∀(ys xs:List (K×ce×bn)),((xs++ys).map (·.1)).Nodup->ys.foldl (λa y=>xL a y.1 y.2.1 y.2.2) xs=xs++ys
 | [],xs,_=>by simp
 | y::ys,xs,h=>by
  have hn:atKey xs y.1=bm:=by
   cases e:atKey xs y.1 with
   | none=>rfl
   | some p=>
    exfalso;rw [AN,Aq] at h;have h2:=(List.nodup_append.mp h).2.2;have hm:y.1∈xs.map (·.1):=by
     by_cases hc:y.1∈xs.map (·.1)
     ·exact hc
     ·rw [atKey_none_of_get (λj q hj=>?_)] at e
      ·cases e
      ·exact hc (Av.mpr ⟨_,Br hj,rfl⟩)
    exact h2 _ hm _ Bs rfl
  rw [CW,storedH_new hn,qg ys (xs++[(y.1,y.2.1,y.2.2)]) (by simpa using h)];simp
section
theorem IH (K:Ab) (hK:X.K=K) (hc:X.calm=true) (hu:X.A.units+2 < pc):bP X (.type "dict") (Vj K):=by
 subst hK;intro Z s σ H xs us Q I r h;obtain⟨p,zs,rfl,hq,hz,hn,hl,q⟩:=h;obtain⟨u,rfl,rx⟩:=vals1 r;cases rx;obtain⟨aq,rv,pl,hsz⟩:=I.list hq;obtain⟨o,n,ho,XM,hd,oo⟩:=pl;have æ:∀(zs:List Pz) (aq:List bn),(∀z∈zs,z.At H)->Vals (zs.map λz=>V.ref z.pa) aq->∃ys:List (List Key×ce×bn),ys.map (·.1)=zs.map (·.k)/\KT H (zs.map λz=>(z.k,z.v)) ys/\
   ∀(j:Nat) (x:List Key×ce×bn),ys[j]?=am x->∃(pa:ce) (op:Obj) (m:Nat),aq[j]?=am (Ax pa)/\s.heap.get? pa=am op/\op.cls=.type "tuple"/\op.data=.seq #[Ax x.2.1,x.2.2] m/\(lw (bF X.prog X.w)).is s.heap x.1 x.2.1:=by
  intro zs
  induction zs with
  | nil=>intro aq _ _;exact⟨[],rfl,.nil,λj x h=>by simp at h⟩
  | cons z zs ih=>
   intro aq ha hv;cases hv with
   | @cons _ u _ us ru rus=>
   cases ru;obtain⟨ys,e1,e2,e3⟩:=ih us (λy hy=>ha y (AV _ hy)) rus;obtain⟨a1,a2⟩:=ha z Bs;obtain⟨_,its',r',op,h1,h2,m,h3⟩:=(show a7 X.prog X.w H s.heap z.pa (.tup [.ref z.b,z.v]) from I.br _ _ a1);obtain⟨w,rfl,wd⟩:∃w,its'=[Ax z.b,w]/\RelV z.v w:=by
    cases r' with
    | cons q1 q2=>cases q1;cases q2 with
     | cons q3 q4=>cases q4;exact⟨_,rfl,q3⟩
   refine⟨(z.k,z.b,w)::ys,by rw [Aq,Aq,e1],.cons ⟨rfl,a2,wd⟩ e2,λj x hj=>?_⟩;cases j with
   | zero=>
    cases hj;exact⟨z.pa,op,m,rfl,h1,h2,h3,wN I.br a2⟩
   | succ j=>exact e3 j x hj
 obtain⟨ys,e1,e2,e3⟩:=æ zs aq hz rv;have Â:=rv.length;rw [Af] at Â;have ô:ys.length=zs.length:=by have:=congrArg BN e1;simpa using this
 have hs:(1000:Nat)+1000<=sizeLine:=by decide
 refine qH (knd:=bF X.prog X.w) (items:=aq.toArray) (ys:=ys) (I.ok.hd hc) hu ho XM oo hd (by rw [Aj];omega) (by rw [Aj];omega) (λj x hj=>?_) (λh' tk kp dd=>?_)
 ·obtain⟨pa,op,m,g1,g2⟩:=e3 j x hj;exact⟨pa,op,m,by rw [EW];exact g1,g2⟩
 ·rw [qg ys [] (by rw [EN,e1];exact hn),EN] at dd;obtain⟨od,es,ep,ù,h2,h3,h4,_,h5⟩:=dd;have ad9:=beq_eq_false_iff_ne.mpr (BA (AA I.big));have fr:=I.br.fresh (An s.heap.objs.size);refine⟨.ref s.heap.objs.size,_,I.laid (t':=tk) kp (An _) (show a7 X.prog X.w (upd H s.heap.objs.size (.dT (zs.map λz=>(z.k,z.v)))) h' _ (.dT _) from⟨?_,ad9,ys,?_,od,es,ep,ù,h2,h3,h4,h5⟩),rfl,q.at _ fr⟩
  ·rw [Af];exact BB hl ⋯
  ·refine e2.keeps λc xs ec=>?_;rw [av (λz=>by subst z;rw [fr] at ec;cases ec)];exact ec
end
end L2
variable {es:Array PySem.DictEntry}{ep:Nat}
namespace L2
open PySem PySem.Spec PyProof.Rows
section
def S4 (h:lf) (d:ce) (es:Array DictEntry) (ep:Nat):Prop:=∃o,h.get? d=am o/\o.ExactDict/\o.data=.dict es ep
theorem NV {Q:Option bn->ci->Prop} (Ñ:s.heap.IsKeyIter it d i es.size ep) (hm:S4 s.heap d es ep) (hi:i < es.size)
  (q:∀h',h'.IsKeyIter it d (i+1) es.size ep->B8 it s.heap h'->Q (am es[i].key) {s with heap:=h'}):db (dL prog w) A (pyNext (.ref it)) Q E s:=by
 have ty:=Ñ.typeIs;obtain⟨o,ho,hc,hd⟩:=id Ñ;obtain⟨od,Se,-,Uc⟩:=hm;have ZY:(s.heap.update it (Obj.mapFields (·.setIfInBounds 1 (ul ((i:Int)+1))))).IsKeyIter it d (i+1) es.size ep:=⟨_,BQ _ ho (ER (CY hd _)),(Obj.cls_mapFields ..).trans hc,by rw [CY hd];simp [ul]⟩;refine Aa (CV (A5 (name:=B7 "__next__") ty Bz (Bl Bz ty Dq ?_ (Dh _))));refine Aa (Ae (Aa (Aa ?_)))
 first | refine Aa (BV ty (Ae ?_)) | refine Aa (Cj ty (Ae ?_))
 refine Aa (wpAny_fieldsOf ho hd ?_);show db _ _ (if (Ax d==AM)=true then _ else _) _ _ s;rw [if_neg (λz:(Ax d==AM)=true=>A3 z)];refine Aa (Ae (Aa (Eb Se Uc ?_)));rw [if_neg (by simp)];refine Aa (Ae (Aa (EL Se Uc ?_)));rw [if_neg (by simp)];refine Ae ?_;have i0:¬((i:Int) < 0):=by omega
 simp only [i0,if_false,Ba,CP hi];refine Aa ?_
 first | refine Aa (BV ty (Ae ?_)) | refine Aa (Cj ty (Ae ?_))
 refine Aa (wpAny_isOneOf_keyiter ty ?_);show db _ _ (wn (.ref it) 1 (ul ((i:Int)+1)) >>= _) _ _ s;refine Aa (DV ho hd (by simp) (Aa (Bk (Aa (wpAny_isOneOf_keyiter (s:={s with heap:=s.heap.update it (Obj.mapFields (·.setIfInBounds 1 (ul ((i:Int)+1))))}) ZY.typeIs ?_)))));exact Ae (Ae ⟨_,rfl,Ae (q _ ZY (B8.update ..))⟩)
theorem Sv {Q:Option bn->ci->Prop} (hh:A.handled=bm) (Ñ:s.heap.IsKeyIter it d i es.size ep) (hm:S4 s.heap d es ep) (hi:es.size<=i)
  (q:∀h',Fx it s.heap h'->Q bm {s with heap:=h'}):db (dL prog w) A (pyNext (.ref it)) Q E s:=by
 have ty:=Ñ.typeIs;obtain⟨o,ho,hc,hd⟩:=id Ñ;obtain⟨od,Se,-,Uc⟩:=hm;refine Aa (CV (A5 (name:=B7 "__next__") ty Bz (Bl Bz ty Dq ?_ (Dh _))));refine Aa (Ae (Aa (Aa ?_)))
 first | refine Aa (BV ty (Ae ?_)) | refine Aa (Cj ty (Ae ?_))
 refine Aa (wpAny_fieldsOf ho hd ?_);show db _ _ (if (Ax d==AM)=true then _ else _) _ _ s;rw [if_neg (λz:(Ax d==AM)=true=>A3 z)];refine Aa (Ae (Aa (Eb Se Uc ?_)));rw [if_neg (by simp)];refine Aa (Ae (Aa (EL Se Uc ?_)));rw [if_neg (by simp)];refine Ae ?_;have i0:¬((i:Int) < 0):=by omega
 simp only [i0,if_false,Ba,EE hi];refine Aa ?_
 first | refine Aa (BV ty (Ae ?_)) | refine Aa (Cj ty (Ae ?_))
 show db _ _ (wn (.ref it) 0 .none >>= _) _ _ s;refine Aa (DV ho hd (by simp) ?_);refine Aa ?_;refine Aa (A1 (Aa (m:=firstArgMember _ _) (Cr (a:=AM) (by first | rfl | (simp only [firstArgMember];rfl)) (A1 ?_ (by size_fits)))) (by size_fits));unfold raiseNew;refine Aa (wpAny_handled ?_);rw [show A.in1.handled=bm from hh];refine Aa (Ae (wpAny_throw ?_));refine Aa (Dj (T:="StopIteration") (b:=true) ⟨_,Ap _ rfl,rfl⟩ isSubtype_stop ?_);exact Ae (q _ (((B8.update ..).extBut.push _).push _))
def Ou (hs:(d==sw)=false) (hm:S4 s.heap d es ep)
  (q:Q (.ref s.heap.objs.size) {s with heap:=s.heap.push {cls:=.type "dict_keyiterator",data:=.fields #[.ref d,.int 0 0,.int es.size 0,.int ep 0]}}):db (dL prog w) A (pyIter (.ref d)) Q E s:=by
 obtain⟨od,Se,hx,Uc⟩:=hm;have ty:s.TypeIs (.ref d) "dict":=⟨_,Se,hx.1⟩;refine wpAny_pyIter_slot ty F.slot_dict_iter (Bl F.slot_dict_iter ty F.entry_dict_iter ?_ (F.args_dict_iter_1 _));refine Aa ?_;refine Aa (wpAny_notOrdered_dict ty ?_);refine Ae ?_;show db _ _ (Builtin.Dict.showsAll d >>= _) _ _ s;unfold Builtin.Dict.showsAll;rw [if_neg (by rw [hs];exact A3)];refine Aa (Ae (Aa (Eb Se Uc (Aa (EL Se Uc ?_)))));exact Aa (A1 (Ae ⟨_,rfl,"dict_keyiterator",_,⟨_,Ap _ rfl,rfl⟩,Bz.lookup,q⟩))
end
end L2
variable {u:L2.HO}
namespace L2
open PySem PySem.Spec PyProof.Rows
section
variable {σ:St}
def Inv.freeze (I:Inv X Z σ H s) (e:H a=am (.dT kvs)):∃o,Inv X Z σ (upd H a (.cu o (.dT kvs))) s:=by
 obtain⟨z,hs,xs,r,o,es,ep,h1,h2,h3,h4,h5⟩:=(show a7 X.prog X.w H s.heap a (.dT kvs) from I.br a _ e);refine⟨o,?_⟩;have q:=I.write (x:=a) (e:=a) (o:=.cu o (.dT kvs)) (h':=s.heap) (t':=s.toks) (by rw [e];exact Cb) (.inl rfl) (λb u _ z=>z) ⟨o,h1⟩
  ⟨h1,z,hs,xs,KT.keeps r λb ys eb=>by rw [av (JP eb e (λz=>nomatch z))];exact eb,o,es,ep,h1,h2,h3,h4,h5⟩
 exact q
def Inv.acE (I:Inv X Z σ H s) (e:H a=am (.cu o u)) (h0:∀o u,X.H₀ a≠am (.cu o u)) (hu:a7 X.prog X.w (upd H a u) s.heap a u) (br:lN X.prog X.w (upd H a u) s.heap):Inv X Z σ (upd H a u) s:=by
 have ne:∀b v,H b=v->v≠am (.cu o u)->b≠a:=λb v q n z=>by subst z;exact n (q.symm.trans e)
 refine⟨I.ok,I.os,I.bare,⟨I.base.keep,I.base.slot,λb ob q n hx=>?_,I.base.there,λb xs q=>?_,λb ob xs q=>?_,λb ps q=>?_⟩,I.loc,I.cell,?_,λx c q=>?_,λp hp=>?_,br,I.len⟩
 ·have:=I.base.free b ob q n hx;rw [av (ne b _ this (by simp))];exact this
 ·have:=I.base.d5 b xs q;rw [av (ne b _ this (by simp))];exact this
 ·have:=I.base.tj b ob xs q;have hb:b≠a:=λz=>by subst z;exact h0 _ _ q
  rw [av hb];exact this
 ·obtain⟨m,this⟩:=I.base.vS b ps q;exact⟨m,by rw [av (ne b _ this (by simp))];exact this⟩
 ·rw [av (ne _ _ I.free (by simp))];exact I.free
 ·rw [av (ne _ _ (I.j6 x c q) (by simp))];exact I.j6 x c q
 ·obtain⟨p1,p2,p3⟩:=I.pin p hp;exact⟨p1,by rw [av (ne _ _ p2 (by simp))];exact p2,p3⟩
def OD (ok:lN P w H h) (e:H a=am (.cu o u)):lN P w (upd H a u) h:=λb u' q=>by
 have ne:∀c v,H c=am v->v≠.cu o u->upd H a u c=am v:=λc v z n=>by
  rw [av (λy=>by subst y;rw [e] at z;cases z;exact n rfl)];exact z
 by_cases hb:b=a
 ·subst hb;rw [aM] at q;cases q;exact a7.vV (ok b _ e).2 (λ_ _ _ z=>z) (λc z=>ne c _ z (by simp)) λc xs z=>ne c _ z (by simp)
 ·rw [av hb] at q;exact a7.vV (ok b _ q) (λ_ _ _ z=>z) (λc z=>ne c _ z (by simp)) λc xs z=>ne c _ z (by simp)
end
def aaV (a:ce) (o:Obj):It:=
 ⟨λi H=>∃kvs,H a=am (.cu o (.dT kvs))/\i < kvs.length,λi H x H'=>H'=H/\∀kvs,H a=am (.cu o (.dT kvs))->∃b k v,x=.ref b/\kvs[i]?=am (k,v)/\H b=am (.tup (k.map kV)),λi H=>∃kvs,H a=am (.cu o (.dT kvs))/\kvs.length<=i⟩
theorem OV (x:a7 P w H h a (.cu o (.dT kvs))) (hd:o.data=.dict es ep) :
  S4 h a es ep/\es.size=kvs.length/\∀(i:Nat) (hi:i < es.size),∃b k v,es[i].key=.ref b/\kvs[i]?=am (k,v)/\H b=am (.tup (k.map kV)):=by
 obtain⟨e,z,hs,xs,r,o',Ā,ā,h1,h2,h3,h4,h5⟩:=x;rw [e] at h1;cases h1;rw [hd] at h3;cases h3;have hl:es.size=xs.length:=by have:=congrArg BN h4;simpa using this
 refine⟨⟨o,e,h2,hd⟩,hl.trans (Paired.length r).symm,λi hi=>?_⟩;have hx:xs[i]?=am (xs[i]'∅):=Ad _;have pg:∀{l:List (List Key×V)}{m:List (List Key×ce×bn)}{i:Nat}{q:List Key×ce×bn},KT H l m->m[i]?=am q->∃v,l[i]?=am (q.1,v)/\H q.2.1=am (.tup (q.1.map kV)):=by
  intro l m i q t
  induction t generalizing i with
  | nil=>intro h;simp at h
  | @cons p q' ps qs hq t ih=>
   intro h;cases i with
   | zero=>
    cases h;obtain⟨p1,p2⟩:=p;have e1:=hq.1;subst e1;exact⟨p2,rfl,hq.2.1⟩
   | succ i=>exact ih (by simpa using h)
 obtain⟨v,g1,g2⟩:=pg r hx;refine⟨_,_,v,?_,g1,g2⟩;have:es[i]=entryOfKey (lw (bF P w)) (xs[i]'∅):=by
  have h6:es.toList[i]?=am (entryOfKey (lw (bF P w)) (xs[i]'∅)):=by rw [h4,Ak,hx];rfl
  rw [Df,CP hi] at h6;exact Option.some.inj h6
 rw [this];rfl
theorem KG {K:Ab} (a it:ce) (o:Obj) (hd:o.data=.dict es ep):Turn P w K tg (aaV a o) [it] it (λi h=>h.IsKeyIter it a i es.size ep) where
 mem:=by simp
 obj:=λi h st b hb=>by
  have e:b=it:=by simpa using hb
  subst e;obtain⟨o,e,c,d⟩:=st;exact⟨o,e,λv z=>by rw [d] at z;cases z⟩
 keep:=λi h h' st k=>st.at λo e=>k it (by simp) o e
 item:=by
  intro X hP hw hK hc i Z s σ H E I hf st hg;subst hP hw hK;obtain⟨kvs,hq,hx⟩:=hg;obtain⟨Ċ,hl,ky⟩:=OV (I.br a _ hq) hd;obtain⟨b,k,v,k1,k2,k3⟩:=ky i ∅;obtain⟨f0,f1,f2,f3,f4,f5⟩:=hf it (by simp);refine NV st Ċ ∅ λh' qN sb=>?_;have I1:Inv X Z σ H {s with heap:=h'}:=I.turned (t':=s.toks) (λb o hb e=>(sb.2 b hb).trans e) f0 f1 f3 f4 f5;obtain⟨oi,e,c,d⟩:=id qN;refine⟨_,rfl,FK (s:={s with heap:=h'}) e c d ⋯ ⟨.ref b,H,I1,k1,⟨rfl,λahe ù=>?_⟩,qN,λb hb=>(hf b hb).1⟩⟩;rw [hq] at ù;cases ù;exact⟨b,k,v,rfl,k2,k3⟩
 done:=by
  intro X hP hw hK hc i Z s σ H E I hf st hg;obtain⟨kvs,hq,hx⟩:=hg;obtain⟨Ċ,hl,ky⟩:=OV (I.br a _ hq) hd;obtain⟨f0,f1,f2,f3,f4,f5⟩:=hf it (by simp);exact Sv (I.ok.hd hc) st Ċ ∅ λh' eb=>⟨rfl,I.turned (t':=s.toks) (λb o hb e=>eb b o hb e) f0 f1 f3 f4 f5⟩
 self:=λ_ _ _ _ _ st h=>wpAny_pyIter_keyiter st h
def Wq (tl:TE):TI:=λσ H R=>tl σ H λx H1=>∃a o kvs,x=.ref a/\H1 a=am (.cu o (.dT kvs))/\R (aaV a o) H1
def ND {l:ii} (hl:PE X l tl):PI X tg l (Wq tl):=by
 intro Z s σ H R I h;refine bV (hl Z s σ H _ I h) λv s1 ⟨x,H1,I1,r1,q1⟩=>?_;obtain⟨a,o,kvs,e,hq,q⟩:=q1;subst e;cases r1;obtain⟨eo,z,hs,xs,r,o',es,ep,h1,h2,h3,h4,h5⟩:=(show a7 X.prog X.w H1 s1.heap a (.cu o (.dT kvs)) from I1.br a _ hq);rw [eo] at h1;cases h1;refine Ou hs ⟨o,eo,h2,h3⟩ ?_;refine⟨s1.heap.objs.size,[s1.heap.objs.size],_,_,H1,rfl,I1.kept (t':=s1.toks) λb o e=>Ag _ e,KG a _ o h3,⟨_,Ap _ rfl,rfl,rfl⟩,λb hb=>?_,q⟩;have e:b=s1.heap.objs.size:=by simpa using hb
 subst e;exact I1.xI (An _) (I1.br.fresh (An _))
end L2
variable {v:PL.PV}{φ:List L2.V->Prop}
noncomputable section
namespace FL
section
open PySem PySem.Spec PyProof.Rows L2 PL
variable {K:Ab}
structure W (α:Type) where
 run:(α->Prop)->Prop
 mono:∀{Q Q':α->Prop},(∀a,Q a->Q' a)->run Q->run Q'
namespace W
variable {α β γ:Type}
def ext' {a b:W α} (h:∀Q,a.run Q↔b.run Q):a=b:=by
 cases a;cases b;congr;funext Q;exact propext (h Q)
noncomputable def ret (a:α):W α:=⟨λQ=>Q a,λh q=>h _ q⟩
noncomputable def bind (w:W α) (k:α->W β):W β:=⟨λQ=>w.run λa=>(k a).run Q,λh q=>w.mono (λa q=>(k a).mono h q) q⟩
def fail:W α:=⟨λ_=>False,λ_ q=>q⟩
def fh (p:Prop) (w:W α):W α:=⟨λQ=>p/\w.run Q,λh q=>⟨q.1,w.mono h q.2⟩⟩
def any (p:α->Prop):W α:=⟨λQ=>∀a,p a->Q a,λh q a pa=>h a (q a pa)⟩
def JL:Option α->W α
 | some a=>ret a
 | none=>fail
@[simp] theorem ag (a:α) (k:α->W β):bind (ret a) k=k a:=(rfl)
@[simp] theorem bind_assoc (w:W α) (f:α->W β) (g:β->W γ):bind (bind w f) g=bind w λa=>bind (f a) g:=(rfl)
@[simp] theorem aaN (w:W α):bind w ret=w:=(rfl)
@[simp] theorem XT (k:α->W β):bind fail k=fail:=(rfl)
@[simp] theorem aj (a:α) (Q:α->Prop):(ret a).run Q=Q a:=(rfl)
@[simp] theorem run_bind (w:W α) (k:α->W β) (Q:β->Prop):(bind w k).run Q=w.run λa=>(k a).run Q:=(rfl)
@[simp] theorem YK (Q:α->Prop):(fail:W α).run Q=False:=(rfl)
@[simp] theorem aa9 (p Q:α->Prop):(any p).run Q=∀a,p a->Q a:=(rfl)
@[simp] theorem Jv (p:Prop) (w:W α) (Q:α->Prop):(fh p w).run Q=(p/\w.run Q):=(rfl)
@[simp] theorem Py (p:Prop) (w:W α) (k:α->W β):bind (fh p w) k=fh p (bind w k):=(rfl)
def ar {p:Prop}{w:W α} (h:p):fh p w=w:=ext' λQ=>⟨λq=>q.2,λq=>⟨h,q⟩⟩
@[simp] theorem aaJ {w:W α}:fh True w=w:=ar trivial
@[simp] theorem aK (a:α):JL (am a)=ret a:=(rfl)
@[simp] theorem Zg:JL (bm:Option α)=fail:=(rfl)
end W
inductive SL where
 | val (v:PV) | adr (b:ce) | ol (q:Option ce) (l:List PV) | oll (bs:List ce) (ls:List (List PV)) | od (kvs:List (Key×PV)) | ot (kvs:List (List Key×PV)) | mE (φ:List V->Prop)
abbrev bg:=List (Option SL)
def SL.own:SL->Bool
 | .val _=>false
 | .adr _=>false
 | _=>true
def SL.T5:SL->List ce
 | .oll bs _=>bs
 | _=>[]
def SL.has (s:SL) (x a:ce):Prop:=a=x\/a∈s.T5
def j9 (K:Ab) (H:Hp) (a:ce):SL->Prop
 | .val _=>False
 | .adr b=>a=b
 | .oll bs ls=>H a=am (.lst (bs.map V.ref))/\a∉bs/\bs.Nodup/\bs.length=ls.length/\∀(j:Nat) (b:ce) (l:List PV),bs[j]?=am b->ls[j]?=am l->∃ws,H b=am (.lst ws)/\aE K [] H ws l
 | .ol q l=>(∀b,q=am b->a=b)/\∃vs,H a=am (.lst vs)/\aE K [] H vs l
 | .od kvs=>∃vs:List (Key×V),H a=am (.dK vs)/\vs.map (·.1)=kvs.map (·.1)/\aE K [] H (vs.map (·.2)) (kvs.map (·.2))
 | .ot kvs=>∃vs:List (List Key×V),H a=am (.dT vs)/\vs.map (·.1)=kvs.map (·.1)/\aE K [] H (vs.map (·.2)) (kvs.map (·.2))
 | .mE φ=>∃vs,H a=am (.lst vs)/\φ vs
def vL (K:Ab) (H:Hp) (u:V) (s:SL):Prop:=(∃v,s=.val v/\VR K [] H u v)\/∃a,u=.ref a/\j9 K H a s
def dF (σ:L2.St) (fs:bg) (a:ce):Prop:=∃(i:Nat) (s:SL) (x:ce),fs[i]?=am (am s)/\s.own=true/\σ[i]?=am (am (.ref x))/\s.has x a
def hJ (σ:L2.St) (fs:bg) (φ:List V->Prop) (a:ce):Prop:=∃i:Nat,fs[i]?=am (am (.mE φ))/\σ[i]?=am (am (.ref a))
structure aR (K:Ab) (H:Hp) (σ:L2.St) (fs:bg):Prop where
 len:σ.length=fs.length
 at':∀(i:Nat) (s:SL),fs[i]?=am (am s)->∃u,σ[i]?=am (am u)/\vL K H u s
 nd:∀(i j:Nat) (s t:SL) (x y a:ce),fs[i]?=am (am s)->fs[j]?=am (am t)->s.own=true->t.own=true->σ[i]?=am (am (.ref x))->σ[j]?=am (am (.ref y))->s.has x a->t.has y a->i=j
structure cE (σ:L2.St) (fs:bg) (H:Hp) (σ':L2.St) (bu:bg) (H':Hp):Prop where
 keep:∀a o,H a=am o->¬dF σ fs a->H' a=am o/\¬dF σ' bu a
 there:∀a,H' a=bm->H a=bm
 pk:∀a φ,hJ σ fs φ a->hJ σ' bu φ a\/(¬dF σ' bu a/\∃vs,H' a=am (.lst vs)/\φ vs)
structure cQ (σ:L2.St) (fs:bg) (H H':Hp):Prop where
 keep:∀a o,H a=am o->(∀φ,¬hJ σ fs φ a)->H' a=am o
 there:∀a,H' a=bm->H a=bm
section
variable {σ σ' σ1 σ2:L2.St}{fs bu Sl cq:bg}{H H' H1 H2:Hp}
def hJ.wB (p:hJ σ fs φ a):dF σ fs a:=let ⟨i,e1,e2⟩:=p;⟨i,_,_,e1,rfl,e2,.inl rfl⟩
def cQ.refl:cQ σ fs H H:=⟨λ_ _ h _=>h,λ_ h=>h⟩
def cQ.trans (a:cQ σ fs H H1) (b:cQ σ fs H1 H2):cQ σ fs H H2:=⟨λx o h n=>b.keep x o (a.keep x o h n) n,λx h=>a.there x (b.there x h)⟩
def cQ.f (g:cQ σ fs H H'):cE σ fs H σ fs H':=⟨λa o h n=>⟨g.keep a o h λφ p=>n p.wB,n⟩,g.there,λa φ p=>.inl p⟩
def cQ.vf (g:cQ σ fs H H') {o:HO} (h:H a=am o) (n:¬dF σ fs a):H' a=am o:=g.keep a o h λφ p=>n p.wB
def cQ.same (h:kW H H'):cQ σ fs H H':=⟨λa o e _=>h a o e,λa e=>(by
 cases z:H a with
 | none=>rfl
 | some o=>rw [h a o z] at e;cases e)⟩
def j9.ex {c:ce}{s:SL} (h:j9 K H a s) (ho:s.own=true) (hc:s.has a c):∃o,H c=am o/\(∀vs,o≠.tup vs)/\∀ob u,o≠.cu ob u:=by
 cases s with
 | val _=>exact h.elim
 | adr _=>cases ho
 | ol q l=>obtain⟨_,vs,e,_⟩:=h;rcases hc with rfl | hc;exact⟨_,e,by simp,by simp⟩;cases hc
 | oll bs ls=>
  obtain⟨e,_,_,hl,hb⟩:=h;rcases hc with rfl | hc
  ·exact⟨_,e,by simp,by simp⟩
  ·obtain⟨j,hj⟩:=CM (show c∈bs from hc);have h1:=(Al.mp hj).1;obtain⟨ws,e,_⟩:=hb j c _ hj (Ad (by rw [<- hl];exact h1));exact⟨_,e,by simp,by simp⟩
 | od l=>obtain⟨vs,e,_⟩:=h;rcases hc with rfl | hc;exact⟨_,e,by simp,by simp⟩;cases hc
 | ot l=>obtain⟨vs,e,_⟩:=h;rcases hc with rfl | hc;exact⟨_,e,by simp,by simp⟩;cases hc
 | mE l=>obtain⟨vs,e,_⟩:=h;rcases hc with rfl | hc;exact⟨_,e,by simp,by simp⟩;cases hc
def aR.ownAt (s:aR K H σ fs) {t:SL} (h1:fs[i]?=am (am t)) (h2:t.own=true) (h3:σ[i]?=am (am (.ref a))):j9 K H a t:=by
 obtain⟨u,e,r⟩:=s.at' i t h1;rw [h3] at e;cases e;rcases r with⟨v,rfl,_⟩ | ⟨b,e,r⟩
 ·cases h2
 ·cases e;exact r
def aR.wB (s:aR K H σ fs) (h:dF σ fs a):∃o,H a=am o/\(∀vs,o≠.tup vs)/\∀ob u,o≠.cu ob u:=by
 obtain⟨i,t,x,h1,h2,h3,h4⟩:=h;exact (s.ownAt h1 h2 h3).ex h2 h4
def aR.noOwn (s:aR K H σ fs) (h:H a=bm):¬dF σ fs a:=λz=>by
 obtain⟨o,e,_⟩:=s.wB z;rw [h] at e;cases e
def aR.VO (s:aR K H σ fs) (h:H a=am (.tup vs)):¬dF σ fs a:=λz=>by
 obtain⟨o,e,n,_⟩:=s.wB z;rw [h] at e;cases e;exact n vs rfl
def aR.VP (s:aR K H σ fs) (h:H a=am (.cu ob u)):¬dF σ fs a:=λz=>by
 obtain⟨o,e,_,n⟩:=s.wB z;rw [h] at e;cases e;exact n ob u rfl
def cE.refl:cE σ fs H σ fs H:=⟨λ_ _ h n=>⟨h,n⟩,λ_ h=>h,λ_ _ h=>.inl h⟩
def cE.trans (a:cE σ fs H σ1 Sl H1) (b:cE σ1 Sl H1 σ2 cq H2):cE σ fs H σ2 cq H2:=
 ⟨λx o h n=>let ⟨h1,n1⟩:=a.keep x o h n;b.keep x o h1 n1,λx h=>a.there x (b.there x h),λx φ h=>(a.pk x φ h).elim (b.pk x φ) λ⟨n,vs,e,p⟩=>.inr (let ⟨h1,n1⟩:=b.keep x _ e n;⟨n1,vs,h1,p⟩)⟩
def cE.d5 (g:cE σ fs H σ' bu H') (s:aR K H σ fs):bc K H H':=
 ⟨λa vs h=>(g.keep a _ h (s.VO h)).1,λa o u h=>(g.keep a _ h (s.VP h)).1⟩
def VR.tk {u:V} (t:bc K H H') (r:VR K [] H u v):VR K [] H' u v:=r.mono t λ_ _ e=>e
def aE.tk {u:List V}{v:List PV} (t:bc K H H') (r:aE K [] H u v):aE K [] H' u v:=r.mono t λ_ _ e=>e
def cE.vr (g:cE σ fs H σ' bu H') (s:aR K H σ fs) {u:V} (r:VR K [] H u v):VR K [] H' u v:=VR.tk (g.d5 s) r
def cQ.d5 (g:cQ σ fs H H') (s:aR K H σ fs):bc K H H':=g.f.d5 s
def cQ.vr (g:cQ σ fs H H') (s:aR K H σ fs) {u:V} (r:VR K [] H u v):VR K [] H' u v:=VR.tk (g.d5 s) r
def cQ.Mx (g:cQ σ fs H H') (s:aR K H σ fs) {u:List V}{v:List PV} (r:aE K [] H u v):aE K [] H' u v:=aE.tk (g.d5 s) r
def j9.mono {s:SL} (t:bc K H H') (e:∀c o,s.own=true->s.has a c->H c=am o->H' c=am o) (h:j9 K H a s):j9 K H' a s:=by
 cases s with
 | val _=>exact h
 | adr _=>exact h
 | ol _ l=>obtain⟨z,vs,q,r⟩:=h;exact⟨z,vs,e _ _ rfl (.inl rfl) q,aE.tk t r⟩
 | oll bs ls=>
  obtain⟨z,h1,h2,h3,h4⟩:=h;refine⟨e _ _ rfl (.inl rfl) z,h1,h2,h3,λj b l hb hl=>?_⟩;obtain⟨ws,q,r⟩:=h4 j b l hb hl;exact⟨ws,e _ _ rfl (.inr (Br hb)) q,aE.tk t r⟩
 | od l=>obtain⟨vs,q,k,r⟩:=h;exact⟨vs,e _ _ rfl (.inl rfl) q,k,aE.tk t r⟩
 | ot l=>obtain⟨vs,q,k,r⟩:=h;exact⟨vs,e _ _ rfl (.inl rfl) q,k,aE.tk t r⟩
 | mE φ=>obtain⟨vs,q,k⟩:=h;exact⟨vs,e _ _ rfl (.inl rfl) q,k⟩
def vL.mono {u:V}{s:SL} (t:bc K H H') (e:∀x a o,u=.ref x->s.own=true->s.has x a->H a=am o->H' a=am o) (h:vL K H u s):vL K H' u s:=by
 rcases h with⟨v,q,r⟩ | ⟨a,q,r⟩
 ·exact .inl ⟨v,q,VR.tk t r⟩
 ·exact .inr ⟨a,q,r.mono t (λc o z y w=>e a c o q z y w)⟩
def aR.same (s:aR K H σ fs) (h:kW H H'):aR K H' σ fs:=⟨s.len,λi t e=>let ⟨u,h1,h2⟩:=s.at' i t e;⟨u,h1,h2.mono h.eM (λ_ a o _ _ _ z=>h a o z)⟩,s.nd⟩
def cE.same (h:kW H H') (s:aR K H σ fs):cE σ fs H σ fs H':=⟨λa o e n=>⟨h a o e,n⟩,λa e=>(by
 cases z:H a with
 | none=>rfl
 | some o=>rw [h a o z] at e;cases e),λa φ p=>.inl p⟩
inductive hU:bg->bg->Prop
 | nil:hU [] []
 | drop {s:Option SL}{a b:bg} (h:hU a b):hU (s::a) (bm::b)
 | keep {s:Option SL}{a b:bg} (h:hU a b):hU (s::a) (s::b)
theorem hU.at {a b:bg} (h:hU a b):∀(i:Nat) (s:SL),b[i]?=am (am s)->a[i]?=am (am s):=by
 induction h with
 | nil=>intro i s e;simp at e
 | drop h ih=>intro i s e;cases i with | zero=>simp at e | succ i=>simp at e ⊢;exact ih i s e
 | keep h ih=>intro i s e;cases i with | zero=>simpa using e | succ i=>simp at e ⊢;exact ih i s e
theorem hU.length {a b:bg} (h:hU a b):a.length=b.length:=by induction h <;> simp_all
theorem hU.refl:∀a:bg,hU a a
 | []=>.nil
 | _::a=>.keep (hU.refl a)
def aR.le (s:aR K H σ fs) (h:hU fs bu):aR K H σ bu:=⟨s.len.trans h.length,λi t e=>s.at' i t (h.at i t e),λi j t u x y a e1 e2=>s.nd i j t u x y a (h.at i t e1) (h.at j u e2)⟩
def dF.le (h:hU fs bu) (o:dF σ bu a):dF σ fs a:=let ⟨i,t,x,e1,e2,e3⟩:=o;⟨i,t,x,h.at i t e1,e2,e3⟩
def cE.le (s:aR K H σ fs) (h:hU fs bu):cE σ fs H σ bu H:=⟨λa o e n=>⟨e,λz=>n (z.le h)⟩,λ_ e=>e,λa φ p=>by
 obtain⟨i,e1,e2⟩:=p;by_cases c:dF σ bu a
 ·obtain⟨j,t,x,c1,c2,c3,c4⟩:=c;have ij:=s.nd i j _ t a x a e1 (h.at j t c1) rfl c2 e2 c3 (.inl rfl) c4;subst ij;have:=h.at i t c1;rw [e1] at this;cases this;exact .inl ⟨i,c1,e2⟩
 ·obtain⟨vs,q,r⟩:=s.ownAt e1 rfl e2;exact .inr ⟨c,vs,q,r⟩⟩
def cM {l:List (Option α)}{x y:α} (h:(l.set i (am x))[j]?=am (am y)):(j=i/\y=x)\/(j≠i/\l[j]?=am (am y)):=by
 by_cases c:j=i
 ·subst c;rw [List.getElem?_set] at h;simp at h;exact .inl ⟨rfl,h.2.symm⟩
 ·rw [BW (λz=>c z.symm)] at h;exact .inr ⟨c,h⟩
def cx {l:List α}{x:α} (h:i < l.length):(l.set i x)[i]?=am x:=by rw [List.getElem?_set];simp [h]
def aN {l:List α}{x:α} (h:j≠i):(l.set i x)[j]?=l[j]?:=BW (λz=>h z.symm)
def aR.put (s:aR K H σ fs) {u:V}{t:SL} (hr:vL K H u t) (hf:∀x a,u=.ref x->t.own=true->t.has x a->∀(j:Nat) (w:SL) (y:ce),j≠i->fs[j]?=am (am w)->w.own=true->σ[j]?=am (am (.ref y))->¬w.has y a):aR K H (σ.set i (am u)) (fs.set i (am t)):=by
 refine⟨by simp [s.len],λj w e=>?_,λj k w x b1 b2 a e1 e2 o1 o2 q1 q2 z1 z2=>?_⟩
 ·rcases cM e with⟨rfl,rfl⟩ | ⟨n,e⟩
  ·have hl:j < σ.length:=by
    have:=(Al.mp e).1;rw [BM] at this;rw [s.len];exact this
   exact⟨u,cx hl,hr⟩
  ·obtain⟨v,h1,h2⟩:=s.at' j w e;exact⟨v,by rw [aN n];exact h1,h2⟩
 ·rcases cM e1 with⟨y1,y2⟩ | ⟨n1,f1⟩ <;> rcases cM e2 with⟨y3,y4⟩ | ⟨n2,f2⟩
  ·exact y1.trans y3.symm
  ·subst y1;subst y2;rw [aN n2] at q2;have hl:j < σ.length:=by have:=(Al.mp q1).1;simpa using this
   rw [cx hl] at q1;cases q1;exact absurd z2 (hf _ a rfl o1 z1 k x b2 n2 f2 o2 q2)
  ·subst y3;subst y4;rw [aN n1] at q1;have hl:k < σ.length:=by have:=(Al.mp q2).1;simpa using this
   rw [cx hl] at q2;cases q2;exact absurd z1 (hf _ a rfl o2 z2 j w b1 n1 f1 o1 q1)
  ·rw [aN n1] at q1;rw [aN n2] at q2;exact s.nd j k w x b1 b2 a f1 f2 o1 o2 q1 q2 z1 z2
def aR.fq (s:aR K H σ fs) {u:V} (hr:VR K [] H u v) (i:Nat):aR K H (σ.set i (am u)) (fs.set i (am (.val v))):=s.put (.inl ⟨v,rfl,hr⟩) λ_ _ _ z=>by cases z
def zy {u:V}{t:SL} (o:dF (σ.set i (am u)) (fs.set i (am t)) a) (hl:σ.length=fs.length):dF σ fs a\/∃x,u=.ref x/\t.own=true/\t.has x a:=by
 obtain⟨j,w,x,e1,e2,e3,e4⟩:=o;rcases cM e1 with⟨rfl,rfl⟩ | ⟨n,e1⟩
 ·have h2:j < σ.length:=by have:=(Al.mp e3).1;simpa using this
  rw [cx h2] at e3;cases e3;exact .inr ⟨x,rfl,e2,e4⟩
 ·rw [aN n] at e3;exact .inl ⟨j,w,x,e1,e2,e3,e4⟩
def Jy (s:aR K H σ fs) {u:V}{t:SL} (p:hJ σ fs φ a) (hu:∀x,u=.ref x->t.own=true->t.has x a->t=.mE φ):hJ (σ.set i (am u)) (fs.set i (am t)) φ a\/¬dF (σ.set i (am u)) (fs.set i (am t)) a:=by
 obtain⟨j,e1,e2⟩:=p;by_cases c:j=i
 ·subst c;by_cases c2:∃x,u=.ref x/\t.own=true/\t.has x a
  ·obtain⟨x,c3,c4,c5⟩:=c2;have hl:=(Al.mp e2).1;have Qf:=(Al.mp e1).1;have et:=hu x c3 c4 c5;subst et;rcases c5 with rfl | c5
   ·exact .inl ⟨j,by rw [cx Qf],by rw [cx hl,c3]⟩
   ·cases c5
  ·refine .inr λo=>?_;obtain⟨k,w,y,q1,q2,q3,q4⟩:=o;rcases cM q1 with⟨rfl,rfl⟩ | ⟨n,q1⟩
   ·have hl:=(Al.mp e2).1;rw [cx hl] at q3;cases q3;exact c2 ⟨y,rfl,q2,q4⟩
   ·rw [aN n] at q3;exact n (s.nd k j w _ y a a q1 e1 q2 rfl q3 e2 q4 (.inl rfl))
 ·exact .inl ⟨j,by rw [aN c];exact e1,by rw [aN c];exact e2⟩
def cE.fq (s:aR K H σ fs) (u:V) (v:PV) (i:Nat):cE σ fs H (σ.set i (am u)) (fs.set i (am (.val v))) H:=
 ⟨λa o e n=>⟨e,λz=>(zy z s.len).elim n λ⟨_,_,z,_⟩=>by cases z⟩,λ_ e=>e,λa φ p=>(Jy s p (λ_ _ z=>by cases z)).imp id λn=>⟨n,by
  obtain⟨j,e1,e2⟩:=p;obtain⟨vs,q,r⟩:=s.ownAt e1 rfl e2;exact⟨vs,q,r⟩⟩⟩
def aR.Nr (s:aR K H σ fs) {t:SL} (hr:j9 K H a t) (hn:∀c,t.has a c->¬dF σ fs c) (i:Nat):aR K H (σ.set i (am (.ref a))) (fs.set i (am t)):=s.put (.inr ⟨a,rfl,hr⟩) λx c e _ hc j w y n e1 e2 e3 z=>by
 cases e;exact hn c hc ⟨j,w,y,e1,e2,e3,z⟩
def xt {t:SL} (hi:t.T5=[]) {c:ce} (h:t.has a c):c=a:=by
 rcases h with h | h
 ·exact h
 ·rw [hi] at h;cases h
def aR.wj (s:aR K H σ fs) {t:SL} (hr:j9 K H a t) (hn:¬dF σ fs a) (i:Nat) (hi:t.T5=[]:=by rfl):aR K H (σ.set i (am (.ref a))) (fs.set i (am t)):=s.Nr hr (λc hc=>by rw [xt hi hc];exact hn) i
def cE.Nr (s:aR K H1 σ fs) (g:cE σ fs H σ fs H1) {t:SL} (hn:∀c,t.has a c->¬dF σ fs c) (h0:∀c,t.has a c->H c=bm) (i:Nat):cE σ fs H (σ.set i (am (.ref a))) (fs.set i (am t)) H1:=by
 refine⟨λb o e n=>⟨(g.keep b o e n).1,λz=>(zy z s.len).elim n λ⟨x,z,_,y⟩=>?_⟩,g.there,λb φ p=>?_⟩
 ·cases z;rw [h0 b y] at e;cases e
 ·obtain⟨j,e1,e2⟩:=p;obtain⟨vs,q,r⟩:=s.ownAt e1 rfl e2;refine (Jy (t:=t) s ⟨j,e1,e2⟩ (λx z o y=>?_)).imp id λn=>⟨n,vs,q,r⟩;cases z;exact absurd ⟨j,_,_,e1,rfl,e2,.inl rfl⟩ (hn b y)
def cE.wj (s:aR K H1 σ fs) (g:cE σ fs H σ fs H1) {t:SL} (hn:¬dF σ fs a) (h0:H a=bm) (i:Nat) (hi:t.T5=[]:=by rfl):cE σ fs H (σ.set i (am (.ref a))) (fs.set i (am t)) H1:=cE.Nr s g (λc hc=>by rw [xt hi hc];exact hn) (λc hc=>by rw [xt hi hc];exact h0) i
def zA (s:aR K H σ fs) {t t':SL}{c:ce} (e1:fs[i]?=am (am t)) (o:t.own=true) (np:∀φ,t≠.mE φ) (e2:σ[i]?=am (am (.ref a))) (hc:t.has a c) (XM:t'.has a c) (uD:∀b,t'.has a b->t.has a b) (o':t'.own=true) (sx:oQ c H H') (ht:bc K H H'->j9 K H' a t'):aR K H' σ (fs.set i (am t'))/\cE σ fs H σ (fs.set i (am t')) H':=by
 have oa:=s.ownAt e1 o e2;obtain⟨ob,q,n1,n2⟩:=oa.ex o hc;have tk:bc K H H':=⟨λb vs z=>sx b _ (λy=>by subst y;rw [q] at z;cases z;exact n1 _ rfl) z,λb o u z=>sx b _ (λy=>by subst y;rw [q] at z;cases z;exact n2 _ _ rfl) z⟩;have Xx:=ht tk;have hi:i < fs.length:=(Al.mp e1).1;have Rf:∀b,dF σ (fs.set i (am t')) b->dF σ fs b:=λb z=>by
  obtain⟨j,w,x,z1,z2,z3,z4⟩:=z;rcases cM z1 with⟨rfl,rfl⟩ | ⟨n,z1⟩
  ·rw [e2] at z3;cases z3;exact⟨j,t,a,e1,o,e2,uD b z4⟩
  ·exact⟨j,w,x,z1,z2,z3,z4⟩
 refine⟨⟨by simp [s.len],λj w e=>?_,λj k w x b1 b2 b z1 z2 o1 o2 q1 q2 y1 y2=>?_⟩,⟨λb ob e n=>⟨sx b ob (λz=>by subst z;exact n ⟨i,t,a,e1,o,e2,hc⟩) e,λz=>n (Rf b z)⟩,λb e=>?_,λb φ p=>?_⟩⟩
 ·rcases cM e with⟨rfl,rfl⟩ | ⟨n,e⟩
  ·exact⟨_,e2,.inr ⟨a,rfl,Xx⟩⟩
  ·obtain⟨u,h1,h2⟩:=s.at' j w e;refine⟨u,h1,h2.mono tk (λx b ob eb ow hb z=>sx b ob (λy=>?_) z)⟩;subst y;subst eb;exact n (s.nd j i w t x a b e e1 ow o h1 e2 hb hc)
 ·have f:∀{j:Nat}{w:SL}{y:ce},(fs.set i (am t'))[j]?=am (am w)->w.own=true->σ[j]?=am (am (.ref y))->w.has y b->∃w',fs[j]?=am (am w')/\w'.own=true/\w'.has y b:=λ{j w y} z ow qy hy=>by
   rcases cM z with⟨rfl,rfl⟩ | ⟨n,z⟩
   ·rw [e2] at qy;cases qy;exact⟨t,e1,o,uD b hy⟩
   ·exact⟨w,z,ow,hy⟩
  obtain⟨w',a1,a2,a3⟩:=f z1 o1 q1 y1;obtain⟨x',c1,c2,c3⟩:=f z2 o2 q2 y2;exact s.nd j k w' x' b1 b2 b a1 c1 a2 c2 q1 q2 a3 c3
 ·cases z:H b with
  | none=>rfl
  | some ob=>
   by_cases cc:b=c
   ·subst cc;obtain⟨o2,y,_⟩:=Xx.ex o' XM;rw [e] at y;cases y
   ·rw [sx b ob cc z] at e;cases e
 ·obtain⟨j,p1,p2⟩:=p;have ji:j≠i:=λz=>by subst z;rw [e1] at p1;cases p1;exact np φ rfl
  exact .inl ⟨j,by rw [aN ji];exact p1,p2⟩
def eO (s:aR K H σ fs) {t t':SL} (e1:fs[i]?=am (am t)) (o:t.own=true) (np:∀φ,t≠.mE φ) (e2:σ[i]?=am (am (.ref a))) (sx:oQ a H H') (ht:bc K H H'->j9 K H' a t') (hi:t'.T5=t.T5:=by rfl) (o':t'.own=true:=by rfl):aR K H' σ (fs.set i (am t'))/\cE σ fs H σ (fs.set i (am t')) H':=
 zA s e1 o np e2 (.inl rfl) (.inl rfl) (λb h=>by unfold SL.has at h ⊢;rw [hi] at h;exact h) o' sx ht
end
end
end FL
open FL.W renaming bind→ap,ret→bd,run_bind→cr,ag→ga,aj→gl,ar→nn,ext'→wE,aK→wS
local macro_rules | `($a\$b)=>`(ap (bd $a) $b)
variable {x:B1}{u:L2.V}{o b:B4}{fs bu:FL.bg}{es:List B4}{σ':L2.St}{wa wb wc:FL.W PL.PV}{wl:FL.W (List PL.PV)}
namespace FL
section
open PySem PySem.Spec PyProof.Rows L2 PL
variable {K:Ab}
def fE (K:Ab) (fs:bg) (w:W PV):TE:=λσ H Q=>aR K H σ fs/\w.run λv=>∀u H',cQ σ fs H H'->aR K H' σ fs->VR K [] H' u v->Q u H'
def fT (K:Ab) (fs:bg) (w:W Bool):TT:=λσ H Q=>aR K H σ fs/\w.run λb=>∀H',cQ σ fs H H'->aR K H' σ fs->Q b H'
def fO (K:Ab) (fs:bg) (w:W (Option Int)):TO:=λσ H Q=>aR K H σ fs/\w.run λb=>∀H',cQ σ fs H H'->aR K H' σ fs->Q b H'
def fL (K:Ab) (fs:bg) (w:W (List PV)):TE:=λσ H Q=>aR K H σ fs/\w.run λl=>∀a vs H',cQ σ fs H H'->aR K H' σ fs->H a=bm->H' a=am (.lst vs)->aE K [] H' vs l->Q (.ref a) H'
def Xo (K:Ab) (H:Hp) (u:V) (l:List PV):Prop:=∃a vs,u=.ref a/\(Uw K H a vs\/H a=am (.tup vs))/\aE K [] H vs l
def S3 (K:Ab) (σ:L2.St) (fs:bg) (H:Hp) (u:V) (l:List PV):Prop:=Xo K H u l\/∃a,u=.ref a/\((¬dF σ fs a/\∃vs,H a=am (.lst vs)/\aE K [] H vs l)\/∃(i:Nat) (q:Option ce),fs[i]?=am (am (.ol q l))/\σ[i]?=am (am (.ref a)))
def fQ (K:Ab) (fs:bg) (w:W (List PV)):TE:=λσ H Q=>aR K H σ fs/\w.run λl=>∀u H',cQ σ fs H H'->aR K H' σ fs->S3 K σ fs H' u l->Q u H'
def fI (K:Ab) (fs:bg) (w:W (List PV)):TE:=λσ H Q=>aR K H σ fs/\w.run λl=>∀u H',cQ σ fs H H'->aR K H' σ fs->Xo K H' u l->Q u H'
inductive AK where
 | v | p (φ:List V->Prop) | f (a:ce)
inductive fD (K:Ab) (σ:L2.St) (fs:bg) (H:Hp):List V->List AK->List PV->Prop
 | nil:fD K σ fs H [] [] []
 | v {u:V}{x:PV}{vs:List V}{ks:List AK}{l:List PV} (r:VR K [] H u x) (t:fD K σ fs H vs ks l):fD K σ fs H (u::vs) (.v::ks) (x::l)
 | p {a:ce}{φ:List V->Prop}{vs:List V}{ks:List AK}{l:List PV} (r:hJ σ fs φ a) (t:fD K σ fs H vs ks l):fD K σ fs H (.ref a::vs) (.p φ::ks) l
 | f {a:ce}{vs:List V}{ks:List AK}{l:List PV} (t:fD K σ fs H vs ks l):fD K σ fs H (.ref a::vs) (.f a::ks) l
def fA (K:Ab) (fs:bg) (ks:List AK) (w:W (List PV)):TA:=λσ H Q=>aR K H σ fs/\w.run λl=>∀vs H',cQ σ fs H H'->aR K H' σ fs->fD K σ fs H' vs ks l->Q vs H'
structure EF (X:Cx) (K:Ab) (fs:bg) (e:ii) (w:W PV):Prop where p:PE X e (fE K fs w)
structure LF (X:Cx) (K:Ab) (fs:bg) (e:ii) (w:W (List PV)):Prop where p:PE X e (fL K fs w)
structure QF (X:Cx) (K:Ab) (fs:bg) (e:ii) (w:W (List PV)):Prop where p:PE X e (fQ K fs w)
structure IF (X:Cx) (K:Ab) (fs:bg) (e:ii) (w:W (List PV)):Prop where p:PE X e (fI K fs w)
structure TF (X:Cx) (K:Ab) (fs:bg) (e:ii) (w:W Bool):Prop where p:PT X e (fT K fs w)
structure GK (X:Cx) (K:Ab) (fs:bg) (e:ii) (w:W Bool):Prop where p:PW X e (fT K fs w)
structure OF (X:Cx) (K:Ab) (fs:bg) (e:Option ii) (w:W (Option Int)):Prop where p:L2.PO X e (fO K fs w)
structure AF (X:Cx) (K:Ab) (fs:bg) (es:List ii) (ks:List AK) {R:Type} (B:(List PV->W R)->W R):Prop where
 p:∃w:W (List PV),PA X es (fA K fs ks w)/\∀k,B k=ap w k
section
def Xo.tk (t:bc K H H') (h:Xo K H u l):Xo K H' u l:=by
 obtain⟨a,vs,e,q,r⟩:=h;exact⟨a,vs,e,q.imp (t.f _ _) (t.t _ _),aE.tk t r⟩
def S3.go (h:S3 K σ fs H u l) (s:aR K H σ fs) (g:cQ σ fs H H'):S3 K σ fs H' u l:=by
 rcases h with h | ⟨a,e,⟨n,vs,q,r⟩ | q⟩
 ·exact .inl (h.tk (g.d5 s))
 ·exact .inr ⟨a,e,.inl ⟨n,vs,(g.vf q n),g.Mx s r⟩⟩
 ·exact .inr ⟨a,e,.inr q⟩
def S3.sq (h:S3 K σ fs H u l) (s:aR K H σ fs):∃a vs,u=.ref a/\(c7 K H a vs\/d4 K H a vs)/\aE K [] H vs l:=by
 rcases h with⟨a,vs,e,q,r⟩ | ⟨a,e,⟨n,vs,q,r⟩ | ⟨i,_,q1,q2⟩⟩
 ·exact⟨a,vs,e,q.elim (λq=>.inl q.sq) λq=>.inr (d4.of q),r⟩
 ·exact⟨a,vs,e,.inl (c7.of q),r⟩
 ·obtain⟨_,vs,q,r⟩:=s.ownAt q1 rfl q2;exact⟨a,vs,e,.inl (c7.of q),r⟩
end
section
variable {a c:ii}{rest:List ii}{w:W PV}
def ae (i:Nat) (hs:fs[i]?=am (am (.val v)):=by rfl) (hN:X.N[i]?=am x:=by rfl) (hv:Gs X.env.scope x:=by first | exact C0 rfl | exact CD (C0 rfl) | exact CD (CD rfl)) (hd:i5 x:=by decide) (jt:GL x:=by decide):EF X K fs (.Name x pos) (.ret v):=
 ⟨PE.imp (d8 hN hv hd jt) λσ H Q ⟨sr,q⟩=>by
  obtain⟨u,e1,r⟩:=sr.at' i _ hs;rcases r with⟨w,e,r⟩ | ⟨a,_,r⟩
  ·cases e;exact⟨u,e1,q u H .refl sr r⟩
  ·exact r.elim⟩
def XU {v:V}{p:PV} (hv:∀H,VR K [] H v p) (h:PE X e (tC v)):EF X K fs e (.ret p):=⟨PE.imp h λσ H Q ⟨sr,q⟩=>q v H .refl sr (hv _)⟩
def ak {i j}:EF X K fs (.Constant (.int i) j pos) (.ret (.int i)):=XU (λ_=>.int i) Vu
def LR {b j}:EF X K fs (.Constant (.bool b) j pos) (.ret (.bl b)):=XU (λ_=>.bl b) Y6
def g9 {j}:EF X K fs (.Constant .none j pos) (.ret .aG):=XU (λ_=>.aG) NH
def vt {x j}:EF X K fs (.Constant (.str x) j pos) (.ret (.str x)):=XU (λ_=>.str x) Vs
def xV {i:Int}{t:Tok} (hm:X.mg x=am (.int i t)) (hg:Gl X x) (hd:i5 x:=by decide):EF X K fs (.Name x pos) (.ret (.int i)):=XU (λ_=>.int i) (qP hg hm ⟨_,rfl⟩ hd)
def xU {i:Str}{t:Tok} (hm:X.mg x=am (.str i t)) (hg:Gl X x) (hd:i5 x:=by decide):EF X K fs (.Name x pos) (.ret (.str i)):=XU (λ_=>.str i) (qP hg hm ⟨_,rfl⟩ hd)
def of2 (m:M2) (x y:PV):W PV:=⟨λQ=>m.f x y [] λz h=>h=[]/\Q z,λf q=>m.mono (λ_ _ q=>⟨q.1,f _ q.2⟩) q⟩
def hr0 (H:Hp):HR K [] H []:=⟨D2,rfl,λn a o e _=>by simp at e⟩
def pq0 {Q:VK}{z:PV}{h:PH} (sr:aR K H σ fs) (q:h=[]/\∀u H',cQ σ fs H H'->aR K H' σ fs->VR K [] H' u z->Q u H'):pQ K [] H Q z h:=λι' v H' g r x=>by
 obtain⟨e,q⟩:=q;subst e;have:ι'=[]:=BX r.len;subst this;have sm:kW H H':=λa o z=>g.keep a o (by simp) z;exact q v H' (cQ.same sm) (sr.same sm) x
def VL {r:R2}{m:M2} (hm:M2.Ok K r m) {Q:VK}{v:V}{x y:PV} (sr:aR K H σ fs) (hu:VR K [] H u x) (hv:VR K [] H v y) (q:(of2 m x y).run λz=>∀u H',cQ σ fs H H'->aR K H' σ fs->VR K [] H' u z->Q u H'):r u v H Q:=
 hm (hr0 H) hu hv (m.mono (λz h q=>pq0 sr q) q)
def Kc {r:R2}{m:M2} (hm:M2.Ok K r m):∀σ H Q,fE K fs (.bind wa λx=>.bind wb λy=>of2 m x y) σ H Q->UP r (fE K fs wa) (fE K fs wb) σ H Q:=λσ H Q ⟨sr,q⟩=>
 ⟨sr,wa.mono (λx q1 u1 H1 g1 s1 v1=>⟨s1,wb.mono (λy q2 u2 H2 g2 s2 v2=>VL hm s2 (g2.vr s1 v1) v2 ((of2 m x y).mono (λz q u3 H3 g3 s3 v3=>q u3 H3 ((g1.trans g2).trans g3) s3 v3) q2)) q1⟩) q⟩
def Pl {op:Operator}{r:R2}{m:M2} (ho:iC X (sn op) r) (hm:M2.Ok K r m) (ha:EF X K fs a wa) (hb:EF X K fs b wb):EF X K fs (.BinOp a op b pos) (.bind wa λx=>.bind wb λy=>of2 m x y):=⟨PE.imp (JB ho ha.p hb.p) (Kc hm)⟩
def tF (ha:EF X K fs a wa) (hb:EF X K fs b wb):EF X K fs (.BinOp a .Sub b pos) (.bind wa λx=>.bind wb λy=>of2 wC x y):=Pl Vz (Gr λ_ _ _ _=>.int _) ha hb
def qi (ha:EF X K fs a wa) (hb:EF X K fs b wb):EF X K fs (.BinOp a .Mult b pos) (.bind wa λx=>.bind wb λy=>of2 nG x y):=Pl Rj (yw λ_ _ _ _=>.int _) ha hb
def Up (ha:EF X K fs a wa) (hb:EF X K fs b wb):EF X K fs (.BinOp a .FloorDiv b pos) (.bind wa λx=>.bind wb λy=>of2 oDiv x y):=Pl Rk (yw λ_ _ _ _=>.int _) ha hb
def qj (ha:EF X K fs a wa) (hb:EF X K fs b wb):EF X K fs (.BinOp a .Mod b pos) (.bind wa λx=>.bind wb λy=>of2 oMod x y):=Pl VD (yw λ_ _ _ _=>.int _) ha hb
def Uo (ha:EF X K fs a wa) (hb:EF X K fs b wb):EF X K fs (.BinOp a .Pow b pos) (.bind wa λx=>.bind wb λy=>of2 NR x y):=Pl VB (yw λ_ _ _ _=>.int _) ha hb
def K9:PV->W PV
 | .int i=>.ret (.int (-i))
 | _=>.fail
def Kj (ha:EF X K fs a wa):EF X K fs (.UnaryOp .USub a pos) (.bind wa K9):=⟨PE.imp (Y3 UI ha.p) λσ H Q ⟨sr,q⟩=>⟨sr,wa.mono (λx q1 u1 H1 g1 s1 v1=>by
 cases v1 with
 | int i=>exact⟨_,rfl,q1 _ H1 g1 s1 (.int _)⟩
 | _=>exact q1.elim) q⟩⟩
def asB:PV->W Bool
 | .bl b=>.ret b
 | _=>.fail
def vv {m:M2} (hc:JC X K op b m) (ha:EF X K fs a wa) (hb:EF X K fs b wb):EF X K fs (.Compare a [op] [b] pos) (.bind wa λx=>.bind wb λy=>of2 m x y):=let ⟨_,h1,h2⟩:=hc.p;⟨PE.imp (JE h1 ha.p hb.p hc.k) (Kc h2)⟩
def aas {w:W PV}:∀σ H Q,fT K fs (.bind w asB) σ H Q->(fE K fs w) σ H λx H'=>∃k,x=.bl k/\Q k H':=λσ H Q ⟨sr,q⟩=>⟨sr,w.mono (λx q1 u1 H1 g1 s1 v1=>by
 cases v1 with
 | bl b=>exact⟨b,rfl,q1 H1 g1 s1⟩
 | _=>exact q1.elim) q⟩
def cL {m:M2} (hc:JC X K op b m) (ha:EF X K fs a wa) (hb:EF X K fs b wb):TF X K fs (.Compare a [op] [b] pos) (.bind wa λx=>.bind wb λy=>.bind (of2 m x y) asB):=let ⟨_,h1,h2⟩:=hc.p
 ⟨PT.imp (nA h1 ha.p hb.p hc.k) λσ H Q q=>Kc h2 σ H _ (aas (w:=.bind wa λx=>.bind wb λy=>of2 m x y) σ H Q q)⟩
def PB (z:PV) (w:W PV):W PV:=match z with
 | .bl true=>w
 | .bl false=>.ret (.bl false)
 | _=>.fail
def SX (x:PV) (w:W PV):W PV:=match x with
 | .bl true=>w
 | .bl false=>.ret (.bl false)
 | _=>.fail
def aaE (ha:EF X K fs a wa) (hb:EF X K fs (.BoolOp .And (b::rest) pos) wb):EF X K fs (.BoolOp .And (a::b::rest) pos) (.bind wa λx=>SX x wb):=⟨PE.imp (Vw ha.p hb.p) λσ H Q ⟨sr,q⟩=>⟨sr,wa.mono (λx q1 u1 H1 g1 s1 v1=>by
 cases v1 with
 | bl k=>
  cases k with
  | true=>exact⟨true,rfl,by rw [if_pos rfl];exact⟨s1,wb.mono (λ_ q u H' g s v=>q u H' (g1.trans g) s v) q1⟩⟩
  | false=>exact⟨false,rfl,by rw [if_neg A3];exact q1 _ H1 g1 s1 (.bl _)⟩
 | _=>exact q1.elim) q⟩⟩
def aay {op} (h:EF X K fs a wa):EF X K fs (.BoolOp op [a] pos) wa:=⟨Vt h.p⟩
variable {ta tb tc:W Bool}
def kZ (h:TF X K fs a ta):GK X K fs (.BoolOp .And [a] pos) ta:=⟨QU h.p⟩
def MC (h:TF X K fs a ta):GK X K fs (.BoolOp .Or [a] pos) ta:=⟨Vk h.p⟩
def o6 (ha:TF X K fs a ta) (hb:GK X K fs (.BoolOp .And (b::rest) pos) tb):GK X K fs (.BoolOp .And (a::b::rest) pos) (.bind ta λk=>if k=true then tb else .ret false):=⟨PW.imp (Vl ha.p hb.p) λσ H Q ⟨sr,q⟩=>⟨sr,ta.mono (λk q1 H1 g1 s1=>by
 cases k with
 | true=>exact xi ⟨s1,tb.mono (λ_ q H' g s=>q H' (g1.trans g) s) q1⟩
 | false=>exact xj (q1 H1 g1 s1)) q⟩⟩
def Tg (ha:TF X K fs a ta) (hb:GK X K fs (.BoolOp .Or (b::rest) pos) tb):GK X K fs (.BoolOp .Or (a::b::rest) pos) (.bind ta λk=>if k=true then .ret true else tb):=⟨PW.imp (Y0 ha.p hb.p) λσ H Q ⟨sr,q⟩=>⟨sr,ta.mono (λk q1 H1 g1 s1=>by
 cases k with
 | true=>exact xi (q1 H1 g1 s1)
 | false=>exact xj ⟨s1,tb.mono (λ_ q H' g s=>q H' (g1.trans g) s) q1⟩) q⟩⟩
def GK.t (h:GK X K fs a ta):TF X K fs a ta:=⟨PW.pt h.p⟩
def rJ (ha:TF X K fs a ta):TF X K fs (.UnaryOp .Not a pos) (.bind ta λk=>.ret (!k)):=⟨PT.imp (Vm ha.p) λσ H Q ⟨sr,q⟩=>⟨sr,q⟩⟩
def qF (hc:TF X K fs c tc) (ha:EF X K fs a wa) (hb:EF X K fs b wb):EF X K fs (.IfExp c a b pos) (.bind tc λk=>if k=true then wa else wb):=⟨PE.imp (zv hc.p ha.p hb.p) λσ H Q ⟨sr,q⟩=>⟨sr,tc.mono (λk q1 H1 g1 s1=>by
 cases k with
 | true=>exact xi ⟨s1,wa.mono (λ_ q u H' g s v=>q u H' (g1.trans g) s v) q1⟩
 | false=>exact xj ⟨s1,wb.mono (λ_ q u H' g s v=>q u H' (g1.trans g) s v) q1⟩) q⟩⟩
def V7 {la lb:W (List PV)} (hc:TF X K fs c tc) (ha:LF X K fs a la) (hb:LF X K fs b lb):LF X K fs (.IfExp c a b pos) (.bind tc λk=>if k=true then la else lb):=⟨PE.imp (zv hc.p ha.p hb.p) λσ H Q ⟨sr,q⟩=>⟨sr,tc.mono (λk q1 H1 g1 s1=>by
 cases k with
 | true=>exact xi ⟨s1,la.mono (λ_ q a vs H' g s n e v=>q a vs H' (g1.trans g) s (g1.there a n) e v) q1⟩
 | false=>exact xj ⟨s1,lb.mono (λ_ q a vs H' g s n e v=>q a vs H' (g1.trans g) s (g1.there a n) e v) q1⟩) q⟩⟩
def gI:PV->W Bool
 | .aG=>.ret false
 | .bl b=>.ret b
 | .int i=>.ret (i != 0)
 | .str y=>.fh (y.length<=sizeLine) (.ret ((y.length:Int) != 0))
 | .tup l=>.ret (!l.isEmpty)
 | .cl l=>.ret (!l.isEmpty)
 | _=>.fail
def fJ (hK:X.K=K) (ha:EF X K fs a wa) (he:∀Æ,isTrue a X.env Æ=(do let v <- Æ;standAt a.pos;zn [v] (truthy v))):TF X K fs a (.bind wa gI):=⟨PT.imp (uY K hK ha.p he) λσ H Q ⟨sr,q⟩=>⟨sr,wa.mono (λx q1 u1 H1 g1 s1 v1=>by
 cases v1 with
 | aG=>exact⟨false,rfl,q1 H1 g1 s1⟩
 | bl b=>exact⟨b,rfl,q1 H1 g1 s1⟩
 | int i=>exact⟨_,rfl,q1 H1 g1 s1⟩
 | str y=>exact⟨_,⟨q1.1,rfl⟩,q1.2 H1 g1 s1⟩
 | ty _=>exact q1.elim
 | dk _ _ _=>exact q1.elim
 | dt _ _ _=>exact q1.elim
 | ref _=>exact q1.elim
 | @tup p vs l e rs=>
  refine⟨!vs.isEmpty,.inr (.inl ⟨_,d4.of e,rfl⟩),?_⟩;rw [<- kE rs];exact q1 H1 g1 s1
 | @cl p vs l e rs=>
  refine⟨!vs.isEmpty,.inl ⟨_,e.sq,rfl⟩,?_⟩;rw [<- kE rs];exact q1 H1 g1 s1) q⟩⟩
def Yj (hK:X.K=K) (ha:QF X K fs a wl) (he:∀Æ,isTrue a X.env Æ=(do let v <- Æ;standAt a.pos;zn [v] (truthy v))):TF X K fs a (.bind wl λl=>.ret (!l.isEmpty)):=⟨PT.imp (uY K hK ha.p he) λσ H Q ⟨sr,q⟩=>⟨sr,wl.mono (λl q1 u1 H1 g1 s1 v1=>by
 obtain⟨b,vs,rfl,h,rs⟩:=v1.sq s1;refine⟨!vs.isEmpty,?_,?_⟩
 ·exact h.elim (λh=>.inl ⟨_,h,rfl⟩) λh=>.inr (.inl ⟨_,h,rfl⟩)
 ·rw [<- kE rs];exact q1 H1 g1 s1) q⟩⟩
variable {R:Type}{ks:List AK}{B:(List PV->W R)->W R}
def ai:AF X K fs [] [] (R:=R) (λk=>k []):=⟨.ret [],PA.imp b9 λσ H Q ⟨sr,q⟩=>q [] H .refl sr .nil,λk=>rfl⟩
def aa (ha:EF X K fs e w) (hr:AF X K fs es ks B) (hs:gM X e es:=by rfl):AF X K fs (e::es) (.v::ks) (λk=>.bind w λx=>B λl=>k (x::l)):=by
 obtain⟨wr,hp,hB⟩:=hr.p;refine⟨.bind w λx=>.bind wr λl=>.ret (x::l),PA.imp (aZ ha.p hp hs) λσ H Q ⟨sr,q⟩=>?_,λk=>?_⟩
 ·exact⟨sr,w.mono (λx q1 u1 H1 g1 s1 v1=>⟨s1,wr.mono (λl q2 vs H2 g2 s2 v2=>q2 _ H2 (g1.trans g2) s2 (.v (g2.vr s1 v1) v2)) q1⟩) q⟩
 ·have:(λx=>B λl=>k (x::l))=λx=>ap wr λl=>k (x::l):=funext λx=>hB _;rw [this];rfl
def cj (i:Nat) (hr:AF X K fs es ks B) (hs:fs[i]?=am (am (.mE φ)):=by rfl) (hN:X.N[i]?=am x:=by rfl) (hv:Gs X.env.scope x:=by first | exact C0 rfl | exact CD (C0 rfl) | exact CD (CD rfl)) (hd:i5 x:=by decide) (jt:GL x:=by decide)
  (qX:f8 (.Name x pos::es) X.env=(false,kw (.Name x pos) X.env)::f8 es X.env:=by rfl):AF X K fs (.Name x pos::es) (.p φ::ks) B:=by
 obtain⟨wr,hp,hB⟩:=hr.p;refine⟨wr,PA.imp (aZ (d8 hN hv hd jt) hp qX) λσ H Q ⟨sr,q⟩=>?_,hB⟩;obtain⟨u,e1,r⟩:=sr.at' i _ hs;rcases r with⟨v,e,_⟩ | ⟨a,e,r⟩
 ·cases e
 ·subst e;exact⟨_,e1,sr,wr.mono (λl q2 vs H2 g2 s2 v2=>q2 _ H2 g2 s2 (.p ⟨i,hs,e1⟩ v2)) q⟩
theorem fD.Mx:∀{vs:List V}{n:Nat}{l:List PV},fD K σ fs H vs (Am n .v) l->aE K [] H vs l/\l.length=n
 | _,0,_,.nil=>⟨.nil,rfl⟩
 | _,n+1,_,.v r t=>⟨.cons r (fD.Mx t).1,by rw [Ao,(fD.Mx t).2]⟩
def aax {x1}{B:(List PV->W PV)->W PV} (h:AF X K fs es (Am n .v) B) (hn:n<=1000:=by decide):EF X K fs (.Tuple es x1 pos) (B λl=>.ret (.tup l)):=by
 obtain⟨w,hp,hB⟩:=h.p;rw [hB];refine⟨PE.imp (Q6 hp) λσ H Q ⟨sr,q⟩=>⟨sr,w.mono (λl q1 vs H1 g1 s1 v1=>?_) q⟩⟩;obtain⟨v2,hl⟩:=v1.Mx;refine⟨by rw [v2.length,hl];exact cv hn,λp H2 s2 e2 n2=>?_⟩;exact q1 _ H2 (g1.trans (cQ.same s2)) (s1.same s2) (.tup e2 (aE.tk s2.eM v2))
def TN {B:(List PV->W (List PV))->W (List PV)} (h:AF X K fs es (Am n .v) B) (hn:n<=1000:=by decide):LF X K fs (.List es pos) (B λl=>.ret l):=by
 obtain⟨w,hp,hB⟩:=h.p;rw [hB];refine⟨PE.imp (Q9 hp) λσ H Q ⟨sr,q⟩=>⟨sr,w.mono (λl q1 vs H1 g1 s1 v1=>?_) q⟩⟩;obtain⟨v2,hl⟩:=v1.Mx;refine⟨by rw [v2.length,hl];exact cv hn,λp H2 s2 e2 n2=>?_⟩;exact q1 _ _ H2 (g1.trans (cQ.same s2)) (s1.same s2) (g1.there p n2) e2 (aE.tk s2.eM v2)
end
end
end FL
namespace L2
open PySem PySem.Spec PyProof.Rows
def Inv.J8 {σ:St} (I:Inv X Z σ H s) (e:H a=am (.lst vs)):∃o,Inv X Z σ (upd H a (.cu o (.lst vs))) s:=by
 obtain⟨z,aq,n,r,h1⟩:=(show a7 X.prog X.w H s.heap a (.lst vs) from I.br a _ e);exact⟨_,I.write (x:=a) (e:=a) (o:=.cu _ (.lst vs)) (h':=s.heap) (t':=s.toks) (by rw [e];exact Cb) (.inl rfl) (λb u _ z=>z) ⟨_,h1⟩ ⟨h1,z,aq,n,r,h1⟩⟩
def Inv.J9 {σ:St}{kvs:List (Key×V)} (I:Inv X Z σ H s) (e:H a=am (.dK kvs)):∃o,Inv X Z σ (upd H a (.cu o (.dK kvs))) s:=by
 obtain⟨z,hs,vs,r,o,es,ep,h1,h2⟩:=(show a7 X.prog X.w H s.heap a (.dK kvs) from I.br a _ e);exact⟨o,I.write (x:=a) (e:=a) (o:=.cu o (.dK kvs)) (h':=s.heap) (t':=s.toks) (by rw [e];exact Cb) (.inl rfl) (λb u _ z=>z) ⟨o,h1⟩ ⟨h1,z,hs,vs,r,o,es,ep,h1,h2⟩⟩
end L2
variable {t:FL.SL}{m:PL.yS}{ks:List FL.AK}{B:(List PL.PV->FL.W PL.PV)->FL.W PL.PV}{wm:FL.W (List PL.PV)}{q0:Option BC}
namespace FL
section
open PySem PySem.Spec PyProof.Rows L2 PL
variable {K:Ab}
section
def qM (o':HO) (e:H a=am (.lst vs)):bc K H (upd H a o'):=⟨λb ws q=>by rw [av (JP q e (by intro z;cases z))];exact q,λb o u q=>by rw [av (JP q e (by intro z;cases z))];exact q⟩
def dvK (kvs:List (Key×PV)):PV:=.dv (kvs.map λkv=>kP kv.1) (kvs.map (·.2))
def yQ (kvs:List (List Key×PV)):PV:=.dv (kvs.map λkv=>.tup (kv.1.map kP)) (kvs.map (·.2))
def f9 {oh:HO} (o':HO) (e:H a=am oh) (n1:∀vs,oh≠.tup vs) (n2:∀o u,oh≠.cu o u):bc K H (upd H a o'):=⟨λb ws q=>by rw [av (λz=>by subst z;rw [e] at q;cases q;exact n1 _ rfl)];exact q,λb o u q=>by rw [av (λz=>by subst z;rw [e] at q;cases q;exact n2 _ _ rfl)];exact q⟩
def TQ {vs:List (List Key×V)}{kvs:List (List Key×PV)} (h:vs.map (·.1)=kvs.map (·.1)):(kvs.map λkv=>PV.tup (kv.1.map kP))=vs.map λkv=>PV.tup (kv.1.map kP):=by
 have:=congrArg (E4 λk:List Key=>PV.tup (k.map kP)) h;rw [AB,AB] at this;exact this.symm
def TR {vs:List (Key×V)}{kvs:List (Key×PV)} (h:vs.map (·.1)=kvs.map (·.1)):(kvs.map λkv=>kP kv.1)=vs.map λkv=>kP kv.1:=by
 have:=congrArg (E4 kP) h;rw [AB,AB] at this;exact this.symm
def SL.bw:SL->Bool
 | .ol _ _=>true
 | .od _=>true
 | .ot _=>true
 | _=>false
def SL.bv:SL->PV
 | .ol _ l=>.cl l
 | .od kvs=>dvK kvs
 | .ot kvs=>yQ kvs
 | _=>.aG
def SL.PK (h:t.bw=true):t.own=true:=by cases t <;> first | rfl | cases h
def aag (I:Inv X Z σ' H s) (oa:j9 K H a t) (hb:t.bw=true):∃ob o,H a=am o/\(∀vs,o≠.tup vs)/\(∀ob u,o≠.cu ob u)/\Inv X Z σ' (upd H a (.cu ob o)) s/\VR K [] (upd H a (.cu ob o)) (.ref a) t.bv:=by
 cases t with
 | ol q l=>
  obtain⟨_,vs,e,r⟩:=oa;obtain⟨ob,I2⟩:=I.J8 e;exact⟨ob,_,e,by simp,by simp,I2,.cl (.inl ⟨ob,aM⟩) (aE.tk (f9 _ e (by simp) (by simp)) r)⟩
 | od l=>
  obtain⟨vs,e,k,r⟩:=oa;obtain⟨ob,I2⟩:=I.J9 e;exact⟨ob,_,e,by simp,by simp,I2,.dk aM (TR k) (aE.tk (f9 _ e (by simp) (by simp)) r)⟩
 | ot l=>
  obtain⟨vs,e,k,r⟩:=oa;obtain⟨ob,I2⟩:=I.freeze e;exact⟨ob,_,e,by simp,by simp,I2,.dt aM (TQ k) (aE.tk (f9 _ e (by simp) (by simp)) r)⟩
 | _=>cases hb
def aR.aaf {o u:HO} (sr:aR K H σ fs) (hs:fs[i]?=am (am t)) (ho:t.own=true) (e1:σ[i]?=am (am (.ref a))) (h1:H a=am o) (n1:∀vs,o≠.tup vs) (n2:∀ob u,o≠.cu ob u) (vr:VR K [] (upd H a u) (.ref a) v):aR K (upd H a u) σ (fs.set i (am (.val v))):=by
 refine⟨by simp [sr.len],λj t' z=>?_,λj k t' u b1 b2 b z1 z2 o1 o2=>?_⟩
 ·rcases cM z with⟨rfl,rfl⟩ | ⟨n,z⟩
  ·exact⟨_,e1,.inl ⟨_,rfl,vr⟩⟩
  ·obtain⟨u,k1,k2⟩:=sr.at' j t' z;exact⟨u,k1,k2.mono (f9 _ h1 n1 n2) (λx b o eb ow hb zz=>by
    subst eb;rw [av (λy=>by subst y;exact n (sr.nd j i t' _ x b b z hs ow ho k1 e1 hb (.inl rfl)))];exact zz)⟩
 ·rcases cM z1 with⟨rfl,rfl⟩ | ⟨n1,z1⟩
  ·cases o1
  ·rcases cM z2 with⟨rfl,rfl⟩ | ⟨n2,z2⟩
   ·cases o2
   ·exact sr.nd j k t' u b1 b2 b z1 z2 o1 o2
def aR.side (s:aR K H σ fs) (n:¬dF σ fs a) (e:H a=am (.lst vs)) (o':HO):aR K (upd H a o') σ fs:=⟨s.len,λi t q=>by
 obtain⟨u,h1,h2⟩:=s.at' i t q;exact⟨u,h1,h2.mono (qM o' e) (λx b o eb ow hb z=>by subst eb;rw [av (λy:b=a=>n ⟨i,t,x,q,ow,h1,y▸hb⟩)];exact z)⟩,s.nd⟩
def cQ.side (g:cQ σ fs H H1) (h0:H a=bm) (o':HO):cQ σ fs H (upd H1 a o'):=⟨λb o e n=>by rw [av (bq e h0)];exact g.keep b o e n,λb e=>by
 by_cases c:b=a
 ·subst c;exact h0
 ·rw [av c] at e;exact g.there b e⟩
end
section
variable {a:ii}{w:W PV}
def gG (h:LF X K fs e wl):EF X K fs e (.bind wl λl=>.ret (.cl l)):=⟨λZ s σ H Q I ⟨sr,q⟩=>by
 refine bV (h.p Z s σ H (λu H1=>∃a vs l,u=.ref a/\cQ σ fs H H1/\aR K H1 σ fs/\H a=bm/\H1 a=am (.lst vs)/\aE K [] H1 vs l/\∀u H',cQ σ fs H H'->aR K H' σ fs->VR K [] H' u (.cl l)->Q u H') I ⟨sr,wl.mono (λl q1 a vs H1 g1 s1 n e v=>⟨a,vs,l,rfl,g1,s1,n,e,v,q1⟩) q⟩) λu s1 ⟨v,H1,I1,r1,a,vs,l,e,g1,QL,n,ea,vr,q1⟩=>?_;subst e;obtain⟨ob,I2⟩:=I1.J8 ea;exact⟨.ref a,_,I2,r1,q1 _ _ (g1.side n _) (QL.side (λz=>sr.noOwn n z) ea _) (.cl (.inl ⟨ob,aM⟩) (aE.tk (qM _ ea) vr))⟩⟩
def aD:PV->W (List PV)
 | .tup l=>.ret l
 | .cl l=>.ret l
 | _=>.fail
def bU (h:EF X K fs e w):IF X K fs e (.bind w aD):=⟨PE.imp h.p λσ H Q ⟨sr,q⟩=>⟨sr,w.mono (λx q1 u1 H1 g1 s1 v1=>by
 cases v1 with
 | tup e r=>exact q1 _ H1 g1 s1 ⟨_,_,rfl,.inr e,r⟩
 | cl e r=>exact q1 _ H1 g1 s1 ⟨_,_,rfl,.inl e,r⟩
 | _=>exact q1.elim) q⟩⟩
def J4 (h:LF X K fs e wl):IF X K fs e wl:=bU (gG h)
theorem IF.q (h:IF X K fs e wl):QF X K fs e wl:=⟨PE.imp h.p λσ H Q ⟨sr,q⟩=>⟨sr,wl.mono (λl q1 u1 H1 g1 s1 v1=>q1 u1 H1 g1 s1 (.inl v1)) q⟩⟩
def aA (h:EF X K fs e w):QF X K fs e (.bind w aD):=(bU h).q
def rS (h:LF X K fs e wl):QF X K fs e wl:=⟨PE.imp h.p λσ H Q ⟨sr,q⟩=>⟨sr,wl.mono (λl q1 a vs H1 g1 s1 n e v=>q1 _ H1 g1 s1 (.inr ⟨a,rfl,.inl ⟨sr.noOwn n,vs,e,v⟩⟩)) q⟩⟩
def cm (i:Nat) (hs:fs[i]?=am (am (.ol q0 l)):=by rfl) (hN:X.N[i]?=am x:=by rfl) (hv:Gs X.env.scope x:=by first | exact C0 rfl | exact CD (C0 rfl) | exact CD (CD rfl)) (hd:i5 x:=by decide) (jt:GL x:=by decide):QF X K fs (.Name x pos) (.ret l):=
 ⟨PE.imp (d8 hN hv hd jt) λσ H Q ⟨sr,q⟩=>by
  obtain⟨u,e1,r⟩:=sr.at' i _ hs;rcases r with⟨w,e,r⟩ | ⟨a,e,r⟩
  ·cases e
  ·subst e;exact⟨_,e1,q _ H .refl sr (.inr ⟨a,rfl,.inr ⟨i,q0,hs,e1⟩⟩)⟩⟩
def T4 (l:List PV):PV->W PV
 | .int i=>.JL (dq l i)
 | _=>.fail
def aV (hK:X.K=K) (ha:QF X K fs a wl) (hb:EF X K fs b wb) (hs:yM b:=by exact λ_ _=>rfl):EF X K fs (.Subscript a b pos) (.bind wl λl=>.bind wb λy=>T4 l y):=⟨PE.imp (Tw (RZ K hK) ha.p hb.p hs) λσ H Q ⟨sr,q⟩=>⟨sr,wl.mono (λl q1 u1 H1 g1 s1 v1=>⟨s1,wb.mono (λy q2 u2 H2 g2 s2 v2=>by
 cases v2 with
 | int i=>
  have q2:(W.JL (dq l i)).run _:=q2;cases z:dq l i with
  | none=>rw [z] at q2;exact q2.elim
  | some x=>
   rw [z] at q2;obtain⟨ad,vs,rfl,h,rs⟩:=(v1.go s1 g2).sq s2;obtain⟨v,e1,e2⟩:=aE.dq rs z;have q3:=q2 v H2 (g1.trans g2) s2 e2;exact h.elim (λh=>.inl ⟨ad,vs,i,v,rfl,rfl,h,e1,q3⟩) λh=>.inr (.inl ⟨ad,vs,i,v,rfl,rfl,h,e1,q3⟩)
 | _=>exact q2.elim) q1⟩) q⟩⟩
def aaC (ha:EF X K fs a wa) (hb:EF X K fs b wb) (hs:yM b):EF X K fs (.Subscript a b pos) (.bind wa λx=>.bind wb λy=>of2 NT x y):=⟨PE.imp (Tw Ot ha.p hb.p hs) (Kc Rt)⟩
def qa (m:yS) (l:List PV):W PV:=⟨λQ=>m.f l [] λz h=>h=[]/\Q z,λf q=>m.mono (λ_ _ q=>⟨q.1,f _ q.2⟩) q⟩
section
variable {id:String}{r:List V->Hp->VK->Prop}
def NP (hm:yS.Ok K r m) {Q:VK}{us:List V} (sr:aR K H σ fs) (hu:aE K [] H us l) (q:(qa m l).run λz=>∀u H',cQ σ fs H H'->aR K H' σ fs->VR K [] H' u z->Q u H'):r us H Q:=hm (hr0 H) hu (m.mono (λz h q=>pq0 sr q) q)
def q9 (hc:bP X (.builtin id) r) (hB:yS.Ok K r m) (hg:Gl X x) (hm:X.mg x=bm) (hv:lc x=am (.builtin id)) (ha:AF X K fs (e::es) (Am n .v) B) (hn:x≠"__name__":=by decide) (om:i5 x:=by decide)
  (he:gM X e es:=by rfl) (dH:lT X pos es:=by rfl):EF X K fs (.Call (.Name x p) (e::es) [] pos) (B (qa m)):=by
 obtain⟨w,hp,ħ⟩:=ha.p;rw [ħ];exact⟨PE.imp (ft hc hg hm hv hp hn om he dH) λσ H Q ⟨sr,q⟩=>⟨sr,w.mono (λl q1 vs H1 g1 s1 v1=>NP hB s1 v1.Mx.1 ((qa m l).mono (λz q u H' g s v=>q u H' (g1.trans g) s v) q1)) q⟩⟩
def Pp (hc:bP X (.type id) r) (hB:yS.Ok K r m) (hg:Gl X x) (hm:X.mg x=bm) (hv:lc x=am (.type id)) (ha:AF X K fs (e::es) (Am n .v) B) (hn:x≠"__name__":=by decide) (om:i5 x:=by decide)
  (he:gM X e es:=by rfl) (dH:lT X pos es:=by rfl):EF X K fs (.Call (.Name x p) (e::es) [] pos) (B (qa m)):=by
 obtain⟨w,hp,ħ⟩:=ha.p;rw [ħ];exact⟨PE.imp (lh hc hg hm hv hp hn om he dH) λσ H Q ⟨sr,q⟩=>⟨sr,w.mono (λl q1 vs H1 g1 s1 v1=>NP hB s1 v1.Mx.1 ((qa m l).mono (λz q u H' g s v=>q u H' (g1.trans g) s v) q1)) q⟩⟩
def CQ (K:Ab) (r:List V->Hp->VK->Prop) (m:List PV->W PV):Prop:=∀{fs:bg}{σ:L2.St}{H:Hp}{Q:VK}{u:V}{l:List PV},aR K H σ fs->S3 K σ fs H u l->((m l).run λz=>∀u H',cQ σ fs H H'->aR K H' σ fs->VR K [] H' u z->Q u H')->r [u] H Q
def CL (K:Ab) (r:List V->Hp->VK->Prop) (m:List PV->W (List PV)):Prop:=∀{fs:bg}{σ:L2.St}{H:Hp}{Q:VK}{u:V}{l:List PV},aR K H σ fs->S3 K σ fs H u l->((m l).run λz=>∀a vs H',cQ σ fs H H'->aR K H' σ fs->H a=bm->H' a=am (.lst vs)->aE K [] H' vs z->Q (.ref a) H')->r [u] H Q
def Pq {m:List PV->W PV} (hc:bP X (.builtin id) r) (hB:CQ K r m) (hg:Gl X x) (hm:X.mg x=bm) (hv:lc x=am (.builtin id)) (ha:QF X K fs e wl) (hn:x≠"__name__":=by decide) (om:i5 x:=by decide)
  (he:gM X e []:=by rfl) (dH:lT X pos []:=by rfl):EF X K fs (.Call (.Name x p) [e] [] pos) (.bind wl m):=⟨PE.imp (ft hc hg hm hv (aZ ha.p b9 he) hn om he dH) λσ H Q ⟨sr,q⟩=>⟨sr,wl.mono (λl q1 u H1 g1 s1 v1=>hB s1 v1 ((m l).mono (λz q u H' g s v=>q u H' (g1.trans g) s v) q1)) q⟩⟩
def LQ {m:List PV->W PV} (hc:bP X (.type id) r) (hB:CQ K r m) (hg:Gl X x) (hm:X.mg x=bm) (hv:lc x=am (.type id)) (ha:QF X K fs e wl) (hn:x≠"__name__":=by decide) (om:i5 x:=by decide)
  (he:gM X e []:=by rfl) (dH:lT X pos []:=by rfl):EF X K fs (.Call (.Name x p) [e] [] pos) (.bind wl m):=⟨PE.imp (lh hc hg hm hv (aZ ha.p b9 he) hn om he dH) λσ H Q ⟨sr,q⟩=>⟨sr,wl.mono (λl q1 u H1 g1 s1 v1=>hB s1 v1 ((m l).mono (λz q u H' g s v=>q u H' (g1.trans g) s v) q1)) q⟩⟩
def abn {m:List PV->W (List PV)} (hc:bP X (.builtin id) r) (hB:CL K r m) (hg:Gl X x) (hm:X.mg x=bm) (hv:lc x=am (.builtin id)) (ha:QF X K fs e wl) (hn:x≠"__name__":=by decide) (om:i5 x:=by decide)
  (he:gM X e []:=by rfl) (dH:lT X pos []:=by rfl):LF X K fs (.Call (.Name x p) [e] [] pos) (.bind wl m):=⟨PE.imp (ft hc hg hm hv (aZ ha.p b9 he) hn om he dH) λσ H Q ⟨sr,q⟩=>⟨sr,wl.mono (λl q1 u H1 g1 s1 v1=>hB s1 v1 ((m l).mono (λz q a vs H' g s n e v=>q a vs H' (g1.trans g) s (g1.there a n) e v) q1)) q⟩⟩
def N8 {m:List PV->W (List PV)} (hc:bP X (.type id) r) (hB:CL K r m) (hg:Gl X x) (hm:X.mg x=bm) (hv:lc x=am (.type id)) (ha:QF X K fs e wl) (hn:x≠"__name__":=by decide) (om:i5 x:=by decide)
  (he:gM X e []:=by rfl) (dH:lT X pos []:=by rfl):LF X K fs (.Call (.Name x p) [e] [] pos) (.bind wl m):=⟨PE.imp (lh hc hg hm hv (aZ ha.p b9 he) hn om he dH) λσ H Q ⟨sr,q⟩=>⟨sr,wl.mono (λl q1 u H1 g1 s1 v1=>hB s1 v1 ((m l).mono (λz q a vs H' g s n e v=>q a vs H' (g1.trans g) s (g1.there a n) e v) q1)) q⟩⟩
end
def zT (l:List PV):W PV:=.ret (.int l.length)
def RG (K:Ab):CQ K (Vf K) zT:=λ{fs σ H Q u l} s v q=>by
 obtain⟨a,vs,rfl,h,rs⟩:=v.sq s;refine⟨_,vs.length,rfl,?_,?_⟩
 ·exact h.elim (λh=>.inl ⟨_,h,rfl⟩) λh=>.inr ⟨_,h,rfl⟩
 ·rw [rs.length];exact q _ H .refl s (.int _)
def mB (l:List PV):W PV:=.ret (.tup l)
def Qu (K:Ab):CQ K (Ni K) mB:=λ{fs σ H Q u l} s v q=>by
 have fresh:∀{a:ce}{vs:List V},c7 K H a vs->aE K [] H vs l->Ni K [.ref a] H Q:=λ{a vs} h rs=>⟨a,vs,rfl,.inl ⟨h,λp H2 s2 e2 n2=>q _ H2 (cQ.same s2) (s.same s2) (.tup e2 (aE.tk s2.eM rs))⟩⟩;rcases v with⟨a,vs,rfl,h | h,rs⟩ | ⟨a,rfl,⟨n,vs,h,rs⟩ | ⟨i,_,q1,q2⟩⟩
 ·exact fresh h.sq rs
 ·exact⟨a,vs,rfl,.inr ⟨d4.of h,q _ H .refl s (.tup h rs)⟩⟩
 ·exact fresh (c7.of h) rs
 ·obtain⟨_,vs,h,rs⟩:=s.ownAt q1 rfl q2;exact fresh (c7.of h) rs
end
end
end FL
variable {R:Type}{m:List PL.PV->FL.W PL.PV}
namespace FL
section
open PySem PySem.Spec PyProof.Rows L2 PL
variable {K:Ab}
def yL (vs:List V) (ks:List AK) (φ:List V->Prop) (a:ce):Prop:=∃i:Nat,ks[i]?=am (.p φ)/\vs[i]?=am (.ref a)
structure GoC (vs:List V) (ks:List AK) (H H':Hp):Prop where
 keep:∀a o,H a=am o->(∀φ,¬yL vs ks φ a)->H' a=am o
 there:∀a,H' a=bm->H a=bm
 Vp:∀a φ,yL vs ks φ a->∃ws,H' a=am (.lst ws)/\φ ws
inductive iA (K:Ab) (H:Hp):List V->List AK->List PV->Prop
 | nil:iA K H [] [] []
 | v {u:V}{x:PV}{vs:List V}{ks:List AK}{l:List PV} (r:VR K [] H u x) (t:iA K H vs ks l):iA K H (u::vs) (.v::ks) (x::l)
 | p {a:ce}{φ:List V->Prop}{ws vs:List V}{ks:List AK}{l:List PV} (e:H a=am (.lst ws)) (r:φ ws) (t:iA K H vs ks l):iA K H (.ref a::vs) (.p φ::ks) l
 | f {a:ce}{vs:List V}{ks:List AK}{l:List PV} (t:iA K H vs ks l):iA K H (.ref a::vs) (.f a::ks) l
def gh (K:Ab) (ks:List AK) (m:List PV->W PV):Sp:=λvs H Q _=>∃l,iA K H vs ks l/\(m l).run λv=>∀u H',GoC vs ks H H'->VR K [] H' u v->Q u H'
def fj (K:Ab) (ks:List AK) (m:List PV->W (List PV)):Sp:=λvs H Q _=>∃l,iA K H vs ks l/\(m l).run λz=>∀a ws H',GoC vs ks H H'->H a=bm->H' a=am (.lst ws)->aE K [] H' ws z->Q (.ref a) H'
def Tb (R:Type):Nat->Type
 | 0=>W R
 | n+1=>PV->Tb R n
def ck:(n:Nat)->Tb R n->List PV->W R
 | 0,m,[]=>m
 | n+1,m,x::l=>ck n (m x) l
 | 0,_,_::_=>.fail
 | _+1,_,[]=>.fail
section
def fD.mE (h:fD K σ fs H vs ks l) (p:yL vs ks φ a):hJ σ fs φ a:=by
 obtain⟨i,e1,e2⟩:=p
 induction h generalizing i with
 | nil=>simp at e1
 | v r t ih=>cases i with | zero=>simp at e1 | succ i=>exact ih i (by simpa using e1) (by simpa using e2)
 | p r t ih=>
  cases i with
  | zero=>simp at e1 e2;subst e1;subst e2;exact r
  | succ i=>exact ih i (by simpa using e1) (by simpa using e2)
 | f t ih=>cases i with | zero=>simp at e1 | succ i=>exact ih i (by simpa using e1) (by simpa using e2)
def fD.c (h:fD K σ fs H vs ks l) (s:aR K H σ fs):iA K H vs ks l:=by
 induction h with
 | nil=>exact .nil
 | v r t ih=>exact .v r ih
 | p r t ih=>
  obtain⟨i,e1,e2⟩:=r;obtain⟨ws,q,x⟩:=s.ownAt e1 rfl e2;exact .p q x ih
 | f t ih=>exact .f ih
def GoC.caller (g:GoC vs ks H H') (h:fD K σ fs H vs ks l) (s:aR K H σ fs):aR K H' σ fs/\cQ σ fs H H':=by
 have gf:cQ σ fs H H':=⟨λa o e n=>g.keep a o e λφ p=>n φ (h.mE p),g.there⟩;have tk:=gf.d5 s;refine⟨⟨s.len,λi t e=>?_,s.nd⟩,gf⟩;obtain⟨u,h1,h2⟩:=s.at' i t e;refine⟨u,h1,?_⟩;rcases h2 with⟨v,q,r⟩ | ⟨a,q,r⟩
 ·exact .inl ⟨v,q,VR.tk tk r⟩
 ·subst q;refine .inr ⟨a,rfl,?_⟩;by_cases c:(∃φ,yL vs ks φ a)/\t.own=true
  ·obtain⟨⟨φ,p⟩,ow⟩:=c;obtain⟨j,e1,e2⟩:=h.mE p;have ij:=s.nd i j t _ a a a e e1 ow rfl h1 e2 (.inl rfl) (.inl rfl);subst ij;rw [e] at e1;cases e1;exact g.Vp a φ p
  ·refine r.mono tk (λb o ow hb z=>g.keep b o z λφ p=>?_);obtain⟨j,e1,e2⟩:=h.mE p;have ij:=s.nd i j t _ a b b e e1 ow rfl h1 e2 hb (.inl rfl);subst ij;rw [h1] at e2;cases e2;exact c ⟨⟨φ,p⟩,ow⟩
end
section
def W4 (G:Tc X.prog X.w X.K X.mg X.base x k ps (gh K ks m)) (hr:cC k' X.A) (hk:k<=k') (hg:Gl X x) (ha:AF X K fs (e::es) ks B) (om:i5 x:=by decide)
  (he:gM X e es:=by rfl) (dH:lT X pos es:=by rfl):EF X K fs (.Call (.Name x p) (e::es) [] pos) (B m):=by
 obtain⟨w,hp,hB⟩:=ha.p;rw [hB];exact⟨PE.imp (NJ G hr hk hg hp om he dH) λσ H Q ⟨sr,q⟩=>⟨sr,w.mono (λl q1 vs H1 g1 s1 v1=>⟨l,v1.c s1,(m l).mono (λz q2 u H2 g2 r2=>let ⟨s2,g3⟩:=g2.caller v1 s1;q2 u H2 (g1.trans g3) s2 r2) q1⟩) q⟩⟩
def V8 {m:List PV->W (List PV)}{B:(List PV->W (List PV))->W (List PV)} (G:Tc X.prog X.w X.K X.mg X.base x k ps (fj K ks m)) (hr:cC k' X.A) (hk:k<=k') (hg:Gl X x) (ha:AF X K fs (e::es) ks B) (om:i5 x:=by decide)
  (he:gM X e es:=by rfl) (dH:lT X pos es:=by rfl):LF X K fs (.Call (.Name x p) (e::es) [] pos) (B m):=by
 obtain⟨w,hp,hB⟩:=ha.p;rw [hB];exact⟨PE.imp (NJ G hr hk hg hp om he dH) λσ H Q ⟨sr,q⟩=>⟨sr,w.mono (λl q1 vs H1 g1 s1 v1=>⟨l,v1.c s1,(m l).mono (λz q2 a ws H2 g2 n2 e2 r2=>let ⟨s2,g3⟩:=g2.caller v1 s1;q2 a ws H2 (g1.trans g3) s2 (g1.there a n2) e2 r2) q1⟩) q⟩⟩
end
end
end FL
variable {x:Bool}{T:Type}{p':B9}
namespace FL
section
open PySem PySem.Spec PyProof.Rows L2 PL
variable {K:Ab}
inductive End where
 | nx (fs:bg) | nc (fs:bg) | ct (fs:bg) | rt (v:PV) | rl (l:List PV) | bk (fs:bg) | ro (v:PV) (a:ce) (l:List PV)
def yP (σ:L2.St) (fs:bg) (H:Hp) (a:ce):Prop:=H a=bm\/∃(i:Nat) (s:SL) (x:ce),fs[i]?=am (am s)/\s.own=true/\(∀φ,s≠.mE φ)/\σ[i]?=am (am (.ref x))/\s.has x a
def bE (K:Ab) (x:Bool) (σ:L2.St) (fs:bg) (H:Hp) (D:Ends):End->Prop
 | .nx bu=>x=false->∀σ' H',cE σ fs H σ' bu H'->aR K H' σ' bu->D.nx σ' H'
 | .nc bu=>∀σ' H',cE σ fs H σ' bu H'->aR K H' σ' bu->(x=false->D.nx σ' H')/\D.ct σ' H'
 | .ct bu=>∀σ' H',cE σ fs H σ' bu H'->aR K H' σ' bu->D.ct σ' H'
 | .bk bu=>∀σ' H',cE σ fs H σ' bu H'->aR K H' σ' bu->D.bk σ' H'
 | .rt v=>∀u σ' bu H',cE σ fs H σ' bu H'->aR K H' σ' bu->VR K [] H' u v->D.rt u H'
 | .ro v a l=>∀u σ' bu H',cE σ fs H σ' bu H'->aR K H' σ' bu->(∃i:Nat,bu[i]?=am (am (.ol (am a) l)))->VR K [] H' u v->D.rt u H'
 | .rl l=>∀a ws σ' bu H',cE σ fs H σ' bu H'->aR K H' σ' bu->yP σ fs H a->H' a=am (.lst ws)->aE K [] H' ws l->D.rt (.ref a) H'
def fS (K:Ab) (x:Bool) (fs:bg) (w:W T) (out:T->End):TS:=λD σ H=>aR K H σ fs/\w.run λt=>bE K x σ fs H D (out t)
structure SF (X:Cx) (K:Ab) (x:Bool) (fs:bg) (UW:List ss) {T:Type} (w:W T) (out:T->End):Prop where p:rm X UW (fS K x fs w out)
section
variable {σ1:L2.St}{Sl:bg}
def yP.go (g:cE σ fs H σ1 Sl H1) (s:aR K H σ fs) (s1:aR K H1 σ1 Sl) (h:yP σ1 Sl H1 a):yP σ fs H a:=by
 rcases h with h | ⟨i,t,x,e1,e2,np,e3,e4⟩
 ·exact .inl (g.there a h)
 ·cases z:H a with
  | none=>exact .inl z
  | some o=>
   by_cases c:dF σ fs a
   ·obtain⟨j,t',y,c1,c2,c3,c4⟩:=c;by_cases d:∃φ,t'=.mE φ
    ·obtain⟨φ,rfl⟩:=d;rcases c4 with rfl | c4
     ·rcases g.pk a φ ⟨j,c1,c3⟩ with⟨k,k1,k2⟩ | ⟨n,_⟩
      ·have:=s1.nd i k t _ x a a e1 k1 e2 rfl e3 k2 e4 (.inl rfl);subst this;rw [e1] at k1;cases k1;exact absurd rfl (np φ)
      ·exact absurd ⟨i,t,x,e1,e2,e3,e4⟩ n
     ·cases c4
    ·exact .inr ⟨j,t',y,c1,c2,λφ e=>d ⟨φ,e⟩,c3,c4⟩
   ·exact absurd ⟨i,t,x,e1,e2,e3,e4⟩ (g.keep a o z c).2
def bE.go (g:cE σ fs H σ1 Sl H1) (s:aR K H σ fs) (s1:aR K H1 σ1 Sl) {E:End} (h:bE K x σ fs H D E):bE K x σ1 Sl H1 D E:=by
 cases E with
 | nx bu=>exact λhx σ' H' g' s'=>h hx σ' H' (g.trans g') s'
 | nc bu=>exact λσ' H' g' s'=>h σ' H' (g.trans g') s'
 | bk bu=>exact λσ' H' g' s'=>h σ' H' (g.trans g') s'
 | ct bu=>exact λσ' H' g' s'=>h σ' H' (g.trans g') s'
 | rt v=>exact λu σ' bu H' g' s' r=>h u σ' bu H' (g.trans g') s' r
 | ro v a l=>exact λu σ' bu H' g' s' o r=>h u σ' bu H' (g.trans g') s' o r
 | rl l=>exact λa ws σ' bu H' g' s' f e r=>h a ws σ' bu H' (g.trans g') s' (f.go g s s1) e r
def bE.exit {D':Ends} (h1:D'.rt=D.rt) (h2:D'.ct=D.ct) (h3:D'.bk=D.bk) {E:End} (h:bE K x σ fs H D E):bE K true σ fs H D' E:=by
 cases E with
 | nx bu=>exact λhx=>nomatch hx
 | nc bu=>exact λσ' H' g' s'=>⟨λhx=>(nomatch hx),h2▸(h σ' H' g' s').2⟩
 | bk bu=>exact λσ' H' g' s'=>h3▸h σ' H' g' s'
 | ct bu=>exact λσ' H' g' s'=>h2▸h σ' H' g' s'
 | rt v=>exact λu σ' bu H' g' s' r=>h1▸h u σ' bu H' g' s' r
 | ro v a l=>exact λu σ' bu H' g' s' o r=>h1▸h u σ' bu H' g' s' o r
 | rl l=>exact λa ws σ' bu H' g' s' f e r=>h1▸h a ws σ' bu H' g' s' f e r
end
section
variable {X:Cx}{a b c e o:ii}{pos p:Pos}{fs bu:bg}{st:ss}{UW rest sa sb:List ss}{T T1:Type}{w wk:W T}{out:T->End}{we:W PV}{wl:W (List PV)}{x:Bool}
def End.Ow:End->Prop
 | .rt _=>True
 | .rl _=>True
 | .ro _ _ _=>True
 | _=>False
def bE.ac5 {D':Ends}{y:Bool}{E:End} (ho:E.Ow) (e:D'.rt=D.rt) (h:bE K x σ fs H D E):bE K y σ fs H D' E:=by
 cases E with
 | rt v=>exact λu σ' bu H' g s r=>e▸h u σ' bu H' g s r
 | rl v=>exact λa ws σ' bu H' g s f ea r=>e▸h a ws σ' bu H' g s f ea r
 | ro v a l=>exact λu σ' bu H' g s o r=>e▸h u σ' bu H' g s o r
 | _=>exact ho.elim
def yX (X:Cx) (K:Ab) (x:Bool) (rest:List ss) {T:Type} (out:T->End):TS:=λD σ H=>∃bu w',SF X K x bu rest w' out/\fS K x bu w' out D σ H
def QN:rm X rest (yX X K x rest out):=λZ s σ H D I ⟨bu,w',h,q⟩=>h.p Z s σ H D I q
def NW:rm X rest UQ:=λ_ _ _ _ _ _ h=>h.elim
def SF.step {t:TS} (h:PS X st t) (hq:∀D σ H,fS K x fs w out D σ H->t {D with nx:=yX X K x rest out D} σ H):SF X K x fs (st::rest) w out:=⟨rm.imp (zk h QN) λD σ H q=>hq D σ H q⟩
def SF.last {t:TS} (h:PS X st t) (hq:∀D σ H,fS K x fs w out D σ H->t {D with nx:=λ_ _=>False} σ H):SF X K x fs (st::rest) w out:=⟨rm.imp (zk h NW) λD σ H q=>hq D σ H q⟩
def SF.nil {t:T} (h:out t=.nx bu) (hl:hU fs bu):SF X K false fs [] (.ret t) out:=⟨rm.imp wo λD σ H ⟨sr,q⟩=>by
 have q:bE K false σ fs H D (out t):=q;rw [h] at q;exact q rfl σ H (cE.le sr hl) (sr.le hl)⟩
def SF.gk {t:T} (h:out t=.nc bu) (hl:hU fs bu):SF X K false fs [] (.ret t) out:=⟨rm.imp wo λD σ H ⟨sr,q⟩=>by
 have q:bE K false σ fs H D (out t):=q;rw [h] at q;exact (q σ H (cE.le sr hl) (sr.le hl)).1 rfl⟩
def SF.cont {t:T} (h:out t=.nc bu\/out t=.ct bu) (hl:hU fs bu):SF X K x fs (.Continue pos::rest) (.ret t) out:=SF.last zm λD σ H ⟨sr,q⟩=>by
 have q:bE K x σ fs H D (out t):=q;rcases h with h | h
 ·rw [h] at q;exact (q σ H (cE.le sr hl) (sr.le hl)).2
 ·rw [h] at q;exact q σ H (cE.le sr hl) (sr.le hl)
def SF.ret {k:PV->T} (he:EF X K fs e we) (h:∀v,out (k v)=.rt v):SF X K x fs (.Return (am e) pos::rest) (.bind we λv=>.ret (k v)) out:=SF.last (wq he.p) λD σ H ⟨sr,q⟩=>⟨sr,we.mono (λv q1 u H1 g1 s1 v1=>by
 have q1:bE K x σ fs H D (out (k v)):=q1;rw [h] at q1;exact q1 u σ fs H1 g1.f s1 v1) q⟩
def SF.c8 {out:PV->End} (he:EF X K fs e we) (h:∀v,out v=.rt v):SF X K x fs (.Return (am e) pos::rest) we out:=SF.ret (k:=λv=>v) he h
def SF.acY {k:List PV->T} (he:LF X K fs e wl) (h:∀l,out (k l)=.rl l):SF X K x fs (.Return (am e) pos::rest) (.bind wl λl=>.ret (k l)) out:=SF.last (wq he.p) λD σ H ⟨sr,q⟩=>⟨sr,wl.mono (λl q1 a ws H1 g1 s1 n e v1=>by
 have q1:bE K x σ fs H D (out (k l)):=q1;rw [h] at q1;exact q1 a ws σ fs H1 g1.f s1 (.inl n) e v1) q⟩
def SF.gP {out:List PV->End} (he:LF X K fs e wl) (h:∀v,out v=.rl v):SF X K x fs (.Return (am e) pos::rest) wl out:=SF.acY (k:=λv=>v) he h
def SF.U7 (i:Nat) {y:Str}{t:T} (hs:fs[i]?=am (am (.ol q0 l))) (h:out t=.rl l) (hN:X.N[i]?=am y:=by rfl) (hv:Gs X.env.scope y:=by first | exact C0 rfl | exact CD (C0 rfl) | exact CD (CD rfl)) (hd:i5 y:=by decide) (jt:GL y:=by decide):SF X K x fs (.Return (am (.Name y p)) pos::rest) (.ret t) out:=SF.last (wq (d8 hN hv hd jt)) λD σ H ⟨sr,q⟩=>by
 have q:bE K x σ fs H D (out t):=q;rw [h] at q;obtain⟨u,e1,r⟩:=sr.at' i _ hs;rcases r with⟨v,e,_⟩ | ⟨a,e,r⟩
 ·cases e
 ·subst e;obtain⟨_,ws,q1,q2⟩:=r;exact⟨_,e1,q a ws σ fs H .refl sr (.inr ⟨i,_,_,hs,rfl,by simp,e1,.inl rfl⟩) q1 q2⟩
def SF.YN (i:Nat) {ad:ce}{k:PV->T} (hs:fs[i]?=am (am (.ol (am ad) l))) (he:EF X K fs e we) (h:∀v,out (k v)=.ro v ad l):SF X K x fs (.Return (am e) pos::rest) (.bind we λv=>.ret (k v)) out:=SF.last (wq he.p) λD σ H ⟨sr,q⟩=>⟨sr,we.mono (λv q1 u H1 g1 s1 v1=>by
 have q1:bE K x σ fs H D (out (k v)):=q1;rw [h] at q1;exact q1 u σ fs H1 g1.f s1 ⟨i,hs⟩ v1) q⟩
def SF.expr {k:PV->W T} (he:EF X K fs e we) (hr:∀v,SF X K x fs rest (k v) out) (hs:im e bm pos.line X.env=pure false:=by rfl):SF X K x fs (.Expr e pos::rest) (.bind we k) out:=SF.step (qO he.p hs) λD σ H ⟨sr,q⟩=>
 ⟨sr,we.mono (λv q1 u H1 g1 s1 v1=>⟨fs,k v,hr v,s1,(k v).mono (λt q2=>q2.go g1.f sr s1) q1⟩) q⟩
def SF.set {y:Str}{k:PV->W T} (hN:X.N.Nodup) (hi:X.N[i]?=am y) (hx:Loc X.env.scope y) (he:EF X K fs e we) (hr:∀v,SF X K x (fs.set i (am (.val v))) rest (k v) out) (hs:im e (am (.Name y p')) pos.line X.env=pure false:=by rfl)
  (hf:Mn X y:=by first | exact .inl rfl | exact .inr rfl | assumption):SF X K x fs (.Assign [.Name y p'] e pos::rest) (.bind we k) out:=SF.step (rT hN hi hx he.p hs hf) λD σ H ⟨sr,q⟩=>
 ⟨sr,we.mono (λv q1 u H1 g1 s1 v1=>⟨_,k v,hr v,s1.fq v1 i,(k v).mono (λt q2=>q2.go (g1.f.trans (cE.fq s1 u v i)) sr (s1.fq v1 i)) q1⟩) q⟩
def SF.acW {y:Str}{k:List PV->W T} (hN:X.N.Nodup) (hi:X.N[i]?=am y) (hx:Loc X.env.scope y) (he:LF X K fs e wl) (hr:∀l,SF X K x (fs.set i (am (.ol bm l))) rest (k l) out) (hs:im e (am (.Name y p')) pos.line X.env=pure false:=by rfl)
  (hf:Mn X y:=by first | exact .inl rfl | exact .inr rfl | assumption):SF X K x fs (.Assign [.Name y p'] e pos::rest) (.bind wl k) out:=SF.step (rT hN hi hx he.p hs hf) λD σ H ⟨sr,q⟩=>by
 refine⟨sr,wl.mono (λl q1 a ws H1 g1 s1 n e v1=>?_) q⟩;have no:=sr.noOwn n;have s2:=s1.wj (t:=.ol bm l) ⟨by simp,ws,e,v1⟩ no i;exact⟨_,k l,hr l,s2,(k l).mono (λt q2=>q2.go (cE.wj s1 g1.f no n i) sr s2) q1⟩
def SF.cu (i:Nat) {t:SL} (hs:fs[i]?=am (am t)) (hr:SF X K x (fs.set i (am (.val t.bv))) UW w out) (hb:t.bw=true:=by rfl):SF X K x fs UW w out:=⟨λZ s σ H D I ⟨sr,q⟩=>by
 obtain⟨u,e1,r⟩:=sr.at' i _ hs;have ho:=SL.PK hb;rcases r with⟨v,e,_⟩ | ⟨a,e,oa⟩
 ·subst e;cases hb
 ·subst e;obtain⟨ob,o,h1,n1,n2,I2,vr⟩:=aag I oa hb;have ow:∀b,dF σ (fs.set i (am (.val t.bv))) b->dF σ fs b:=λb z=>by
   obtain⟨j,t,x,z1,z2,z3,z4⟩:=z;rcases cM z1 with⟨rfl,rfl⟩ | ⟨n,z1⟩
   ·cases z2
   ·exact⟨j,t,x,z1,z2,z3,z4⟩
  have s2:=sr.aaf hs ho e1 h1 n1 n2 vr;have g2:cE σ fs H σ (fs.set i (am (.val t.bv))) (upd H a (.cu ob o)):=by
   refine⟨λb o z n=>⟨?_,λy=>n (ow b y)⟩,λb z=>?_,λb φ z=>?_⟩
   ·rw [av (λy=>by subst y;exact n ⟨i,_,_,hs,ho,e1,.inl rfl⟩)];exact z
   ·by_cases c:b=a
    ·subst c;rw [aM] at z;cases z
    ·rw [av c] at z;exact z
   ·obtain⟨j,z1,z2⟩:=z;have:j≠i:=λy=>by subst y;rw [hs] at z1;cases z1;cases hb
    exact .inl ⟨j,by rw [aN this];exact z1,z2⟩
  exact hr.p Z s σ _ D I2 ⟨s2,w.mono (λt q3=>q3.go g2 sr s2) q⟩⟩
variable {tc:W Bool}
def SF.ifT (hc:TF X K fs c tc) (ha:SF X K x fs sa w out) (hb:SF X K x fs sb wk out):SF X K x fs [.If c sa sb pos] (.bind tc λb=>if b=true then w else wk) out:=⟨rm.imp (QX (Nv hc.p ha.p hb.p)) λD σ H ⟨sr,q⟩=>⟨sr,tc.mono (λk q1 H1 g1 s1=>by
 cases k with
 | true=>exact xi ⟨s1,w.mono (λt q2=>q2.go g1.f sr s1) q1⟩
 | false=>exact xj ⟨s1,wk.mono (λt q2=>q2.go g1.f sr s1) q1⟩) q⟩⟩
def SF.Qe (hc:TF X K fs c tc) (ha:SF X K true fs sa w out) (hb:SF X K x fs rest wk out):SF X K x fs (.If c sa [] pos::rest) (.bind tc λb=>if b=true then w else wk) out:=SF.step (Nv hc.p ha.p wo) λD σ H ⟨sr,q⟩=>⟨sr,tc.mono (λk q1 H1 g1 s1=>by
 cases k with
 | true=>exact xi ⟨s1,w.mono (λt q2=>bE.exit (D:=D) (D':={D with nx:=yX X K x rest out D}) rfl rfl rfl (q2.go g1.f sr s1)) q1⟩
 | false=>exact xj ⟨fs,wk,hb,s1,wk.mono (λt q2=>q2.go g1.f sr s1) q1⟩) q⟩
def Xu (X:Cx) (K:Ab) (x:Bool) (rest:List ss) {T:Type} (w:W T) (out:T->End):End->Prop
 | .nx bu=>SF X K x bu rest w out
 | .nc bu=>False
 | .bk bu=>∃t,w=.ret t/\out t=.bk bu
 | .ct bu=>∃t,w=.ret t/\(out t=.ct bu\/out t=.nc bu)
 | .rt v=>∃t,w=.ret t/\out t=.rt v
 | .rl l=>∃t,w=.ret t/\out t=.rl l
 | .ro v a l=>∃t,w=.ret t/\out t=.ro v a l
def Xu.r {E:End} (sr:aR K H σ fs) (h:Xu X K x rest w out E) (q:w.run λt=>bE K x σ fs H D (out t)):bE K false σ fs H {D with nx:=yX X K x rest out D} E:=by
 cases E with
 | nx bu=>exact λ_ σ' H' g' s'=>⟨bu,w,h,s',w.mono (λt q2=>q2.go g' sr s') q⟩
 | nc bu=>exact h.elim
 | bk bu=>
  obtain⟨t,rfl,h⟩:=h;have q:bE K x σ fs H D (out t):=q;rw [h] at q;exact q
 | ct bu=>
  obtain⟨t,rfl,h⟩:=h;have q:bE K x σ fs H D (out t):=q;rcases h with h | h
  ·rw [h] at q;exact q
  ·rw [h] at q;exact λσ' H' g s=>(q σ' H' g s).2
 | rt v=>
  obtain⟨t,rfl,h⟩:=h;have q:bE K x σ fs H D (out t):=q;rw [h] at q;exact q
 | rl v=>
  obtain⟨t,rfl,h⟩:=h;have q:bE K x σ fs H D (out t):=q;rw [h] at q;exact q
 | ro v a l=>
  obtain⟨t,rfl,h⟩:=h;have q:bE K x σ fs H D (out t):=q;rw [h] at q;exact q
variable {w1 w2:W T1}{out1:T1->End}{k:T1->W T}
def SF.ifS (hc:TF X K fs c tc) (ha:SF X K false fs sa w1 out1) (hb:SF X K false fs sb w2 out1) (hr:∀t,Xu X K x rest (k t) out (out1 t)):SF X K x fs (.If c sa sb pos::rest) (.bind tc λb=>.bind (if b=true then w1 else w2) k) out:=SF.step (Nv hc.p ha.p hb.p) λD σ H ⟨sr,q⟩=>⟨sr,tc.mono (λb q1 H1 g1 s1=>by
 have fin:∀t,(k t).run (λt=>bE K x σ fs H D (out t))->bE K false σ fs H {D with nx:=yX X K x rest out D} (out1 t):=λt q=>(hr t).r sr q;cases b with
 | true=>exact xi ⟨s1,w1.mono (λt q2=>(fin t q2).go g1.f sr s1) q1⟩
 | false=>exact xj ⟨s1,w2.mono (λt q2=>(fin t q2).go g1.f sr s1) q1⟩) q⟩
end
end
end FL
variable {is:List Nat}
namespace FL
section
open PySem PySem.Spec PyProof.Rows L2 PL
variable {K:Ab}
def JF (K:Ab) (H:Hp) (J:It) (l:List PV):Prop:=l.length<=sizeLine/\∀H',bc K H H'->(∀(i:Nat) (p:PV),l[i]?=am p->J.go i H'/\∀x H2,J.Te i H' x H2->kW H' H2/\VR K [] H2 x p)/\J.stop l.length H'
def JF.tk {J:It} (t:bc K H H') (h:JF K H J l):JF K H' J l:=⟨h.1,λH2 t2=>h.2 H2 (bc.trans t t2)⟩
def fIt (K:Ab) (fs:bg) (w:W (List PV)):TI:=λσ H R=>aR K H σ fs/\w.run λl=>∀J H',cQ σ fs H H'->aR K H' σ fs->JF K H' J l->R J H'
structure qJ (X:Cx) (K:Ab) (fs:bg) (tg e:ii) (w:W (List PV)):Prop where p:PI X tg e (fIt K fs w)
section
variable {a c:ii}
def S7 {ad:ce} (h:Uw K H ad vs) (r:aE K [] H vs l) (hz:l.length<=sizeLine):JF K H (Itl K ad) l:=⟨hz,λH' t=>by
 have e1:=(t.f _ _ h).sq;have e2:=aE.tk t r;refine⟨λi p hp=>?_,vs,e1,by rw [e2.length];exact An _⟩;obtain⟨v,h3,h4⟩:=e2.get hp;refine⟨⟨vs,v,e1,h3⟩,λx H3 y=>?_⟩;obtain⟨rfl,y⟩:=y;have:=y vs e1;rw [h3] at this;cases this;exact⟨kW.refl _,h4⟩⟩
def Xq {ad:ce} (h:H ad=am (.tup vs)) (r:aE K [] H vs l) (hz:l.length<=sizeLine):JF K H (Itt K ad) l:=⟨hz,λH' t=>by
 have e1:=d4.of (K:=K) (t.t _ _ h);have e2:=aE.tk t r;refine⟨λi p hp=>?_,vs,e1,by rw [e2.length];exact An _⟩;obtain⟨v,h3,h4⟩:=e2.get hp;refine⟨⟨vs,v,e1,h3⟩,λx H3 y=>?_⟩;obtain⟨rfl,y⟩:=y;have:=y vs e1;rw [h3] at this;cases this;exact⟨kW.refl _,h4⟩⟩
def bS (hK:X.K=K) (h:IF X K fs e wl):qJ X K fs tg e wl:=⟨by
 subst hK;intro Z s σ H R I ⟨sr,q⟩;refine bV (h.p Z s σ H (λu H1=>∃l,Xo X.K H1 u l/\∀J,JF X.K H1 J l->R J H1) I ⟨sr,wl.mono (λl q1 u H1 g1 s1 v1=>⟨l,v1,λJ j=>q1 J H1 g1 s1 j⟩) q⟩) λv s1 ⟨x,H1,I1,r1,l,⟨ad,vs,e,hh,rs⟩,q1⟩=>?_;subst e;cases r1;rcases hh with hh | hh
 ·obtain⟨aq,rv,pl,hz⟩:=I1.list hh.sq;refine C4 pl.isList ?_;refine⟨s1.heap.objs.size,[s1.heap.objs.size],_,_,H1,rfl,I1.kept (t':=s1.toks) λb o e=>Ag _ e,uQ ad _,⟨_,Ap _ rfl,rfl,rfl⟩,λb hb=>?_,q1 _ (S7 hh rs (by rw [<- rs.length];exact hz))⟩;have e:b=s1.heap.objs.size:=by simpa using hb
  subst e;exact I1.xI (An _) (I1.br.fresh (An _))
 ·obtain⟨aq,rv,pl,hz⟩:=I1.tuple (d4.of hh);refine DW (show s1.heap.IsTuple ad aq.toArray from pl) ?_;refine⟨s1.heap.objs.size,[s1.heap.objs.size],_,_,H1,rfl,I1.kept (t':=s1.toks) λb o e=>Ag _ e,GU ad _,⟨_,Ap _ rfl,rfl,rfl⟩,λb hb=>?_,q1 _ (Xq hh rs (by rw [<- rs.length];exact hz))⟩;have e:b=s1.heap.objs.size:=by simpa using hb
  subst e;exact I1.xI (An _) (I1.br.fresh (An _))⟩
def okN (i j:Int):Prop:=-(2 ^ 62)<=i/\i < 2 ^ 62/\-(2 ^ 62)<=j/\j < 2 ^ 62/\(j-i).toNat<=sizeLine
def fo:PV->W (List PV)
 | .int j=>.fh (okN 0 j) (.ret (gX 0 j.toNat))
 | _=>.fail
def Nd:PV->PV->PV->W (List PV)
 | .int i,.int j,.int k=>.fh (k = -1/\okN j i) (.ret (qk i (i-j).toNat))
 | _,_,_=>.fail
def Xr (lo:Int) (n:Nat) (hz:n<=sizeLine):JF K H (Itr lo n) (gX lo n):=⟨by rw [iT];exact hz,λH' t=>⟨λi p hp=>by
  obtain⟨h1,rfl⟩:=pL hp;refine⟨h1,λx H2 y=>?_⟩;obtain⟨rfl,rfl⟩:=y;exact⟨kW.refl _,.int _⟩,by show n<=(gX lo n).length;rw [iT];exact An _⟩⟩
theorem cP (hg:Gl X "range") (hm:X.mg "range"=bm) (ha:EF X K fs a wa) (hs:f8 [a] X.env=[(false,kw a X.env)]:=by rfl):qJ X K fs tg (.Call (.Name "range" p) [a] [] pos) (.bind wa fo):=
 ⟨PI.imp (K5 hg hm (aZ ha.p b9 hs) hs) λσ H R ⟨sr,q⟩=>⟨sr,wa.mono (λx q1 u1 H1 g1 s1 v1=>by
  cases v1 with
  | int j=>exact⟨_,rfl,q1.1.2.2.1,q1.1.2.2.2.1,q1.2 _ H1 g1 s1 (Xr _ _ (by have:=q1.1.2.2.2.2;omega))⟩
  | _=>exact q1.elim) q⟩⟩
def R1 (hg:Gl X "range") (hm:X.mg "range"=bm) (ha:EF X K fs a wa) (hb:EF X K fs b wb) (hc:EF X K fs c wc) (hs:f8 [a,b,c] X.env=[(false,kw a X.env),(false,kw b X.env),(false,kw c X.env)]:=by rfl) (qY:f8 [b,c] X.env=[(false,kw b X.env),(false,kw c X.env)]:=by rfl) (hs3:f8 [c] X.env=[(false,kw c X.env)]:=by rfl):qJ X K fs tg (.Call (.Name "range" p) [a,b,c] [] pos) (.bind wa λx=>.bind wb λy=>.bind wc λz=>Nd x y z):=
 ⟨PI.imp (K4 hg hm (aZ ha.p (aZ hb.p (aZ hc.p b9 hs3) (by show f8 _ _=_;rw [qY,hs3])) (by show f8 _ _=_;rw [hs,qY])) hs qY) λσ H R ⟨sr,q⟩=>⟨sr,wa.mono (λx q1 u1 H1 g1 s1 v1=>⟨s1,wb.mono (λy q2 u2 H2 g2 s2 v2=>⟨s2,wc.mono (λz q3 u3 H3 g3 s3 v3=>by
  cases v1 with
  | int i=>
   cases v2 with
   | int j=>
    cases v3 with
    | int k=>
     obtain⟨⟨rfl,k1,k2,k3,k4,k5⟩,q3⟩:=q3;refine⟨_,_,rfl,⟨k3,k4,k1,k2⟩,q3 _ H3 ((g1.trans g2).trans g3) s3 ⟨by rw [vA];exact k5,λH' t=>⟨λi p hp=>?_,?_⟩⟩⟩
     ·obtain⟨h1,rfl⟩:=vB hp;refine⟨h1,λx H2 y=>?_⟩;obtain⟨rfl,rfl⟩:=y;exact⟨kW.refl _,.int _⟩
     ·exact Nat.le_of_eq (vA _ _).symm
    | _=>exact q3.elim
   | _=>exact q3.elim
  | _=>exact q3.elim) q2⟩) q1⟩) q⟩⟩
def n9 (hK:X.K=K) {kk:Nat} (hg:Gl X "enumerate") (hm:X.mg "enumerate"=bm) (h:IF X K fs e wl) (GH:gM X e []:=by rfl):qJ X K fs (.Tuple Î kk tp) (.Call (.Name "enumerate" p1) [e] [] p2) (.bind wl λl=>.fh (l.length<=sizeLine) (.ret (dD 0 l))):=
 ⟨PI.imp (NC K hK hg hm h.p GH) λσ H R ⟨sr,q⟩=>⟨sr,wl.mono (λl q1 u1 H1 g1 s1 v1=>by
  obtain⟨ad,vs,rfl,hh,rs⟩:=v1;have yl:∀{H':Hp}{i:Nat}{x v:V}{y:PV}{pp:ce},H' pp=bm->VR K [] H' v y->kW H' (upd H' pp (.tup [.int (i:Int),v]))/\VR K [] (upd H' pp (.tup [.int (i:Int),v])) (.ref pp) (.tup [.int ((0+i:Nat):Int),y]):=λ{H' i x v y pp} hn h4=>
   have sm:=iH hn (.tup [.int (i:Int),v])
   ⟨sm,.tup aM (.cons (by rw [AG];exact .int _) (.cons (VR.tk sm.eM h4) .nil))⟩
  refine⟨ad,rfl,?_⟩;rcases hh with hh | hh
  ·refine .inl ⟨⟨vs,hh.sq⟩,q1.2 _ H1 g1 s1 ⟨by rw [cg];exact q1.1,λH' t=>⟨λi p hp=>?_,vs,(t.f _ _ hh).sq,by rw [rs.length,cg];exact An _⟩⟩⟩;obtain⟨y,hy,rfl⟩:=f7 hp;obtain⟨v,h3,h4⟩:=(aE.tk t rs).get hy;refine⟨⟨vs,v,(t.f _ _ hh).sq,h3⟩,λx H3 z=>?_⟩;obtain⟨pp,x0,rfl,hn,rfl,hz⟩:=z;have:=hz vs (t.f _ _ hh).sq;rw [h3] at this;cases this;exact yl (x:=.aG) hn h4
  ·refine .inr ⟨⟨vs,d4.of hh⟩,q1.2 _ H1 g1 s1 ⟨by rw [cg];exact q1.1,λH' t=>⟨λi p hp=>?_,vs,d4.of (t.t _ _ hh),by rw [rs.length,cg];exact An _⟩⟩⟩;obtain⟨y,hy,rfl⟩:=f7 hp;obtain⟨v,h3,h4⟩:=(aE.tk t rs).get hy;refine⟨⟨vs,v,d4.of (t.t _ _ hh),h3⟩,λx H3 z=>?_⟩;obtain⟨pp,x0,rfl,hn,rfl,hz⟩:=z;have:=hz vs (d4.of (t.t _ _ hh));rw [h3] at this;cases this;exact yl (x:=.aG) hn h4) q⟩⟩
end
def rM:List Nat->List V->L2.St->L2.St
 | i::is,u::us,σ=>rM is us (σ.set i (am u))
 | _,_,σ=>σ
def fG (K:Ab) (fs:bg) (is:List Nat) (wt:PV->W T) (cq:T->bg):TG:=λv σ H Q=>∃p,aR K H σ fs/\VR K [] H v p/\(wt p).run λt=>∀us,cE σ fs H (rM is us σ) (cq t) H->aR K H (rM is us σ) (cq t)->Q (rM is us σ) H
structure GF (X:Cx) (K:Ab) (fs:bg) (tg:ii) (is:List Nat) {T:Type} (wt:PV->W T) (cq:T->bg):Prop where p:PG X tg (fG K fs is wt cq)
def uP:PV->W (PV×PV)
 | .tup [a,b]=>.ret (a,b)
 | _=>.fail
def Yh:PV->W (PV×PV×PV×PV)
 | .tup [a,b,c,d]=>.ret (a,b,c,d)
 | _=>.fail
section
def Ug (h:PG X tg (dZ i)):GF X K fs tg [i] .ret (λp=>fs.set i (am (.val p))):=⟨PG.imp h λv σ H Q ⟨p,sr,r,q⟩=>q [v] (cE.fq sr v p i) (sr.fq r i)⟩
def Qh (hK:X.K=K) (h:PG X tg (WK X.K 2 (sY (dZ i) (sY (dZ j) WM)))):GF X K fs tg [i,j] uP (λt=>(fs.set i (am (.val t.1))).set j (am (.val t.2))):=⟨PG.imp h λv σ H Q ⟨p,sr,r,q⟩=>by
 unfold uP at q
 split at q
 ·cases r with
  | tup e rs=>
   cases rs with
   | cons ra t=>
   cases t with
   | cons rb t=>
   cases t;have s1:=sr.fq ra i;exact⟨_,_,rfl,d4.of e,rfl,_,_,rfl,_,_,rfl,rfl,q [_,_] ((cE.fq sr _ _ i).trans (cE.fq s1 _ _ j)) (s1.fq rb j)⟩
 ·exact q.elim⟩
def g_4 {l:Nat} (hK:X.K=K) (h:PG X tg (WK X.K 4 (sY (dZ i) (sY (dZ j) (sY (dZ k) (sY (dZ l) WM)))))):GF X K fs tg [i,j,k,l] Yh (λt=>(((fs.set i (am (.val t.1))).set j (am (.val t.2.1))).set k (am (.val t.2.2.1))).set l (am (.val t.2.2.2))):=⟨PG.imp h λv σ H Q ⟨p,sr,r,q⟩=>by
 unfold Yh at q
 split at q
 ·cases r with
  | tup e rs=>
   cases rs with
   | cons ra t=>
   cases t with
   | cons rb t=>
   cases t with
   | cons rc t=>
   cases t with
   | cons rd t=>
   cases t;have s1:=sr.fq ra i;have s2:=s1.fq rb j;have s3:=s2.fq rc k;exact⟨_,_,rfl,d4.of e,rfl,_,_,rfl,_,_,rfl,_,_,rfl,_,_,rfl,rfl,q [_,_,_,_] ((((cE.fq sr _ _ i).trans (cE.fq s1 _ _ j)).trans (cE.fq s2 _ _ k)).trans (cE.fq s3 _ _ l)) (s3.fq rd l)⟩
 ·exact q.elim⟩
end
section
variable {S T:Type}
def cB:List PV->S->(PV->S->W S)->W S
 | [],s,_=>.ret s
 | x::r,s,f=>.bind (f x s) λs'=>cB r s' f
inductive Lp (S T:Type) where
 | go (s:S) | out (t:T)
def lQ:List PV->S->(PV->S->W (Lp S T))->W (Lp S T)
 | [],s,_=>.ret (.go s)
 | x::r,s,f=>.bind (f x s) λo=>match o with
  | .go s'=>lQ r s' f
  | .out t=>.ret (.out t)
def LH (k:S->W T) (inj:R->T):Lp S R->W T
 | .go s=>k s
 | .out r=>.ret (inj r)
@[simp] theorem aei (k:S->W T) (inj:R->T) (s:S):LH k inj (.go s)=k s:=(rfl)
@[simp] theorem abG (k:S->W T) (inj:R->T) (r:R):LH k inj (.out r)=.ret (inj r):=(rfl)
def lpE (hd:S->bg) (out:R->End):Lp S R->End
 | .go s=>.nc (hd s)
 | .out r=>out r
def mz (c:S->W Bool) (b:S->W S):Nat->S->W S
 | 0,_=>.fail
 | n+1,s=>.bind (c s) λk=>if k=true then .bind (b s) (mz c b n) else .ret s
def GR (c:S->W Bool) (b:S->W S) (s:S):W S:=⟨λQ=>∃n,(mz c b n s).run Q,λh ⟨n,q⟩=>⟨n,(mz c b n s).mono h q⟩⟩
end
section
variable {c:ii}{rest:List ss}{S T T2:Type}{hd:S->bg}{s0:S}{wt:PV->W T2}{cq:S->T2->bg}{k:S->W T}{out:T->End}{R:Type}{inj:R->T}
theorem SF.for {f:PV->S->W S}{wb:T2->S->W S} (hp:wf (dL X.prog X.w) X.A X.env X.xe) (hc:X.calm=true) (hi:qJ X K fs tg iter wl) (hl:hU fs (hd s0)) (hg:∀s,GF X K (hd s) tg is wt (cq s)) (hf:∀p s,f p s=.bind (wt p) λt=>wb t s)
  (hb:∀s t,SF X K false (cq s t) body (wb t s) λs'=>.nc (hd s')) (hr:∀s,SF X K x (hd s) rest (k s) out) (hs:uc X iter:=by intro _;rfl) :
  SF X K x fs (.For tg iter body [] pos::rest) (.bind wl λl=>.bind (cB l s0 f) k) out:=by
 refine SF.step (G8 (g:=λv σ H Q=>∃s,fG K (hd s) is wt (cq s) v σ H Q) (tb:=λD σ H=>∃s t,fS K false (cq s t) (wb t s) (λs'=>.nc (hd s')) D σ H) hp hc hi.p (λZ s σ H v u Q I r ⟨s1,q⟩=>(hg s1).p Z s σ H v u Q I r q) (λZ s σ H D I ⟨s1,t1,q⟩=>(hb s1 t1).p Z s σ H D I q) hs) λD σ H ⟨sr,q⟩=>?_;refine⟨sr,wl.mono (λl q1 J H1 g1 s1 jf=>?_) q⟩;refine⟨λi m σ' H'=>∃s,aR K H' σ' (hd s)/\cE σ fs H σ' (hd s) H'/\JF K H' J l/\m=l.length-i/\i<=l.length/\(cB (l.drop i) s f).run λs'=>(k s').run λt=>bE K x σ fs H D (out t),⟨l.length,s0,s1.le hl,g1.f.trans (cE.le s1 hl),jf,by simp,A9 _,by simpa using q1⟩,?_⟩;rintro i m σ2 H2 ⟨s,s2,g2,RY,rfl,hi,q2⟩;obtain⟨j1,j2⟩:=RY.2 H2 (bc.refl H2);by_cases iB:i < l.length
 ·obtain⟨go,yl⟩:=j1 i _ (Ad iB);have ed:=Bh iB;rw [ed] at q2;refine .inr ⟨go,λσ3 H3=>∃s',aR K H3 σ3 (hd s')/\cE σ fs H σ3 (hd s') H3/\JF K H3 J l/\(cB (l.drop (i+1)) s' f).run λs'=>(k s').run λt=>bE K x σ fs H D (out t),λσ3 H3 ⟨s',a1,a2,a3,a4⟩=>⟨l.length-(i+1),by omega,s',a1,a2,a3,rfl,iB,a4⟩,λv H3 y=>?_⟩;obtain⟨sm,vx⟩:=yl v H3 y;have q2:(f l[i] s).run λs'=>(cB (l.drop (i+1)) s' f).run λs'=>(k s').run λt=>bE K x σ fs H D (out t):=q2;rw [hf] at q2;have s3:=s2.same sm;have g3:=g2.trans (cE.same sm s2);refine⟨s,_,s3,vx,(wt l[i]).mono (λt q4 us g4 s4=>?_) q2⟩;refine⟨s,t,s4,(wb t s).mono (λs' q5 σ5 H5 g5 s5=>?_) q4⟩;have fin:∃s',aR K H5 σ5 (hd s')/\cE σ fs H σ5 (hd s') H5/\JF K H5 J l/\(cB (l.drop (i+1)) s' f).run λs'=>(k s').run λt=>bE K x σ fs H D (out t):=⟨s',s5,(g3.trans g4).trans g5,RY.tk (bc.trans sm.eM (bc.trans (g4.d5 s3) (g5.d5 s4))),q5⟩;exact⟨λ_=>fin,fin⟩
 ·have e:i=l.length:=by omega
  subst e;rw [Dn] at q2;exact .inl ⟨j2,hd s,k s,hr s,s2,(k s).mono (λt q3=>q3.go g2 sr s2) q2⟩
theorem SF.lQ {f:PV->S->W (Lp S R)}{wb:T2->S->W (Lp S R)} (hp:wf (dL X.prog X.w) X.A X.env X.xe) (hc:X.calm=true) (hi:qJ X K fs tg iter wl) (hl:hU fs (hd s0)) (hg:∀s,GF X K (hd s) tg is wt (cq s)) (hf:∀p s,f p s=.bind (wt p) λt=>wb t s)
  (ho:∀t,(out (inj t)).Ow)
  (hb:∀s t,SF X K false (cq s t) body (wb t s) (lpE hd λr=>out (inj r))) (hr:∀s,SF X K x (hd s) rest (k s) out) (hs:uc X iter:=by intro _;rfl) :
  SF X K x fs (.For tg iter body [] pos::rest) (.bind wl λl=>.bind (FL.lQ l s0 f) (LH k inj)) out:=by
 refine SF.step (G8 (g:=λv σ H Q=>∃s,fG K (hd s) is wt (cq s) v σ H Q) (tb:=λD σ H=>∃s t,fS K false (cq s t) (wb t s) (lpE hd λr=>out (inj r)) D σ H) hp hc hi.p (λZ s σ H v u Q I r ⟨s1,q⟩=>(hg s1).p Z s σ H v u Q I r q) (λZ s σ H D I ⟨s1,t1,q⟩=>(hb s1 t1).p Z s σ H D I q) hs) λD σ H ⟨sr,q⟩=>?_;refine⟨sr,wl.mono (λl q1 J H1 g1 s1 jf=>?_) q⟩;have lo:∀(D':Ends) (y:Bool) (t:R),D'.rt=D.rt->bE K x σ fs H D (out (inj t))->bE K y σ fs H D' (out (inj t)):=λD' y t e h=>bE.ac5 (ho t) e h;refine⟨λi m σ' H'=>∃s,aR K H' σ' (hd s)/\cE σ fs H σ' (hd s) H'/\JF K H' J l/\m=l.length-i/\i<=l.length/\(FL.lQ (l.drop i) s f).run λo=>(LH k inj o).run λt=>bE K x σ fs H D (out t),⟨l.length,s0,s1.le hl,g1.f.trans (cE.le s1 hl),jf,by simp,A9 _,by simpa using q1⟩,?_⟩;rintro i m σ2 H2 ⟨s,s2,g2,RY,rfl,hi,q2⟩;obtain⟨j1,j2⟩:=RY.2 H2 (bc.refl H2);by_cases iB:i < l.length
 ·obtain⟨go,yl⟩:=j1 i _ (Ad iB);have ed:=Bh iB;rw [ed] at q2;refine .inr ⟨go,λσ3 H3=>∃s',aR K H3 σ3 (hd s')/\cE σ fs H σ3 (hd s') H3/\JF K H3 J l/\(FL.lQ (l.drop (i+1)) s' f).run λo=>(LH k inj o).run λt=>bE K x σ fs H D (out t),λσ3 H3 ⟨s',a1,a2,a3,a4⟩=>⟨l.length-(i+1),by omega,s',a1,a2,a3,rfl,iB,a4⟩,λv H3 y=>?_⟩;obtain⟨sm,vx⟩:=yl v H3 y;have q2:(f l[i] s).run λo=>(match o with | .go s'=>FL.lQ (l.drop (i+1)) s' f | .out t=>bd (.out t)).run λo=>(LH k inj o).run λt=>bE K x σ fs H D (out t):=q2;rw [hf] at q2;have s3:=s2.same sm;have g3:=g2.trans (cE.same sm s2);refine⟨s,_,s3,vx,(wt l[i]).mono (λt q4 us g4 s4=>?_) q2⟩;refine⟨s,t,s4,(wb t s).mono (λo q5=>?_) q4⟩;cases o with
  | out t5=>
   refine bE.go (g3.trans g4) sr s4 (lo _ false t5 ?_ q5);rfl
  | go s'=>
   intro σ5 H5 g5 s5;have fin:∃s',aR K H5 σ5 (hd s')/\cE σ fs H σ5 (hd s') H5/\JF K H5 J l/\(FL.lQ (l.drop (i+1)) s' f).run λo=>(LH k inj o).run λt=>bE K x σ fs H D (out t):=⟨s',s5,(g3.trans g4).trans g5,RY.tk (bc.trans sm.eM (bc.trans (g4.d5 s3) (g5.d5 s4))),q5⟩;exact⟨λ_=>fin,fin⟩
 ·have e:i=l.length:=by omega
  subst e;rw [Dn] at q2;exact .inl ⟨j2,hd s,k s,hr s,s2,(k s).mono (λt q3=>q3.go g2 sr s2) q2⟩
def SF.Yd {cw:S->W Bool}{b:S->W S} (hp:wf (dL X.prog X.w) X.A X.env X.xe) (hl:hU fs (hd s0)) (hc:∀s,TF X K (hd s) c (cw s)) (hb:∀s,SF X K false (hd s) body (b s) λs'=>.nc (hd s')) (hr:∀s,SF X K x (hd s) rest (k s) out) :
  SF X K x fs (.While c body [] pos::rest) (.bind (GR cw b s0) k) out:=by
 refine SF.step (Nu (tc:=λσ H Q=>∃s,fT K (hd s) (cw s) σ H Q) (tb:=λD σ H=>∃s,fS K false (hd s) (b s) (λs'=>.nc (hd s')) D σ H) hp (λZ s σ H Q I ⟨s1,q⟩=>(hc s1).p Z s σ H Q I q) (λZ s σ H D I ⟨s1,q⟩=>(hb s1).p Z s σ H D I q)) λD σ H ⟨sr,n,q⟩=>?_;refine⟨λm σ' H'=>∃s,aR K H' σ' (hd s)/\cE σ fs H σ' (hd s) H'/\(mz cw b m s).run λs'=>(k s').run λt=>bE K x σ fs H D (out t),⟨n,s0,sr.le hl,cE.le sr hl,q⟩,?_⟩;rintro m σ1 H1 ⟨s,s1,g1,q1⟩;cases m with
 | zero=>exact q1.elim
 | succ m=>
  refine⟨s,s1,(cw s).mono (λkk q2 H2 g2 s2=>?_) q1⟩;cases kk with
  | false=>
   refine xj ?_;exact⟨hd s,k s,hr s,s2,(k s).mono (λt q3=>q3.go (g1.trans g2.f) sr s2) q2⟩
  | true=>
   refine xi ?_;refine⟨λσ3 H3=>∃s,aR K H3 σ3 (hd s)/\cE σ fs H σ3 (hd s) H3/\(mz cw b m s).run λs'=>(k s').run λt=>bE K x σ fs H D (out t),λσ3 H3 a=>⟨m,Ek m,a⟩,s,s2,(b s).mono (λs' q5 σ5 H5 g5 s5=>?_) q2⟩;have fin:∃s,aR K H5 σ5 (hd s)/\cE σ fs H σ5 (hd s) H5/\(mz cw b m s).run λs'=>(k s').run λt=>bE K x σ fs H D (out t):=⟨s',s5,(g1.trans g2.f).trans g5,q5⟩;exact⟨λ_=>fin,fin⟩
end
end
end FL
variable {f:PL.PV->FL.W (Option PL.PV)}{mZ:FL.bg}
namespace FL
section
open PySem PySem.Spec PyProof.Rows L2 PL
variable {K:Ab}
def lP:List PV->(PV->W (Option PV))->W (List PV)
 | [],_=>.ret []
 | x::r,f=>.bind (f x) λo=>.bind (lP r f) λl=>.ret (o.toList++l)
def bI:List PV->(PV->W PV)->W (List PV)
 | [],_=>.ret []
 | x::r,f=>.bind (f x) λy=>.bind (bI r f) λl=>.ret (y::l)
theorem wF (f:PV->W PV):∀l,bI l f=lP l λp=>.bind (f p) λv=>.ret (am v)
 | []=>rfl
 | x::r=>by
  show ap (f x) (λy=>ap (bI r f) λl=>bd (y::l))=ap (f x) λy=>ap (lP r _) λl=>bd (y::l);rw [wF f r]
def bj (ix:List (Option Nat)) (fs:bg):bg:=ix.map λo=>match o with | some j=>(fs[j]?).getD bm | none=>bm
section
def oJ {s:SL} (h:(bj ix fs)[i]?=am (am s)):∃j,ix[i]?=am (am j)/\fs[j]?=am (am s):=by
 unfold bj at h;rw [Ak] at h;cases q:ix[i]? with
 | none=>rw [q] at h;cases h
 | some o=>
  rw [q] at h;cases o with
  | none=>cases h
  | some j=>
   refine⟨j,rfl,?_⟩;have h:(fs[j]?).getD bm=am s:=Option.some.inj h;cases z:fs[j]? with
   | none=>rw [z] at h;cases h
   | some y=>rw [z] at h;exact congrArg am h
def lM (h:ix[i]?=am (am j)) (e:σ[j]?=am (am u)):(oI ix σ)[i]?=am (am u):=by
 unfold oI;rw [Ak,h];show am ((σ[j]?).getD bm)=_;rw [e];rfl
def aR.fi (s:aR K H σ fs) (inj:∀i i' j:Nat,ix[i]?=am (am j)->ix[i']?=am (am j)->i=i'):aR K H (oI ix σ) (bj ix fs):=by
 refine⟨by unfold oI bj;simp,λi t e=>?_,λi i' t u x y a e1 e2 o1 o2 q1 q2 z1 z2=>?_⟩
 ·obtain⟨j,h1,h2⟩:=oJ e;obtain⟨u,h3,h4⟩:=s.at' j t h2;exact⟨u,lM h1 h3,h4⟩
 ·obtain⟨j,h1,h2⟩:=oJ e1;obtain⟨j',gC,qZ⟩:=oJ e2;obtain⟨u1,h3,_⟩:=s.at' j t h2;obtain⟨u2,OP,_⟩:=s.at' j' u qZ;rw [lM h1 h3] at q1;rw [lM gC OP] at q2;cases q1;cases q2;have:=s.nd j j' t u x y a h2 qZ o1 o2 h3 OP z1 z2;subst this;exact inj i i' j h1 gC
structure S8 (ix:List (Option Nat)) (σ:L2.St) (fs:bg) (σ':L2.St) (bu:bg):Prop where
 own:∀(i:Nat) (t:SL),bu[i]?=am (am t)->t.own=true->∃j,ix[i]?=am (am j)/\fs[j]?=am (am t)/\σ'[i]?=σ[j]?
def S8.wB (h:S8 ix σ fs σ' bu) (o:dF σ' bu a):dF σ fs a:=by
 obtain⟨i,t,x,e1,e2,e3,e4⟩:=o;obtain⟨j,h1,h2,h3⟩:=h.own i t e1 e2;exact⟨j,t,x,h2,e2,h3▸e3,e4⟩
def S8.mE (h:S8 ix σ fs σ' bu) (o:hJ σ' bu φ a):hJ σ fs φ a:=by
 obtain⟨i,e1,e3⟩:=o;obtain⟨j,h1,h2,h3⟩:=h.own i _ e1 rfl;exact⟨j,h2,h3▸e3⟩
def S8.out (h:S8 ix σ fs σ' bu) (s:aR K H1 σ fs) (g:cQ σ' bu H1 H2) (s2:aR K H2 σ' bu):aR K H2 σ fs/\cQ σ fs H1 H2:=by
 have gf:cQ σ fs H1 H2:=⟨λa o e n=>g.keep a o e λφ z=>n φ (h.mE z),g.there⟩;refine⟨⟨s.len,λj t e=>?_,s.nd⟩,gf⟩;obtain⟨u,h1,h2⟩:=s.at' j t e;refine⟨u,h1,?_⟩;have tk:=gf.d5 s;rcases h2 with⟨v,q,r⟩ | ⟨a,q,r⟩
 ·exact .inl ⟨v,q,VR.tk tk r⟩
 ·subst q;refine .inr ⟨a,rfl,?_⟩;by_cases c:∃b,t.own=true/\t.has a b/\dF σ' bu b
  ·obtain⟨b,ow,hb,i,t',x,c1,c2,c3,c4⟩:=c;obtain⟨j',k1,k2,k3⟩:=h.own i t' c1 c2;have jj:=s.nd j j' t t' a x b e k2 ow c2 h1 (k3▸c3) hb c4;subst jj;rw [e] at k2;cases k2;exact s2.ownAt c1 c2 (k3.trans h1)
  ·exact r.mono tk (λb o ow hb z=>g.vf z λy=>c ⟨b,ow,hb,y⟩)
theorem rL:∀{is:List Nat}{us:List V}{σ:L2.St}{i:Nat},i∉is->(rM is us σ)[i]?=σ[i]?
 | [],us,σ,i,_=>by cases us <;> rfl
 | j::is,[],σ,i,_=>rfl
 | j::is,u::us,σ,i,h=>by
  rw [rM,rL (λz=>h (AV _ z))];exact aN (λz=>h (by rw [z];exact Bs))
end
section
variable {T2:Type}{wt:PV->W T2}{cq:T2->bg}{tf:T2->W Bool}{te:T2->W PV}
structure FF (X:Cx) (K:Ab) (fs:bg) (Ê:List ii) (w:W Bool):Prop where p:X1 X Ê (fT K fs w)
def Ib:FF X K fs [] (.ret true):=⟨λZ s σ H Q I ⟨sr,q⟩=>Q5 Z s σ H Q I (q H .refl sr)⟩
def xN {c:ii}{w:W Bool} (h:TF X K fs c w):FF X K fs [c] w:=⟨Q4 h.p⟩
def qI (is:List Nat) (mZ:bg) (cq:T2->bg):Prop:=∀t,(cq t).length=mZ.length/\∀(i:Nat) (s:SL),(cq t)[i]?=am (am s)->(i∈is/\s.own=false)\/(i∉is/\mZ[i]?=am (am s))
theorem O3 (S:aw X.env.scope X.N sc N' ix) (hb:mZ=bj ix fs) (hf:∀p,f p=.bind (wt p) λt=>.bind (tf t) λk=>if k=true then .bind (te t) λv=>.ret (am v) else .ret bm) (hl:qI is mZ cq) (hr:∀t,hU (cq t) mZ) (uD:∀j∈is,ix[j]?=am bm) :
  ∀σ H Q,fL K fs (.bind wl λl=>lP l f) σ H Q->tLc ix (fIt K fs wl) (λv σ H Q=>fG K mZ is wt cq v σ H Q) (λσ H Q=>∃t,fT K (cq t) (tf t) σ H Q) (λσ H Q=>∃t,fE K (cq t) (te t) σ H Q) σ H Q:=by
 subst hb;rintro σ H Q ⟨sr,q⟩;refine⟨sr,wl.mono (λl q1 J H1 g1 s1 jf D hD=>?_) q⟩;have inj:∀i i' j:Nat,ix[i]?=am (am j)->ix[i']?=am (am j)->i=i':=λi i' j h1 h2=>by
  have hi:i < N'.length:=by rw [<- S.len];exact (Al.mp h1).1
  have xr:i' < N'.length:=by rw [<- S.len];exact (Al.mp h2).1
  have e1:=(S.at h1 (Ad hi)).1;have e2:=(S.at h2 (Ad xr)).1;rw [e1] at e2;exact (List.getElem_inj S.nd).mp (Option.some.inj e2)
 have nD:=s1.noOwn hD;refine⟨λi m σ' ys H'=>∃Å,aR K H' σ fs/\cQ σ fs H H'/\aR K H' σ' (bj ix fs)/\S8 ix σ fs σ' (bj ix fs)/\JF K H' J l/\H' D=am (.lst ys)/\aE K [] H' ys Å/\Å.length<=i/\m=l.length-i/\i<=l.length/\
  (lP (l.drop i) f).run λr=>∀a vs H',cQ σ fs H H'->aR K H' σ fs->H a=bm->H' a=am (.lst vs)->aE K [] H' vs (Å++r)->Q (.ref a) H',⟨l.length,[],?_⟩,?_⟩
 ·have sm:=iH hD (.lst []);refine⟨s1.same sm,g1.trans (cQ.same sm),(s1.same sm).fi inj,⟨λi t e o=>?_⟩,jf.tk sm.eM,aM,.nil,A9 _,by simp,A9 _,by simpa using q1⟩;obtain⟨j,h1,h2⟩:=oJ e;obtain⟨u,h3,_⟩:=s1.at' j t h2;exact⟨j,h1,h2,by rw [lM h1 h3,h3]⟩
 rintro i m σ2 ys H2 ⟨Å,sO,gO,s2,T5,RY,hy,vy,Z8,rfl,hi,q2⟩;refine⟨hy,?_⟩;obtain⟨j1,j2⟩:=RY.2 H2 (bc.refl H2);by_cases iB:i < l.length
 ·obtain⟨go,yl⟩:=j1 i _ (Ad iB);have ed:=Bh iB;rw [ed] at q2;refine .inr ⟨go,λv H3 y=>?_⟩;obtain⟨sm,vx⟩:=yl v H3 y;have q2:(f l[i]).run λo=>(lP (l.drop (i+1)) f).run λr=>∀a vs H',cQ σ fs H H'->aR K H' σ fs->H a=bm->H' a=am (.lst vs)->aE K [] H' vs (Å++(o.toList++r))->Q (.ref a) H':=q2;rw [hf] at q2;have s3:=s2.same sm;have sO3:=sO.same sm;have gO3:=gO.trans (cQ.same sm);have hy3:=sm _ _ hy;have vy3:=aE.tk sm.eM vy;have jf3:=RY.tk sm.eM;refine⟨_,s3,vx,(wt l[i]).mono (λt q4 us g4 s4=>?_) q2⟩;have R6:S8 ix σ fs (rM is us σ2) (cq t):=⟨λj u e o=>by
   rcases (hl t).2 j u e with⟨_,z⟩ | ⟨n,z⟩
   ·rw [z] at o;cases o
   ·obtain⟨j',k1,k2,k3⟩:=T5.own j u z o;exact⟨j',k1,k2,by rw [rL n];exact k3⟩⟩
  refine⟨t,s4,(tf t).mono (λkk q5 H5 g5 s5=>?_) q4⟩;obtain⟨sO5,ael⟩:=R6.out sO3 g5 s5;have gO5:=gO3.trans ael;have tk5:=g5.d5 s4;have nD4:¬dF (rM is us σ2) (cq t) D:=λz=>nD (R6.wB z);have hy5:=g5.vf hy3 nD4;have vy5:=aE.tk tk5 vy3;have jf5:=jf3.tk (g5.d5 s4);have Ë:∀{H6:Hp},aR K H6 (rM is us σ2) (cq t)->aR K H6 (rM is us σ2) (bj ix fs)/\S8 ix σ fs (rM is us σ2) (bj ix fs):=λ{H6} z=>⟨z.le (hr t),⟨λj u e o=>R6.own j u ((hr t).at j u e) o⟩⟩;cases kk with
  | false=>
   refine xj ⟨l.length-(i+1),by omega,Å,sO5,gO5,(Ë s5).1,(Ë s5).2,jf5,hy5,vy5,by omega,rfl,iB,?_⟩;exact q5
  | true=>
   refine xi ⟨t,s5,(te t).mono (λv6 q6 u6 H6 g6 s6 v6'=>?_) q5⟩;obtain⟨sO6,aek⟩:=R6.out sO5 g6 s6;have gO6:=gO5.trans aek;have tk6:=g6.d5 s5;have ZL:=g6.vf hy5 nD4;have vy6:=aE.tk tk6 vy5;have tkD:=qM (K:=K) (.lst (ys++[u6])) ZL;have hD0:=g1.there D hD;refine⟨ZL,by rw [vy6.length];have:=RY.1;omega,l.length-(i+1),by omega,Å++[v6],sO6.side nD ZL _,gO6.side hD0 _,((Ë s6).1).side (λz=>nD ((Ë s6).2.wB z)) ZL _,(Ë s6).2,(jf5.tk (g6.d5 s5)).tk (qM _ ZL),aM,aE.tk tkD (vy6.append (.cons v6' .nil)),by rw [Ai];simp;omega,rfl,iB,?_⟩;refine (lP (l.drop (i+1)) f).mono (λr q7 a vs H7 g7 s7 n e v7=>q7 a vs H7 g7 s7 n e ?_) q6;simpa using v7
 ·have e:i=l.length:=by omega
  subst e;rw [Dn] at q2;exact .inl ⟨j2,q2 D ys H2 gO sO (g1.there D hD) hy (by simpa using vy)⟩
end
end
end FL
namespace L2
open PySem PySem.Spec PyProof.Rows
def qz (l:ce) (items:Array bn) (n:Nat) (b:ce) (bJ:Array bn) (n2:Nat) (sl:Array (Option bn)) (hc0:¬(!items.isEmpty&&Builtin.List.listTooLong (items.size+bJ.size))=true) (hc1:items.size<=sizeLine) (qY:items.size+bJ.size<=sizeLine+1) :
  Meets (u8.«list.extend» ⟨[.ref l,.ref b],[]⟩) (λ_ R s=>s.heap.get? l=am {cls:=.type "list",dict:=bm,data:=.seq items n,slots:=#[]}/\s.heap.get? b=am {cls:=.type "list",dict:=bm,data:=.seq bJ n2,slots:=sl}/\R (.ok (.ret AM)) {s with heap:=s.heap.update l (Bi λx=>x++bJ),toks:=s.toks}):=
 .of_wp λprog w A R s h=>by
  obtain⟨hp,g,d,tk,os⟩:=s;obtain⟨hl,hb,h⟩:=h;have f1:=Es;have f2:=Di;have f3:=DA;have f4:=Ds;have f5:=Du;have Lz:(items++bJ).size<=sizeLine+1:=by rw [Array.size_append];exact qY
  wp_walk using (Cv hl rfl (hz:=hc1) (_hz':=Lz)),BS hl,BS hb;exact⟨_,rfl,h⟩
def YX (K:Ab):V->List V->Hp->VK->Prop:=λx vs H Q=>∃l b xs zs,x=.ref l/\vs=[.ref b]/\H l=am (.lst xs)/\(c7 K H b zs\/d4 K H b zs)/\xs.length+zs.length<=sizeLine/\yW H l (.lst (xs++zs)) (Q .aG)
theorem RB (K:Ab) (hK:X.K=K):Kw X "list.extend" (YX K):=by
 subst hK;intro Z s σ H x vs v us Q I rx rv h;obtain⟨l,b,xs,zs,rfl,rfl,hH,hB | hB,hz,q⟩:=h
 ·cases rx;obtain⟨u,rfl,ru⟩:=rv.one;cases ru;obtain⟨z,aq,n,r,hl,e⟩:=I.qv hH;obtain⟨cH,r2,⟨⟨cls,dd,data,sl⟩,n2,e2,hc,hd,oo⟩,z2⟩:=I.list hB;simp only at hc hd oo;subst hc hd oo;have Qf:=r2.length;have hsz:aq.toArray.size+cH.toArray.size<=sizeLine:=by rw [Aj,Aj];omega
  have sS:¬(!aq.toArray.isEmpty&&Builtin.List.listTooLong (aq.toArray.size+cH.toArray.size))=true:=by
   rw [nI hsz,D5];exact A3
  refine sK DS ⟨_,e,rfl⟩ DE (Dr _ _)
   (qz l aq.toArray n b cH.toArray n2 sl sS (by rw [Aj];omega) ∅) ⟨e,e2,?_⟩
  refine⟨.aG,_,I.Hq (its':=aq++cH) hH e (by simp) (r.append r2) ?_,rfl,q.at⟩;rw [Ai];omega
 ·exact zI Z s σ H _ _ v us Q I rx rv ⟨l,b,xs,zs,rfl,rfl,hH,hB,hz,q⟩
end L2
variable {y z:B1}{wi we:FL.W PL.PV}
namespace FL
section
open PySem PySem.Spec PyProof.Rows L2 PL
variable {K:Ab}
section
variable {T2:Type}{wt:PV->W T2}{cq:T2->bg}{tf:T2->W Bool}{te:T2->W PV}
def V6 (hc:X.calm=true) (S:aw X.env.scope X.N sc N' ix) (hi:qJ X K fs tg iter wl) (hg:∀cl C s2 H2 fp,GF (fi X sc N' cl C s2 H2 fp) K (bj ix fs) tg is wt cq) (Z1:∀cl C s2 H2 fp t,FF (fi X sc N' cl C s2 H2 fp) K (cq t) Ê (tf t)) (he:∀cl C s2 H2 fp t,EF (fi X sc N' cl C s2 H2 fp) K (cq t) Ä (te t))
  (hf:∀p,f p=.bind (wt p) λt=>.bind (tf t) λk=>if k=true then .bind (te t) λv=>.ret (am v) else .ret bm) (hl:qI is (bj ix fs) cq/\∀t,hU (cq t) (bj ix fs)) (uD:∀j∈is,ix[j]?=am bm) (hs:uc X iter:=by intro _;rfl) :
  LF X K fs (.ListComp Ä [⟨tg,iter,Ê,0⟩] sc pos) (.bind wl λl=>lP l f):=
 ⟨PE.imp (Y4 hc S hi.p (λcl C s2 H2 fp=>(hg cl C s2 H2 fp).p) (λcl C s2 H2 fp Z s σ H Q I ⟨t,q⟩=>(Z1 cl C s2 H2 fp t).p Z s σ H Q I q) (λcl C s2 H2 fp Z s σ H Q I ⟨t,q⟩=>(he cl C s2 H2 fp t).p Z s σ H Q I q) hs) (O3 S rfl hf hl.1 hl.2 uD)⟩
def TL {f:PV->W PV} (hc:X.calm=true) (S:aw X.env.scope X.N sc N' ix) (hi:qJ X K fs tg iter wl) (hg:∀cl C s2 H2 fp,GF (fi X sc N' cl C s2 H2 fp) K (bj ix fs) tg is wt cq) (he:∀cl C s2 H2 fp t,EF (fi X sc N' cl C s2 H2 fp) K (cq t) Ä (te t))
  (hf:∀p,f p=.bind (wt p) te) (hl:qI is (bj ix fs) cq/\∀t,hU (cq t) (bj ix fs)) (uD:∀j∈is,ix[j]?=am bm) (hs:uc X iter:=by intro _;rfl) :
  LF X K fs (.ListComp Ä [⟨tg,iter,[],0⟩] sc pos) (.bind wl λl=>bI l f):=by
 have:(λl=>bI l f)=λl=>lP l λp=>.bind (wt p) λt=>.bind (.ret true) λk=>if k=true then .bind (te t) λv=>.ret (am v) else .ret bm:=funext λl=>by
  rw [wF];congr 1;funext p;rw [hf];rfl
 rw [this];exact V6 (tf:=λ_=>.ret true) hc S hi hg (λ_ _ _ _ _ _=>Ib) he (λp=>rfl) hl uD hs
def SF.M5 {rest:List ss}{out:T->End}{k:List PV->W T} (hc:X.calm=true) (hN:X.N.Nodup) (xr:X.N[i]?=am y) (hx:X.env.scope.names.lookup y=am .local) (S:aw X.env.scope X.N sc N' ix) (hi:qJ X K fs tg iter wl) (hg:∀cl C s2 H2 fp,GF (fi X sc N' cl C s2 H2 fp) K (bj ix fs) tg is wt cq) (Z1:∀cl C s2 H2 fp t,FF (fi X sc N' cl C s2 H2 fp) K (cq t) Ê (tf t)) (he:∀cl C s2 H2 fp t,EF (fi X sc N' cl C s2 H2 fp) K (cq t) Ä (te t))
  (hf:∀p,f p=.bind (wt p) λt=>.bind (tf t) λk=>if k=true then .bind (te t) λv=>.ret (am v) else .ret bm) (hl:qI is (bj ix fs) cq/\∀t,hU (cq t) (bj ix fs)) (uD:∀j∈is,ix[j]?=am bm) (hr:∀l,SF X K x (fs.set i (am (.ol bm l))) rest (k l) out)
  (og:im (.ListComp Ä [⟨tg,iter,Ê,0⟩] sc pos) (am (.Name y px)) ka.line X.env=pure true:=by rfl) (hs:uc X iter:=by intro _;rfl) :
  SF X K x fs (.Assign [.Name y px] (.ListComp Ä [⟨tg,iter,Ê,0⟩] sc pos) ka::rest) (.bind (.bind wl λl=>lP l f) k) out:=
 SF.step (zl hc hN xr hx S hi.p (λcl C s2 H2 fp=>(hg cl C s2 H2 fp).p) (λcl C s2 H2 fp Z s σ H Q I ⟨t,q⟩=>(Z1 cl C s2 H2 fp t).p Z s σ H Q I q) (λcl C s2 H2 fp Z s σ H Q I ⟨t,q⟩=>(he cl C s2 H2 fp t).p Z s σ H Q I q) og hs) λD σ H ⟨sr,q⟩=>
  O3 (K:=K) S rfl hf hl.1 hl.2 uD σ H _ ⟨sr,(ap wl λl=>lP l f).mono (λl q1 a ws H1 g1 s1 n e v1=>by
   have no:=sr.noOwn n;have s2:=s1.wj (t:=.ol bm l) ⟨by simp,ws,e,v1⟩ no i;exact⟨_,k l,hr l,s2,(k l).mono (λt q2=>q2.go (cE.wj s1 g1.f no n i) sr s2) q1⟩) q⟩
theorem wL:∀{l:bg}{i:Nat} (s:Option SL),l[i]?=am bm->hU (l.set i s) l
 | [],_,_,h=>by simp at h
 | x::l,0,s,h=>by
  simp at h;subst h;exact .drop (hU.refl l)
 | x::l,i+1,s,h=>by
  rw [List.set_cons_succ];exact .keep (wL s (by simpa using h))
def hU.trans {a b c:bg} (h1:hU a b) (h2:hU b c):hU a c:=by
 induction h1 generalizing c with
 | nil=>exact h2
 | drop h ih=>cases h2 with | drop h2=>exact .drop (ih h2) | keep h2=>exact .drop (ih h2)
 | keep h ih=>cases h2 with | drop h2=>exact .drop (ih h2) | keep h2=>exact .keep (ih h2)
def sL {l:bg}{is:List Nat} (hl:l.length=mZ.length/\∀(j:Nat) (s:SL),l[j]?=am (am s)->(j∈is/\s.own=false)\/(j∉is/\mZ[j]?=am (am s))) (hi:mZ[i]?=am bm) :
  (l.set i (am (.val v))).length=mZ.length/\∀(j:Nat) (s:SL),(l.set i (am (.val v)))[j]?=am (am s)->(j∈is++[i]/\s.own=false)\/(j∉is++[i]/\mZ[j]?=am (am s)):=by
 refine⟨by rw [BM];exact hl.1,λj s e=>?_⟩;rcases cM e with⟨rfl,rfl⟩ | ⟨n,e⟩
 ·exact .inl ⟨by simp,rfl⟩
 ·rcases hl.2 j s e with⟨h1,h2⟩ | ⟨h1,h2⟩
  ·exact .inl ⟨by simp [h1],h2⟩
  ·exact .inr ⟨by simp [h1,n],h2⟩
def TJ (mZ:bg):mZ.length=mZ.length/\∀(j:Nat) (s:SL),mZ[j]?=am (am s)->(j∈([]:List Nat)/\s.own=false)\/(j∉([]:List Nat)/\mZ[j]?=am (am s)):=⟨rfl,λj s e=>.inr ⟨by simp,e⟩⟩
def N6 (hi:mZ[i]?=am bm):qI [i] mZ (λp=>mZ.set i (am (.val p)))/\∀t,hU (mZ.set i (am (.val t))) mZ:=⟨λt=>sL (is:=[]) (TJ mZ) hi,λt=>wL _ hi⟩
def M6 {l:bg}{s:Option SL} (h:l[j]?=am bm) (n:j≠i):(l.set i s)[j]?=am bm:=by rw [aN n];exact h
def RH (hi:mZ[i]?=am bm) (hj:mZ[j]?=am bm) (n:j≠i):qI [i,j] mZ (λt:PV×PV=>(mZ.set i (am (.val t.1))).set j (am (.val t.2)))/\∀t:PV×PV,hU ((mZ.set i (am (.val t.1))).set j (am (.val t.2))) mZ:=
 ⟨λt=>sL (is:=[i]) (sL (is:=[]) (TJ mZ) hi) hj,λt=>(wL _ (M6 hj n)).trans (wL _ hi)⟩
end
section
variable {rest:List ss}{T:Type}{out:T->End}
def di (sr:aR K H σ fs) (hs:fs[i]?=am (am (.ol q0 l))):∃a ws,σ[i]?=am (am (.ref a))/\H a=am (.lst ws)/\aE K [] H ws l:=by
 obtain⟨u,e1,r⟩:=sr.at' i _ hs;rcases r with⟨v,e,_⟩ | ⟨a,e,z,ws,q1,q2⟩
 ·cases e
 ·subst e;exact⟨a,ws,e1,q1,q2⟩
def nB {rC:List V}{l':List PV} (sr:aR K H σ fs) (hs:fs[i]?=am (am (.ol q0 l))) (e1:σ[i]?=am (am (.ref a))) (sx:oQ a H H') (h':H' a=am (.lst rC)) (r:aE K [] H rC l'):aR K H' σ (fs.set i (am (.ol q0 l')))/\cE σ fs H σ (fs.set i (am (.ol q0 l'))) H':=
 eO (t':=.ol q0 l') sr hs rfl (by simp) e1 sx λtk=>⟨(sr.ownAt hs rfl e1).1,rC,h',aE.tk tk r⟩
def iw (l:List PV) (v:PV):W (List PV):=.fh (l.length < sizeLine) (.ret (l++[v]))
theorem SF.append (i:Nat) {k:List PV->W T} (hs:fs[i]?=am (am (.ol q0 l))) (hK:X.K=K) (hN:X.N[i]?=am y) (hv:Gs X.env.scope y) (he:EF X K fs e we) (hr:∀l',SF X K x (fs.set i (am (.ol q0 l'))) rest (k l') out)
  (hd:i5 y:=by decide) (jt:GL y:=by decide) (eJ:o0 (.Name y p) "append" X.env (kw (.Name y p) X.env)=kw (.Name y p) X.env:=by rfl)
  (pM:Xt X bD [e]:=by rfl)
  (eI:Qm Ã bD:=by rfl) (qX:gM X e []:=by rfl) (eX:lT X bD []:=by rfl)
  (og:im (.Call (.Attribute (.Name y p) "append" Ã) [e] [] bD) bm pos.line X.env=pure false:=by rfl) :
  SF X K x fs (.Expr (.Call (.Attribute (.Name y p) "append" Ã) [e] [] bD) pos::rest) (.bind we λv=>.bind (iw l v) k) out:=
 SF.step (qO (rV K hK BZ PySem.F.slot_list_append PySem.F.type_list_append Hk (d8 hN hv hd jt) (aZ he.p b9 qX) eJ pM eI qX eX) og) λD σ H ⟨sr,q⟩=>by
  obtain⟨a,ws,e1,h1,r1⟩:=di sr hs;refine⟨_,e1,.inl ⟨rfl,_,c7.of h1⟩,sr,we.mono (λv q1 u H1 g1 s1 v1=>?_) q⟩;obtain⟨a',rC,qG,gC,uo⟩:=di s1 hs;rw [e1] at qG;cases qG;refine⟨a,rC,u,rfl,rfl,gC,by rw [uo.length];exact q1.1,λH2 sx h2=>?_⟩;obtain⟨s2,g2⟩:=nB s1 hs e1 sx h2 (uo.append (.one v1));exact⟨_,k _,hr _,s2,(k _).mono (λt q2=>q2.go (g1.f.trans g2) sr s2) q1.2⟩
def WS (l m:List PV):W (List PV):=.fh (l.length+m.length<=sizeLine) (.ret (l++m))
theorem SF.extend (i:Nat) {k:List PV->W T} (hs:fs[i]?=am (am (.ol q0 l))) (hK:X.K=K) (hN:X.N[i]?=am y) (hv:Gs X.env.scope y) (he:QF X K fs e wl) (hr:∀l',SF X K x (fs.set i (am (.ol q0 l'))) rest (k l') out)
  (hd:i5 y:=by decide) (jt:GL y:=by decide) (eJ:o0 (.Name y p) "extend" X.env (kw (.Name y p) X.env)=kw (.Name y p) X.env:=by rfl)
  (pM:Xt X bD [e]:=by rfl)
  (eI:Qm Ã bD:=by rfl) (qX:gM X e []:=by rfl) (eX:lT X bD []:=by rfl)
  (og:im (.Call (.Attribute (.Name y p) "extend" Ã) [e] [] bD) bm pos.line X.env=pure false:=by rfl) :
  SF X K x fs (.Expr (.Call (.Attribute (.Name y p) "extend" Ã) [e] [] bD) pos::rest) (.bind wl λm=>.bind (WS l m) k) out:=
 SF.step (qO (rV K hK BZ PySem.F.slot_list_extend PySem.F.type_list_extend (RB K hK) (d8 hN hv hd jt) (aZ he.p b9 qX) eJ pM eI qX eX) og) λD σ H ⟨sr,q⟩=>by
  obtain⟨a,ws,e1,h1,r1⟩:=di sr hs;refine⟨_,e1,.inl ⟨rfl,_,c7.of h1⟩,sr,wl.mono (λm q1 u H1 g1 s1 v1=>?_) q⟩;obtain⟨a',rC,qG,gC,uo⟩:=di s1 hs;rw [e1] at qG;cases qG;obtain⟨b,zs,rfl,hb,rb⟩:=v1.sq s1;refine⟨a,b,rC,zs,rfl,rfl,gC,hb,by rw [uo.length,rb.length];exact q1.1,λH2 sx h2=>?_⟩;obtain⟨s2,g2⟩:=nB s1 hs e1 sx h2 (uo.append rb);exact⟨_,k _,hr _,s2,(k _).mono (λt q2=>q2.go (g1.f.trans g2) sr s2) q1.2⟩
def zq (l:List PV):W (List PV×PV):=match l.getLast? with
 | some v=>.ret (l.dropLast,v)
 | none=>.fail
def M1 {l:List PV} (h:l.getLast?=am v):l=l.dropLast++[v]:=by
 rw [List.getLast?_eq_some_iff] at h;obtain⟨ys,rfl⟩:=h;simp
theorem aE.snoc:∀{ws:List V}{l:List PV}{v:PV},aE K [] H ws (l++[v])->∃Xv u,ws=Xv++[u]/\aE K [] H Xv l/\VR K [] H u v
 | _,[],_,.cons r .nil=>⟨[],_,rfl,.nil,r⟩
 | _,x::l,v,.cons r t=>by
  obtain⟨Xv,u,rfl,h1,h2⟩:=aE.snoc t;exact⟨_::Xv,u,rfl,.cons r h1,h2⟩
def SF.Ha (i j:Nat) {k:List PV×PV->W T} (hs:fs[i]?=am (am (.ol q0 l))) (ZZ:j≠i) (hK:X.K=K) (hN:X.N[i]?=am y) (hv:Gs X.env.scope y) (ĥ:X.N.Nodup) (hj:X.N[j]?=am z) (hx:Loc X.env.scope z) (hr:∀t:List PV×PV,SF X K x ((fs.set i (am (.ol q0 t.1))).set j (am (.val t.2))) rest (k t) out)
  (hd:i5 y:=by decide) (jt:GL y:=by decide) (eJ:o0 (.Name y p) "pop" X.env (kw (.Name y p) X.env)=kw (.Name y p) X.env:=by rfl) (eI:Qm Ã bD:=by rfl)
  (og:im (.Call (.Attribute (.Name y p) "pop" Ã) [] [] bD) (am (.Name z p')) pos.line X.env=pure false:=by rfl) (hf:Mn X z:=by first | exact .inl rfl | exact .inr rfl | assumption) :
  SF X K x fs (.Assign [.Name z p'] (.Call (.Attribute (.Name y p) "pop" Ã) [] [] bD) pos::rest) (.bind (zq l) k) out:=
 SF.step (rT ĥ hj hx (Ra K hK BZ ET ES Rz (d8 hN hv hd jt) eJ eI) og hf) λD σ H ⟨sr,q⟩=>by
  obtain⟨a,ws,e1,h1,r1⟩:=di sr hs;have q:(zq l).run λt=>(k t).run λt=>bE K x σ fs H D (out t):=q;unfold zq at q;cases hl:l.getLast? with
  | none=>rw [hl] at q;exact q.elim
  | some v=>
   rw [hl] at q;have el:=M1 hl;rw [el] at r1;obtain⟨Xv,u,rfl,r0,ru⟩:=aE.snoc r1;refine⟨_,e1,.inl ⟨rfl,_,c7.of h1⟩,a,Xv,u,rfl,rfl,h1,λH2 sx h2=>?_⟩;obtain⟨s2,g2⟩:=nB sr hs e1 sx h2 r0;have ru2:VR K [] H2 u v:=g2.vr sr ru;have s3:=s2.fq ru2 j;exact⟨_,k _,hr (l.dropLast,v),s3,(k _).mono (λt q2=>q2.go (g2.trans (cE.fq s2 _ _ j)) sr s3) q⟩
def kd (l:List PV) (i v:PV):W (List PV):=match i with
 | .int k=>match uB l.length k with
  | some j=>.ret (l.set j v)
  | none=>.fail
 | _=>.fail
def SF.G3 (i:Nat) {ei:ii}{k:List PV->W T} (hs:fs[i]?=am (am (.ol q0 l))) (hN:X.N[i]?=am y) (hv:Gs X.env.scope y) (he:EF X K fs e we) (hi:EF X K fs ei wi) (hr:∀l',SF X K x (fs.set i (am (.ol q0 l'))) rest (k l') out)
  (ha:∀v,Db (.Subscript (.Name y p) ei vQ) X.env v=(do
   let ov <- zn [v] (kw (.Name y p) X.env)
   let iv <- zn [v,ov] (kw ei X.env)
   standAt vQ
   zn [v,ov,iv] (setItem ov iv v)
   release [v,ov,iv] []):=by intro _;rfl)
  (hd:i5 y:=by decide) (jt:GL y:=by decide) (hss:Ch [.Subscript (.Name y p) ei vQ] e pos.line X.env=pure false:=by rfl) (hw:Da [.Subscript (.Name y p) ei vQ] e X.env=pure bm:=by rfl)
  (h1:(wP [.Subscript (.Name y p) ei vQ] X.env).map (·.2)=[Db (.Subscript (.Name y p) ei vQ) X.env]:=by rfl) :
  SF X K x fs (.Assign [.Subscript (.Name y p) ei vQ] e pos::rest) (.bind we λv=>.bind wi λn=>.bind (kd l n v) k) out:=
 SF.step (Nw he.p (Vr (d8 hN hv hd jt) hi.p KR ha) hss hw h1) λD σ H ⟨sr,q⟩=>by
  refine⟨sr,we.mono (λv q1 u H1 g1 s1 v1=>?_) q⟩;obtain⟨a,ws,e1,h1,r1⟩:=di s1 hs;refine⟨_,e1,s1,wi.mono (λn q2 u2 H2 g2 s2 v2=>?_) q1⟩;obtain⟨a',rC,qG,gC,uo⟩:=di s2 hs;rw [e1] at qG;cases qG;cases v2 with
  | int kk=>
   have q2:(match uB l.length kk with | some j=>bd (l.set j v) | none=>W.fail).run _:=q2;cases hj:uB l.length kk with
   | none=>rw [hj] at q2;exact q2.elim
   | some j=>
    rw [hj] at q2;refine⟨a,rC,kk,j,rfl,rfl,gC,by rw [uo.length];exact hj,λH3 sx h3=>?_⟩;obtain⟨s3,g3⟩:=nB s2 hs e1 sx h3 (uo.set (g2.vr s1 v1) j);exact⟨_,k _,hr _,s3,(k _).mono (λt q3=>q3.go ((g1.trans g2).f.trans g3) sr s3) q2⟩
  | _=>exact q2.elim
end
end
end FL
variable {x:B1}
namespace FL
section
open PySem PySem.Spec PyProof.Rows L2 PL
variable {K:Ab}
def gL:List AK->List PV->bg
 | [],_=>[]
 | .v::ks,x::l=>am (.val x)::gL ks l
 | .v::_,[]=>[]
 | .p φ::ks,l=>am (.mE φ)::gL ks l
 | .f a::ks,l=>am (.adr a)::gL ks l
def gK (ks:List AK) (l:List PV) (n:Nat):bg:=gL ks l++Am (n-ks.length) bm
def iY (ks:List AK):Prop:=∀i j:Nat,(∃φ,ks[i]?=am (.p φ))->(∃φ,ks[j]?=am (.p φ))->i=j
theorem kY:∀{n:Nat}{m:Tb R n}{l:List PV}{Q:R->Prop},(ck n m l).run Q->l.length=n
 | 0,_,[],_,_=>rfl
 | 0,_,_::_,_,h=>h.elim
 | n+1,_,[],_,h=>h.elim
 | n+1,m,x::l,Q,h=>by rw [Ao,kY (n:=n) (m:=m x) h]
section
theorem iA.len (h:iA K H vs ks l):vs.length=ks.length:=by induction h <;> simp_all
def iA.slot (h:iA K H vs ks l):(gL ks l).length=vs.length/\∀(i:Nat) (s:SL),(gL ks l)[i]?=am (am s)->∃u,vs[i]?=am u/\vL K H u s/\(s.own=true->∃φ,s=.mE φ/\ks[i]?=am (.p φ)):=by
 induction h with
 | nil=>exact⟨rfl,λi s e=>by simp [gL] at e⟩
 | @v u x vs ks l r t ih=>
  refine⟨by simp [gL,ih.1],λi s e=>?_⟩;cases i with
  | zero=>simp [gL] at e;subst e;exact⟨u,rfl,.inl ⟨x,rfl,r⟩,λz=>by cases z⟩
  | succ i=>simp [gL] at e;obtain⟨w,h1,h2,h3⟩:=ih.2 i s e;exact⟨w,by simpa using h1,h2,by simpa using h3⟩
 | @p a φ ws vs ks l e0 r t ih=>
  refine⟨by simp [gL,ih.1],λi s e=>?_⟩;cases i with
  | zero=>simp [gL] at e;subst e;exact⟨_,rfl,.inr ⟨a,rfl,ws,e0,r⟩,λ_=>⟨φ,rfl,rfl⟩⟩
  | succ i=>simp [gL] at e;obtain⟨w,h1,h2,h3⟩:=ih.2 i s e;exact⟨w,by simpa using h1,h2,by simpa using h3⟩
 | @f a vs ks l t ih=>
  refine⟨by simp [gL,ih.1],λi s e=>?_⟩;cases i with
  | zero=>simp [gL] at e;subst e;exact⟨_,rfl,.inr ⟨a,rfl,rfl⟩,λz=>by cases z⟩
  | succ i=>simp [gL] at e;obtain⟨w,h1,h2,h3⟩:=ih.2 i s e;exact⟨w,by simpa using h1,h2,by simpa using h3⟩
def iA.Vp (h:iA K H vs ks l) (e:ks[i]?=am (.p φ)):(gL ks l)[i]?=am (am (.mE φ)):=by
 induction h generalizing i with
 | nil=>simp at e
 | v r t ih=>cases i with | zero=>simp at e | succ i=>simp [gL];exact ih (by simpa using e)
 | p e0 r t ih=>cases i with | zero=>simp at e;subst e;rfl | succ i=>simp [gL];exact ih (by simpa using e)
 | f t ih=>cases i with | zero=>simp at e | succ i=>simp [gL];exact ih (by simpa using e)
theorem oK {s:SL} (h:(gK ks l n)[i]?=am (am s)):(gL ks l)[i]?=am (am s):=by
 unfold gK at h;by_cases c:i < (gL ks l).length
 ·rw [AL c] at h;exact h
 ·rw [AW ∅,Bo] at h
  split at h <;> cases h
def k7 {N:List Str} (h:vs[i]?=am u):(L2.start N vs)[i]?=am (am u):=by
 unfold L2.start;rw [AL (by rw [Af];exact (Al.mp h).1),Ak,h];rfl
def uV {N:List Str} (h:(L2.start N vs)[i]?=am (am u)):vs[i]?=am u:=by
 unfold L2.start at h;by_cases c:i < vs.length
 ·rw [AL (by simpa using c),Ak] at h;cases z:vs[i]? with
  | none=>rw [z] at h;cases h
  | some q=>rw [z] at h;cases h;rfl
 ·rw [AW (by simpa using c),Bo] at h
  split at h <;> cases h
def iA.beg (h:iA K H vs ks l) (one:iY ks) (N:List Str):aR K H (L2.start N vs) (gK ks l N.length):=by
 obtain⟨hl,hs⟩:=h.slot;refine⟨?_,λi s e=>?_,λi j s t x y a e1 e2 o1 o2 q1 q2 z1 z2=>?_⟩
 ·unfold L2.start gK;rw [Ai,Ai,Af,hl,Bm,Bm,h.len]
 ·obtain⟨u,h1,h2,_⟩:=hs i s (oK e);exact⟨u,k7 h1,h2⟩
 ·obtain⟨_,_,_,h3⟩:=hs i s (oK e1);obtain⟨_,_,_,h4⟩:=hs j t (oK e2);obtain⟨φ,_,k1⟩:=h3 o1;obtain⟨ψ,_,k2⟩:=h4 o2;exact one i j ⟨φ,k1⟩ ⟨ψ,k2⟩
def iA.go (h:iA K H vs ks l) {N:List Str} (g:cE (L2.start N vs) (gK ks l N.length) H σ' bu H') (s':aR K H' σ' bu):GoC vs ks H H':=by
 obtain⟨hl,hs⟩:=h.slot;refine⟨λa o e n=>(g.keep a o e λz=>?_).1,g.there,λa φ p=>?_⟩
 ·obtain⟨i,s,x,e1,e2,e3,e4⟩:=z;obtain⟨u,h1,h2,h3⟩:=hs i s (oK e1);obtain⟨φ,rfl,k⟩:=h3 e2;rcases e4 with rfl | e4
  ·exact n φ ⟨i,k,uV e3⟩
  ·cases e4
 ·obtain⟨i,e1,e2⟩:=p;have e3:=h.Vp e1;have hi:=(Al.mp e3).1;have e4:(gK ks l N.length)[i]?=am (am (.mE φ)):=by unfold gK;rw [AL hi];exact e3
  rcases g.pk a φ ⟨i,e4,k7 e2⟩ with⟨j,k1,k2⟩ | ⟨_,k⟩
  ·exact s'.ownAt k1 rfl k2
  ·exact k
end
section
variable {st:ss}{f:ce}{N:List Str}
def fnV {m:Tb PV n} (Fn:Ql K x qual st f fd) (S:ao N ps (af st)) (oj:ks.length=ps.length) (one:iY ks)
  (Á:∀l:List PV,l.length=n->∀(bQ:bn) (A:nw) (outer:List Env) (s:ci) (H:Hp) (E:XK),cC k (A.deeper (r9 qual (af st) s.heap.objs.size f bQ))->SF (gJ my P w K mg base N qual (af st) f bQ A outer s H E).uZ K false (gK ks l N.length) (aY st) (ck n m l) .rt) :
  iZ P w K mg base my (k+1) f fd ps (gh K ks (ck n m)):=by
 refine Fn.ok S (λvs H Q E h=>?_) (λbQ A outer s H vs Q E hr h=>?_)
 ·obtain⟨l,h,_⟩:=h;rw [h.len];exact oj
 obtain⟨l,h,q⟩:=h;refine⟨_,(Á l (kY q) bQ A outer s H E hr).p,h.beg one N,(ck n m l).mono (λv q1 u σ' bu H' g s' r=>q1 u H' (h.go g s') r) q⟩
def fnL {m:Tb (List PV) n} (Fn:Ql K x qual st f fd) (S:ao N ps (af st)) (oj:ks.length=ps.length) (one:iY ks)
  (Á:∀l:List PV,l.length=n->∀(bQ:bn) (A:nw) (outer:List Env) (s:ci) (H:Hp) (E:XK),cC k (A.deeper (r9 qual (af st) s.heap.objs.size f bQ))->SF (gJ my P w K mg base N qual (af st) f bQ A outer s H E).uZ K false (gK ks l N.length) (aY st) (ck n m l) .rl) :
  iZ P w K mg base my (k+1) f fd ps (fj K ks (ck n m)):=by
 refine Fn.ok S (λvs H Q E h=>?_) (λbQ A outer s H vs Q E hr h=>?_)
 ·obtain⟨l,h,_⟩:=h;rw [h.len];exact oj
 obtain⟨l,h,q⟩:=h;have sr:=h.beg one N;refine⟨_,(Á l (kY q) bQ A outer s H E hr).p,sr,(ck n m l).mono (λz q1 a ws σ' bu H' g s' fr e r=>q1 a ws H' (h.go g s') ?_ e r) q⟩;rcases fr with fr | ⟨i,t,x,e1,e2,np,e3,e4⟩
 ·exact fr
 ·obtain⟨_,_,_,h3⟩:=h.slot.2 i t (oK e1);obtain⟨φ,e,_⟩:=h3 e2;exact absurd e (np φ)
end
def cO:iY []:=λi j ⟨_,h⟩=>by simp at h
def gR (h:iY ks):iY (.v::ks):=λi j ⟨φ,a⟩ ⟨ψ,b⟩=>by
 cases i with
 | zero=>simp at a
 | succ i=>
  cases j with
  | zero=>simp at b
  | succ j=>rw [h i j ⟨φ,by simpa using a⟩ ⟨ψ,by simpa using b⟩]
def au:iY (.p φ::Am n .v):=λi j ⟨χ,a⟩ ⟨ψ,b⟩=>by
 have z:∀{i:Nat}{χ:List V->Prop},(AK.p φ::Am n .v)[i]?=am (.p χ)->i=0:=λ{i χ} a=>by
  cases i with
  | zero=>rfl
  | succ i=>
   have a:(Am n AK.v)[i]?=am (.p χ):=by simpa using a
   rw [Bo] at a
   split at a <;> simp at a
 rw [z a,z b]
end
end FL
namespace L2
open PySem PySem.Spec PyProof.Rows
def YZ (K:Ab):R2:=λx y H Q=>∃a b xs zs,x=.ref a/\y=.ref b/\c7 K H a xs/\c7 K H b zs/\xs.length+zs.length<=sizeLine/\lO H (.lst (xs++zs)) Q
theorem Rm (K:Ab) (hK:X.K=K):iC X (sn .Add) (YZ K):=by
 subst hK;intro Z s σ H x y v u Q I rx ry h;obtain⟨l,b,xs,zs,rfl,rfl,hH,hB,hz,q⟩:=h;cases rx;cases ry;obtain⟨aq,r,⟨⟨cls,dd,data,sl⟩,n,ho,hc,hd,oo⟩,_⟩:=I.list hH;obtain⟨cH,r2,⟨⟨Xb,SI,data2,Qb⟩,n2,LB,OJ,Ò,Ud⟩,_⟩:=I.list hB;simp only at hc hd oo OJ Ò Ud;subst hc hd oo OJ Ò Ud;have e:aq.toArray++cH.toArray=(aq++cH).toArray:=by simp
 have hl:=r.length;have Qf:=r2.length;refine concat_meets ⟨_,ho,rfl⟩ ⟨_,LB,rfl⟩ noFill_list_add seq_list_add PySem.F.slot_list_add PySem.F.entry_list_add (PySem.F.args_list_add_2 _ _) (list_addW l b aq.toArray cH.toArray n n2 bm bm sl Qb (by simp;omega)) ⟨ho,LB,?_⟩;rw [e];exact⟨.ref _,_,I.V0 (t':=s.toks) (r.append r2) (by rw [Ai];omega),rfl,q.at _ I.fresh⟩
end L2
variable {hi:FL.W (Option Int)}{neg:Bool}
namespace FL
section
open PySem PySem.Spec PyProof.Rows L2 PL
variable {K:Ab}
section
variable {a c:ii}{w:W PV}
def mT (l m:List PV):W (List PV):=.fh (l.length+m.length<=sizeLine) (.ret (l++m))
def fQL (K:Ab) (fs:bg) (w:W (List PV)):TE:=λσ H Q=>aR K H σ fs/\w.run λl=>∀u H',cQ σ fs H H'->aR K H' σ fs->S3 K σ fs H' u l->(∀ą,cQ σ fs H' ą->aR K ą σ fs->∃a vs,u=.ref a/\c7 K ą a vs/\aE K [] ą vs l)->Q u H'
structure IW (X:Cx) (K:Ab) (fs:bg) (e:ii) (w:W (List PV)):Prop where p:PE X e (fQL K fs w)
def cG (h:LF X K fs e wl):IW X K fs e wl:=⟨PE.imp h.p λσ H Q ⟨sr,q⟩=>⟨sr,wl.mono (λl q1 a vs H1 g1 s1 n e v=>q1 _ H1 g1 s1 (.inr ⟨a,rfl,.inl ⟨sr.noOwn n,vs,e,v⟩⟩) λH2 g2 s2=>⟨a,vs,rfl,c7.of (g2.vf e (sr.noOwn n)),g2.Mx s1 v⟩) q⟩⟩
def Np (i:Nat) (hs:fs[i]?=am (am (.ol q0 l)):=by rfl) (hN:X.N[i]?=am x:=by rfl) (hv:Gs X.env.scope x:=by first | exact C0 rfl | exact CD (C0 rfl) | exact CD (CD rfl)) (hd:i5 x:=by decide) (jt:GL x:=by decide):IW X K fs (.Name x pos) (.ret l):=
 ⟨PE.imp (d8 hN hv hd jt) λσ H Q ⟨sr,q⟩=>by
  obtain⟨a,ws,e1,h1,r1⟩:=di sr hs;refine⟨_,e1,q _ H .refl sr (.inr ⟨a,rfl,.inr ⟨i,q0,hs,e1⟩⟩) λH2 g2 s2=>?_⟩;obtain⟨a',rC,qG,gC,uo⟩:=di s2 hs;rw [e1] at qG;cases qG;exact⟨a,rC,rfl,c7.of gC,uo⟩⟩
def so:PV->W (List PV)
 | .cl l=>.ret l
 | _=>.fail
def je (h:EF X K fs e w):IW X K fs e (.bind w so):=⟨PE.imp h.p λσ H Q ⟨sr,q⟩=>⟨sr,w.mono (λx q1 u1 H1 g1 s1 v1=>by
 cases v1 with
 | cl e r=>exact q1 _ H1 g1 s1 (.inl ⟨_,_,rfl,.inl e,r⟩) λH2 g2 s2=>⟨_,_,rfl,((g2.d5 s1).f _ _ e).sq,g2.Mx s1 r⟩
 | _=>exact q1.elim) q⟩⟩
def ml (hK:X.K=K) (ha:IW X K fs a wl) (hb:IW X K fs b wm):LF X K fs (.BinOp a .Add b pos) (.bind wl λl=>.bind wm λm=>mT l m):=⟨PE.imp (JB (Rm K hK) ha.p hb.p) λσ H Q ⟨sr,q⟩=>⟨sr,wl.mono (λl q1 u1 H1 g1 s1 _ v1=>⟨s1,wm.mono (λm q2 u2 H2 g2 s2 _ v2=>by
 obtain⟨a,vs,rfl,h1,r1⟩:=v1 H2 g2 s2;obtain⟨b,ws,rfl,h2,r2⟩:=v2 H2 .refl s2;refine⟨a,b,vs,ws,rfl,rfl,h1,h2,by rw [r1.length,r2.length];exact q2.1,λp H3 s3 h3 n3=>?_⟩;have gg:=g1.trans g2;exact q2.2 p _ H3 (gg.trans (cQ.same s3)) (s2.same s3) (gg.there p n3) h3 (aE.tk s3.eM (r1.append r2))) q1⟩) q⟩⟩
def JO {Q:VK} (g1:cQ σ fs H H1) (s1:aR K H1 σ fs) (r:aE K [] H1 vs l) (q:∀a vs H',cQ σ fs H H'->aR K H' σ fs->H a=bm->H' a=am (.lst vs)->aE K [] H' vs l->Q (.ref a) H'):lO H1 (.lst vs) Q:=λp H2 s2 h2 n2=>q p vs H2 (g1.trans (cQ.same s2)) (s1.same s2) (g1.there p n2) h2 (aE.tk s2.eM r)
def N2 (K:Ab):CL K (Nk K) .ret:=λ{fs σ H Q u l} s v q=>by
 obtain⟨a,vs,rfl,h,rs⟩:=v.sq s;exact⟨a,vs,rfl,h,JO .refl s rs q⟩
def V5 (hK:X.K=K) (hg:Gl X "list") (hm:X.mg "list"=bm) (ha:QF X K fs e wl) (he:gM X e []:=by rfl) (dH:lT X pos []:=by rfl):LF X K fs (.Call (.Name "list" p) [e] [] pos) wl:=N8 (m:=.ret) (ID K hK) (N2 K) hg hm boot_list ha ⋯ ⋯ he dH
def dI (hK:X.K=K) (hg:Gl X "tuple") (hm:X.mg "tuple"=bm) (ha:QF X K fs e wl) (he:gM X e []:=by rfl) (dH:lT X pos []:=by rfl):EF X K fs (.Call (.Name "tuple" p) [e] [] pos) (.bind wl mB):=LQ (L0 K hK) (Qu K) hg hm boot_tuple ha ⋯ ⋯ he dH
def tG (hK:X.K=K) (hg:Gl X "len") (hm:X.mg "len"=bm) (ha:QF X K fs e wl) (he:gM X e []:=by rfl) (dH:lT X pos []:=by rfl):EF X K fs (.Call (.Name "len" p) [e] [] pos) (.bind wl zT):=Pq (vD K hK) (RG K) hg hm boot_len ha ⋯ ⋯ he dH
def P0 (ha:EF X K fs e w) (he:f8 [e] X.env=(false,kw e X.env)::f8 [] X.env):AF X K fs [e] (Am 1 .v) (R:=R) (λk=>.bind w λx=>k [x]):=aa ha ai he
def dE (hK:X.K=K) (hg:Gl X "len") (hm:X.mg "len"=bm) (ha:EF X K fs e w) (he:gM X e []:=by rfl) (dH:lT X pos []:=by rfl):EF X K fs (.Call (.Name "len" p) [e] [] pos) (.bind w λx=>qa dR [x]):=q9 (n:=1) (vD K hK) (SQ K) hg hm boot_len (P0 ha he) ⋯ ⋯ he dH
def Uq (hg:Gl X "abs") (hm:X.mg "abs"=bm) (ha:EF X K fs e w) (he:gM X e []:=by rfl) (dH:lT X pos []:=by rfl):EF X K fs (.Call (.Name "abs" p) [e] [] pos) (.bind w λx=>qa Gk [x]):=q9 (n:=1) PJ SS hg hm boot_abs (P0 ha he) ⋯ ⋯ he dH
def Ki (hg:Gl X "int") (hm:X.mg "int"=bm) (ha:EF X K fs e w) (he:gM X e []:=by rfl) (dH:lT X pos []:=by rfl):EF X K fs (.Call (.Name "int" p) [e] [] pos) (.bind w λx=>qa Gj [x]):=Pp (n:=1) L6 SR hg hm boot_int (P0 ha he) ⋯ ⋯ he dH
def aaA (hc:X.calm=true) (hg:Gl X "max") (hm:X.mg "max"=bm) (ha:EF X K fs a wa) (hb:EF X K fs b wb) (he:f8 [a,b] X.env=(false,kw a X.env)::f8 [b] X.env:=by rfl) (WC:gM X b []:=by rfl) (dH:(v4 pos (f8 [b] X.env)).any (·.1)=false:=by rfl):EF X K fs (.Call (.Name "max" p) [a,b] [] pos) (.bind wa λx=>.bind wb λy=>qa L9 [x,y]):=q9 (n:=2) (L3 hc) SO hg hm boot_max (aa ha (aa hb ai WC) he) ⋯ ⋯ he dH
def aaz (hc:X.calm=true) (hg:Gl X "min") (hm:X.mg "min"=bm) (ha:EF X K fs a wa) (hb:EF X K fs b wb) (he:f8 [a,b] X.env=(false,kw a X.env)::f8 [b] X.env:=by rfl) (WC:gM X b []:=by rfl) (dH:(v4 pos (f8 [b] X.env)).any (·.1)=false:=by rfl):EF X K fs (.Call (.Name "min" p) [a,b] [] pos) (.bind wa λx=>.bind wb λy=>qa L8 [x,y]):=q9 (n:=2) (L1 hc) SN hg hm boot_min (aa ha (aa hb ai WC) he) ⋯ ⋯ he dH
def Zt (hK:X.K=K) (hc:X.calm=true) (ğ:Gl X "list") (ý:X.mg "list"=bm) (Ğ:Gl X "reversed") (XF:X.mg "reversed"=bm) (he:IW X K fs e wl)
  (GH:f8 [.Call (.Name "reversed" p3) [e] [] p4] X.env=(false,kw (.Call (.Name "reversed" p3) [e] [] p4) X.env)::f8 [] X.env:=by rfl) (qY:gM X e []:=by rfl) :
  LF X K fs (.Call (.Name "list" p1) [.Call (.Name "reversed" p3) [e] [] p4] [] p2) (.bind wl λl=>.ret l.reverse):=⟨PE.imp (Hb K hK hc ğ ý Ğ XF he.p GH qY) λσ H Q ⟨sr,q⟩=>⟨sr,wl.mono (λl q1 u1 H1 g1 s1 _ v1=>by
 obtain⟨a,vs,rfl,h1,r1⟩:=v1 H1 .refl s1;exact⟨a,vs,rfl,h1,JO g1 s1 r1.reverse q1⟩) q⟩⟩
def ig (k:Kd) (x:PV):W PV:=match x with
 | .ref _=>.fail
 | .ty _=>.fail
 | x=>.ret (.bl (k.is x))
def Tu (K:Ab):List V->Hp->VK->Prop:=λxs H Q=>∃x c t b,xs=[x,.ty c]/\(lS K H x t\/(t=.type "tuple"/\∃a vs,x=.ref a/\d4 K H a vs)\/(t=.type "list"/\∃a vs,x=.ref a/\c7 K H a vs)\/(t=.type "dict"/\∃a,x=.ref a/\IsD H a))/\Bp K t (.type c)=am b/\Q (.bl b) H
def L5 (hK:X.K=K):bP X (.builtin "isinstance") (Tu K):=by
 subst hK;intro Z s σ H xs us Q I r h;obtain⟨x,c,t,b,rfl,ty | ty | ⟨rfl,a,vs,rfl,hL⟩ | ⟨rfl,a,rfl,hD⟩,e,q⟩:=h
 ·exact qm Z s σ H _ us Q I r ⟨x,c,t,b,rfl,ty,e,q⟩
 ·exact L4 X.K rfl Z s σ H _ us Q I r ⟨x,c,t,b,rfl,.inr ty,e,q⟩
 ·obtain⟨u,w,rfl,r1,r2⟩:=vals2 r;cases r1;cases r2;obtain⟨aq,_,⟨o,n,h1,h2,_⟩,_⟩:=I.list hL;exact A7 D8 I.vg ⟨o,h1,h2⟩ e (λz=>nomatch z) λtk=>⟨.bl b,H,I.tok _,rfl,q⟩
 ·obtain⟨u,w,rfl,r1,r2⟩:=vals2 r;cases r1;cases r2;have:∃o,s.heap.get? a=am o/\o.cls=.type "dict":=by
   rcases hD with⟨kvs,e⟩ | ⟨kvs,e⟩
   ·obtain⟨_,_,vs,_,o,_,_,h1,h2,_⟩:=vC I.br e;exact⟨o,h1,h2.1⟩
   ·obtain⟨_,_,xs,_,o,_,_,h1,h2,_⟩:=vz I.br e;exact⟨o,h1,h2.1⟩
  obtain⟨o,h1,h2⟩:=this;exact A7 D9 I.vg ⟨o,h1,h2⟩ e (λz=>nomatch z) λtk=>⟨.bl b,H,I.tok _,rfl,q⟩
def j8 (hK:X.K=K) (k:Kd) (hg:Gl X "isinstance") (hm:X.mg "isinstance"=bm) (ha:EF X K fs a wa) (hgx:Gl X x) (hmx:X.mg x=bm) (hv:lc x=am (.type k.name)) (hn:x≠"__name__":=by decide) (hd:i5 x:=by decide)
  (he:f8 [a,.Name x p2] X.env=(false,kw a X.env)::f8 [.Name x p2] X.env:=by rfl) (WC:f8 [Expr.Name x p2] X.env=(false,kw (.Name x p2) X.env)::f8 [] X.env:=by rfl)
  (dH:(v4 pos (f8 [Expr.Name x p2] X.env)).any (·.1)=false:=by rfl):EF X K fs (.Call (.Name "isinstance" p) [a,.Name x p2] [] pos) (.bind wa (ig k)):=
 ⟨PE.imp (ft (L5 hK) hg hm boot_isinstance (aZ ha.p (aZ (Rb (v:=.ty k.name) hgx hmx hv rfl hn hd) b9 WC) he) ⋯ ⋯ he dH) λσ H Q ⟨sr,q⟩=>⟨sr,wa.mono (λx q1 u1 H1 g1 s1 v1=>by
  have fin:∀{t:bn}{y:PV},lS K H1 u1 t->Bp K t (.type k.name)=am (k.is y)->Q (.bl (k.is y)) H1->Tu K [u1,.ty k.name] H1 Q:=λty e q=>⟨_,_,_,_,rfl,.inl ty,e,q⟩;cases v1 with
  | aG=>exact fin (y:=.aG) .aG (by rw [(qV K).1 k];cases k <;> rfl) (q1 _ H1 g1 s1 (.bl _))
  | bl b=>exact fin (.bl b) (Wb K b k) (q1 _ H1 g1 s1 (.bl _))
  | int b=>exact fin (.int b) (RQ K b k) (q1 _ H1 g1 s1 (.bl _))
  | str b=>exact fin (.str b) (RP K b k) (q1 _ H1 g1 s1 (.bl _))
  | ty n=>exact q1.elim
  | ref n=>exact q1.elim
  | @dk a o kvs ks l e k1 r=>exact⟨_,_,_,_,rfl,.inr (.inr (.inr ⟨rfl,_,rfl,.inl ⟨_,.inr ⟨_,e⟩⟩⟩)),(show _=am (k.is (.dv ks l)) by rw [(qV K).2.2 k];cases k <;> rfl),q1 _ H1 g1 s1 (.bl _)⟩
  | @dt a o kvs ks l e k1 r=>exact⟨_,_,_,_,rfl,.inr (.inr (.inr ⟨rfl,_,rfl,.inr ⟨_,.inr ⟨_,e⟩⟩⟩)),(show _=am (k.is (.dv ks l)) by rw [(qV K).2.2 k];cases k <;> rfl),q1 _ H1 g1 s1 (.bl _)⟩
  | @cl p vs l e r=>exact⟨_,_,_,_,rfl,.inr (.inr (.inl ⟨rfl,_,_,rfl,e.sq⟩)),(show _=am (k.is (.cl l)) by rw [(qV K).2.1 k];cases k <;> rfl),q1 _ H1 g1 s1 (.bl _)⟩
  | @tup p vs l e r=>exact⟨_,_,_,_,rfl,.inr (.inl ⟨rfl,_,_,rfl,d4.of e⟩),RO K _ k,q1 _ H1 g1 s1 (.bl _)⟩) q⟩⟩
def QO (l:List PV):PV->W (List PV)
 | .int k=>.fh (-(2 ^ 63)<=k/\k < 2 ^ 63/\l.length*k.toNat<=sizeLine) (.ret (Am k.toNat l).flatten)
 | _=>.fail
def Zu (ha:LF X K fs a wl) (hb:EF X K fs b wb):LF X K fs (.BinOp a .Mult b pos) (.bind wl λl=>.bind wb λy=>QO l y):=⟨PE.imp (JB VA ha.p hb.p) λσ H Q ⟨sr,q⟩=>⟨sr,wl.mono (λl q1 a vs H1 g1 s1 n e v=>⟨s1,wb.mono (λy q2 u2 H2 g2 s2 v2=>by
 cases v2 with
 | int k=>
  have no:=sr.noOwn n;have e2:=(g2.vf e no);have r2:=g2.Mx s1 v;refine⟨a,k,vs,rfl,rfl,e2,q2.1.1,q2.1.2.1,by rw [r2.length];exact q2.1.2.2,λp hp=>?_⟩;have sm:=iH hp (.lst (Am k.toNat vs).flatten);have gg:=g1.trans g2;exact q2.2 p _ _ (gg.trans (cQ.same sm)) (s2.same sm) (gg.there p hp) aM (aE.tk sm.eM (r2.rep k.toNat))
 | _=>exact q2.elim) q1⟩) q⟩⟩
def part:PV->W (Option Int)
 | .int i=>.ret (am i)
 | _=>.fail
def NQ:OF X K fs bm (.ret bm):=⟨PO.imp Q0 λσ H Q ⟨sr,q⟩=>q H .refl sr⟩
def VM (h:EF X K fs e w):OF X K fs (am e) (.bind w part):=⟨PO.imp (QZ h.p) λσ H Q ⟨sr,q⟩=>⟨sr,w.mono (λx q1 u1 H1 g1 s1 v1=>by
 cases v1 with
 | int i=>exact⟨_,rfl,q1 H1 g1 s1⟩
 | _=>exact q1.elim) q⟩⟩
def qh (h:IW X K fs e wl):∀σ H Q,fE K fs (.bind wl λl=>.ret (.bl (if neg then !l.isEmpty else l.isEmpty))) σ H Q->UP (λx y H Q=>∃p q xs,x=.ref p/\y=.ref q/\c7 K H p xs/\c7 K H q []/\Q (.bl (if neg then !xs.isEmpty else xs.isEmpty)) H) (fQL K fs wl) (fL K fs (.ret [])) σ H Q:=λσ H Q ⟨sr,q⟩=>
 ⟨sr,wl.mono (λl q1 u1 H1 g1 s1 _ v1=>⟨s1,λa2 vs2 H2 g2 s2 n2 e2 r2=>by
  cases r2;obtain⟨a,vs,rfl,h1,r1⟩:=v1 H2 g2 s2;refine⟨a,a2,vs,rfl,rfl,h1,c7.of e2,?_⟩;rw [Ph r1];exact q1 _ H2 (g1.trans g2) s2 (.bl _)⟩) q⟩
def TK:LF X K fs (.List [] pos) (.ret []):=TN (n:=0) ai
theorem afP (hK:X.K=K) (hu:X.A.units+200 < pc) (h:IW X K fs e wl) (hk:re .Eq (.List [] p2)=false:=by rfl):EF X K fs (.Compare e [.Eq] [.List [] p2] pos) (.bind wl λl=>.ret (.bl l.isEmpty)):=⟨PE.imp (JE (Hd K hK ∅) h.p TK.p hk) (qh (neg:=false) h)⟩
theorem Yk (hK:X.K=K) (hu:X.A.units+200 < pc) (h:IW X K fs e wl) (hk:re .NotEq (.List [] p2)=false:=by rfl):TF X K fs (.Compare e [.NotEq] [.List [] p2] pos) (.bind wl λl=>.ret (!l.isEmpty)):=⟨PT.imp (nA (Hc K hK ∅) h.p TK.p hk) λσ H Q q=>qh (neg:=true) h σ H _ (aas (w:=.bind wl λl=>.ret (.bl (!l.isEmpty))) σ H Q q)⟩
def mn:List PV->W (List Int)
 | []=>.ret []
 | .int i::r=>.bind (mn r) λl=>.ret (i::l)
 | _=>.fail
theorem fZ:∀{l:List PV}{Q:List Int->Prop},(mn l).run Q->∃ns:List Int,l=ns.map PV.int/\Q ns
 | [],Q,h=>⟨[],rfl,h⟩
 | .int b::r,Q,h=>by
  obtain⟨bs,e,q⟩:=fZ (l:=r) h;exact⟨b::bs,by rw [e];rfl,q⟩
 | .aG::r,Q,h=>h.elim
 | .bl _::r,Q,h=>h.elim
 | .str _::r,Q,h=>h.elim
 | .tup _::r,Q,h=>h.elim
 | .ref _::r,Q,h=>h.elim
 | .ty _::r,Q,h=>h.elim
 | .cl _::r,Q,h=>h.elim
@[simp] theorem eW:∀bs:List Int,mn (bs.map PV.int)=.ret bs
 | []=>rfl
 | b::bs=>by
  show ap (mn (bs.map PV.int)) _=_;rw [eW bs];rfl
end
end
end FL
variable {k2:Nat}
namespace FL
section
open PySem PySem.Spec PyProof.Rows L2 PL
variable {K:Ab}
abbrev b2 (m:M2) (wa wb:W PV):W PV:=.bind wa λx=>.bind wb λy=>of2 m x y
abbrev t2 (m:M2) (wa wb:W PV):W Bool:=.bind wa λx=>.bind wb λy=>.bind (of2 m x y) asB
abbrev c1 (m:yS) (w:W PV):W PV:=.bind w λx=>qa m [x]
abbrev cA (wl:W (List PV)) (wb:W PV):W PV:=.bind wl λl=>.bind wb λy=>T4 l y
abbrev KH (a b:W Bool):W Bool:=.bind a λk=>if k=true then b else .ret false
abbrev tor (a b:W Bool):W Bool:=.bind a λk=>if k=true then .ret true else b
abbrev GX (a:W Bool):W Bool:=.bind a λk=>.ret (!k)
abbrev dP {α:Type} (t:W Bool) (a b:W α):W α:=.bind t λk=>if k=true then a else b
section
variable {a c:ii}{rest:List ss}{S T T2:Type}{hd:S->bg}{s0:S}{w:W PV}{wt:PV->W T2}{cq:S->T2->bg}{k:S->W T}{out:T->End}{x:Bool}
def SF.qD {f:PV->S->W S} (hp:wf (dL X.prog X.w) X.A X.env X.xe) (hc:X.calm=true) (hi:qJ X K fs tg iter wl) (hl:hU fs (hd s0)) (hg:PG X tg (dZ i)) (hb:∀s p,SF X K false ((hd s).set i (am (.val p))) body (f p s) λs'=>.nc (hd s')) (hr:∀s,SF X K x (hd s) rest (k s) out) (hs:uc X iter:=by intro _;rfl) :
  SF X K x fs (.For tg iter body [] pos::rest) (.bind wl λl=>.bind (cB l s0 f) k) out:=SF.for (wt:=.ret) (wb:=λp s=>f p s) hp hc hi hl (λs=>Ug hg) (λ_ _=>rfl) hb hr hs
def SF.WO {wb:T2->S->W S} (hp:wf (dL X.prog X.w) X.A X.env X.xe) (hc:X.calm=true) (hi:qJ X K fs tg iter wl) (hl:hU fs (hd s0)) (hg:∀s,GF X K (hd s) tg is wt (cq s)) (hb:∀s t,SF X K false (cq s t) body (wb t s) λs'=>.nc (hd s')) (hr:∀s,SF X K x (hd s) rest (k s) out) (hs:uc X iter:=by intro _;rfl) :
  SF X K x fs (.For tg iter body [] pos::rest) (.bind wl λl=>.bind (cB l s0 λp s=>.bind (wt p) λt=>wb t s) k) out:=SF.for hp hc hi hl hg (λ_ _=>rfl) hb hr hs
def SF.OW {inj:R->T}{f:PV->S->W (Lp S R)} (hp:wf (dL X.prog X.w) X.A X.env X.xe) (hc:X.calm=true) (hi:qJ X K fs tg iter wl) (hl:hU fs (hd s0)) (hg:PG X tg (dZ i)) (ho:∀t,(out (inj t)).Ow) (hb:∀s p,SF X K false ((hd s).set i (am (.val p))) body (f p s) (lpE hd λr=>out (inj r))) (hr:∀s,SF X K x (hd s) rest (k s) out) (hs:uc X iter:=by intro _;rfl) :
  SF X K x fs (.For tg iter body [] pos::rest) (.bind wl λl=>.bind (FL.lQ l s0 f) (LH k inj)) out:=SF.lQ (wt:=.ret) (wb:=λp s=>f p s) hp hc hi hl (λs=>Ug hg) (λ_ _=>rfl) ho hb hr hs
def SF.M7 {fs3:T2->bg}{k:T2->W T} (he:EF X K fs e we) (hg:GF X K fs tg is wt fs3) (hr:∀t,SF X K x (fs3 t) rest (k t) out) (hs:Ch [tg] e pos.line X.env=pure false:=by rfl) (hw:Da [tg] e X.env=pure bm:=by rfl)
  (h1:(wP [tg] X.env).map (·.2)=[Db tg X.env]:=by rfl):SF X K x fs (.Assign [tg] e pos::rest) (.bind we λv=>.bind (wt v) k) out:=SF.step (Nw he.p hg.p hs hw h1) λD σ H ⟨sr,q⟩=>
 ⟨sr,we.mono (λv q1 u H1 g1 s1 v1=>⟨v,s1,v1,(wt v).mono (λt q2 us g2 s2=>⟨_,k t,hr t,s2,(k t).mono (λt' q3=>q3.go (g1.f.trans g2) sr s2) q2⟩) q1⟩) q⟩
def SF.par {Vn:Pos}{kt:Nat}{k:PV->PV->W T} (hc:X.calm=true) (hN:X.N.Nodup) (hi:X.N[i]?=am y) (hj:X.N[j]?=am z) (ZZ:i≠j) (hx:X.env.scope.names.lookup y=am .local) (hy:X.env.scope.names.lookup z=am .local)
  (ha:EF X K fs a wa) (hb:EF X K fs b wb) (hr:∀u v,SF X K x ((fs.set i (am (.val u))).set j (am (.val v))) rest (k u v) out)
  (hw:Da [.Tuple [.Name y px,.Name z py] kt pt] (.Tuple [a,b] k2 Vn) X.env=pure (am [y,z]):=by rfl) (hs:Ch [.Tuple [.Name y px,.Name z py] kt pt] (.Tuple [a,b] k2 Vn) pos.line X.env=pure false:=by rfl)
  (he:f8 [a,b] X.env=(false,kw a X.env)::f8 [b] X.env:=by rfl) (WC:gM X b []:=by rfl) :
  SF X K x fs (.Assign [.Tuple [.Name y px,.Name z py] kt pt] (.Tuple [a,b] k2 Vn) pos::rest) (.bind wa λu=>.bind wb λv=>k u v) out:=
 SF.step (Vo hc hN hi hj ZZ hx hy (aZ ha.p (aZ hb.p b9 WC) he) hw hs) λD σ H ⟨sr,q⟩=>⟨sr,wa.mono (λu q1 u1 H1 g1 s1 v1=>⟨s1,wb.mono (λv q2 u2 H2 g2 s2 v2=>by
  have s3:=s2.fq (g2.vr s1 v1) i;have s4:=s3.fq v2 j;exact⟨_,_,rfl,_,k u v,hr u v,s4,(k u v).mono (λt q3=>q3.go (((g1.trans g2).f.trans (cE.fq s2 _ _ i)).trans (cE.fq s3 _ _ j)) sr s4) q2⟩) q1⟩) q⟩
def MF (v:PV):W PV:=.fh (v.dat=true) (.ret v)
def uR (l:List PV):W (List PV):=.fh (tJ l=true) (.ret l)
mutual
theorem VR.jx {ι:List ce}{H H':Hp} (t:∀p vs,H p=am (.tup vs)->H' p=am (.tup vs)):∀{v:V}{q:PV},VR K ι H v q->q.dat=true->VR K [] H' v q
 | _,_,.aG,_=>.aG
 | _,_,.bl b,_=>.bl b
 | _,_,.int i,_=>.int i
 | _,_,.str x,_=>.str x
 | _,_,.ty n,h=>by rw [PV.dat] at h;cases h
 | _,_,.tup e r,h=>.tup (t _ _ e) (aE.jx t r (by rw [PV.dat] at h;exact h))
 | _,_,.cl e r,h=>by rw [PV.dat] at h;cases h
 | _,_,.dk _ _ _,h=>by rw [PV.dat] at h;cases h
 | _,_,.dt _ _ _,h=>by rw [PV.dat] at h;cases h
 | _,_,.ref e,h=>by rw [PV.dat] at h;cases h
theorem aE.jx {ι:List ce}{H H':Hp} (t:∀p vs,H p=am (.tup vs)->H' p=am (.tup vs)):∀{v:List V}{q:List PV},aE K ι H v q->tJ q=true->aE K [] H' v q
 | _,_,.nil,_=>.nil
 | _,_,.cons r s,h=>by
  rw [tJ,AO] at h;exact .cons (VR.jx t r h.1) (aE.jx t s h.2)
end
def bor (I:Inv X Z σ H s) (sr:aR K H σ fs) (hs:fs[i]?=am (am t)) (hb:t.bw=true):∃a o ob,Inv X Z σ (upd H a (.cu ob o)) s/\aR K (upd H a (.cu ob o)) σ (fs.set i (am (.val t.bv)))/\
  ∀σ' s' H1,Inv X Z σ' H1 s'->cQ σ (fs.set i (am (.val t.bv))) (upd H a (.cu ob o)) H1->aR K H1 σ (fs.set i (am (.val t.bv)))->Inv X Z σ' (upd H1 a o) s'/\cQ σ fs H (upd H1 a o)/\aR K (upd H1 a o) σ fs/\(∀p vs,H1 p=am (.tup vs)->upd H1 a o p=am (.tup vs))/\∀p vs,p≠a->H1 p=am (.lst vs)->upd H1 a o p=am (.lst vs):=by
 have ho:=SL.PK hb;obtain⟨u,e1,⟨v,e,_⟩ | ⟨a,e,oa⟩⟩:=sr.at' i _ hs
 ·subst e;cases hb
 subst e;obtain⟨ob,o,h1,n1,n2,I2,vr⟩:=aag I oa hb;have h0:∀o u,X.H₀ a≠am (.cu o u):=λo u z=>by
  have:=I.base.tj a o u z;rw [h1] at this;exact n2 _ _ (Option.some.inj this)
 refine⟨a,o,ob,I2,sr.aaf hs ho e1 h1 n1 n2 vr,λσ' s' H1 J g s1=>?_⟩;have pf:∀φ b,hJ σ (fs.set i (am (.val t.bv))) φ b->hJ σ fs φ b:=λφ b ⟨j,z1,z3⟩=>by
  rcases cM z1 with⟨_,z⟩ | ⟨n,z1⟩
  ·cases z
  ·exact⟨j,z1,z3⟩
 have npa:∀φ,¬hJ σ fs φ a:=λφ ⟨j,z1,z3⟩=>by
  have:=sr.nd j i _ _ a a a z1 hs rfl ho z3 e1 (.inl rfl) (.inl rfl);subst this;rw [hs] at z1;cases z1;cases hb
 have e2:=g.keep a _ aM λφ p=>npa φ (pf φ a p);have hk:=OD J.br e2;have ge:cQ σ fs H (upd H1 a o):=by
  refine⟨λb o z n=>?_,λb z=>?_⟩
  ·by_cases c:b=a
   ·subst c;rw [h1] at z;cases z;exact aM
   ·rw [av c];exact g.keep b o (by rw [av c];exact z) λφ p=>n φ (pf φ b p)
  ·by_cases c:b=a
   ·subst c;rw [aM] at z;cases z
   ·rw [av c] at z;have:=g.there b z;rw [av c] at this;exact this
 refine⟨J.acE e2 h0 (hk a _ aM) hk,ge,⟨sr.len,λj t z=>?_,sr.nd⟩,λp vs z=>?_,λp vs n z=>by rw [av n];exact z⟩
 ·obtain⟨u,k1,k2⟩:=sr.at' j t z;refine⟨u,k1,?_⟩;by_cases c:∃φ,t=.mE φ
  ·obtain⟨φ,rfl⟩:=c;have ji:j≠i:=λy=>by subst y;rw [hs] at z;cases z;cases hb
   rcases k2 with⟨v,y,_⟩ | ⟨b,rfl,_⟩
   ·cases y
   ·obtain⟨vs,y1,y2⟩:=s1.ownAt (t:=.mE φ) (i:=j) (by rw [aN ji];exact z) rfl k1;refine .inr ⟨b,rfl,vs,?_,y2⟩;rw [av (λy=>by subst y;exact npa φ ⟨j,z,k1⟩)];exact y1
  ·refine k2.mono (ge.d5 sr) (λx b o eb ow hb zz=>ge.keep b o zz λφ ⟨j',p1,p3⟩=>?_);subst eb;have:=sr.nd j j' t _ x b b z p1 ow rfl k1 p3 hb (.inl rfl);subst this;rw [z] at p1;cases p1;exact c ⟨φ,rfl⟩
 ·rw [av (λy=>by subst y;rw [e2] at z;cases z)];exact z
def aaD (i:Nat) (hs:fs[i]?=am (am t)) (h:EF X K (fs.set i (am (.val t.bv))) e w) (hb:t.bw=true:=by rfl):EF X K fs e (.bind w MF):=⟨λZ s σ H Q I ⟨sr,q⟩=>by
 obtain⟨a,o,ob,I2,s2,Ë⟩:=bor I sr hs hb;refine bV (h.p Z s σ _ (λu H1=>∃v,cQ σ (fs.set i (am (.val t.bv))) (upd H a (.cu ob o)) H1/\aR K H1 σ (fs.set i (am (.val t.bv)))/\VR K [] H1 u v/\v.dat=true/\∀u H',cQ σ fs H H'->aR K H' σ fs->VR K [] H' u v->Q u H') I2 ⟨s2,w.mono (λv q1 u H1 g1 s1 v1=>⟨v,g1,s1,v1,q1.1,q1.2⟩) q⟩) λu s1 ⟨x,H1,I1,r1,v,g1,QL,v1,d,q1⟩=>?_;obtain⟨I3,g3,s3,t3,_⟩:=Ë σ s1 H1 I1 g1 QL;exact⟨x,_,I3,r1,q1 x _ g3 s3 (VR.jx t3 v1 d)⟩⟩
def Zw (i:Nat) (hs:fs[i]?=am (am t)) (h:LF X K (fs.set i (am (.val t.bv))) e wl) (hb:t.bw=true:=by rfl):LF X K fs e (.bind wl uR):=⟨λZ s σ H Q I ⟨sr,q⟩=>by
 obtain⟨a,o,ob,I2,s2,Ë⟩:=bor I sr hs hb;refine bV (h.p Z s σ _ (λu H1=>∃b vs l',u=.ref b/\cQ σ (fs.set i (am (.val t.bv))) (upd H a (.cu ob o)) H1/\aR K H1 σ (fs.set i (am (.val t.bv)))/\upd H a (.cu ob o) b=bm/\H1 b=am (.lst vs)/\aE K [] H1 vs l'/\tJ l'=true/\∀a vs H',cQ σ fs H H'->aR K H' σ fs->H a=bm->H' a=am (.lst vs)->aE K [] H' vs l'->Q (.ref a) H') I2 ⟨s2,wl.mono (λl' q1 b vs H1 g1 s1 n e v1=>⟨b,vs,l',rfl,g1,s1,n,e,v1,q1.1,q1.2⟩) q⟩) λu s1 ⟨x,H1,I1,r1,b,vs,l',e,g1,QL,n,eb,v1,d,q1⟩=>?_;subst e;obtain⟨I3,g3,s3,t3,k3⟩:=Ë σ s1 H1 I1 g1 QL;have nb:b≠a:=λy=>by subst y;rw [aM] at n;cases n
 exact⟨_,_,I3,r1,q1 b vs _ g3 s3 (by rw [av nb] at n;exact n) (k3 b vs nb eb) (aE.jx t3 v1 d)⟩⟩
end
end
end FL
variable {G:List Int->Prop}
namespace FL
section
open PySem PySem.Spec PyProof.Rows L2 PL
variable {K:Ab}
def YF (K:Ab) (m:List PV->List PV->W (PV×List PV)):Sp:=λvs H Q _=>∃a Mf ws lo l,vs=.ref a::Mf/\H a=am (.lst ws)/\aE K [] H ws lo/\aE K [] H Mf l/\(m lo l).run λt=>∀u rC H',oQ a H H'->(∀b,H' b=bm->H b=bm)->H' a=am (.lst rC)->aE K [] H' rC t.2->VR K [] H' u t.1->Q u H'
section
variable {st:ss}{f:ce}{N:List Str}
def PM (a:ce) (lo l:List PV) (n:Nat):bg:=am (.ol (am a) lo)::(l.map λv=>am (SL.val v))++Am (n-1-l.length) bm
def aE.slot (r:aE K [] H vs l) {s:SL} (h:(l.map λv=>am (SL.val v))[i]?=am (am s)):∃u v,vs[i]?=am u/\s=.val v/\VR K [] H u v:=by
 rw [Ak] at h;cases e:l[i]? with
 | none=>rw [e] at h;cases h
 | some v=>
  rw [e] at h;obtain⟨u,h1,h2⟩:=r.get e;cases h;exact⟨u,v,h1,rfl,h2⟩
theorem fnO {m:List PV->Tb (PV×List PV) n} (Fn:Ql K x qual st f fd) (S:ao N ps (af st)) (hn:n+1=ps.length)
  (Á:∀(a:ce) (lo l:List PV),l.length=n->∀(bQ:bn) (A:nw) (outer:List Env) (s:ci) (H:Hp) (E:XK),cC k (A.deeper (r9 qual (af st) s.heap.objs.size f bQ))->SF (gJ my P w K mg base N qual (af st) f bQ A outer s H E).uZ K false (PM a lo l N.length) (aY st) (ck n (m lo) l) λt=>.ro t.1 a t.2) :
  iZ P w K mg base my (k+1) f fd ps (YF K λlo l=>ck n (m lo) l):=by
 refine Fn.ok S (λvs H Q E h=>?_) (λbQ A outer s H vs Q E hr h=>?_)
 ·obtain⟨a,Mf,ws,lo,l,rfl,_,_,r,q⟩:=h;rw [Ao,r.length,kY q];exact hn
 obtain⟨a,Mf,ws,lo,l,rfl,ha,wd,r,q⟩:=h;have hl:=kY q;have hr2:=r.length;have Si:∀{i:Nat}{s:SL},(PM a lo l N.length)[i]?=am (am s)->(i=0/\s=.ol (am a) lo)\/∃j u v,i=j+1/\Mf[j]?=am u/\s=.val v/\VR K [] H u v:=λ{i s} e=>by
  unfold PM at e;cases i with
  | zero=>simp at e;exact .inl ⟨rfl,e.symm⟩
  | succ j=>
   rw [Ca,List.getElem?_cons_succ] at e;by_cases c:j < l.length
   ·rw [AL (by simpa using c)] at e;obtain⟨u,v,h1,h2,h3⟩:=aE.slot r e;exact .inr ⟨j,u,v,rfl,h1,h2,h3⟩
   ·rw [AW (by simpa using c),Bo] at e
    split at e <;> cases e
 have sr:aR K H (L2.start N (.ref a::Mf)) (PM a lo l N.length):=by
  refine⟨?_,λi s e=>?_,λi j s t x y b e1 e2 o1 o2 q1 q2 _ _=>?_⟩
  ·unfold L2.start PM;rw [Ai,Af,Bm,Ai,Ao,Ao,Af,Bm];omega
  ·rcases Si e with⟨rfl,rfl⟩ | ⟨j,u,v,rfl,h1,rfl,h3⟩
   ·exact⟨.ref a,k7 rfl,.inr ⟨a,rfl,λb z=>Option.some.inj z,ws,ha,wd⟩⟩
   ·exact⟨u,k7 (by simpa using h1),.inl ⟨v,rfl,h3⟩⟩
  ·rcases Si e1 with⟨rfl,rfl⟩ | ⟨j1,u,v,rfl,h1,rfl,h3⟩
   ·rcases Si e2 with⟨rfl,rfl⟩ | ⟨j1,u,v,rfl,h1,rfl,h3⟩
    ·rfl
    ·cases o2
   ·cases o1
 refine⟨_,(Á a lo l hl bQ A outer s H E hr).p,sr,(ck n (m lo) l).mono (λt q1 u σ' bu H' g s' ho rv=>?_) q⟩;obtain⟨i,e⟩:=ho;obtain⟨u',e',r'⟩:=s'.at' i _ e;rcases r' with⟨v,z,_⟩ | ⟨b,rfl,hb,rC,h1,h2⟩
 ·cases z
 have hba:=hb a rfl;subst hba;refine q1 u rC H' (λc o nc e=>(g.keep c o e λz=>?_).1) g.there h1 h2 rv;obtain⟨j,t',x,z1,z2,z3,z4⟩:=z;rcases Si z1 with⟨rfl,rfl⟩ | ⟨j1,u,v,rfl,_,rfl,_⟩
 ·have:=uV z3;simp at this;rcases z4 with rfl | z4
  ·exact nc this.symm
  ·cases z4
 ·cases z2
def kf (G:List Int->Prop):List V->Prop:=λws=>∃ns:List Int,ws=ns.map V.int/\G ns
def Vq {m:List PV->List PV->W (PV×List PV)}{mp:List PV->W PV} (F:iZ P w K mg base my k f fd ps (YF K m)) (hm:∀ns l Q,G ns->(mp l).run Q->(m (ns.map PV.int) l).run λt=>Q t.1/\∃zF:List Int,t.2=zF.map PV.int/\G zF) :
  iZ P w K mg base my k f fd ps (gh K (.p (kf G)::Am n .v) mp):=F.imp λvs H Q E h=>by
 obtain⟨l,ha,q⟩:=h;cases ha with
 | @p a φ ws vs ks l e r t=>
  obtain⟨ns,rfl,hG⟩:=r;have tv:∀{n:Nat}{vs:List V}{l:List PV},iA K H vs (Am n .v) l->aE K [] H vs l:=by
   intro n
   induction n with
   | zero=>intro vs l h;cases h;exact .nil
   | succ n ih=>intro vs l h;cases h with | v r t=>exact .cons r (ih t)
  refine⟨a,vs,ns.map V.int,ns.map PV.int,l,rfl,e,oe _ _ ns,tv t,(m _ _).mono (λt q1 u rC H' sx hth e' r' rv=>?_) (hm ns l _ hG q)⟩;obtain⟨q1,zF,et,hG'⟩:=q1;rw [et] at r';have:=jr r';subst this;refine q1 u H' ⟨λb o eb nb=>sx b o (λz=>?_) eb,hth,λb φ p=>?_⟩ rv
  ·subst z;exact nb _ ⟨0,rfl,rfl⟩
  ·obtain⟨i,e1,e2⟩:=p;cases i with
   | zero=>simp at e1 e2;subst e1;subst e2;exact⟨_,e',zF,rfl,hG'⟩
   | succ i=>
    simp at e1;rw [Bo] at e1
    split at e1 <;> simp at e1
end
section
variable {UW:List ss}{T:Type}{w:W T}{out:T->End}{x:Bool}
def Y1 (G:List Int->Prop) (l:List PV) (w:W T):W T:=.fh (∃ns:List Int,l=ns.map PV.int/\G ns) w
def SF.mE (i:Nat) (hs:fs[i]?=am (am (.ol bm l))) (hr:SF X K x (fs.set i (am (.mE (kf G)))) UW w out):SF X K x fs UW (Y1 G l w) out:=⟨λZ s σ H D I ⟨sr,q⟩=>by
 obtain⟨⟨ns,el,hG⟩,q⟩:=q;obtain⟨a,ws,e1,h1,r1⟩:=di sr hs;subst el;have:=jr r1;subst this;obtain⟨s2,g2⟩:=eO (t':=.mE (kf G)) sr hs rfl (by simp) e1 (λ_ _ _ z=>z:oQ a H H) λtk=>⟨_,h1,ns,rfl,hG⟩;exact hr.p Z s σ H D I ⟨s2,w.mono (λt q2=>q2.go g2 sr s2) q⟩⟩
end
end
section
open PySem PySem.Spec PyProof.Rows L2 PL
variable {K:Ab}
abbrev aeD (wa wb:W PV):W PV:=.bind wa λx=>SX x wb
abbrev ox (wl:W (List PV)):W PV:=.bind wl λl=>.ret (.cl l)
abbrev Mi (t:W Bool) (w:W PV):W (Option PV):=.bind t λk=>if k=true then .bind w λv=>.ret (am v) else .ret bm
section
variable {c:ii}{W':W PV}{WL:W (List PV)}
def SD (G:Tc X.prog X.w X.K X.mg X.base x k ps (gh K ks m)) (hr:cC k' X.A) (hk:k<=k') (hg:Gl X x) (ha:AF X K fs (e::es) ks B) (hW:W'=B m) (om:i5 x:=by decide)
  (he:gM X e es:=by rfl) (dH:lT X pos es:=by rfl):EF X K fs (.Call (.Name x p) (e::es) [] pos) W':=hW▸W4 G hr hk hg ha om he dH
def RL {m:List PV->W (List PV)}{B:(List PV->W (List PV))->W (List PV)} (G:Tc X.prog X.w X.K X.mg X.base x k ps (fj K ks m)) (hr:cC k' X.A) (hk:k<=k') (hg:Gl X x) (ha:AF X K fs (e::es) ks B) (hW:WL=B m) (om:i5 x:=by decide)
  (he:gM X e es:=by rfl) (dH:lT X pos es:=by rfl):LF X K fs (.Call (.Name x p) (e::es) [] pos) WL:=hW▸V8 G hr hk hg ha om he dH
def ay {x1} (h:AF X K fs es (Am n .v) B) (hW:W'=B λl=>.ret (.tup l)) (hn:n<=1000:=by decide):EF X K fs (.Tuple es x1 pos) W':=hW▸aax h hn
def aU {B:(List PV->W (List PV))->W (List PV)} (h:AF X K fs es (Am n .v) B) (hW:WL=B λl=>.ret l) (hn:n<=1000:=by decide):LF X K fs (.List es pos) WL:=hW▸TN h hn
variable {T2:Type}{wt:PV->W T2}{cq:T2->bg}{tf:T2->W Bool}{te:T2->W PV}
def ic {f:PV->W PV} (hc:X.calm=true) (S:aw X.env.scope X.N sc N' ix) (hi:qJ X K fs tg iter wl) (hg:∀cl C s2 H2 fp,PG (fi X sc N' cl C s2 H2 fp) tg (dZ i)) (he:∀cl C s2 H2 fp t,EF (fi X sc N' cl C s2 H2 fp) K ((bj ix fs).set i (am (.val t))) Ä (f t)) (h0:ix[i]?=am bm) (hs:uc X iter:=by intro _;rfl) :
  LF X K fs (.ListComp Ä [⟨tg,iter,[],0⟩] sc pos) (.bind wl λl=>bI l f):=
 have h1:(bj ix fs)[i]?=am bm:=by unfold bj;rw [Ak,h0];rfl
 TL hc S hi (λcl C s2 H2 fp=>Ug (hg cl C s2 H2 fp)) he (λ_=>rfl) (N6 h1) (λj hj=>by rw [AR] at hj;subst hj;exact h0) hs
def JZ {tf:PV->W Bool}{te:PV->W PV} (hc:X.calm=true) (S:aw X.env.scope X.N sc N' ix) (hi:qJ X K fs tg iter wl) (hg:∀cl C s2 H2 fp,PG (fi X sc N' cl C s2 H2 fp) tg (dZ i)) (hf:∀cl C s2 H2 fp t,TF (fi X sc N' cl C s2 H2 fp) K ((bj ix fs).set i (am (.val t))) c (tf t)) (he:∀cl C s2 H2 fp t,EF (fi X sc N' cl C s2 H2 fp) K ((bj ix fs).set i (am (.val t))) Ä (te t)) (h0:ix[i]?=am bm) (hs:uc X iter:=by intro _;rfl) :
  LF X K fs (.ListComp Ä [⟨tg,iter,[c],0⟩] sc pos) (.bind wl λl=>lP l λp=>Mi (tf p) (te p)):=
 have h1:(bj ix fs)[i]?=am bm:=by unfold bj;rw [Ak,h0];rfl
 V6 (wt:=.ret) (tf:=tf) (te:=te) hc S hi (λcl C s2 H2 fp=>Ug (hg cl C s2 H2 fp)) (λcl C s2 H2 fp t=>xN (hf cl C s2 H2 fp t)) he (λ_=>rfl) (N6 h1) (λj hj=>by rw [AR] at hj;subst hj;exact h0) hs
def V4 (hc:X.calm=true) (S:aw X.env.scope X.N sc N' ix) (hi:qJ X K fs tg iter wl) (hg:∀cl C s2 H2 fp,GF (fi X sc N' cl C s2 H2 fp) K (bj ix fs) tg is wt cq) (he:∀cl C s2 H2 fp t,EF (fi X sc N' cl C s2 H2 fp) K (cq t) Ä (te t))
  (hl:qI is (bj ix fs) cq/\∀t,hU (cq t) (bj ix fs)) (uD:∀j∈is,ix[j]?=am bm) (hs:uc X iter:=by intro _;rfl) :
  LF X K fs (.ListComp Ä [⟨tg,iter,[],0⟩] sc pos) (.bind wl λl=>bI l λp=>.bind (wt p) te):=TL hc S hi hg he (λ_=>rfl) hl uD hs
def Zv (hc:X.calm=true) (S:aw X.env.scope X.N sc N' ix) (hi:qJ X K fs tg iter wl) (hg:∀cl C s2 H2 fp,GF (fi X sc N' cl C s2 H2 fp) K (bj ix fs) tg is wt cq) (hf:∀cl C s2 H2 fp t,TF (fi X sc N' cl C s2 H2 fp) K (cq t) c (tf t)) (he:∀cl C s2 H2 fp t,EF (fi X sc N' cl C s2 H2 fp) K (cq t) Ä (te t))
  (hl:qI is (bj ix fs) cq/\∀t,hU (cq t) (bj ix fs)) (uD:∀j∈is,ix[j]?=am bm) (hs:uc X iter:=by intro _;rfl) :
  LF X K fs (.ListComp Ä [⟨tg,iter,[c],0⟩] sc pos) (.bind wl λl=>lP l λp=>.bind (wt p) λt=>Mi (tf t) (te t)):=V6 hc S hi hg (λcl C s2 H2 fp t=>xN (hf cl C s2 H2 fp t)) he (λ_=>rfl) hl uD hs
variable {rest:List ss}{T:Type}{out:T->End}{x0:Bool}{kk:List PV->W T}
def SF.U1 {tf:PV->W Bool}{te:PV->W PV} (hc:X.calm=true) (hN:X.N.Nodup) (xr:X.N[i]?=am y) (hx:X.env.scope.names.lookup y=am .local) (S:aw X.env.scope X.N sc N' ix) (hi:qJ X K fs tg iter wl) (hg:∀cl C s2 H2 fp,PG (fi X sc N' cl C s2 H2 fp) tg (dZ j)) (hf:∀cl C s2 H2 fp t,TF (fi X sc N' cl C s2 H2 fp) K ((bj ix fs).set j (am (.val t))) c (tf t)) (he:∀cl C s2 H2 fp t,EF (fi X sc N' cl C s2 H2 fp) K ((bj ix fs).set j (am (.val t))) Ä (te t)) (h0:ix[j]?=am bm) (hr:∀l,SF X K x0 (fs.set i (am (.ol bm l))) rest (kk l) out)
  (og:im (.ListComp Ä [⟨tg,iter,[c],0⟩] sc pos) (am (.Name y px)) ka.line X.env=pure true:=by rfl) (hs:uc X iter:=by intro _;rfl) :
  SF X K x0 fs (.Assign [.Name y px] (.ListComp Ä [⟨tg,iter,[c],0⟩] sc pos) ka::rest) (.bind (.bind wl λl=>lP l λp=>Mi (tf p) (te p)) kk) out:=
 have h1:(bj ix fs)[j]?=am bm:=by unfold bj;rw [Ak,h0];rfl
 SF.M5 (wt:=.ret) (tf:=tf) (te:=te) hc hN xr hx S hi (λcl C s2 H2 fp=>Ug (hg cl C s2 H2 fp)) (λcl C s2 H2 fp t=>xN (hf cl C s2 H2 fp t)) he (λ_=>rfl) (N6 h1) (λm hj=>by rw [AR] at hj;subst hj;exact h0) hr og hs
def JV {wt:PV->W T2}{te:T2->W PV}:(λl=>bI l λp=>.bind (wt p) te)=λl=>lP l λp=>.bind (wt p) λt=>.bind (.ret true) λk=>if k=true then .bind (te t) λv=>.ret (am v) else .ret bm:=funext λl=>by
 rw [wF];rfl
def SF.Ju (hc:X.calm=true) (hN:X.N.Nodup) (xr:X.N[i]?=am y) (hx:X.env.scope.names.lookup y=am .local) (S:aw X.env.scope X.N sc N' ix) (hi:qJ X K fs tg iter wl) (hg:∀cl C s2 H2 fp,GF (fi X sc N' cl C s2 H2 fp) K (bj ix fs) tg is wt cq) (he:∀cl C s2 H2 fp t,EF (fi X sc N' cl C s2 H2 fp) K (cq t) Ä (te t))
  (hl:qI is (bj ix fs) cq/\∀t,hU (cq t) (bj ix fs)) (uD:∀j∈is,ix[j]?=am bm) (hr:∀l,SF X K x0 (fs.set i (am (.ol bm l))) rest (kk l) out)
  (og:im (.ListComp Ä [⟨tg,iter,[],0⟩] sc pos) (am (.Name y px)) ka.line X.env=pure true:=by rfl) (hs:uc X iter:=by intro _;rfl) :
  SF X K x0 fs (.Assign [.Name y px] (.ListComp Ä [⟨tg,iter,[],0⟩] sc pos) ka::rest) (.bind (.bind wl λl=>bI l λp=>.bind (wt p) te) kk) out:=by
 rw [JV];exact SF.M5 (tf:=λ_=>.ret true) hc hN xr hx S hi hg (λ_ _ _ _ _ _=>Ib) he (λp=>rfl) hl uD hr og hs
def SF.k8 {f:PV->W PV} (hc:X.calm=true) (hN:X.N.Nodup) (xr:X.N[i]?=am y) (hx:X.env.scope.names.lookup y=am .local) (S:aw X.env.scope X.N sc N' ix) (hi:qJ X K fs tg iter wl) (hg:∀cl C s2 H2 fp,PG (fi X sc N' cl C s2 H2 fp) tg (dZ j)) (he:∀cl C s2 H2 fp t,EF (fi X sc N' cl C s2 H2 fp) K ((bj ix fs).set j (am (.val t))) Ä (f t)) (h0:ix[j]?=am bm) (hr:∀l,SF X K x0 (fs.set i (am (.ol bm l))) rest (kk l) out)
  (og:im (.ListComp Ä [⟨tg,iter,[],0⟩] sc pos) (am (.Name y px)) ka.line X.env=pure true:=by rfl) (hs:uc X iter:=by intro _;rfl) :
  SF X K x0 fs (.Assign [.Name y px] (.ListComp Ä [⟨tg,iter,[],0⟩] sc pos) ka::rest) (.bind (.bind wl λl=>bI l f) kk) out:=
 have h1:(bj ix fs)[j]?=am bm:=by unfold bj;rw [Ak,h0];rfl
 SF.Ju (wt:=.ret) hc hN xr hx S hi (λcl C s2 H2 fp=>Ug (hg cl C s2 H2 fp)) he (N6 h1) (λm hj=>by rw [AR] at hj;subst hj;exact h0) hr og hs
def SF.U0 (hc:X.calm=true) (hN:X.N.Nodup) (xr:X.N[i]?=am y) (hx:X.env.scope.names.lookup y=am .local) (S:aw X.env.scope X.N sc N' ix) (hi:qJ X K fs tg iter wl) (hg:∀cl C s2 H2 fp,GF (fi X sc N' cl C s2 H2 fp) K (bj ix fs) tg is wt cq) (hf:∀cl C s2 H2 fp t,TF (fi X sc N' cl C s2 H2 fp) K (cq t) c (tf t)) (he:∀cl C s2 H2 fp t,EF (fi X sc N' cl C s2 H2 fp) K (cq t) Ä (te t))
  (hl:qI is (bj ix fs) cq/\∀t,hU (cq t) (bj ix fs)) (uD:∀j∈is,ix[j]?=am bm) (hr:∀l,SF X K x0 (fs.set i (am (.ol bm l))) rest (kk l) out)
  (og:im (.ListComp Ä [⟨tg,iter,[c],0⟩] sc pos) (am (.Name y px)) ka.line X.env=pure true:=by rfl) (hs:uc X iter:=by intro _;rfl) :
  SF X K x0 fs (.Assign [.Name y px] (.ListComp Ä [⟨tg,iter,[c],0⟩] sc pos) ka::rest) (.bind (.bind wl λl=>lP l λp=>.bind (wt p) λt=>Mi (tf t) (te t)) kk) out:=SF.M5 hc hN xr hx S hi hg (λcl C s2 H2 fp t=>xN (hf cl C s2 H2 fp t)) he (λ_=>rfl) hl uD hr og hs
end
def aam {f:ce} (h:∀vs H Q E,¬sp vs H Q E):iZ P w K mg base my k f fd ps sp:=⟨λvs H Q E q=>(h _ _ _ _ q).elim,λA outer s H args us vs Q E _ _ _ _ q=>(h _ _ _ _ q).elim⟩
def QH {m:Tb (List PV) n} (h:∀l Q,l.length=n->¬(ck n m l).run Q):∀vs H Q E,¬fj K ks (ck n m) vs H Q E:=λvs H Q E ⟨l,_,q⟩=>h l _ (kY q) q
theorem a6 (hr:cC k A):A.units+200 < pc:=by have:=hr.un;omega
end
end FL
variable {m:List PL.PV}
namespace FL
section
open PySem PySem.Spec PyProof.Rows L2 PL
variable {K:Ab}
mutual
def PV.j7:PV->Bool
 | .tup l=>eY l
 | .cl l=>eY l
 | .ref _=>false
 | .ty _=>false
 | .dv _ _=>false
 | _=>true
def eY:List PV->Bool
 | []=>true
 | x::l=>PV.j7 x&&eY l
end
mutual
def PV.iq:PV->Nat
 | .tup l=>dC l+1
 | .cl l=>dC l+1
 | _=>0
def dC:List PV->Nat
 | []=>0
 | x::l=>max (PV.iq x) (dC l)
end
mutual
def kg:PV->PV->Bool
 | .aG,.aG=>true
 | .bl a,.bl b=>a==b
 | .bl a,.int b=>(if a then 1 else 0)==b
 | .int a,.bl b=>a==(if b then 1 else 0)
 | .int a,.int b=>a==b
 | .str a,.str b=>a==b
 | .tup l,.tup m=>fW l m
 | .cl l,.cl m=>fW l m
 | _,_=>false
def fW:List PV->List PV->Bool
 | [],[]=>true
 | x::l,y::m=>kg x y&&fW l m
 | _,_=>false
end
theorem tq:∀{l:List PV}{j:Nat}{x:PV},eY l=true->l[j]?=am x->PV.j7 x=true
 | [],_,_,_,e=>by simp at e
 | y::l,0,x,h,e=>by
  simp at e;subst e;rw [eY,AO] at h;exact h.1
 | y::l,j+1,x,h,e=>by
  rw [eY,AO] at h;exact tq h.2 (by simpa using e)
theorem vo:∀{l:List PV}{j:Nat}{x:PV},l[j]?=am x->PV.iq x<=dC l
 | [],_,_,e=>by simp at e
 | y::l,0,x,e=>by
  simp at e;subst e;rw [dC];omega
 | y::l,j+1,x,e=>by
  have:=vo (l:=l) (j:=j) (x:=x) (by simpa using e);rw [dC];omega
mutual
theorem O1:∀(x:PV),PV.j7 x=true->kg x x=true
 | .aG,_=>by rw [kg]
 | .bl b,_=>by rw [kg];simp
 | .int i,_=>by rw [kg];simp
 | .str i,_=>by rw [kg];simp
 | .tup l,h=>by rw [kg];exact lF l (by rw [PV.j7] at h;exact h)
 | .cl l,h=>by rw [kg];exact lF l (by rw [PV.j7] at h;exact h)
 | .ref _,h=>by rw [PV.j7] at h;cases h
 | .ty _,h=>by rw [PV.j7] at h;cases h
 | .dv _ _,h=>by rw [PV.j7] at h;cases h
theorem lF:∀(l:List PV),eY l=true->fW l l=true
 | [],_=>by rw [fW]
 | x::l,h=>by
  rw [eY,AO] at h;rw [fW,O1 x h.1,lF l h.2];rfl
end
def Pc (l m:List PV) (j:Nat):Bool:=match l[j]?,m[j]? with | some x,am y=>kg x y | _,_=>true
theorem oz:∀(l m:List PV),((Az (min l.length m.length)).all (Pc l m)&&l.length==m.length)=fW l m
 | [],[]=>by rw [fW];rfl
 | [],_::_=>by
  rw [fW]
  ·simp
  ·intros;simp_all
  ·intros;simp_all
 | _::_,[]=>by
  rw [fW]
  ·simp
  ·intros;simp_all
  ·intros;simp_all
 | x::l,y::m=>by
  rw [fW,<- oz l m];have e:min (x::l).length (y::m).length=min l.length m.length+1:=by simp only [Ao];omega
  rw [e,List.range_succ_eq_map,List.all_cons,List.all_map];have e2:((x::l).length==(y::m).length)=(l.length==m.length):=by simp
  rw [e2,Bool.and_assoc];rfl
def O0 (h:l.length≠m.length):fW l m=false:=by
 rw [<- oz];have:(l.length==m.length)=false:=by simpa using h
 rw [this,D5]
section
mutual
theorem VR.OX (I:Inv X Z σ H s):∀{v:V}{x y:PV},VR X.K [] H v x->VR X.K [] H v y->x=y
 | _,_,_,.aG,h=>by cases h;rfl
 | _,_,_,.bl b,h=>by cases h;rfl
 | _,_,_,.int b,h=>by cases h;rfl
 | _,_,_,.str b,h=>by cases h;rfl
 | _,_,_,.ty b,h=>by cases h;rfl
 | _,_,_,.ref e,h=>by simp at e
 | _,_,_,.tup e r,h=>by
  cases h with
  | tup e' r'=>
   have ee:=I.k6 (d4.of e) (d4.of e');subst ee;rw [aE.OX I r r']
  | ref e=>simp at e
  | cl e' r'=>
   obtain⟨aq,_,⟨o,n,h1,h2,_⟩,_⟩:=I.list e'.sq;obtain⟨its',_,⟨o',gC,qZ,_⟩,_⟩:=I.tuple (d4.of e);rw [h1] at gC;cases gC;rw [h2] at qZ;simp at qZ
  | dk e' _ _=>rw [e] at e';cases e'
  | dt e' _ _=>rw [e] at e';cases e'
 | _,_,_,.dk e k r,h=>by
  cases h with
  | dk e' k' r'=>rw [e] at e';cases e';rw [k,k',aE.OX I r r']
  | dt e' _ _=>rw [e] at e';cases e'
  | ref e=>simp at e
  | tup e' _=>rw [e] at e';cases e'
  | cl e' r'=>
   obtain⟨aq,_,⟨o,n,h1,h2,_⟩,_⟩:=I.list e'.sq;obtain⟨_,_,vs,_,o',_,_,gC,qZ,_⟩:=vC I.br (.inr ⟨_,e⟩);rw [h1] at gC;cases gC;have h3:=qZ.1;rw [h2] at h3;simp at h3
 | _,_,_,.dt e k r,h=>by
  cases h with
  | dt e' k' r'=>rw [e] at e';cases e';rw [k,k',aE.OX I r r']
  | dk e' _ _=>rw [e] at e';cases e'
  | ref e=>simp at e
  | tup e' _=>rw [e] at e';cases e'
  | cl e' r'=>
   obtain⟨aq,_,⟨o,n,h1,h2,_⟩,_⟩:=I.list e'.sq;obtain⟨_,_,vs,_,o',_,_,gC,qZ,_⟩:=vz I.br (.inr ⟨_,e⟩);rw [h1] at gC;cases gC;have h3:=qZ.1;rw [h2] at h3;simp at h3
 | _,_,_,.cl e r,h=>by
  cases h with
  | dk e' _ _=>
   obtain⟨aq,_,⟨o,n,h1,h2,_⟩,_⟩:=I.list e.sq;obtain⟨_,_,vs,_,o',_,_,gC,qZ,_⟩:=vC I.br (.inr ⟨_,e'⟩);rw [h1] at gC;cases gC;have h3:=qZ.1;rw [h2] at h3;simp at h3
  | dt e' _ _=>
   obtain⟨aq,_,⟨o,n,h1,h2,_⟩,_⟩:=I.list e.sq;obtain⟨_,_,vs,_,o',_,_,gC,qZ,_⟩:=vz I.br (.inr ⟨_,e'⟩);rw [h1] at gC;cases gC;have h3:=qZ.1;rw [h2] at h3;simp at h3
  | cl e' r'=>
   obtain⟨aq,k,⟨o,n,h1,h2,h3,h4⟩,_⟩:=I.list e.sq;obtain⟨its',k',⟨o',n',gC,qZ,OP,WH⟩,_⟩:=I.list e'.sq;rw [h1] at gC;cases gC;rw [h4] at WH;have:aq=its':=by injection WH with a b;simpa using a
   subst this;have ee:=Vals.inj k k';subst ee;rw [aE.OX I r r']
  | ref e=>simp at e
  | tup e' r'=>
   obtain⟨aq,_,⟨o,n,h1,h2,_⟩,_⟩:=I.list e.sq;obtain⟨its',_,⟨o',gC,qZ,_⟩,_⟩:=I.tuple (d4.of e');rw [h1] at gC;cases gC;rw [h2] at qZ;simp at qZ
theorem aE.OX (I:Inv X Z σ H s):∀{v:List V}{x y:List PV},aE X.K [] H v x->aE X.K [] H v y->x=y
 | _,_,_,.nil,h=>by cases h;rfl
 | _,_,_,.cons r t,h=>by
  cases h with
  | cons r' t'=>rw [VR.OX I r r',aE.OX I t t']
end
structure Cmp (A:nw) (s:ci) (w w':bn) (b:Bool):Prop where
 rc:SeqAt.RcAt A s w w' b
 ne:SeqAt.RcNeAt A s w w' (!b)
 eq:Dg A s w w' b
def aaw (I:Inv X Z σ H s) {ws:List V} (r:Vals vs aq) (r':Vals ws its') (r1:aE X.K [] H vs l) (r2:aE X.K [] H ws m)
  (ih:∀(j:Nat) (x y:PV) (v v':V) (w w':bn),l[j]?=am x->m[j]?=am y->VR X.K [] H v x->VR X.K [] H v' y->RelV v w->RelV v' w'->Dg A s w w' (kg x y)) :
  ∀j (g1:j < aq.toArray.size) (g2:j < its'.toArray.size),Dg A s aq.toArray[j] its'.toArray[j] (Pc l m j):=λj g1 g2=>by
 have h1:j < aq.length:=by simpa using g1
 have h2:j < its'.length:=by simpa using g2
 have hl:j < l.length:=by rw [<- r1.length,r.length];exact h1
 have hm:j < m.length:=by rw [<- r2.length,r'.length];exact h2
 obtain⟨v,v1,v2⟩:=r1.get (Ad hl);obtain⟨v',Ye,v2'⟩:=r2.get (Ad hm);obtain⟨u,u1,u2⟩:=r.get v1;obtain⟨u',u1',u2'⟩:=r'.get Ye;rw [Ad h1] at u1;rw [Ad h2] at u1';cases u1;cases u1';unfold Pc;rw [Ad hl,Ad hm];have:=ih j _ _ v v' _ _ (Ad hl) (Ad hm) v2 v2' u2 u2';simpa using this
inductive Sh (X:Cx) (H:Hp) (s:ci):PV->bn->Prop
 | aG:Sh X H s .aG .none
 | bl (b:Bool):Sh X H s (.bl b) (.bool b)
 | int (i:Int) (t:Tok):Sh X H s (.int i) (.int i t)
 | str (x:Str) (t:Tok):Sh X H s (.str x) (.str x t)
 | tup {p:ce}{vs:List V}{aq:List bn}{l:List PV} (e:VR X.K [] H (.ref p) (.tup l)) (k:Vals vs aq) (r:aE X.K [] H vs l) (h:s.heap.IsTuple p aq.toArray):Sh X H s (.tup l) (.ref p)
 | cl {p:ce}{vs:List V}{aq:List bn}{l:List PV} (e:VR X.K [] H (.ref p) (.cl l)) (k:Vals vs aq) (r:aE X.K [] H vs l) (h:s.heap.IsList p aq.toArray):Sh X H s (.cl l) (.ref p)
def Sh.of (I:Inv X Z σ H s) {v:V}{x:PV}{w:bn} (h:VR X.K [] H v x) (r:RelV v w) (d:PV.j7 x=true):Sh X H s x w:=by
 cases h with
 | ref e=>simp at e
 | aG=>cases r;exact .aG
 | bl a=>cases r;exact .bl a
 | int a=>obtain⟨t,rfl⟩:=r;exact .int a t
 | str a=>obtain⟨t,rfl⟩:=r;exact .str a t
 | tup e q=>
  cases r;obtain⟨aq,k,ht,_⟩:=I.tuple (d4.of e);exact .tup (.tup e q) k q ht
 | cl e q=>
  cases r;obtain⟨aq,k,pl,_⟩:=I.list e.sq;exact .cl (.cl e q) k q pl.isList
 | _=>rw [PV.j7] at d;cases d
set_option maxHeartbeats 8000000 in
theorem Xa (hK:X.K=K) (I:Inv X Z σ H s):∀(n:Nat) (x y:PV) (A:nw) (v v':V) (w w':bn),PV.iq x<=n->PV.j7 x=true->PV.j7 y=true->VR K [] H v x->VR K [] H v' y->RelV v w->RelV v' w'->A.units+n+1 < pc->Cmp A s w w' (kg x y):=by
 subst hK;intro n
 induction n using Cy with
 | ind n ih=>
 intro x y A v v' w w' hd dx dy hv hv' r1 r2 hu;have a:=Sh.of I hv r1 dx;have b:=Sh.of I hv' r2 dy;clear hv hv' r1 r2;have el:∀{l m:List PV}{vs ws:List V}{aq cH:List bn},eY l=true->eY m=true->dC l < n->Vals vs aq->Vals ws cH->aE X.K [] H vs l->aE X.K [] H ws m->aq.toArray.size=l.length/\cH.toArray.size=m.length/\∀j (g1:j < aq.toArray.size) (g2:j < cH.toArray.size),Dg A.in1 s aq.toArray[j] cH.toArray[j] (Pc l m j):=λd1 d2 hd k1 k2 r r'=>⟨by rw [Aj,<- k1.length,r.length],by rw [Aj,<- k2.length,r'.length],aaw I (A:=A.in1) k1 k2 r r' λj x y v v' w w' hx hy vx vy rx ry=>(ih _ hd x y A.in1 v v' w w' (vo hx) (tq d1 hx) (tq d2 hy) vx vy rx ry (by show A.units+1+_+1 < _;omega)).eq⟩;have fin:∀{pa pb:ce}{l m:List PV},(pa=pb->l=m)->eY l=true->SeqAt.RcAt A s (.ref pa) (.ref pb) (fW l m)->Dg A s (.ref pa) (.ref pb) (fW l m):=λ{pa pb l m} h d q=>by
  by_cases OO:pa=pb
  ·rw [h OO,lF _ (h OO▸d),OO];exact Fy _
  ·exact Fj OO q
 cases a <;> cases b
 case tup.tup pa vs aq l e k r ht pb ws cH m e2 k2 r2 HP=>
  rw [PV.iq] at hd;obtain⟨z1,z2,ie⟩:=el dx dy ∅ k k2 r r2;have q1:=Fo ht HP (A:=A) ∅ ie;have q2:=SeqAt.RcNeAt.tuples ht HP (A:=A) ∅ ie;rw [z1,z2,oz] at q1 q2;exact⟨q1,q2,fin (λz=>by subst z;have:=VR.OX I e e2;injection this) dx q1⟩
 case cl.cl pa vs aq l e k r ht pb ws cH m e2 k2 r2 HP=>
  rw [PV.iq] at hd;obtain⟨z1,z2,ie⟩:=el dx dy ∅ k k2 r r2;by_cases hz:l.length=m.length
  ·have q1:=Fu ht HP (by rw [z1,z2];exact hz) (A:=A) ∅ ie;have q2:=Fi ht HP (by rw [z1,z2];exact hz) (A:=A) ∅ ie;have ef:(Az l.length).all (Pc l m)=fW l m:=by rw [<- oz,hz,Nat.min_self,beq_self_eq_true,Bool.and_true]
   rw [z1,ef] at q1 q2;exact⟨q1,q2,fin (λz=>by subst z;have:=VR.OX I e e2;injection this) dx q1⟩
  ·have q1:=Ed (A:=A) ht HP (by rw [z1,z2];simpa using hz) ∅;have q2:=DQ (A:=A) ht HP (by rw [z1,z2];simpa using hz) ∅;have ef:=O0 hz;rw [<- ef] at q1;have q2:SeqAt.RcNeAt A s (.ref pa) (.ref pb) (!fW l m):=by rw [ef];exact q2
   exact⟨q1,q2,fin (λz=>by subst z;have:=VR.OX I e e2;injection this) dx q1⟩
 all_goals
  clear ih el fin;rw [kg] <;> try (intros;simp_all;done)
  refine⟨?_,?_,?_⟩ <;> (try simp only [CB,E6]) <;> first | with_reducible exact .none_none | with_reducible exact .none_bool _ | with_reducible exact .none_int _ _ | with_reducible exact .none_str _ _ | with_reducible exact .none_tuple ‹_› ∅ | with_reducible exact .none_list ‹_› ∅ | with_reducible exact .bool_none _ | with_reducible exact .bool_str _ _ _ | with_reducible exact .bool_tuple _ ‹_› ∅ | with_reducible exact .bool_list _ ‹_› ∅ | with_reducible exact .int_none _ _ | with_reducible exact .int_str _ _ _ _ | with_reducible exact .int_tuple _ _ ‹_› ∅ | with_reducible exact .int_list _ _ ‹_› ∅ | with_reducible exact .str_none _ _ | with_reducible exact .str_bool _ _ _ | with_reducible exact .str_int _ _ _ _ | with_reducible exact .str_tuple _ _ ‹_› ∅ | with_reducible exact .str_list _ _ ‹_› ∅ | with_reducible exact .tuple_none ‹_› ∅ | with_reducible exact .tuple_bool _ ‹_› ∅ | with_reducible exact .tuple_int _ _ ‹_› ∅ | with_reducible exact .tuple_str _ _ ‹_› ∅ | with_reducible exact .tuple_list ‹_› ‹_› ∅ | with_reducible exact .list_none ‹_› ∅ | with_reducible exact .list_bool _ ‹_› ∅ | with_reducible exact .list_int _ _ ‹_› ∅ | with_reducible exact .list_str _ _ ‹_› ∅ | with_reducible exact .list_tuple ‹_› ‹_› ∅ | exact .same _ | exact .bool_bool _ _ | exact .bool_int _ _ _ | exact .int_bool _ _ _ | exact .int_int _ _ _ _ | exact .str_str _ _ _ _
end
end
section
open PySem PySem.Spec PyProof.Rows L2 PL
variable {K:Ab}
mutual
theorem VR.nJ {ι:List ce}{H:Hp}:∀{v:V}{q:PV},VR K ι H v q->PV.j7 q=true->VR K [] H v q
 | _,_,.aG,_=>.aG
 | _,_,.bl b,_=>.bl b
 | _,_,.int i,_=>.int i
 | _,_,.str x,_=>.str x
 | _,_,.ty n,h=>by rw [PV.j7] at h;cases h
 | _,_,.dk _ _ _,h=>by rw [PV.j7] at h;cases h
 | _,_,.dt _ _ _,h=>by rw [PV.j7] at h;cases h
 | _,_,.tup e r,h=>.tup e (aE.nJ r (by rw [PV.j7] at h;exact h))
 | _,_,.cl e r,h=>.cl e (aE.nJ r (by rw [PV.j7] at h;exact h))
 | _,_,.ref e,h=>by rw [PV.j7] at h;cases h
theorem aE.nJ {ι:List ce}{H:Hp}:∀{v:List V}{q:List PV},aE K ι H v q->eY q=true->aE K [] H v q
 | _,_,.nil,_=>.nil
 | _,_,.cons r s,h=>by
  rw [eY,AO] at h;exact .cons (VR.nJ r h.1) (aE.nJ s h.2)
end
def LL (x y:PV):Prop:=PV.j7 x=true/\PV.j7 y=true/\PV.iq x<=150
def iK:M2:=⟨λx y h Q=>LL x y/\Q (.bl (kg x y)) h,λf q=>⟨q.1,f _ _ q.2⟩⟩
def Hf:M2:=⟨λx y h Q=>LL x y/\Q (.bl (!kg x y)) h,λf q=>⟨q.1,f _ _ q.2⟩⟩
def QS (K:Ab) (neg:Bool):R2:=λu v H Q=>∃x y,VR K [] H u x/\VR K [] H v y/\LL x y/\Q (.bl (if neg then !kg x y else kg x y)) H
section
theorem VF (hK:X.K=K) (hu:X.A.units+200 < pc):iC X (mo .Eq) (QS K false):=λZ s σ H u v w w' Q I r1 r2 ⟨x,y,h1,h2,⟨o1,o2,o3⟩,q⟩=>by
 exact EJ (Xa hK I 150 x y X.A u v w w' o3 o1 o2 h1 h2 r1 r2 ∅).rc ⟨.bl _,H,I,rfl,q⟩
theorem VC (hK:X.K=K) (hu:X.A.units+200 < pc):iC X (mo .NotEq) (QS K true):=λZ s σ H u v w w' Q I r1 r2 ⟨x,y,h1,h2,⟨o1,o2,o3⟩,q⟩=>by
 exact Ea (Xa hK I 150 x y X.A u v w w' o3 o1 o2 h1 h2 r1 r2 ∅).ne ⟨.bl _,H,I,rfl,q⟩
def Rv:M2.Ok K (QS K false) iK:=λ{ι H h u v x y Q} hr hu hv q=>⟨x,y,VR.nJ hu q.1.1,VR.nJ hv q.1.2.1,q.1,q.2 ι _ H (Go.refl _ _) hr (.bl _)⟩
def Rr:M2.Ok K (QS K true) Hf:=λ{ι H h u v x y Q} hr hu hv q=>⟨x,y,VR.nJ hu q.1.1,VR.nJ hv q.1.2.1,q.1,q.2 ι _ H (Go.refl _ _) hr (.bl _)⟩
def iQ (hK:X.K=K) (hu:X.A.units+200 < pc):JC X K .Eq b iK:=⟨⟨_,VF hK hu,Rv⟩,kx _⟩
def TY (hK:X.K=K) (hu:X.A.units+200 < pc):JC X K .NotEq b Hf:=⟨⟨_,VC hK hu,Rr⟩,kx _⟩
end
end
end FL
variable {x:AZ}{b b1:Bool}{ys:Array AZ}{z i1 i2 a1 a2:BC}{k1:Nat}
namespace L2
open PySem PySem.Spec PyProof.Rows
def tX (b:Bool) (h:lf) (it a:ce) (k:Nat):Prop:=match b with
 | true=>h.IsListIter it a k
 | false=>h.IsTupleIter it a k
def iy (b:Bool) (h:lf) (a:ce) (xs:Array bn):Prop:=match b with
 | true=>h.IsList a xs
 | false=>h.IsTuple a xs
def tX.move (x:tX b h it a k) (g:∀o,h.get? it=am o->h'.get? it=am o):tX b h' it a k:=by
 cases b with
 | true=>obtain⟨o,e,p⟩:=(show h.IsListIter it a k from x);exact (show h'.IsListIter it a k from⟨o,g o e,p⟩)
 | false=>obtain⟨o,e,p⟩:=(show h.IsTupleIter it a k from x);exact (show h'.IsTupleIter it a k from⟨o,g o e,p⟩)
def iy.move (x:iy b h a xs) (g:∀o,h.get? a=am o->h'.get? a=am o):iy b h' a xs:=by
 cases b with
 | true=>obtain⟨o,e,p⟩:=(show h.IsList a xs from x);exact (show h'.IsList a xs from⟨o,g o e,p⟩)
 | false=>obtain⟨o,e,p⟩:=(show h.IsTuple a xs from x);exact (show h'.IsTuple a xs from⟨o,g o e,p⟩)
def tX.obj (x:tX b h it a k):∃o,h.get? it=am o/\∀v,o.data≠.cell v:=by
 cases b with
 | true=>obtain⟨o,e,_,d⟩:=(show h.IsListIter it a k from x);exact⟨o,e,λv z=>by rw [d] at z;cases z⟩
 | false=>obtain⟨o,e,_,d⟩:=(show h.IsTupleIter it a k from x);exact⟨o,e,λv z=>by rw [d] at z;cases z⟩
def iy.lt (x:iy b h a xs):a < h.objs.size:=by
 cases b with
 | true=>obtain⟨o,e,p⟩:=(show h.IsList a xs from x);exact Ar e
 | false=>obtain⟨o,e,p⟩:=(show h.IsTuple a xs from x);exact Ar e
section
def kA {t:ce} (h:tX b s.heap it t i) (ht:iy b s.heap t items) (hx:items[i]?=am x)
  (q:∀h':lf,tX b h' it t (i+1)->B8 it s.heap h'->Q x {s with heap:=h'}):db (dL prog w) A (Builtin.SmallTypes.nextOf (.ref it)) Q E s:=by
 cases b with
 | true=>exact wpAny_nextOf_list_item h ht hx λh' a b=>q h' a b
 | false=>exact gT h ht hx q
def sh {t:ce} (hA:A.handled=bm) (h:tX b s.heap it t i) (ht:iy b s.heap t items) (hx:items[i]?=bm)
  (q:∀(h':lf) (e:ce),Fx it s.heap h'->(∃o,h'.get? e=am o/\o.cls=.type "StopIteration")->E (.ref e) {s with heap:=h'}):db (dL prog w) A (Builtin.SmallTypes.nextOf (.ref it)) Q E s:=by
 cases b with
 | true=>exact wpAny_nextOf_list_end hA h ht hx λh' e a b=>q h' e a b
 | false=>exact iL hA h ht hx q
def Lu:Bool->String
 | true=>"list_iterator"
 | false=>"tuple_iterator"
def uX (h:iy b s.heap a xs) (q:Q (.ref s.heap.objs.size) {s with heap:=s.heap.push {cls:=.type (Lu b),data:=.fields #[.ref a,.int 0 0]}}):db (dL prog w) A (pyIter (.ref a)) Q E s:=by
 cases b with
 | true=>exact C4 h q
 | false=>exact DW h q
def Jn (e:h.get? it=am {cls:=.type (Lu b),data:=.fields #[.ref a,.int 0 0]}):tX b h it a 0:=by
 cases b with
 | true=>exact (show h.IsListIter it a 0 from⟨_,e,rfl,rfl⟩)
 | false=>exact (show h.IsTupleIter it a 0 from⟨_,e,rfl,rfl⟩)
end
structure jQ (b1 b2:Bool) (h:lf) (z TI TO i1 i2 a1 a2:ce) (f0:bn) (k1 k2:Nat):Prop where
 zip:IsZip h z TI TO f0
 ti:IsPair h TI (.ref i1) (.ref i2)
 to:∃a b,IsPair h TO a b
 it1:tX b1 h i1 a1 k1
 it2:tX b2 h i2 a2 k2
def rq {E:bn->ci->Prop}{b2:Bool}{TI TO:ce}{y:bn} (hA:ZipApart z TI TO i1 i2 a1 a2)
  (hz:jQ b1 b2 s.heap z TI TO i1 i2 a1 a2 .none k1 k2) (T9:iy b1 s.heap a1 xs) (HP:iy b2 s.heap a2 ys) (hx:xs[k1]?=am x) (hy:ys[k2]?=am y)
  (q:∀h':lf,jQ b1 b2 h' z TI TO i1 i2 a1 a2 (ul s.heap.objs.size) (k1+1) (k2+1)->IsPair h' s.heap.objs.size x y->(∀c o,c≠z->c≠TO->c≠i1->c≠i2->s.heap.get? c=am o->h'.get? c=am o)->Q (.ref s.heap.objs.size) {s with heap:=h'}) :
  db (dL prog w) A (u8.«zip.__next__» {pos:=[.ref z]}) (λfin s'=>∃v,fin=EY (Fz v)/\Q v s') E s:=by
 obtain⟨hz,R9,⟨ta,tb,Ĕ⟩,þ,XI⟩:=hz;show db _ _ (field (.ref z) 2 >>= λr=>_) _ _ s;refine Aa (A4 hz rfl rfl ?_);refine Aa (A4 hz rfl rfl ?_);refine Aa (Bq R9 rfl ?_);refine Aa ?_;refine Aa (A4 hz rfl rfl ?_);refine Ae ?_;refine Aa (CZ ?_);refine Aa (A4 hz rfl rfl ?_);show db _ _ (wn (.ref z) 0 .ellipsis >>= λr=>_) _ _ s;refine Aa (AX hz (show 0 < 5 by decide) λh1 z1 b1=>?_);show db _ _ ((forIn [(Ax i1,0),(Ax i2,1)] _ _) >>= λr=>_) _ _ _;refine Aa ?_;rw [BO];have uE:=b1.2;refine Aa ?_;refine Aa (Ef ?_);refine Aa (kA (þ.move λo e=>(uE _ hA.i1z).trans e) (T9.move λo e=>(uE _ hA.l1z).trans e) hx λh2 j2 b2=>Ae ?_);have OQ:∀b,b≠z->b≠i1->h2.get? b=s.heap.get? b:=λb n1 n2=>(b2.2 b n2).trans (uE b n1);have à:=(OQ _ hA.TOz hA.TOi1).trans Ĕ;refine Aa (Bq à rfl ?_);refine Aa (Dv à λh3 t3 b3=>?_);have Í:∀b,b≠z->b≠i1->b≠TO->h3.get? b=s.heap.get? b:=λb n1 n2 n3=>(b3.2 b n3).trans (OQ b n1 n2);refine Aa (Cs (Ae ?_));show db _ _ (forIn [(Ax i2,1)] _ _) _ _ _;rw [BO];refine Aa ?_;refine Aa (Ef ?_);refine Aa (kA (XI.move λo e=>(Í _ hA.i2z hA.i12.symm hA.TOi2.symm).trans e) (HP.move λo e=>(Í _ hA.l2z hA.l2i1 hA.l2TO).trans e) hy λh4 j4 b4=>Ae ?_);have to4:=(b4.2 _ hA.TOi2).trans t3;refine Aa (Bq to4 rfl ?_);refine Aa (Dv to4 λh5 t5 b5=>?_);have to5:=t5;refine Aa (Cs (Ae ?_));refine Ae ?_;refine Aa (Bq to5 rfl ?_);have Ĉ:=b5.1.trans (b4.1.trans (b3.1.trans (b2.1.trans b1.1)));refine Aa (CK ?_ (by show 2<=sizeLine;decide));have aad:∀b,b≠z->b≠i1->b≠TO->b≠i2->h5.get? b=s.heap.get? b:=λb n1 n2 n3 n4=>(b5.2 b n3).trans ((b4.2 b n4).trans (Í b n1 n2 n3));have z5:h5.get? z=am {cls:=.type "zip",data:=.fields #[.ellipsis,.bool false,.bool false,.ref TI,.ref TO]}:=(b5.2 _ hA.TOz.symm).trans ((b4.2 _ hA.i2z.symm).trans ((b3.2 _ hA.TOz.symm).trans ((b2.2 _ hA.i1z.symm).trans z1)));have kp:∀b o,h5.get? b=am o->(h5.push {cls:=.type "tuple",data:=.seq #[x,y]}).get? b=am o:=λb o e=>Ag _ e;have ada:(h5.push {cls:=.type "tuple",data:=.seq #[x,y]}).get? h5.objs.size=am {cls:=.type "tuple",data:=.seq #[x,y]}:=Ap _ rfl;refine Aa ?_;show db _ _ (wn (.ref z) 0 (ul h5.objs.size) >>= λ_=>wn (.ref z) 1 (.bool false)) _ _ _;refine Aa (AX (kp _ _ z5) (show 0 < 5 by decide) λh7 z7 b7=>?_);refine AX z7 (show 1 < 5 by decide) λh8 z8 b8=>?_;have LI:∀b,b≠z->h8.get? b=(h5.push {cls:=.type "tuple",data:=.seq #[x,y]}).get? b:=λb n=>(b8.2 b n).trans (b7.2 b n);have nz:s.heap.objs.size≠z:=λe=>by have:=Ar hz;rw [<- e] at this;exact AU _ this
 refine Ae ⟨.ref h5.objs.size,rfl,?_⟩;rw [Ĉ];refine q h8 ⟨?_,?_,?_,?_,?_⟩ ?_ ?_
 ·rw [<- Ĉ];exact z8
 ·rw [IsPair,LI _ hA.TIz];exact kp _ _ ((aad _ hA.TIz hA.TIi1 hA.TITO hA.TIi2).trans R9)
 ·exact⟨x,y,by rw [IsPair,LI _ hA.TOz];exact kp _ _ to5⟩
 ·refine j2.move λo e=>?_;rw [LI _ hA.i1z];exact kp _ _ ((b5.2 _ hA.TOi1.symm).trans ((b4.2 _ hA.i12).trans ((b3.2 _ hA.TOi1.symm).trans e)))
 ·refine j4.move λo e=>?_;rw [LI _ hA.i2z];exact kp _ _ ((b5.2 _ hA.TOi2.symm).trans e)
 ·rw [IsPair,LI _ nz,<- Ĉ];exact ada
 ·intro c o n1 n2 n3 n4 e;rw [LI _ n1];exact kp _ _ ((aad _ n1 n3 n2 n4).trans e)
def ud {b2:Bool}{TI TO:ce}{Q:PySem.Fin->ci->Prop} (hh:A.handled=bm) (hA:ZipApart z TI TO i1 i2 a1 a2)
  (hz:jQ b1 b2 s.heap z TI TO i1 i2 a1 a2 .none k1 k2) (T9:iy b1 s.heap a1 xs) (HP:iy b2 s.heap a2 ys) (hx:xs[k1]?=bm\/ys[k2]?=bm)
  (q:∀(h':lf) (e:ce),(∀c o,c≠z->c≠TO->c≠i1->c≠i2->s.heap.get? c=am o->h'.get? c=am o)->(∃o,h'.get? e=am o/\o.cls=.type "StopIteration")->E (.ref e) {s with heap:=h'}) :
  db (dL prog w) A (u8.«zip.__next__» {pos:=[.ref z]}) Q E s:=by
 obtain⟨hz,R9,⟨ta,tb,Ĕ⟩,þ,XI⟩:=hz;show db _ _ (field (.ref z) 2 >>= λr=>_) _ _ s;refine Aa (A4 hz rfl rfl ?_);refine Aa (A4 hz rfl rfl ?_);refine Aa (Bq R9 rfl ?_);refine Aa ?_;refine Aa (A4 hz rfl rfl ?_);refine Ae ?_;refine Aa (CZ ?_);refine Aa (A4 hz rfl rfl ?_);show db _ _ (wn (.ref z) 0 .ellipsis >>= λr=>_) _ _ s;refine Aa (AX hz (show 0 < 5 by decide) λh1 z1 b1'=>?_);show db _ _ ((forIn [(Ax i1,0),(Ax i2,1)] _ _) >>= λr=>_) _ _ _;refine Aa ?_;rw [BO];have uE:=b1'.2;refine Aa ?_;refine Aa (Ef ?_);have fin:∀{h2:lf}{e:ce},h2.get? z=am {cls:=.type "zip",data:=.fields #[.ellipsis,.bool false,.bool false,.ref TI,.ref TO]}->(∃o,h2.get? e=am o/\o.cls=.type "StopIteration")->(∀c o,c≠z->c≠TO->c≠i1->c≠i2->s.heap.get? c=am o->h2.get? c=am o)->db (dL prog w) A (wn (.ref z) 0 .none) (λ_ s'=>E (.ref e) s') (λ_ _=>True) {s with heap:=h2}:=λ{h2 e} z2 ex k=>by
  refine AX z2 (show 0 < 5 by decide) λh3 z3 b3=>?_;refine q h3 e (λc o n1 n2 n3 n4 ec=>?_) ?_
  ·rw [b3.2 _ n1];exact k c o n1 n2 n3 n4 ec
  ·obtain⟨o,eo,hc⟩:=ex;by_cases he:e=z
   ·subst he;rw [z2] at eo;cases eo;exact absurd (show BR "zip"=BR "StopIteration" from hc) ⋯
   ·exact⟨o,(b3.2 _ he).trans eo,hc⟩
 cases hx1:xs[k1]? with
 | none=>
  refine Aa (sh hh (þ.move λo e=>(uE _ hA.i1z).trans e) (T9.move λo e=>(uE _ hA.l1z).trans e) hx1 λh2 e k ex=>?_);have z2:h2.get? z=am {cls:=.type "zip",data:=.fields #[.ellipsis,.bool false,.bool false,.ref TI,.ref TO]}:=k _ _ hA.i1z.symm z1;refine AX z2 (show 0 < 5 by decide) λh3 z3 b3=>?_;refine q h3 e (λc o n1 n2 n3 n4 ec=>?_) ?_
  ·rw [b3.2 _ n1];exact k _ _ n3 ((uE _ n1).trans ec)
  ·obtain⟨o,eo,hc⟩:=ex;by_cases he:e=z
   ·subst he;rw [z2] at eo;cases eo;exact absurd (show BR "zip"=BR "StopIteration" from hc) ⋯
   ·exact⟨o,(b3.2 _ he).trans eo,hc⟩
 | some x=>
  have hy:ys[k2]?=bm:=by
   rcases hx with h | h
   ·rw [hx1] at h;cases h
   ·exact h
  refine Aa (kA (þ.move λo e=>(uE _ hA.i1z).trans e) (T9.move λo e=>(uE _ hA.l1z).trans e) hx1 λh2 j2 Ą=>Ae ?_);have OQ:∀b,b≠z->b≠i1->h2.get? b=s.heap.get? b:=λb n1 n2=>(Ą.2 b n2).trans (uE b n1);have à:=(OQ _ hA.TOz hA.TOi1).trans Ĕ;refine Aa (Bq à rfl ?_);refine Aa (Dv à λh3 t3 b3=>?_);have Í:∀b,b≠z->b≠i1->b≠TO->h3.get? b=s.heap.get? b:=λb n1 n2 n3=>(b3.2 b n3).trans (OQ b n1 n2);refine Aa (Cs (Ae ?_));refine Aa ?_;refine Aa (Ef ?_);show db _ _ (Builtin.SmallTypes.nextOf (.ref i2) >>= λv=>pure (am v)) _ _ _;refine Aa (sh hh (XI.move λo e=>(Í _ hA.i2z hA.i12.symm hA.TOi2.symm).trans e) (HP.move λo e=>(Í _ hA.l2z hA.l2i1 hA.l2TO).trans e) hy λh4 e k ex=>?_);have z4:h4.get? z=am {cls:=.type "zip",data:=.fields #[.ellipsis,.bool false,.bool false,.ref TI,.ref TO]}:=k _ _ hA.i2z.symm ((b3.2 _ hA.TOz.symm).trans ((Ą.2 _ hA.i1z.symm).trans z1));refine AX z4 (show 0 < 5 by decide) λh5 z5 b5=>?_;refine q h5 e (λc o n1 n2 n3 n4 ec=>?_) ?_
  ·rw [b5.2 _ n1];exact k _ _ n4 ((Í _ n1 n3 n2).trans ec)
  ·obtain⟨o,eo,hc⟩:=ex;by_cases he:e=z
   ·subst he;rw [z4] at eo;cases eo;exact absurd (show BR "zip"=BR "StopIteration" from hc) ⋯
   ·exact⟨o,(b5.2 _ he).trans eo,hc⟩
def pj {b2:Bool}{TI TO:ce}{y:bn}{Q:Option bn->ci->Prop} (hA:ZipApart z TI TO i1 i2 a1 a2)
  (hz:jQ b1 b2 s.heap z TI TO i1 i2 a1 a2 .none k1 k2) (T9:iy b1 s.heap a1 xs) (HP:iy b2 s.heap a2 ys) (hx:xs[k1]?=am x) (hy:ys[k2]?=am y)
  (q:∀h':lf,jQ b1 b2 h' z TI TO i1 i2 a1 a2 (ul s.heap.objs.size) (k1+1) (k2+1)->IsPair h' s.heap.objs.size x y->(∀c o,c≠z->c≠TO->c≠i1->c≠i2->s.heap.get? c=am o->h'.get? c=am o)->Q (am (.ref s.heap.objs.size)) {s with heap:=h'}) :
  db (dL prog w) A (pyNext (.ref z)) Q E s:=by
 have ty:s.TypeIs (.ref z) "zip":=⟨_,hz.zip,rfl⟩;refine Aa (CV (A5 ty Dy (Bl Dy ty F.entry_zip_next ?_ (F.args_zip_next_1 _))));exact rq hA hz T9 HP hx hy λh' a b c=>Ae (q h' a b c)
def qr {b2:Bool}{TI TO:ce}{Q:Option bn->ci->Prop} (hh:A.handled=bm) (hA:ZipApart z TI TO i1 i2 a1 a2)
  (hz:jQ b1 b2 s.heap z TI TO i1 i2 a1 a2 .none k1 k2) (T9:iy b1 s.heap a1 xs) (HP:iy b2 s.heap a2 ys) (hx:xs[k1]?=bm\/ys[k2]?=bm)
  (q:∀h':lf,(∀c o,c≠z->c≠TO->c≠i1->c≠i2->s.heap.get? c=am o->h'.get? c=am o)->Q bm {s with heap:=h'}) :
  db (dL prog w) A (pyNext (.ref z)) Q E s:=by
 have ty:s.TypeIs (.ref z) "zip":=⟨_,hz.zip,rfl⟩;refine Aa (CV (A5 ty Dy (Bl Dy ty F.entry_zip_next ?_ (F.args_zip_next_1 _))));refine ud (A:=A.in1) hh hA hz T9 HP hx λh' e k ex=>?_;obtain⟨o,eo,hc⟩:=ex;refine Aa (Dj (T:="StopIteration") ⟨o,eo,hc⟩ isSubtype_stop ?_);exact Ae (q h' k)
def sk (b1 b2:Bool) (a1 a2:ce) (xs ys:Array bn):Meets (u8.«zip.__new__» {pos:=[.type "zip",.ref a1,.ref a2]}) (λ_ R s=>iy b1 s.heap a1 xs/\iy b2 s.heap a2 ys/\
  ∀h':lf,jQ b1 b2 h' (s.heap.objs.size+4) (s.heap.objs.size+2) (s.heap.objs.size+3) s.heap.objs.size (s.heap.objs.size+1) a1 a2 .none 0 0->(∀b o,s.heap.get? b=am o->h'.get? b=am o)->R (.ok (.ret (.ref (s.heap.objs.size+4)))) {s with heap:=h'}):=
 .of_wp λprog w A R s h=>by
  obtain⟨h1,h2,q⟩:=h;refine Aa ?_;refine Aa (Cr (a:=true) rfl ?_);refine Aa (Cr sub_zip ?_);refine Ae ?_;refine Aa ?_;refine Aa ?_;rw [BO];refine Aa ?_;refine Aa (Bk (uX h1 (Ae ?_)));have k1:∀b o,s.heap.get? b=am o->(s.heap.push {cls:=.type (Lu b1),data:=.fields #[.ref a1,.int 0 0]}).get? b=am o:=λb o e=>Ag _ e;have g1:(s.heap.push {cls:=.type (Lu b1),data:=.fields #[.ref a1,.int 0 0]}).get? s.heap.objs.size=am {cls:=.type (Lu b1),data:=.fields #[.ref a1,.int 0 0]}:=Ap _ rfl;have z1:(s.heap.push {cls:=.type (Lu b1),data:=.fields #[.ref a1,.int 0 0]}).objs.size=s.heap.objs.size+1:=Cn ..;generalize s.heap.push {cls:=.type (Lu b1),data:=.fields #[.ref a1,.int 0 0]}=xo at k1 g1 z1 ⊢;show db _ _ (forIn [Ax a2] _ _) _ _ _;rw [BO];refine Aa ?_;refine Aa (Bk (uX (xs:=ys) (h2.move λo e=>k1 _ _ e) (Ae ?_)));show db _ _ (forIn [] _ _) _ _ _;rw [List.forIn_nil];refine Ae (Ae ?_);have k2:∀b o,xo.get? b=am o->(xo.push {cls:=.type (Lu b2),data:=.fields #[.ref a2,.int 0 0]}).get? b=am o:=λb o e=>Ag _ e;have g2:(xo.push {cls:=.type (Lu b2),data:=.fields #[.ref a2,.int 0 0]}).get? xo.objs.size=am {cls:=.type (Lu b2),data:=.fields #[.ref a2,.int 0 0]}:=Ap _ rfl;have z2:(xo.push {cls:=.type (Lu b2),data:=.fields #[.ref a2,.int 0 0]}).objs.size=xo.objs.size+1:=Cn ..;show db _ _ (newTuple [.ref s.heap.objs.size,.ref xo.objs.size] >>= λr=>_) _ _ {s with heap:=xo.push {cls:=.type (Lu b2),data:=.fields #[.ref a2,.int 0 0]}};generalize xo.push {cls:=.type (Lu b2),data:=.fields #[.ref a2,.int 0 0]}=xn at k2 g2 z2 ⊢;refine Aa (CK ?_ (by show 2<=sizeLine;decide));have k3:∀b o,xn.get? b=am o->(xn.push {cls:=.type "tuple",data:=.seq [Ax s.heap.objs.size,Ax xo.objs.size].toArray}).get? b=am o:=λb o e=>Ag _ e;have g3:(xn.push {cls:=.type "tuple",data:=.seq [Ax s.heap.objs.size,Ax xo.objs.size].toArray}).get? xn.objs.size=am {cls:=.type "tuple",data:=.seq #[.ref s.heap.objs.size,.ref xo.objs.size]}:=Ap _ rfl;have z3:(xn.push {cls:=.type "tuple",data:=.seq [Ax s.heap.objs.size,Ax xo.objs.size].toArray}).objs.size=xn.objs.size+1:=Cn ..;show db _ _ (newTuple [.none,.none] >>= λr=>_) _ _ {s with heap:=xn.push {cls:=.type "tuple",data:=.seq [Ax s.heap.objs.size,Ax xo.objs.size].toArray}};generalize xn.push {cls:=.type "tuple",data:=.seq [Ax s.heap.objs.size,Ax xo.objs.size].toArray}=LA at k3 g3 z3 ⊢;refine Aa (CK ?_ (by show 2<=sizeLine;decide));have k4:∀b o,LA.get? b=am o->(LA.push {cls:=.type "tuple",data:=.seq [AM,AM].toArray}).get? b=am o:=λb o e=>Ag _ e;have g4:(LA.push {cls:=.type "tuple",data:=.seq [AM,AM].toArray}).get? LA.objs.size=am {cls:=.type "tuple",data:=.seq #[.none,.none]}:=Ap _ rfl;have z4:(LA.push {cls:=.type "tuple",data:=.seq [AM,AM].toArray}).objs.size=LA.objs.size+1:=Cn ..;show db _ _ (newObj (.type "zip") (.fields #[.none,.bool false,.bool false,.ref xn.objs.size,.ref LA.objs.size]) >>= λr=>_) _ _ {s with heap:=LA.push {cls:=.type "tuple",data:=.seq [AM,AM].toArray}};generalize LA.push {cls:=.type "tuple",data:=.seq [AM,AM].toArray}=XE at k4 g4 z4 ⊢;refine Aa (A1 ?_ (by simp [sizeOk];decide));have k5:∀b o,XE.get? b=am o->(XE.push {cls:=.type "zip",data:=.fields #[.none,.bool false,.bool false,.ref xn.objs.size,.ref LA.objs.size]}).get? b=am o:=λb o e=>Ag _ e;have g5:(XE.push {cls:=.type "zip",data:=.fields #[.none,.bool false,.bool false,.ref xn.objs.size,.ref LA.objs.size]}).get? XE.objs.size=am {cls:=.type "zip",data:=.fields #[.none,.bool false,.bool false,.ref xn.objs.size,.ref LA.objs.size]}:=Ap _ rfl;have e1:=z1;have e2:xn.objs.size=s.heap.objs.size+2:=by rw [z2,e1]
  have e3:LA.objs.size=s.heap.objs.size+3:=by rw [z3,e2]
  have e4:XE.objs.size=s.heap.objs.size+4:=by rw [z4,e3]
  refine Ae ⟨.ref XE.objs.size,rfl,?_⟩;rw [e2,e3] at g5 k5 ⊢;rw [e4] at g5 ⊢;rw [e3] at g4;rw [e1,e2] at g3;rw [e1] at g2;refine q _ ⟨g5,k5 _ _ (k4 _ _ g3),⟨_,_,k5 _ _ g4⟩,Jn (k5 _ _ (k4 _ _ (k3 _ _ (k2 _ _ g1)))),Jn (k5 _ _ (k4 _ _ (k3 _ _ g2)))⟩ λb o e=>k5 _ _ (k4 _ _ (k3 _ _ (k2 _ _ (k1 _ _ e))))
def LZ {b2:Bool} (h1:iy b1 s.heap a1 xs) (h2:iy b2 s.heap a2 ys)
  (q:∀h':lf,jQ b1 b2 h' (s.heap.objs.size+4) (s.heap.objs.size+2) (s.heap.objs.size+3) s.heap.objs.size (s.heap.objs.size+1) a1 a2 .none 0 0->(∀b o,s.heap.get? b=am o->h'.get? b=am o)->Q (.ref (s.heap.objs.size+4)) {s with heap:=h'}) :
  db (dL prog w) A (call (.type "zip") [.ref a1,.ref a2]) Q E s:=
 callType_new F.called_zip ⋯ (F.typeCall_zip_2 _ _) (F.newCall_zip_2 _ _) (λo=>F.args_object_init_3 o _ _) F.entry_zip_new (sk b1 b2 a1 a2 xs ys) ⟨h1,h2,λh' z k=>⟨⟨_,z.zip,rfl⟩,q h' z k⟩⟩
def Mm (b:Bool) (K:Ab) (H:Hp) (a:ce) (xs:List V):Prop:=match b with
 | true=>c7 K H a xs
 | false=>d4 K H a xs
def Inv.Xw {xs:List V} (I:Inv X Z σ H s) (h:Mm b X.K H a xs):∃aq:List bn,Vals xs aq/\iy b s.heap a aq.toArray/\xs.length<=sizeLine:=by
 cases b with
 | true=>obtain⟨aq,r,p,z⟩:=I.list (show c7 X.K H a xs from h);exact⟨aq,r,p.isList,z⟩
 | false=>obtain⟨aq,r,p,z⟩:=I.tuple (show d4 X.K H a xs from h);exact⟨aq,r,p,z⟩
def Inv.Jm {xs ys:List V} (I:Inv X Z σ H s) (h:Mm b X.K H a xs) (h':Mm b X.K H a ys):xs=ys:=by
 cases b with
 | true=>
  obtain⟨aq,k,⟨o,n,h1,h2,h3,h4⟩,_⟩:=I.list (show c7 X.K H a xs from h);obtain⟨its',k',⟨o',n',gC,qZ,OP,WH⟩,_⟩:=I.list (show c7 X.K H a ys from h');rw [h1] at gC;cases gC;rw [h4] at WH;have:aq=its':=by injection WH with a b;simpa using a
  subst this;exact Vals.inj k k'
 | false=>exact I.k6 h h'
def aaT (b1 b2:Bool) (K:Ab) (a1 a2:ce):It where
 go:=λi H=>∃xs ys x y,Mm b1 K H a1 xs/\Mm b2 K H a2 ys/\xs[i]?=am x/\ys[i]?=am y
 Te:=λi H v H'=>∃p x y,v=.ref p/\H p=bm/\H'=upd H p (.tup [x,y])/\(∀xs,Mm b1 K H a1 xs->xs[i]?=am x)/\∀ys,Mm b2 K H a2 ys->ys[i]?=am y
 stop:=λi H=>∃xs ys,Mm b1 K H a1 xs/\Mm b2 K H a2 ys/\(xs.length<=i\/ys.length<=i)
theorem KC {K:Ab}{b2:Bool}{kk:Nat}{TI TO:ce} (hA:ZipApart z TI TO i1 i2 a1 a2):Turn P w K (.Tuple Î kk pos) (aaT b1 b2 K a1 a2) [z,TI,TO,i1,i2] z (λi h=>jQ b1 b2 h z TI TO i1 i2 a1 a2 .none i i) where
 mem:=by simp
 obj:=λi h st b hb=>by
  simp only [Aw,Bt,or_false] at hb;rcases hb with rfl | rfl | rfl | rfl | rfl
  ·exact⟨_,st.zip,λv z=>by cases z⟩
  ·exact⟨_,st.ti,λv z=>by cases z⟩
  ·obtain⟨_,_,e⟩:=st.to;exact⟨_,e,λv z=>by cases z⟩
  ·exact st.it1.obj
  ·exact st.it2.obj
 keep:=λi h h' st k=>⟨k z (by simp) _ st.zip,k TI (by simp) _ st.ti,let ⟨a,b,e⟩:=st.to;⟨a,b,k TO (by simp) _ e⟩,st.it1.move λo e=>k i1 (by simp) _ e,st.it2.move λo e=>k i2 (by simp) _ e⟩
 item:=by
  intro X hP hw hK hc i Z s σ H E I hf st hg;subst hP hw hK;obtain⟨xs,ys,x,y,hx,hy,gx,gy⟩:=hg;obtain⟨aq,rx,tx,_⟩:=I.Xw hx;obtain⟨cH,ry,ty,_⟩:=I.Xw hy;obtain⟨u,gu,ru⟩:=m5 rx gx;obtain⟨v,gv,rv⟩:=m5 ry gy;refine pj hA st tx ty (by simpa using gu) (by simpa using gv) λh' zt np k=>?_;refine⟨_,rfl,?_⟩;refine Aa (wpAny_load zt.zip ?_);show db _ _ (if ((["enumerate","zip","dict_itemiterator","dict_reverseitemiterator","odict_iterator","itertools.zip_longest","itertools.pairwise"].contains "zip"&&(am (ul s.heap.objs.size)==am (ul s.heap.objs.size)))=true) then (do rule "for.unpacks-the-owned-tuple";wn (.ref z) 0 .none) else pure ()) _ _ _;rw [if_pos (by rw [beq_self_eq_true];decide)];refine Aa (CZ ?_);refine AX zt.zip (show 0 < 5 by decide) λh2 z2 b2=>?_;have lt:∀b∈[z,TI,TO,i1,i2],b < s.heap.objs.size:=λb hb=>by
   simp only [Aw,Bt,or_false] at hb;rcases hb with rfl | rfl | rfl | rfl | rfl
   ·exact Ar st.zip
   ·exact Ar st.ti
   ·obtain⟨_,_,e⟩:=st.to;exact Ar e
   ·obtain⟨o,e,_⟩:=st.it1.obj;exact Ar e
   ·obtain⟨o,e,_⟩:=st.it2.obj;exact Ar e
  have nz:s.heap.objs.size≠z:=λe=>AU _ (by have:=lt z (by simp);rw [<- e] at this;exact this);have ZA:∀b o,b∉[z,TI,TO,i1,i2]->s.heap.get? b=am o->h2.get? b=am o:=λb o hb e=>by
   have Lz:b≠z:=λq=>hb (by simp [q]);rw [b2.2 b Lz];exact k b o Lz (λq=>hb (by simp [q])) (λq=>hb (by simp [q])) (λq=>hb (by simp [q])) e
  have Zi:h2.get? s.heap.objs.size=am {cls:=.type "tuple",data:=.seq #[u,v]}:=(b2.2 _ nz).trans np;have Z2:=I.br.fresh (An s.heap.objs.size);refine⟨.ref s.heap.objs.size,upd H s.heap.objs.size (.tup [x,y]),I.rH (t':=s.toks) hf ZA (An _) ⟨by show 2<=sizeLine;decide,[u,v],.cons ru (.cons rv .nil),⟨_,Zi,rfl,_,rfl⟩⟩,rfl,⟨_,x,y,rfl,Z2,rfl,λxs' h'=>?_,λys' h'=>?_⟩,⟨z2,(b2.2 _ hA.TIz).trans zt.ti,let ⟨p,q,e⟩:=zt.to;⟨p,q,(b2.2 _ hA.TOz).trans e⟩,zt.it1.move λo e=>(b2.2 _ hA.i1z).trans e,zt.it2.move λo e=>(b2.2 _ hA.i2z).trans e⟩,λb hb=>?_⟩
  ·rw [I.Jm h' hx];exact gx
  ·rw [I.Jm h' hy];exact gy
  ·rw [av (AA (lt b hb))];exact (hf b hb).1
 done:=by
  intro X hP hw hK hc i Z s σ H E I hf st hg;subst hP hw hK;obtain⟨xs,ys,hx,hy,hl⟩:=hg;obtain⟨aq,rx,tx,_⟩:=I.Xw hx;obtain⟨cH,ry,ty,_⟩:=I.Xw hy;have el:=rx.length;have el2:=ry.length;refine qr (I.ok.hd hc) hA st tx ty ?_ λh' k=>⟨rfl,I.vP (t':=s.toks) hf λb o hb e=>k b o (λz=>hb (by simp [z])) (λz=>hb (by simp [z])) (λz=>hb (by simp [z])) (λz=>hb (by simp [z])) e⟩;rcases hl with hl | hl
  ·exact .inl (by simp;omega)
  ·exact .inr (by simp;omega)
 self:=λA i s Q E st h=>wpAny_pyIter_zip st.zip h
def ZF (K:Ab) (t1 t2:TE):TI:=λσ H R=>t1 σ H λx H1=>t2 σ H1 λy H2=>∃b1 b2 a b,x=.ref a/\y=.ref b/\(∃xs,Mm b1 K H2 a xs)/\(∃ys,Mm b2 K H2 b ys)/\R (aaT b1 b2 K a b) H2
def Q1 (K:Ab) (hK:X.K=K) {e1 e2:ii}{t2:TE}{kk:Nat} (hg:Gl X "zip") (hm:X.mg "zip"=bm) (h1:PE X e1 t1) (h2:PE X e2 t2)
  (GH:f8 [e1,e2] X.env=(false,kw e1 X.env)::f8 [e2] X.env:=by rfl) (qY:gM X e2 []:=by rfl) (dH:(v4 p2 (f8 [e2] X.env)).any (·.1)=false:=by rfl) :
  PI X (.Tuple Î kk tp) (.Call (.Name "zip" p1) [e1,e2] [] p2) (ZF K t1 t2):=by
 subst hK;intro Z s σ H R I h;refine BD (ib I hg hm boot_zip ?_ ⋯ ⋯);refine Bd ?_ GH dH;rw [GH,qY];refine Cd (bV (h1 Z s σ H _ I h) λu1 s1 ⟨x,H1,I1,r1,q1⟩=>?_);refine Cd (bV (h2 Z s1 σ H1 _ I1 q1) λu2 s2 ⟨y,H2,I2,r2,b1,b2,a,b,ex,ey,⟨xs,hx⟩,⟨ys,hy⟩,q⟩=>CG ?_);subst ex;subst ey;cases r1;cases r2;obtain⟨aq,rx,tx,_⟩:=I2.Xw hx;obtain⟨cH,ry,ty,_⟩:=I2.Xw hy;have l1:=tx.lt;have l2:=ty.lt;refine LZ tx ty λh' zt k=>?_;refine wpAny_pyIter_zip zt.zip ?_;have dd:∀i j:Nat,i≠j->s2.heap.objs.size+i≠s2.heap.objs.size+j:=λi j n e=>n (Nat.add_left_cancel e);have na:∀i:Nat,a≠s2.heap.objs.size+i:=λi=>AA (AD l1 (BE _ _));have nb:∀i:Nat,b≠s2.heap.objs.size+i:=λi=>AA (AD l2 (BE _ _));have hA:ZipApart (s2.heap.objs.size+4) (s2.heap.objs.size+2) (s2.heap.objs.size+3) s2.heap.objs.size (s2.heap.objs.size+1) a b:=
  ⟨dd 2 4 ⋯,dd 3 4 ⋯,dd 0 4 ⋯,dd 1 4 ⋯,dd 2 3 ⋯,dd 2 0 ⋯,dd 2 1 ⋯,dd 3 0 ⋯,dd 3 1 ⋯,dd 0 1 ⋯,na 4,na 3,na 0,na 1,nb 4,nb 3,nb 0,nb 1⟩
 refine⟨_,_,_,_,H2,rfl,I2.kept (t':=s2.toks) k,KC hA,zt,λc hc=>?_,q⟩;have Û:s2.heap.objs.size<=c:=by
  simp only [Aw,Bt,or_false] at hc;rcases hc with rfl | rfl | rfl | rfl | rfl
  ·exact BE _ _
  ·exact BE _ _
  ·exact BE _ _
  ·exact An _
  ·exact BE _ _
 exact I2.xI Û (I2.br.fresh Û)
def YY (K:Ab):R2:=λx y H Q=>∃a b xs ys,x=.ref a/\y=.ref b/\d4 K H a xs/\d4 K H b ys/\xs.length+ys.length<=sizeLine/\
 (xs=[]->Q (.ref b) H)/\(xs≠[]->ys=[]->Q (.ref a) H)/\(xs≠[]->ys≠[]->lO H (.tup (xs++ys)) Q)
def Rl (K:Ab) (hK:X.K=K):iC X (sn .Add) (YY K):=by
 subst hK;intro Z s σ H x y v u Q I rx ry h;obtain⟨a,b,xs,ys,rfl,rfl,ha,hb,hz,q0,q1,q2⟩:=h;by_cases c:xs=[]
 ·cases rx;cases ry;obtain⟨aq,r1,p1,_⟩:=I.tuple ha;obtain⟨cH,r2,p2,_⟩:=I.tuple hb;obtain⟨⟨cls,dd,data,sl⟩,ho,hc,n,hd⟩:=id p1;obtain⟨⟨Xb,SI,data2,Qb⟩,LB,OJ,n2,Ò⟩:=id p2;simp only at hc hd OJ Ò;subst hc hd OJ Ò;exact concat_meets ⟨_,ho,rfl⟩ ⟨_,LB,rfl⟩ noFill_tuple_add seq_tuple_add C2 C1 (CT _ _)
   (tuple_addW0 a b aq.toArray cH.toArray n n2 dd SI sl Qb (by rw [r1.jh.mpr c];rfl)) ⟨ho,LB,.ref b,H,I,rfl,q0 c⟩
 ·exact JI Z s σ H _ _ v u Q I rx ry ⟨a,b,xs,ys,rfl,rfl,ha,hb,c,hz,q1 c,λn p hp=>(q2 c n).at p hp⟩
end L2
namespace FL
section
open PySem PySem.Spec PyProof.Rows L2 PL
variable {K:Ab}
section
variable {a b:ii}
def addW:PV->PV->W PV
 | .int i,.int j=>.ret (.int (i+j))
 | .str a,.str b=>.fh (a.length+b.length<=sizeLine) (.ret (.str (a++b)))
 | .tup a,.tup b=>.fh (a.length+b.length<=sizeLine) (.ret (.tup (a++b)))
 | _,_=>.fail
def cJ (hK:X.K=K) (ha:EF X K fs a wa) (hb:EF X K fs b wb):EF X K fs (.BinOp a .Add b pos) (.bind wa λx=>.bind wb λy=>addW x y):=
 ⟨PE.imp (JB ((Rn K hK).or (Rl K hK)) ha.p hb.p) λσ H Q ⟨sr,q⟩=>⟨sr,wa.mono (λx q1 u1 H1 g1 s1 v1=>⟨s1,wb.mono (λy q2 u2 H2 g2 s2 v2=>by
  have Ye:=g2.vr s1 v1;cases Ye with
  | int i=>
   cases v2 with
   | int j=>exact .inl ⟨_,rfl,q2 _ H2 (g1.trans g2) s2 (.int _)⟩
   | _=>exact q2.elim
  | str i=>
   cases v2 with
   | str j=>exact .inl ⟨_,rfl,q2.1,q2.2 _ H2 (g1.trans g2) s2 (.str _)⟩
   | _=>exact q2.elim
  | @tup p vs l e r=>
   cases v2 with
   | @tup p' Mf l' e' r'=>
    refine .inr ⟨p,p',vs,Mf,rfl,rfl,d4.of e,d4.of e',by rw [r.length,r'.length];exact q2.1,λz=>?_,λ_ z=>?_,λ_ _ q H3 s3 h3 n3=>?_⟩
    ·have z':=(PL.aE.jh r).mp z;subst z';exact q2.2 _ H2 (g1.trans g2) s2 (.tup e' r')
    ·have z':=(PL.aE.jh r').mp z;subst z';have q2:=q2.2;rw [Cz] at q2;exact q2 _ H2 (g1.trans g2) s2 (.tup e r)
    ·exact q2.2 _ H3 ((g1.trans g2).trans (cQ.same s3)) (s2.same s3) (.tup h3 (aE.tk s3.eM (r.append r')))
   | _=>exact q2.elim
  | _=>exact q2.elim) q1⟩) q⟩⟩
theorem m4:∀(l m:List PV),(oZ l m).length=min l.length m.length
 | [],m=>by rw [oZ];simp;intros;simp_all
 | x::l,[]=>by rw [oZ];simp;intros;simp_all
 | x::l,y::m=>by rw [oZ,Ao,m4 l m];simp only [Ao];omega
def Kx (l m:List PV):W (List PV):=.fh (l.length<=sizeLine) (.ret (oZ l m))
def Tj (h:Xo K H u l):∃(b:Bool) (a:ce) (vs:List V),u=.ref a/\aE K [] H vs l/\∀H',bc K H H'->Mm b K H' a vs:=by
 obtain⟨a,vs,e,h | h,r⟩:=h
 ·exact⟨true,a,vs,e,r,λH' t=>(t.f _ _ h).sq⟩
 ·exact⟨false,a,vs,e,r,λH' t=>d4.of (t.t _ _ h)⟩
theorem Ov (hK:X.K=K) {kk:Nat} (hg:Gl X "zip") (hm:X.mg "zip"=bm) (ha:IF X K fs a wl) (hb:IF X K fs b wm)
  (GH:f8 [a,b] X.env=(false,kw a X.env)::f8 [b] X.env:=by rfl) (qY:gM X b []:=by rfl) (dH:(v4 p2 (f8 [b] X.env)).any (·.1)=false:=by rfl) :
  qJ X K fs (.Tuple Î kk tp) (.Call (.Name "zip" p1) [a,b] [] p2) (.bind wl λl=>.bind wm λm=>Kx l m):=
 ⟨PI.imp (Q1 K hK hg hm ha.p hb.p GH qY dH) λσ H R ⟨sr,q⟩=>⟨sr,wl.mono (λl q1 u1 H1 g1 s1 v1=>⟨s1,wm.mono (λm q2 u2 H2 g2 s2 v2=>by
  obtain⟨b1,a1,vs,rfl,r1,x1⟩:=Tj (v1.tk (g2.d5 s1));obtain⟨b2,a2,ws,rfl,r2,x2⟩:=Tj v2;have tr:bc K H2 H2:=bc.refl H2;refine⟨b1,b2,a1,a2,rfl,rfl,⟨vs,x1 H2 tr⟩,⟨ws,x2 H2 tr⟩,q2.2 _ H2 (g1.trans g2) s2 ⟨by rw [m4];have:=q2.1;omega,λH' t=>⟨λi pp hp=>?_,vs,ws,x1 H' t,x2 H' t,?_⟩⟩⟩
  ·obtain⟨x,y,hx,hy,rfl⟩:=rz hp;obtain⟨v,h3,h4⟩:=(aE.tk t r1).get hx;obtain⟨v',OP,WH⟩:=(aE.tk t r2).get hy;refine⟨⟨vs,ws,v,v',x1 H' t,x2 H' t,h3,OP⟩,λz H3 yl=>?_⟩;obtain⟨p,x',y',rfl,hn,rfl,e1,e2⟩:=yl;have e1:=e1 vs (x1 H' t);have e2:=e2 ws (x2 H' t);rw [h3] at e1;rw [OP] at e2;cases e1;cases e2;have sm:=iH hn (.tup [v,v']);exact⟨sm,.tup aM (.cons (VR.tk sm.eM h4) (.cons (VR.tk sm.eM WH) .nil))⟩
  ·rw [m4,r1.length,r2.length];omega) q1⟩) q⟩⟩
end
end
end FL
variable {vs:List AZ}
namespace L2
open PySem PySem.Spec PyProof.Rows
def agX:List Int->Int
 | []=>0
 | x::l=>l.foldl max x
def nQ:List Int->Int
 | []=>0
 | x::l=>l.foldl min x
theorem xM (l:List Int) (x:Int):l.foldl min x<=x/\(∀y∈l,l.foldl min x<=y)/\(l.foldl min x=x\/l.foldl min x∈l):=by
 induction l generalizing x with
 | nil=>exact⟨BF _,by simp,.inl rfl⟩
 | cons y l ih=>
  obtain⟨h1,h2,h3⟩:=ih (min x y);refine⟨by rw [CW];omega,λz hz=>?_,?_⟩
  ·rw [CW];rcases Aw.mp hz with rfl | hz
   ·omega
   ·exact h2 z hz
  ·rw [CW];rcases h3 with h3 | h3
   ·rw [h3];by_cases c:y<=x
    ·right;rw [Int.min_eq_right c];exact .head _
    ·left;omega
   ·exact .inr (.tail _ h3)
def qT {l:List Int}{x:Int} (h:x∈l):nQ l<=x:=by
 cases l with
 | nil=>cases h
 | cons y l=>
  rcases Aw.mp h with rfl | h
  ·exact (xM l _).1
  ·exact (xM l y).2.1 x h
def nP {l:List Int} (h:l≠[]):nQ l∈l:=by
 cases l with
 | nil=>exact absurd rfl h
 | cons y l=>
  rcases (xM l y).2.2 with e | e
  ·show l.foldl min y∈_;rw [e];exact .head _
  ·exact .tail _ e
def Nl (K:Ab) (C:List Int->Prop) (g:List Int->Int):List V->Hp->VK->Prop:=λxs H Q=>∃(p:ce) (ns:List Int),xs=[.ref p]/\c7 K H p (ns.map V.int)/\C ns/\Q (.int (g ns)) H
section
theorem JT {xs:Array (Int×Tok)} (GI:ns=xs.toList.map (·.1)) (Sg:ns≠[]):numAt xs (argBest (λi j=>decide (numAt xs i < numAt xs j)) (xs.size-1))=nQ ns:=by
 have hsz:0 < xs.size:=by
  have h3:0 < ns.length:=Cm.mpr Sg;rw [GI,Af,B6] at h3;exact h3
 obtain⟨h1,h2⟩:=argBest_lt (numAt xs) (xs.size-1);apply EO
 ·have hm:=nP Sg;rw [GI] at hm;obtain⟨j,hj,ej⟩:=mem_getD hm;rw [Af,B6] at hj;rw [<- GI] at ej;rw [<- ej,GI,<- numAt_eq];exact h2 j ∅
 ·refine qT ?_;rw [GI,numAt_eq];exact getD_mem (by rw [Af,B6];omega)
def Lb {l:ce} (hh:A.handled=bm) (hl:s.heap.IsList l vs.toArray) (hi:tz vs ns) (Sg:ns≠[])
  (h:∀(h':lf) (t:Tok) tk,(∀b o,s.heap.get? b=am o->h'.get? b=am o)->Q (.int (nQ ns) t) {s with heap:=h',toks:=tk}):db (dL prog w) A (call (.builtin "min") [.ref l]) Q E s:=by
 obtain⟨xs,e⟩:=hi.allInts.items;have GI:ns=xs.toList.map (·.1):=by rw [<- hi.numsOf,<- nums_intItems,<- e]
 have hsz:0 < xs.size:=by
  have h3:0 < ns.length:=Cm.mpr Sg;rw [GI,Af,B6] at h3;exact h3
 rw [e] at hl;refine min_intList hh hl hsz λv h' tk hv hk=>?_;obtain⟨t,rfl⟩:=intItems_at hv;rw [JT GI Sg];exact h h' t tk hk
def KI {l:ce} (hh:A.handled=bm) (hl:s.heap.IsList l vs.toArray) (hi:tz vs ns)
  (h:∀(h':lf) (t:Tok) tk,(∀b o,s.heap.get? b=am o->h'.get? b=am o)->Q (.int ns.sum t) {s with heap:=h',toks:=tk}):db (dL prog w) A (call (.builtin "sum") [.ref l]) Q E s:=by
 obtain⟨xs,e⟩:=hi.allInts.items;have GI:ns=xs.toList.map (·.1):=by rw [<- hi.numsOf,<- nums_intItems,<- e]
 rw [e] at hl;refine sum_intListG hh hl λh' tk t' hk=>?_;have:=h h' t' tk hk;rw [preSum_eq,Ex (by simp),<- GI];exact this
end
def vE {b:String}{C:List Int->Prop}{g:List Int->Int} (K:Ab) (hK:X.K=K) (hc:X.calm=true)
  (Ù:∀{s:ci}{l:ce}{vs:List bn}{ns:List Int}{Q:bn->ci->Prop},X.A.handled=bm->s.heap.IsList l vs.toArray->tz vs ns->C ns->(∀(h':lf) (t:Tok) tk,(∀b o,s.heap.get? b=am o->h'.get? b=am o)->Q (.int (g ns) t) {s with heap:=h',toks:=tk})->db (dL X.prog X.w) X.A (call (.builtin b) [.ref l]) Q X.xe s):bP X (.builtin b) (Nl K C g):=by
 subst hK;intro Z s σ H xs us Q I r h;obtain⟨p,ns,rfl,hq,hC,q⟩:=h;obtain⟨u,rfl,rx⟩:=vals1 r;cases rx;obtain⟨aq,r',pl,hz⟩:=I.list hq;exact Ù (I.ok.hd hc) pl.isList (intsAre_of r') hC λh' t tk hk=>⟨.int _,H,I.kept (t':=tk) hk,⟨t,rfl⟩,q⟩
end L2
variable {x:PL.PV}
namespace FL
section
open PySem PySem.Spec PyProof.Rows L2 PL
variable {K:Ab}
section
open Classical in
noncomputable def LM (K:Ab) (H:Hp) (x:PV) (w:bn):Bool:=decide (∃p v,RelV v w/\VR K [] H v p/\kg p x=true)
open Classical in
def Pd (hK:X.K=K) (I:Inv X Z σ H s) {x p:PV}{v:V}{w:bn} (r:RelV v w) (h:VR K [] H v p):LM K H x w=kg p x:=by
 subst hK;cases e:kg p x with
 | true=>exact decide_eq_true ⟨p,v,r,h,e⟩
 | false=>
  refine decide_eq_false ?_;rintro⟨p',v',r',h',e'⟩;have:=Nf r r';subst this;rw [VR.OX I h h',e'] at e;cases e
theorem xR (hK:X.K=K) (I:Inv X Z σ H s):∀{vs:List V}{aq:List bn}{l:List PV},Vals vs aq->aE K [] H vs l->aq.map (LM K H x)=l.map λy=>kg y x
 | _,_,_,.nil,.nil=>rfl
 | _,_,_,.cons r t,.cons q z=>by rw [Aq,Aq,Pd hK I r q,xR hK I t z]
def R7 (x:PV) (l:List PV):Prop:=PV.j7 x=true/\eY l=true/\dC l<=150
theorem tB (hK:X.K=K) (I:Inv X Z σ H s) {v:V}{w:bn} (hx:VR K [] H v x) (rx:RelV v w) (dx:PV.j7 x=true) (hu:A.units+150+1 < pc) :
  ∀{vs:List V}{aq:List bn}{l:List PV},Vals vs aq->aE K [] H vs l->eY l=true->dC l<=150->∀u∈aq,Dg A s u w (LM K H x u)
 | _,_,_,.nil,.nil,_,_,u,hu=>by cases hu
 | _,_,_,.cons r t,.cons q z,d,dd,u,hm=>by
  rw [eY,AO] at d;rw [dC] at dd;rcases Aw.mp hm with rfl | hm
  ·rw [Pd hK I r q];exact (Xa hK I 150 _ x A _ v _ w ∅ d.1 dx q hx r rx hu).eq
  ·exact tB hK I hx rx dx hu t z d.2 ∅ u hm
end
def sU (x:PV) (l:List PV):Bool:=l.any λy=>kg y x
def Vh (K:Ab) (neg:Bool):R2:=λx y H Q=>∃p vs l xp,y=.ref p/\(c7 K H p vs\/d4 K H p vs)/\aE K [] H vs l/\VR K [] H x xp/\R7 xp l/\Q (.bl (if neg then !sU xp l else sU xp l)) H
section
theorem any_map' (f:α->Bool):∀l:List α,l.any f=(l.map f).any id
 | []=>rfl
 | x::l=>by rw [Bx,Aq,Bx,any_map' f l];rfl
theorem NM (K:Ab) (hK:X.K=K) (hu:X.A.units+200 < pc):iC X (mo .In) (Vh K false):=by
 intro Z s σ H x y v u Q I rx ry h;obtain⟨p,vs,l,xp,rfl,hq,hl,hx,ok,q⟩:=h;cases ry;have ZO:X.A.in1.units+150+1 < pc:=by show X.A.units+1+150+1 < _;omega
 have fin:∀{aq:List bn},Vals vs aq->aq.toArray.any (LM K H xp)=sU xp l:=λ{aq} r=>by
  rw [show aq.toArray.any (LM K H xp)=aq.any (LM K H xp) by simp,any_map',xR hK I r hl,<- any_map'];rfl
 rcases hq with hq | hq
 ·obtain⟨aq,r,pl,hz⟩:=I.list (show c7 X.K H p vs by rw [hK];exact hq);refine SeqAt.in_listAt (LM K H xp) pl.isList (λw hw=>tB hK I hx rx ok.1 ZO r hl ok.2.1 ok.2.2 w (by simpa using hw)) ⟨.bl _,H,I,rfl,?_⟩;rw [fin r];exact q
 ·obtain⟨aq,r,pl,hz⟩:=I.tuple (show d4 X.K H p vs by rw [hK];exact hq);refine SeqAt.in_tupleAt (LM K H xp) pl (λw hw=>tB hK I hx rx ok.1 ZO r hl ok.2.1 ok.2.2 w (by simpa using hw)) ⟨.bl _,H,I,rfl,?_⟩;rw [fin r];exact q
theorem Ri (K:Ab) (hK:X.K=K) (hu:X.A.units+200 < pc):iC X (mo .NotIn) (Vh K true):=by
 intro Z s σ H x y v u Q I rx ry h;obtain⟨p,vs,l,xp,rfl,hq,hl,hx,ok,q⟩:=h;cases ry;have ZO:X.A.in1.units+150+1 < pc:=by show X.A.units+1+150+1 < _;omega
 have fin:∀{aq:List bn},Vals vs aq->aq.toArray.any (LM K H xp)=sU xp l:=λ{aq} r=>by
  rw [show aq.toArray.any (LM K H xp)=aq.any (LM K H xp) by simp,any_map',xR hK I r hl,<- any_map'];rfl
 rcases hq with hq | hq
 ·obtain⟨aq,r,pl,hz⟩:=I.list (show c7 X.K H p vs by rw [hK];exact hq);refine SeqAt.notIn_listAt (LM K H xp) pl.isList (λw hw=>tB hK I hx rx ok.1 ZO r hl ok.2.1 ok.2.2 w (by simpa using hw)) ⟨.bl _,H,I,rfl,?_⟩;rw [fin r];exact q
 ·obtain⟨aq,r,pl,hz⟩:=I.tuple (show d4 X.K H p vs by rw [hK];exact hq);refine SeqAt.notIn_tupleAt (LM K H xp) pl (λw hw=>tB hK I hx rx ok.1 ZO r hl ok.2.1 ok.2.2 w (by simpa using hw)) ⟨.bl _,H,I,rfl,?_⟩;rw [fin r];exact q
end
end
end FL
namespace L2
open PySem PySem.Spec PyProof.Rows
theorem zu (xs:List bn):∀k≤xs.length,((Az k).filterMap λ(m:Nat)=>xs.toArray[(((xs.length:Int)-1)+(m:Int)*(-1)).toNat]?)=(xs.drop (xs.length-k)).reverse
 | 0,_=>by simp
 | k+1,h=>by
  have ih:=zu xs k ∅;rw [List.range_succ,List.filterMap_append,ih];have e:(((xs.length:Int)-1)+(k:Int)*(-1)).toNat=xs.length-(k+1):=by omega
  have h1:xs.length-(k+1) < xs.length:=by omega
  simp only [A6,List.filterMap_nil,e];have e2:xs.toArray[xs.length-(k+1)]?=am xs[xs.length-(k+1)]:=by simp [h1]
  rw [e2];have e3:xs.drop (xs.length-(k+1))=xs[xs.length-(k+1)]::xs.drop (xs.length-k):=by
   rw [Bh h1];congr 2;omega
  rw [e3,CH]
section
variable {st:ii}{tl th ts:TO}{lo hi:Option ii}
def Yp (K:Ab) (te:TE) (tl th ts:TO):TE:=λσ H Q=>te σ H λx H1=>tl σ H1 λl H2=>th σ H2 λu H3=>ts σ H3 λs H4=>∃a xs,x=.ref a/\d4 K H4 a xs/\l=bm/\u=bm/\s=am (-1)/\lO H4 (.tup xs.reverse) Q
theorem Q7 (K:Ab) (hK:X.K=K) (he:PE X e te) (hl:PO X lo tl) (hu:PO X hi th) (hs:PO X (am st) ts):PE X (.Subscript e (.Slice lo hi (am st) p2) pos) (Yp K te tl th ts):=by
 subst hK;intro Z s σ H Q I h;refine Subscript_ (bV (he Z s σ H _ I h) λv s1 ⟨x,H1,I1,r1,q1⟩=>?_);refine wpAny_Slice (bV (hl Z s1 σ H1 _ I1 q1) λvl s2 ⟨l,H2,I2,pl,q2⟩=>bV (hu Z s2 σ H2 _ I2 q2) λvu s3 ⟨u,H3,I3,pu,q3⟩=>bV (hs Z s3 σ H3 _ I3 q3) λvs s4 ⟨c,H4,I4,ps,a,xs,ea,hx,el,eu,ec,q⟩=>?_);subst ea;subst el;subst eu;subst ec;cases r1;cases pl;cases pu;cases ps with
 | int i t=>
 have I5:Inv X Z σ H4 {s4 with heap:=s4.heap.push {cls:=.type "slice",data:=.fields #[.none,.none,.int (-1) t]}}:=I4.kept (t':=s4.toks) λb ob q=>Ag _ q;obtain⟨aq,r,ht,hz⟩:=I5.tuple hx;have Â:=r.length;refine tail_any (ops:=[.ref a,.ref s4.heap.objs.size]) ht.typeIs Ck.lookup ?_ (by with_unfolding_all rfl);have hs:Heap.IsSliceOf {s4 with heap:=s4.heap.push {cls:=.type "slice",data:=.fields #[.none,.none,.int (-1) t]}}.heap s4.heap.objs.size .none .none (.int (-1) t):=Heap.IsSliceOf.new ..;generalize {s4 with heap:=s4.heap.push {cls:=.type "slice",data:=.fields #[.none,.none,.int (-1) t]}}=s5 at I5 ht hs;obtain⟨os,ú,hcs,ġ⟩:=id hs;have hTs:s5.TypeIs (.ref s4.heap.objs.size) "slice":=⟨os,ú,hcs⟩;unfold getItem
 try with_reducible refine Bk ?_
 first | refine Aa (Ae ?_) | skip
 refine Aa (wpAny_sequenceKey ht.typeIs ⋯ ?_);refine Aa (A5 (name:=B7 "__getitem__") ht.typeIs Ck
  (Bl Ck ht.typeIs entry_tuple_getitem ?_ (args_tuple_getitem _ _)))
 show db _ _ (Builtin.Tuple.tupleItemsOf (.ref a) >>= _) _ _ s5;refine Aa (tupleItemsOf_ ht ?_);refine Aa (Et hTs ?_);rw [if_pos ⋯];have app:∀{Q:Int×Int×Nat->ci->Prop}{E:bn->ci->Prop}{A:nw} (n:Nat),Q ((n:Int)-1,-1,n) s5->db (dL X.prog X.w) A (Builtin.Slice.sliceApplied (.ref s4.heap.objs.size) (pure (n:Int))) Q E s5:=λ{Q E A} n hq=>by
  unfold Builtin.Slice.sliceApplied Builtin.Slice.sliceFields;refine Aa (Aa (A4 ú ġ (x:=.none) rfl (Aa (A4 ú ġ (x:=.none) rfl (Aa (A4 ú ġ (x:=.int (-1) t) rfl (Ae ?_)))))));refine Aa (HT.mD (.int (-1) t) ?_);show db _ _ (if (((-1:Int))==0)=true then _ else _) _ _ s5;rw [if_neg ⋯];refine Aa (HT.mD .none (Aa (HT.mD .none (Aa (Ae ?_)))));show db _ _ (match Builtin.Slice.sliceAdjust bm bm (-1) (n:Int) with | (lo,hi)=>pure (lo,(-1:Int),Builtin.Slice.slicePlaces lo hi (-1))) _ _ s5;have e1:Builtin.Slice.sliceAdjust bm bm (-1) (n:Int)=((n:Int)-1,-1):=by unfold Builtin.Slice.sliceAdjust;simp
  rw [e1];have e2:Builtin.Slice.slicePlaces ((n:Int)-1) (-1) (-1)=n:=by
   unfold Builtin.Slice.slicePlaces;rw [if_neg ⋯];by_cases h0:(n:Int)-1 > -1
   ·rw [if_pos h0];show (((n:Int)-1 - -1-1) / 1+1).toNat=n;rw [Int.ediv_one];omega
   ·rw [if_neg h0];show (0:Int).toNat=n;omega
  show db _ _ (pure ((n:Int)-1,(-1:Int),Builtin.Slice.slicePlaces ((n:Int)-1) (-1) (-1))) _ _ s5;rw [e2];exact Ae hq
 refine Aa (app aq.toArray.size ?_);show db _ _ (if (((aq.toArray.size:Int)-1)==0&&(-1:Int)==1&&aq.toArray.size==aq.toArray.size)=true then _ else _) _ _ s5;rw [if_neg (by simp)];have hp:=zu aq aq.length (An _);rw [Ct,List.drop_zero] at hp;have Ě:((Az aq.toArray.size).filterMap λ(m:Nat)=>aq.toArray[(((aq.toArray.size:Int)-1)+(m:Int)*(-1)).toNat]?).toArray=aq.reverse.toArray:=by
  rw [Aj,hp]
 rw [Ě];have hsz:sizeOk (.seq aq.reverse.toArray):=by
  show aq.reverse.toArray.size<=sizeLine;rw [Aj,B5];omega
 have fin:EP X Z σ Q (.ref s5.heap.objs.size) {s5 with heap:=s5.heap.push {cls:=.type "tuple",data:=.seq aq.reverse.toArray}}:=
  ⟨.ref s5.heap.objs.size,_,I5.laid (t':=s5.toks) (o:=.tup xs.reverse) (λb ob q=>Ag _ q) (An _) ⟨by rw [B5];exact hz,_,r.rR,Fw _ _⟩,rfl,q.at _ (I5.br.fresh (An _))⟩
 first
  | exact Aa (m:=Builtin.Tuple.tupleExact _) (A1 (Ae ⟨_,rfl,Ae fin⟩) hsz)
  | exact Aa (m:=Builtin.Tuple.tupleExact _) (A1 (Aa (Ae (Ae ⟨_,rfl,Ae fin⟩))) hsz)
  | exact Aa (Aa (m:=Builtin.Tuple.tupleExact _) (A1 (Ae (Ae ⟨_,rfl,Ae fin⟩)) hsz))
  | exact Aa (Aa (m:=Builtin.Tuple.tupleExact _) (A1 (Ae ⟨_,rfl,Ae fin⟩) hsz))
end
end L2
variable {Q:PL.PV->Prop}
namespace FL
section
open PySem PySem.Spec PyProof.Rows L2 PL
variable {K:Ab}
section
variable {a b c:ii}{w:W PV}
def qB (neg:Bool) (x:PV) (l:List PV):W Bool:=.fh (R7 x l) (.ret (if neg then !sU x l else sU x l))
def O2:∀σ H Q,fT K fs (.bind wa λx=>.bind wl λl=>qB neg x l) σ H Q->UP (Vh K neg) (fE K fs wa) (fQ K fs wl) σ H λx H'=>∃k,x=.bl k/\Q k H':=λσ H Q ⟨sr,q⟩=>
 ⟨sr,wa.mono (λx q1 u1 H1 g1 s1 v1=>⟨s1,wl.mono (λl q2 u2 H2 g2 s2 v2=>by
  obtain⟨ad,vs,rfl,h,rs⟩:=v2.sq s2;exact⟨ad,vs,l,x,rfl,h,rs,g2.vr s1 v1,q2.1,_,rfl,q2.2 H2 (g1.trans g2) s2⟩) q1⟩) q⟩
def Ym (hK:X.K=K) (hu:X.A.units+200 < pc) (ha:EF X K fs a wa) (hb:QF X K fs b wl) (hk:re .In b=false:=by rfl):TF X K fs (.Compare a [.In] [b] pos) (.bind wa λx=>.bind wl λl=>qB false x l):=⟨PT.imp (nA (NM K hK hu) ha.p hb.p hk) (O2 (neg:=false))⟩
def vU (hK:X.K=K) (hu:X.A.units+200 < pc) (ha:EF X K fs a wa) (hb:QF X K fs b wl) (hk:re .NotIn b=false:=by rfl):TF X K fs (.Compare a [.NotIn] [b] pos) (.bind wa λx=>.bind wl λl=>qB true x l):=⟨PT.imp (nA (Ri K hK hu) ha.p hb.p hk) (O2 (neg:=true))⟩
abbrev Oz (neg:Bool) (wa:W PV) (wl:W (List PV)):W Bool:=.bind wa λx=>.bind wl λl=>qB neg x l
def sj (l:List PV):W PV:=.bind (mn l) λns=>.fh (ns≠[]) (.ret (.int (nQ ns)))
def Ji (l:List PV):W PV:=.bind (mn l) λns=>.ret (.int ns.sum)
def vj {C:List Int->Prop}{g:List Int->Int}{f:List PV->W PV} (hf:∀{l:List PV}{Q:PV->Prop},(f l).run Q->∃ns:List Int,l=ns.map PV.int/\C ns/\Q (.int (g ns))):∀σ H Q,fE K fs (.bind wl f) σ H Q->tCB (Nl K C g) (Th (fQL K fs wl) Yr) σ H Q:=λσ H Q ⟨sr,q⟩=>⟨sr,wl.mono (λl q1 u1 H1 g1 s1 _ v1=>by
 obtain⟨ns,el,hC,q2⟩:=hf q1;obtain⟨a,vs,rfl,h1,r1⟩:=v1 H1 .refl s1;rw [el] at r1;have:=jr r1;subst this;exact⟨a,ns,rfl,h1,hC,q2 _ H1 g1 s1 (.int _)⟩) q⟩
def Lc (h:(sj l).run Q):∃ns:List Int,l=ns.map PV.int/\ns≠[]/\Q (.int (nQ ns)):=let ⟨ns,e,q⟩:=fZ h;⟨ns,e,q.1,q.2⟩
def KJ (h:(Ji l).run Q):∃ns:List Int,l=ns.map PV.int/\True/\Q (.int ns.sum):=let ⟨ns,e,q⟩:=fZ h;⟨ns,e,trivial,q⟩
def Pm (hK:X.K=K) (hc:X.calm=true) (hg:Gl X "min") (hm:X.mg "min"=bm) (ha:IW X K fs e wl) (he:gM X e []:=by rfl) (dH:lT X pos []:=by rfl):EF X K fs (.Call (.Name "min" p) [e] [] pos) (.bind wl sj):=⟨PE.imp (ft (vE (C:=λns=>ns≠[]) (g:=nQ) K hK hc λa b c d q=>Lb a b c d q) hg hm boot_min (aZ ha.p b9 he) ⋯ ⋯ he dH) (vj Lc)⟩
def WZ (hK:X.K=K) (hc:X.calm=true) (hg:Gl X "sum") (hm:X.mg "sum"=bm) (ha:IW X K fs e wl) (he:gM X e []:=by rfl) (dH:lT X pos []:=by rfl):EF X K fs (.Call (.Name "sum" p) [e] [] pos) (.bind wl Ji):=⟨PE.imp (ft (vE (C:=λ_=>True) (g:=λns=>ns.sum) K hK hc λa b c _ q=>KI a b c q) hg hm (show lc "sum"=am (.builtin "sum") by rfl) (aZ ha.p b9 he) ⋯ ⋯ he dH) (vj KJ)⟩
def sortI (ns:List Int):List Int:=ns.mergeSort (λa b=>decide (a<=b))
theorem MY (h1:ms.Perm ns) (h2:ms.Pairwise (·<=·)):ms=sortI ns:=by
 have h3:(sortI ns).Perm ns:=CS ns _;have h4:(sortI ns).Pairwise (λa b=>decide (a<=b)=true):=Em (λa b c=>by simp;omega) (λa b=>by simp;omega) ns;exact List.Perm.eq_of_pairwise (le:=λa b=>a<=b) (λa b _ _ h h'=>EO h h') h2 (h4.imp (by simp)) (h1.trans h3.symm)
def vY (l:List PV):W (List PV):=.bind (mn l) λns=>.fh (ns.length < 64) (.ret ((sortI ns).map PV.int))
def RK (hK:X.K=K) (hg:Gl X "sorted") (hm:X.mg "sorted"=bm) (ha:IW X K fs e wl) (he:gM X e []:=by rfl) (dH:lT X pos []:=by rfl):LF X K fs (.Call (.Name "sorted" p) [e] [] pos) (.bind wl vY):=⟨PE.imp (ft (IC K hK) hg hm boot_sorted (aZ ha.p b9 he) ⋯ ⋯ he dH) λσ H Q ⟨sr,q⟩=>⟨sr,wl.mono (λl q1 u1 H1 g1 s1 _ v1=>by
 obtain⟨ns,el,hC,q2⟩:=fZ (l:=l) q1;obtain⟨a,vs,rfl,h1,r1⟩:=v1 H1 .refl s1;rw [el] at r1;have:=jr r1;subst this;refine⟨a,ns,rfl,h1,hC,λms a2 a3=>?_⟩;rw [MY a2 a3];exact JO g1 s1 (oe _ _ _) q2) q⟩⟩
variable {el eh:Option ii}{st:ii}{lo ws:W (Option Int)}
def M3 (x:PV) (i j k:Option Int):W PV:=match x with
 | .tup l=>.fh (i=bm/\j=bm/\k=am (-1)) (.ret (.tup l.reverse))
 | _=>.fail
def W0 (hK:X.K=K) (he:EF X K fs e w) (hl:OF X K fs el lo) (hh:OF X K fs eh hi) (hs:OF X K fs (am st) ws):EF X K fs (.Subscript e (.Slice el eh (am st) p2) pos) (.bind w λx=>.bind lo λi=>.bind hi λj=>.bind ws λk=>M3 x i j k):=⟨PE.imp (Q7 K hK he.p hl.p hh.p hs.p) λσ H Q ⟨sr,q⟩=>⟨sr,w.mono (λx q1 u1 H1 g1 s1 v1=>⟨s1,lo.mono (λi q2 H2 g2 s2=>⟨s2,hi.mono (λj q3 H3 g3 s3=>⟨s3,ws.mono (λk q4 H4 g4 s4=>by
 have Ye:=g4.vr s3 (g3.vr s2 (g2.vr s1 v1));have gg:=((g1.trans g2).trans g3).trans g4;cases Ye with
 | @tup p vs l e r=>
  have q4:(W.fh (i=bm/\j=bm/\k=am (-1)) (bd (PV.tup l.reverse))).run _:=q4;exact⟨p,vs,rfl,d4.of e,q4.1.1,q4.1.2.1,q4.1.2.2,λq H5 s5 h5 n5=>q4.2 _ H5 (gg.trans (cQ.same s5)) (s4.same s5) (.tup h5 (aE.tk s5.eM r.reverse))⟩
 | _=>exact q4.elim) q3⟩) q2⟩) q1⟩) q⟩⟩
end
end
section
open PySem PySem.Spec PyProof.Rows L2 PL
variable {K:Ab}
section
variable {rest:List ss}{T:Type}{out:T->End}{x:Bool}
def ahj (l:List PV):PV->W PV
 | .int k=>.fh (0<=k/\k < 1000) (.JL l[k.toNat]?)
 | _=>.fail
def U9 (l:List PV) (v:PV):W (List PV):=match v with
 | .int k=>.bind (mn l) λns=>.fh (k∈ns) (.ret ((ns.erase k).map PV.int))
 | _=>.fail
theorem SF.remove (i:Nat) {k:List PV->W T} (hs:fs[i]?=am (am (.ol q0 l))) (hK:X.K=K) (hN:X.N[i]?=am y) (hv:Gs X.env.scope y) (he:EF X K fs e we) (hr:∀l',SF X K x (fs.set i (am (.ol q0 l'))) rest (k l') out)
  (hd:i5 y:=by decide) (jt:GL y:=by decide) (eJ:o0 (.Name y p) "remove" X.env (kw (.Name y p) X.env)=kw (.Name y p) X.env:=by rfl)
  (pM:Xt X bD [e]:=by rfl)
  (eI:Qm Ã bD:=by rfl) (qX:gM X e []:=by rfl) (eX:lT X bD []:=by rfl)
  (og:im (.Call (.Attribute (.Name y p) "remove" Ã) [e] [] bD) bm pos.line X.env=pure false:=by rfl) :
  SF X K x fs (.Expr (.Call (.Attribute (.Name y p) "remove" Ã) [e] [] bD) pos::rest) (.bind we λv=>.bind (U9 l v) k) out:=
 SF.step (qO (rV K hK BZ PySem.F.slot_list_remove PySem.F.type_list_remove Hi (d8 hN hv hd jt) (aZ he.p b9 qX) eJ pM eI qX eX) og) λD σ H ⟨sr,q⟩=>by
  obtain⟨a,ws,e1,h1,r1⟩:=di sr hs;refine⟨_,e1,.inl ⟨rfl,_,c7.of h1⟩,sr,we.mono (λv q1 u H1 g1 s1 v1=>?_) q⟩;obtain⟨a',rC,qG,gC,uo⟩:=di s1 hs;rw [e1] at qG;cases qG;cases v1 with
  | int kk=>
   obtain⟨ns,el,hk,q2⟩:=fZ (l:=l) q1;subst el;have:=jr uo;subst this;refine⟨a,ns,kk,rfl,rfl,gC,hk,λH2 sx h2=>?_⟩;obtain⟨s2,g2⟩:=nB s1 hs e1 sx h2 (oe _ _ (ns.erase kk));exact⟨_,k _,hr _,s2,(k _).mono (λt q3=>q3.go (g1.f.trans g2) sr s2) q2⟩
  | _=>exact q1.elim
end
end
end FL
variable {vs:List (L2.Key×L2.V)}{kvs:List (L2.Key×PL.PV)}
namespace FL
section
open PySem PySem.Spec PyProof.Rows L2 PL
variable {K:Ab}
abbrev w2 (f:PV->PV->W PV) (wa wb:W PV):W PV:=.bind wa λx=>.bind wb λy=>f x y
def aea (kvs:List (Key×PV)) (k:Key):Bool:=kvs.any λkv=>decide (kv.1=k)
def qC (kvs:List (Key×PV)) (k:Key):Option PV:=(kvs.find? λkv=>decide (kv.1=k)).map (·.2)
def iz (K:Ab) (H:Hp) (vs:List (Key×V)) (kvs:List (Key×PV)):Prop:=vs.map (·.1)=kvs.map (·.1)/\aE K [] H (vs.map (·.2)) (kvs.map (·.2))
section
def iz.cons_inv {p:Key×V}{q:Key×PV} (h:iz K H (p::vs) (q::kvs)):p.1=q.1/\VR K [] H p.2 q.2/\iz K H vs kvs:=by
 obtain⟨h1,h2⟩:=h;injection h1 with a b;cases h2 with
 | cons r t=>exact⟨a,r,b,t⟩
theorem iz.ind {C:List (Key×V)->List (Key×PV)->Prop} (h0:C [] []) (h1:∀p q vs kvs,p.1=q.1->VR K [] H p.2 q.2->iz K H vs kvs->C vs kvs->C (p::vs) (q::kvs)):∀{vs kvs},iz K H vs kvs->C vs kvs
 | [],[],_=>h0
 | [],_::_,h=>by simp [iz] at h
 | _::_,[],h=>by simp [iz] at h
 | p::vs,q::kvs,h=>let ⟨a,b,c⟩:=h.cons_inv;h1 p q vs kvs a b c (iz.ind h0 h1 c)
def iz.has (h:iz K H vs kvs) (k:Key):(hV vs k).isSome=aea kvs k:=by
 rw [<- rF];refine iz.ind (C:=λvs kvs=>(vs.any λkv=>decide (kv.1=k))=kvs.any λkv=>decide (kv.1=k)) rfl (λp q vs kvs e _ _ ih=>?_) h;rw [Bx,Bx,ih,e]
def iz.get (h:iz K H vs kvs) (k:Key) (g:qC kvs k=am v):∃u,hV vs k=am u/\VR K [] H u v:=by
 refine iz.ind (C:=λvs kvs=>qC kvs k=am v->∃u,hV vs k=am u/\VR K [] H u v) (λg=>by simp [qC] at g) (λp q vs kvs e r _ ih g=>?_) h g;by_cases c:p.1=k
 ·rw [ki c];have c':=e▸c;have:qC (q::kvs) k=am q.2:=by simp [qC,Be,c']
  rw [this] at g;cases g;exact⟨_,rfl,r⟩
 ·rw [kj c];have c':=e▸c;have:qC (q::kvs) k=qC kvs k:=by simp [qC,Be,c']
  exact ih (this▸g)
end
end
section
open PySem PySem.Spec PyProof.Rows L2 PL
variable {K:Ab}
def fAs (K:Ab) (fs:bg) (i:Nat) (w:W (List PV)):TS:=λD σ H=>aR K H σ fs/\w.run λl=>∀a vs H',cQ σ fs H H'->aR K H' σ fs->H a=bm->H' a=am (.lst vs)->aE K [] H' vs l->D.nx (σ.set i (am (.ref a))) H'
structure AS (X:Cx) (K:Ab) (fs:bg) (st:ss) (i:Nat) (w:W (List PV)):Prop where p:PS X st (fAs K fs i w)
section
variable {st:ss}{rest:List ss}{T:Type}{out:T->End}{x:Bool}{k:List PV->W T}
def SF.as (h:AS X K fs st i wl) (hr:∀l,SF X K x (fs.set i (am (.ol bm l))) rest (k l) out):SF X K x fs (st::rest) (.bind wl k) out:=SF.step h.p λD σ H ⟨sr,q⟩=>⟨sr,wl.mono (λl q1 a ws H1 g1 s1 n e v1=>by
 have no:=sr.noOwn n;have s2:=s1.wj (t:=.ol bm l) ⟨by simp,ws,e,v1⟩ no i;exact⟨_,k l,hr l,s2,(k l).mono (λt q2=>q2.go (cE.wj s1 g1.f no n i) sr s2) q1⟩) q⟩
def Xh (b:Nat) (hs:fs[b]?=am (am t)) (h:AS X K (fs.set b (am (.val t.bv))) st i wl) (hb:t.bw=true:=by rfl):AS X K fs st i (.bind wl uR):=⟨λZ s σ H D I ⟨sr,q⟩=>by
 obtain⟨a,o,ob,I2,s2,Ë⟩:=bor I sr hs hb;refine bV (h.p Z s σ _ {nx:=λσ' H1=>∃b vs l',σ'=σ.set i (am (.ref b))/\cQ σ (fs.set _ (am (.val t.bv))) (upd H a (.cu ob o)) H1/\aR K H1 σ (fs.set _ (am (.val t.bv)))/\upd H a (.cu ob o) b=bm/\H1 b=am (.lst vs)/\aE K [] H1 vs l'/\tJ l'=true/\∀a vs H',cQ σ fs H H'->aR K H' σ fs->H a=bm->H' a=am (.lst vs)->aE K [] H' vs l'->D.nx (σ.set i (am (.ref a))) H',rt:=D.rt,bk:=D.bk,ct:=D.ct} I2 ⟨s2,wl.mono (λl' q1 b vs H1 g1 s1 n e v1=>⟨b,vs,l',rfl,g1,s1,n,e,v1,q1.1,q1.2⟩) q⟩) λf s1 q1=>?_;cases f with
 | next=>
  obtain⟨σ',H1,I1,b,vs,l',rfl,g1,QL,n,eb,v1,d,q1⟩:=q1;obtain⟨I3,g3,s3,t3,k3⟩:=Ë _ s1 H1 I1 g1 QL;have nb:b≠a:=λy=>by subst y;rw [aM] at n;cases n
  exact⟨_,_,I3,q1 b vs _ g3 s3 (by rw [av nb] at n;exact n) (k3 b vs nb eb) (aE.jx t3 v1 d)⟩
 | ret v=>exact q1
 | brk=>exact q1
 | cont=>exact q1⟩
end
section
variable {T2:Type}{wt:PV->W T2}{cq:T2->bg}{tf:T2->W Bool}{te:T2->W PV}
def aaP (hc:X.calm=true) (hN:X.N.Nodup) (xr:X.N[i]?=am y) (hx:X.env.scope.names.lookup y=am .local) (S:aw X.env.scope X.N sc N' ix) (hi:qJ X K fs tg iter wl) (hg:∀cl C s2 H2 fp,GF (fi X sc N' cl C s2 H2 fp) K (bj ix fs) tg is wt cq) (Z1:∀cl C s2 H2 fp t,FF (fi X sc N' cl C s2 H2 fp) K (cq t) Ê (tf t)) (he:∀cl C s2 H2 fp t,EF (fi X sc N' cl C s2 H2 fp) K (cq t) Ä (te t))
  (hf:∀p,f p=.bind (wt p) λt=>.bind (tf t) λk=>if k=true then .bind (te t) λv=>.ret (am v) else .ret bm) (hl:qI is (bj ix fs) cq/\∀t,hU (cq t) (bj ix fs)) (uD:∀j∈is,ix[j]?=am bm)
  (og:im (.ListComp Ä [⟨tg,iter,Ê,0⟩] sc pos) (am (.Name y px)) ka.line X.env=pure true:=by rfl) (hs:uc X iter:=by intro _;rfl) :
  AS X K fs (.Assign [.Name y px] (.ListComp Ä [⟨tg,iter,Ê,0⟩] sc pos) ka) i (.bind wl λl=>lP l f):=
 ⟨PS.imp (zl hc hN xr hx S hi.p (λcl C s2 H2 fp=>(hg cl C s2 H2 fp).p) (λcl C s2 H2 fp Z s σ H Q I ⟨t,q⟩=>(Z1 cl C s2 H2 fp t).p Z s σ H Q I q) (λcl C s2 H2 fp Z s σ H Q I ⟨t,q⟩=>(he cl C s2 H2 fp t).p Z s σ H Q I q) og hs) λD σ H ⟨sr,q⟩=>
  O3 (K:=K) S rfl hf hl.1 hl.2 uD σ H _ ⟨sr,q⟩⟩
def SV (hc:X.calm=true) (hN:X.N.Nodup) (xr:X.N[i]?=am y) (hx:X.env.scope.names.lookup y=am .local) (S:aw X.env.scope X.N sc N' ix) (hi:qJ X K fs tg iter wl) (hg:∀cl C s2 H2 fp,GF (fi X sc N' cl C s2 H2 fp) K (bj ix fs) tg is wt cq) (he:∀cl C s2 H2 fp t,EF (fi X sc N' cl C s2 H2 fp) K (cq t) Ä (te t))
  (hl:qI is (bj ix fs) cq/\∀t,hU (cq t) (bj ix fs)) (uD:∀j∈is,ix[j]?=am bm)
  (og:im (.ListComp Ä [⟨tg,iter,[],0⟩] sc pos) (am (.Name y px)) ka.line X.env=pure true:=by rfl) (hs:uc X iter:=by intro _;rfl) :
  AS X K fs (.Assign [.Name y px] (.ListComp Ä [⟨tg,iter,[],0⟩] sc pos) ka) i (.bind wl λl=>bI l λp=>.bind (wt p) te):=by
 rw [JV];exact aaP (tf:=λ_=>.ret true) hc hN xr hx S hi hg (λ_ _ _ _ _ _=>Ib) he (λp=>rfl) hl uD og hs
def SW {f:PV->W PV} (hc:X.calm=true) (hN:X.N.Nodup) (xr:X.N[i]?=am y) (hx:X.env.scope.names.lookup y=am .local) (S:aw X.env.scope X.N sc N' ix) (hi:qJ X K fs tg iter wl) (hg:∀cl C s2 H2 fp,PG (fi X sc N' cl C s2 H2 fp) tg (dZ j)) (he:∀cl C s2 H2 fp t,EF (fi X sc N' cl C s2 H2 fp) K ((bj ix fs).set j (am (.val t))) Ä (f t)) (h0:ix[j]?=am bm)
  (og:im (.ListComp Ä [⟨tg,iter,[],0⟩] sc pos) (am (.Name y px)) ka.line X.env=pure true:=by rfl) (hs:uc X iter:=by intro _;rfl) :
  AS X K fs (.Assign [.Name y px] (.ListComp Ä [⟨tg,iter,[],0⟩] sc pos) ka) i (.bind wl λl=>bI l f):=
 have h1:(bj ix fs)[j]?=am bm:=by unfold bj;rw [Ak,h0];rfl
 SV (wt:=.ret) hc hN xr hx S hi (λcl C s2 H2 fp=>Ug (hg cl C s2 H2 fp)) he (N6 h1) (λm hj=>by rw [AR] at hj;subst hj;exact h0) og hs
end
end
end FL
variable {kvs:List (List L2.Key×PL.PV)}
namespace FL
section
open PySem PySem.Spec PyProof.Rows L2 PL
variable {K:Ab}
def bH (K:Ab) (H:Hp) (vs:List (List Key×V)) (kvs:List (List Key×PV)):Prop:=vs.map (·.1)=kvs.map (·.1)/\aE K [] H (vs.map (·.2)) (kvs.map (·.2))
def Ta (K:Ab) (H:Hp) (ob:HO) (v:PV):Prop:=(∃vs kvs,ob=.dK vs/\v=dvK kvs/\iz K H vs kvs)\/∃vs kvs,ob=.dT vs/\v=yQ kvs/\bH K H vs kvs
def fDv (K:Ab) (fs:bg) (w:W PV):TE:=λσ H Q=>aR K H σ fs/\w.run λv=>∀a ob H',cQ σ fs H H'->aR K H' σ fs->H a=bm->H' a=am ob->Ta K H' ob v->Q (.ref a) H'
structure DVF (X:Cx) (K:Ab) (fs:bg) (e:ii) (w:W PV):Prop where p:PE X e (fDv K fs w)
section
variable {σ:L2.St}{fs:bg}{H:Hp}{a:ce}{ob:HO}{v:PV}
def aR.YG (s:aR K H σ fs) (n:¬dF σ fs a) (e:H a=am ob) (n1:∀vs,ob≠.tup vs) (n2:∀o u,ob≠.cu o u) (o':HO):aR K (upd H a o') σ fs:=⟨s.len,λi t q=>by
 obtain⟨u,h1,h2⟩:=s.at' i t q;exact⟨u,h1,h2.mono (f9 o' e n1 n2) (λx b o eb ow hb z=>by subst eb;rw [av (λy:b=a=>n ⟨i,t,x,q,ow,h1,y▸hb⟩)];exact z)⟩,s.nd⟩
def Ta.cu {X:Cx}{Z:List (ce×Obj)}{s:ci}{σ':L2.St} (I:Inv X Z σ' H s) (e:H a=am ob) (d:Ta K H ob v):∃u,Inv X Z σ' (upd H a u) s/\VR K [] (upd H a u) (.ref a) v/\(∀vs,ob≠.tup vs)/\∀o u,ob≠.cu o u:=by
 rcases d with⟨vs,kvs,rfl,rfl,d1,d2⟩ | ⟨vs,kvs,rfl,rfl,d1,d2⟩
 ·obtain⟨o,I2⟩:=I.J9 e;exact⟨_,I2,.dk aM (TR d1) (aE.tk (f9 _ e (by simp) (by simp)) d2),by simp,by simp⟩
 ·obtain⟨o,I2⟩:=I.freeze e;exact⟨_,I2,.dt aM (TQ d1) (aE.tk (f9 _ e (by simp) (by simp)) d2),by simp,by simp⟩
end
section
variable {a b c:ii}{w:W PV}
def aeA (h:DVF X K fs e w):EF X K fs e w:=⟨λZ s σ H Q I ⟨sr,q⟩=>by
 refine bV (h.p Z s σ H (λu H1=>∃a ob v,u=.ref a/\cQ σ fs H H1/\aR K H1 σ fs/\H a=bm/\H1 a=am ob/\Ta K H1 ob v/\∀u H',cQ σ fs H H'->aR K H' σ fs->VR K [] H' u v->Q u H') I ⟨sr,w.mono (λv q1 a ob H1 g1 s1 n e d=>⟨a,ob,v,rfl,g1,s1,n,e,d,q1⟩) q⟩) λu s1 ⟨v,H1,I1,r1,a,ob,v',e,g1,QL,n,ea,d,q1⟩=>?_;subst e;obtain⟨o',I2,vr,n1,n2⟩:=d.cu I1 ea;exact⟨.ref a,_,I2,r1,q1 _ _ (g1.side n _) (QL.YG (λz=>sr.noOwn n z) ea n1 n2 _) vr⟩⟩
def JG (kv:List Key×PV):PV:=.tup [.tup (kv.1.map kP),kv.2]
theorem Oo (H:Hp):∀k:List Key,aE K [] H (k.map kV) (k.map kP)
 | []=>.nil
 | .inl i::k=>.cons (.int i) (Oo H k)
 | .inr i::k=>.cons (.str i) (Oo H k)
theorem FJ:∀{k:List Key}{vs:List V},aE K [] H vs (k.map kP)->vs=k.map kV
 | [],_,h=>by cases h;rfl
 | .inl i::k,_,h=>by
  cases h with
  | cons x t=>cases x;rw [FJ t];rfl
 | .inr i::k,_,h=>by
  cases h with
  | cons x t=>cases x;rw [FJ t];rfl
theorem zw:∀{kvs:List (List Key×PV)}{vs:List V},aE K [] H vs (kvs.map JG)->∃zs:List Pz,vs=zs.map (λz=>V.ref z.pa)/\(∀z∈zs,z.At H)/\zs.map (·.k)=kvs.map (·.1)/\aE K [] H (zs.map (·.v)) (kvs.map (·.2))
 | [],_,h=>by cases h;exact⟨[],rfl,by simp,rfl,.nil⟩
 | kv::kvs,_,h=>by
  cases h with
  | cons x t=>
  obtain⟨zs,z1,z2,z3,z4⟩:=zw t;cases x with
  | @tup p ws _ e r=>
  cases r with
  | cons x1 t1=>
  cases t1 with
  | cons x2 t2=>
  cases t2;cases x1 with
  | @tup b us _ e1 r1=>
  have:=FJ r1;subst this;refine⟨⟨p,kv.1,b,_⟩::zs,by rw [Aq,z1],λz hz=>?_,by rw [Aq,Aq,z3],.cons x2 z4⟩;rcases Aw.mp hz with rfl | hz
  ·exact⟨e,e1⟩
  ·exact z2 z hz
def Iv (l:List PV):W PV:=⟨λQ=>∃kvs:List (List Key×PV),l=kvs.map JG/\(kvs.map (·.1)).Nodup/\kvs.length<=1000/\Q (yQ kvs),λf q=>q.imp λkvs h=>⟨h.1,h.2.1,h.2.2.1,f _ h.2.2.2⟩⟩
theorem SJ (hK:X.K=K) (hc:X.calm=true) (hu:X.A.units+200 < pc) (hg:Gl X "dict") (hm:X.mg "dict"=bm) (ha:IW X K fs e wl) (he:gM X e []:=by rfl) (dH:lT X pos []:=by rfl) :
  DVF X K fs (.Call (.Name "dict" p) [e] [] pos) (.bind wl Iv):=⟨PE.imp (lh (IH K hK hc ∅) hg hm boot_dict (aZ ha.p b9 he) ⋯ ⋯ he dH) λσ H Q ⟨sr,q⟩=>⟨sr,wl.mono (λl q1 u H1 g1 s1 v0 v1=>by
  obtain⟨kvs,rfl,nd,hl,q1⟩:=q1;obtain⟨a,vs,rfl,e3,e4⟩:=v1 H1 .refl s1;obtain⟨zs,rfl,z2,z3,z4⟩:=zw e4;have hzl:zs.length=kvs.length:=by have:=congrArg BN z3;simpa using this
  refine⟨a,zs,rfl,e3,z2,by rw [z3];exact nd,by omega,λp H2 s2 h2 n2=>?_⟩;exact q1 _ _ H2 (g1.trans (cQ.same s2)) (s1.same s2) (g1.there _ n2) h2 (.inr ⟨_,_,rfl,rfl,by rw [AB,<- z3];rfl,by rw [AB];exact aE.tk s2.eM z4⟩)) q⟩⟩
def LS (nd:(kvs.map (·.1)).Nodup) (hl:kvs.length<=1000) (q:Q (yQ kvs)):(Iv (kvs.map JG)).run Q:=⟨kvs,rfl,nd,hl,q⟩
def cI (kvs:List (List Key×PV)) (k:List Key):Option PV:=(kvs.find? λkv=>decide (kv.1=k)).map (·.2)
theorem bH.get {k:List Key}:∀{vs:List (List Key×V)}{kvs:List (List Key×PV)},bH K H vs kvs->(cI kvs k=bm->hV vs k=bm)/\∀{v},cI kvs k=am v->∃u,hV vs k=am u/\VR K [] H u v
 | [],[],_=>⟨λ_=>rfl,λg=>by simp [cI] at g⟩
 | [],_::_,h=>by simp [bH] at h
 | _::_,[],h=>by simp [bH] at h
 | p::vs,q::kvs,h=>by
  obtain⟨h1,h2⟩:=h;rw [Aq,Aq] at h1 h2;injection h1 with e b;cases h2 with
  | cons r t=>
  have ih:=bH.get (k:=k) (vs:=vs) (kvs:=kvs) ⟨b,t⟩;by_cases c:p.1=k
  ·rw [ki c];have c':=e▸c;have:cI (q::kvs) k=am q.2:=by simp [cI,Be,c']
   rw [this];refine⟨λz=>(by cases z),λ{v} z=>?_⟩;cases z;exact⟨_,rfl,r⟩
  ·rw [kj c];have c':=e▸c;have:cI (q::kvs) k=cI kvs k:=by simp [cI,Be,c']
   rw [this];exact ih
def iz.get' {k:Key}:∀{vs:List (Key×V)}{kvs:List (Key×PV)},iz K H vs kvs->(qC kvs k=bm->hV vs k=bm)/\∀{v},qC kvs k=am v->∃u,hV vs k=am u/\VR K [] H u v:=λ{vs kvs} h=>⟨λz=>by
 have:=h.has k;cases e:hV vs k with
 | none=>rfl
 | some u=>
  rw [e] at this;have h2:=this.symm;unfold qC at z;rw [Eu,List.find?_eq_none] at z;obtain⟨x,hx,hx2⟩:=List.any_eq_true.mp h2;exact absurd hx2 (z x hx),λz=>h.get k z⟩
def TX (k:Key) (l:List PV):kP k≠.tup l:=by cases k <;> exact PV.noConfusion
def Wi {a b:Key} (h:kP a=kP b):a=b:=by
 cases a <;> cases b <;> simp [kP] at h <;> rw [h]
theorem xc:∀{a b:List Key},a.map kP=b.map kP->a=b
 | [],[],_=>rfl
 | [],_::_,h=>by simp at h
 | _::_,[],h=>by simp at h
 | x::a,y::b,h=>by
  rw [Aq,Aq] at h;injection h with h1 h2;rw [Wi h1,xc h2]
inductive GD:PV->PV->Option PV->Prop
 | k (kvs:List (Key×PV)) (k:Key):kvs≠[]->GD (dvK kvs) (kP k) (qC kvs k)
 | t (kvs:List (List Key×PV)) (k:List Key):kvs≠[]->GD (yQ kvs) (.tup (k.map kP)) (cI kvs k)
def UE {kvs:List (Key×PV)} (h0:kvs≠[]) (h:VR K [] H u (dvK kvs)):∃a o vs,u=.ref a/\H a=am (.cu o (.dK vs))/\iz K H vs kvs:=by
 have Þ:∀{vs:List (Key×V)}{kvs:List (Key×PV)},(kvs.map λkv=>kP kv.1)=(vs.map λkv=>kP kv.1)->vs.map (·.1)=kvs.map (·.1):=λ{vs kvs} e=>by
  have e:(kvs.map (·.1)).map kP=(vs.map (·.1)).map kP:=by rw [AB,AB];exact e
  exact (xc e).symm
 cases h with
 | @dk a o vs _ _ e k r=>exact⟨a,o,vs,rfl,e,Þ k,r⟩
 | @dt a o vs _ _ e k r=>
  cases kvs with
  | nil=>exact absurd rfl h0
  | cons x l=>cases vs with
   | nil=>simp at k
   | cons y m=>simp at k;exact absurd k.1 (TX _ _)
def Mz (h0:kvs≠[]) (h:VR K [] H u (yQ kvs)):∃a o vs,u=.ref a/\H a=am (.cu o (.dT vs))/\bH K H vs kvs:=by
 have Þ:∀{vs:List (List Key×V)}{kvs:List (List Key×PV)},(kvs.map λkv=>PV.tup (kv.1.map kP))=(vs.map λkv=>PV.tup (kv.1.map kP))->vs.map (·.1)=kvs.map (·.1):=λ{vs kvs} e=>by
  induction kvs generalizing vs with
  | nil=>cases vs with
   | nil=>rfl
   | cons y m=>simp at e
  | cons x l ih=>cases vs with
   | nil=>simp at e
   | cons y m=>
    injection e with e1 e2;injection e1 with e1;rw [Aq,Aq,xc e1,ih e2]
 cases h with
 | @dt a o vs _ _ e k r=>exact⟨a,o,vs,rfl,e,Þ k,r⟩
 | @dk a o vs _ _ e k r=>
  cases kvs with
  | nil=>exact absurd rfl h0
  | cons x l=>cases vs with
   | nil=>simp at k
   | cons y m=>simp at k;exact absurd k.1.symm (TX _ _)
def GD.ok {z:V}{d y:PV}{r:Option PV} (h:GD d y r) (hu:VR K [] H u d) (hz:VR K [] H z y):∃a o,u=.ref a/\IsD H a/\IX H a z o/\(r=bm->o=bm)/\∀v,r=am v->∃w,o=am w/\VR K [] H w v:=by
 cases h with
 | k kvs k h0=>
  obtain⟨a,o,vs,rfl,e,d⟩:=UE h0 hu;have ez:z=kV k:=by
   cases k with
   | inl i=>cases hz;rfl
   | inr i=>cases hz;rfl
  subst ez;exact⟨a,hV vs k,rfl,.inl ⟨vs,.inr ⟨o,e⟩⟩,.inl ⟨vs,k,.inr ⟨o,e⟩,rfl,rfl⟩,(iz.get' d).1,λv=>(iz.get' d).2⟩
 | t kvs k h0=>
  obtain⟨a,o,vs,rfl,e,d⟩:=Mz h0 hu;cases hz with
  | @tup b us _ e1 r1=>
  have:=FJ r1;subst this;exact⟨a,hV vs k,rfl,.inr ⟨vs,.inr ⟨o,e⟩⟩,.inr ⟨vs,k,b,.inr ⟨o,e⟩,rfl,e1,rfl⟩,(bH.get d).1,λv=>(bH.get d).2⟩
def dgW (d y:PV):W PV:=⟨λQ=>∃v,GD d y (am v)/\Q v,λf ⟨v,a,q⟩=>⟨v,a,f _ q⟩⟩
def Qi (a b:W PV):W PV:=.bind a λx=>.bind b λy=>dgW x y
theorem tH (hu:X.A.units+200 < pc) (ha:EF X K fs a wa) (hb:EF X K fs b wb) (hs:S6 b):EF X K fs (.Subscript a b pos) (Qi wa wb):=⟨PE.imp (JD ∅ ha.p hb.p hs) λσ H Q ⟨sr,q⟩=>⟨sr,wa.mono (λx q1 u1 H1 g1 s1 v1=>⟨s1,wb.mono (λy q2 u2 H2 g2 s2 v2=>by
 obtain⟨v,g,q2⟩:=q2;obtain⟨a,o,rfl,_,g2',_,h⟩:=g.ok (g2.vr s1 v1) v2;obtain⟨w,rfl,vw⟩:=h v rfl;exact⟨a,w,rfl,g2',q2 _ H2 (g1.trans g2) s2 vw⟩) q1⟩) q⟩⟩
def rf {k:List Key} (h:cI kvs k=am v) (q:Q v):(dgW (yQ kvs) (.tup (k.map kP))).run Q:=⟨v,by rw [<- h];exact .t kvs k (λz=>by subst z;simp [cI] at h),q⟩
def Oa (d:PV):W (List PV):=⟨λQ=>∃kvs:List (List Key×PV),d=yQ kvs/\kvs≠[]/\kvs.length<=1000/\Q (kvs.map λkv=>.tup (kv.1.map kP)),λf q=>q.imp λkvs h=>⟨h.1,h.2.1,h.2.2.1,f _ h.2.2.2⟩⟩
theorem R3 (h:EF X K fs e w):qJ X K fs tg e (.bind w Oa):=⟨PI.imp (ND h.p) λσ H R ⟨sr,q⟩=>⟨sr,w.mono (λx q1 u1 H1 g1 s1 v1=>by
 obtain⟨kvs,rfl,h0,hl,q1⟩:=q1;obtain⟨a,o,vs,rfl,e,d1,d2⟩:=Mz h0 v1;have len:vs.length=kvs.length:=by have:=congrArg BN d1;simpa using this
 refine⟨a,o,vs,rfl,e,q1 _ H1 g1 s1 ⟨cv (by simpa using hl),λH' t=>?_⟩⟩;have e':=t.z _ _ _ e;refine⟨λi p hp=>?_,vs,e',by simp [len]⟩;rw [Ak] at hp;cases z:kvs[i]? with
 | none=>rw [z] at hp;cases hp
 | some kv=>
  rw [z] at hp;have hp:=Option.some.inj hp;subst hp;have hi:=(Al.mp z).1;refine⟨⟨vs,e',by omega⟩,λy H2 yy=>?_⟩;obtain⟨rfl,yy⟩:=yy;obtain⟨b,k,v,rfl,k2,k3⟩:=yy vs e';have ek:k=kv.1:=by
   have h1:(vs.map (·.1))[i]?=am k:=by rw [Ak,k2];rfl
   rw [d1,Ak,z] at h1;exact (Option.some.inj h1).symm
  subst ek;exact⟨kW.refl _,.tup k3 (Oo _ _)⟩) q⟩⟩
def Lm {Q:List PV->Prop} (h0:kvs≠[]) (hl:kvs.length<=1000) (q:Q (kvs.map λkv=>.tup (kv.1.map kP))):(Oa (yQ kvs)).run Q:=⟨kvs,rfl,h0,hl,q⟩
end
end
end FL
variable {κ:PyProof.Rows.SortKind}{vs:List AZ}{p:Array Nat}{m:Nat}
namespace L2
open PySem PySem.Spec PyProof.Rows
def eL (N:Nat) (P:α->Prop):DH α->Prop
 | .ret a=>P a
 | .ask i j k=>i < N/\j < N/\∀b,eL N P (k b)
theorem eL.mono {N:Nat}{P P':α->Prop} (h:∀a,P a->P' a):∀{t:DH α},eL N P t->eL N P' t
 | .ret a,q=>h a q
 | .ask i j k,q=>⟨q.1,q.2.1,λb=>eL.mono h (q.2.2 b)⟩
theorem eL.bind {N:Nat}{P:α->Prop}{P':β->Prop}{f:α->DH β} (hf:∀a,P a->eL N P' (f a)):∀{t:DH α},eL N P t->eL N P' (t.bind f)
 | .ret a,q=>hf a q
 | .ask i j k,q=>⟨q.1,q.2.1,λb=>eL.bind hf (q.2.2 b)⟩
theorem eL.wp {N:Nat}{P:α->Prop}{cmp:Nat->Nat->(Bool->ci->Prop)->ci->Prop}{Q:α->ci->Prop} (hc:∀i j C,i < N->j < N->(∀b,C b s)->cmp i j C s) (hq:∀a,P a->Q a s):∀{t:DH α},eL N P t->t.kasWp cmp Q s
 | .ret a,q=>hq a q
 | .ask i j k,q=>hc i j _ q.1 q.2.1 λb=>eL.wp hc hq (q.2.2 b)
def cD (N:Nat) (p:Array Nat):Prop:=p.toList.Perm (Az N)
def cD.lt {N:Nat} (h:cD N p) (h0:0 < N) (k:Nat):p.getD k 0 < N:=by
 by_cases c:k < p.size
 ·have:p.getD k 0=p[k]:=by simp [Array.getD,c]
  rw [this];exact AY.mp (h.mem_iff.mp (by simp))
 ·have:p.getD k 0=0:=by simp [Array.getD,c]
  rw [this];exact h0
def cD.rev {N:Nat} (h:cD N p) (i j:Nat):cD N (EG p i j):=(D6.mp (mirror_perm p i j _)).trans h
def cD.bub {N:Nat} (h:cD N p) (i j:Nat):cD N (bubble p i j):=(D6.mp (bubble_perm p i j)).trans h
section
variable {N:Nat} (h0:0 < N)
include h0
theorem Ol (h:cD N p):∀f n,eL N (λ_=>True) (PySem.W.kas_asc p f n)
 | 0,n=>trivial
 | f+1,n=>⟨h.lt h0 _,h.lt h0 _,λb=>by
  cases b with
  | true=>exact trivial
  | false=>exact Ol h f (n+1)⟩
theorem wR:∀f (p:Array Nat) n q,cD N p->eL N (λr=>cD N r.1) (PySem.W.kas_desc f p n q)
 | 0,p,n,q,h=>h
 | f+1,p,n,q,h=>⟨h.lt h0 _,h.lt h0 _,λb=>by
  cases b with
  | true=>
   show eL N _ (if q > 0 then _ else _)
   split
   ·exact wR f _ _ _ (h.rev _ _)
   ·exact wR f _ _ _ h
  | false=>exact⟨h.lt h0 _,h.lt h0 _,λb=>by
    cases b with
    | true=>exact h
    | false=>exact wR f _ _ _ h⟩⟩
def Od (h:cD N p):eL N (λr=>cD N r.2) (PySem.W.kas_tail3 n m p):=by
 exact eL.bind (N:=N) (P:=λ_=>True) (P':=λr:Nat×Array Nat=>cD N r.2) (f:=λk=>.ret (k,EG p 0 n)) (λk _=>(show cD N (EG p 0 n) from h.rev _ _)) (Ol h0 (h.rev _ _) _ _)
def Oh (h:cD N p):eL N (λr=>cD N r.2) (PySem.W.kas_descPart n m p):=eL.bind (λr hr=>by
 split
 ·exact Od h0 (hr.rev _ _)
 ·exact Od h0 hr) (wR h0 _ _ _ _ h)
def RX (h:cD N p):eL N (λr=>cD N r.2) (PySem.W.kas_count m p):=eL.bind (λn _=>by
 split
 ·exact h
 ·split
  ·exact⟨h.lt h0 _,h.lt h0 _,λb=>by
    cases b with
    | true=>exact h
    | false=>exact Oh h0 (h.rev _ _)⟩
  ·exact Oh h0 h) (Ol h0 h _ _)
theorem wQ (h:cD N p) (k:Nat):∀f l r,eL N (λ_=>True) (PySem.W.kas_place p k f l r)
 | 0,l,r=>trivial
 | f+1,l,r=>by
  show eL N _ (if l≥r then _ else _)
  split
  ·exact trivial
  ·exact⟨h.lt h0 _,h.lt h0 _,λb=>by
    cases b with
    | true=>exact wQ h k f _ _
    | false=>exact wQ h k f _ _⟩
theorem TV:∀f (p:Array Nat) k,cD N p->eL N (cD N) (PySem.W.kas_bin f p k)
 | 0,p,k,h=>h
 | f+1,p,k,h=>eL.bind (λl _=>TV f _ _ (h.bub _ _)) (wQ h0 h k _ _ _)
def Wh:eL N (cD N) (Ft N):=eL.bind (λr hr=>by
 split
 ·exact TV h0 _ _ _ hr
 ·exact hr) (RX h0 (List.Perm.refl _))
end
section
theorem Hr {P:PySem.Fin->ci->Prop} (ho:s.heap.get? a=am (sB "list" vs.toArray n)) (ä:vs.length < 64)
  (ĝ:2<=vs.length->∀h',(∀b o,b≠a->s.heap.get? b=am o->h'.get? b=am o)->db (dL prog w) A (keyKind' vs.toArray) (λk s'=>k=κ/\s'={s with heap:=h'}) (λ_ _=>False) {s with heap:=h'})
  (iB:∀h',(∀b o,b≠a->s.heap.get? b=am o->h'.get? b=am o)->∀i j,i < vs.length->j < vs.length->∀C:Bool->ci->Prop,(∀b,C b {s with heap:=h'})->db (dL prog w) A (keyLt' κ (vs.getD i AM) (vs.getD j AM)) C (λ_ _=>False) {s with heap:=h'})
  (h:∀out:List bn,out.Perm vs->P (.done (.ret .none)) {s with heap:=sortedHeap s.heap a vs out.toArray}) :
  db (dL prog w) A (u8.«list.sort» ⟨[.ref a],[]⟩) P E s:=by
 rw [list_sort_plain];have ha:=Ar ho;refine Aa (listItems_at ho rfl ?_);refine Aa (listUpdate_at ho rfl ?_);obtain⟨e1,ho1⟩:∃e1,(s.heap.update a (Bi λ_=>#[])).get? a=am (sB "list" #[] e1):=⟨_,get?_update_seq ho (λ_=>#[])⟩;refine Aa (seqEpoch_at ho1 rfl ?_);refine Aa (CK ?_);refine Aa (wpAny_newList ?_);refine Bk ?_;have ü:(((s.heap.update a (Bi λ_=>#[])).push (sB "tuple" vs.toArray 0)).push (sB "list" #[] 0)).get? a=am (sB "list" #[] e1):=by
  rw [Heap.get?_push_ne _ _ _ (by rw [size_push',Ei];exact AA (Nat.lt_succ_of_lt ha)),Heap.get?_push_ne _ _ _ (by rw [Ei];exact AA ha)];exact ho1
 have kp:∀b o,b≠a->s.heap.get? b=am o->(((s.heap.update a (Bi λ_=>#[])).push (sB "tuple" vs.toArray 0)).push (sB "list" #[] 0)).get? b=am o:=λb o n e=>Ag _ (Ag _ (by rw [Fb _ _ _ _ n];exact e));dsimp only;have hsz:vs.toArray.size=vs.length:=by simp
 by_cases h2:vs.toArray.size < 2
 ·rw [if_pos h2,if_pos h2];refine Aa (Ae ?_);refine Aa (Ae ?_);dsimp only;refine Aa (seqEpoch_at ü rfl ?_);refine Aa (listUpdate_at ü rfl ?_ (hsz2:=by rw [Array.size_map];show (pairsOf vs).size<=_;rw [pairsOf_size,sizeLine_eq];omega));simp only [bne_self_eq_false,Au,if_false];refine Ae ?_;have e:(arrOf (SortSt.mk' general' (vs.toArray.zip vs.toArray) #[] 7 bm)).map (·.2)=vs.toArray:=by
   apply Array.toList_inj.mp;simp [List.map_snd_zip]
  show P _ {s with heap:=_};rw [e];exact h vs (List.Perm.refl _)
 ·rw [if_neg h2,if_neg h2];have qZ:2<=vs.length:=by omega
  refine Aa (BJ (ĝ qZ _ kp) (λk s0 hk=>?_) λ_ _ x=>x.elim);obtain⟨rfl,rfl⟩:=hk;have hw:(Ft vs.length).kasWp (PySem.W.kas_ask prog w A k vs) (λp s'=>cD vs.length p/\s'={s with heap:=((s.heap.update a (Bi λ_=>#[])).push (sB "tuple" vs.toArray 0)).push (sB "list" #[] 0)}) {s with heap:=((s.heap.update a (Bi λ_=>#[])).push (sB "tuple" vs.toArray 0)).push (sB "list" #[] 0)}:=
   eL.wp (λi j C hi hj hC=>iB _ kp i j hi hj C hC) (λp hp=>⟨hp,rfl⟩) (Wh (show 0 < vs.length by omega))
  refine Aa (BJ (PySem.W.kat_run (Q:=λqN s'=>∃p:Array Nat,cD vs.length p/\arrOf qN=p.map (PySem.W.kas_item (vs.toArray.zip vs.toArray))/\failedOf qN=bm/\s'={s with heap:=((s.heap.update a (Bi λ_=>#[])).push (sB "tuple" vs.toArray 0)).push (sB "list" #[] 0)})
   rfl qZ ä (λp' qN s' a1 a2 a3 a4=>⟨p',a4.1,a2,a3,a4.2⟩) hw) ?_ λ_ _ e=>e)
  rintro⟨⟨⟩,qN⟩ s' ⟨p,hp,har,hf,rfl⟩;have adO:=PySem.W.kat_snds rfl har;have Ua:(p.toList.map λi=>vs.getD i AM).Perm vs:=by
   have e:(Az vs.length).map (λi=>vs.getD i AM)=vs:=by
    apply B3;intro i;by_cases c:i < vs.length
    ·rw [Ak,Bv c,Ad c];show am (vs.getD i AM)=_;rw [Ah,Ad c];rfl
    ·rw [AI (by simp;omega),AI ∅]
   have:=hp.map (λi=>vs.getD i AM);rw [e] at this;exact this
  rw [adO];refine Aa (seqEpoch_at ü rfl ?_);refine Aa (listUpdate_at ü rfl ?_ (hsz2:=by rw [Aj,Ua.length_eq,sizeLine_eq];omega));rw [hf];simp only [bne_self_eq_false,Au,if_false];exact Ae (h _ Ua)
def QI {l:ce}{Q:bn->ci->Prop} (hl:s.heap.IsList l vs.toArray) (ä:vs.length < 64)
  (ĝ:2<=vs.length->∀h',(∀b o,s.heap.get? b=am o->h'.get? b=am o)->db (dL prog w) A.in1.in1 (keyKind' vs.toArray) (λk s'=>k=κ/\s'={s with heap:=h'}) (λ_ _=>False) {s with heap:=h'})
  (iB:∀h',(∀b o,s.heap.get? b=am o->h'.get? b=am o)->∀i j,i < vs.length->j < vs.length->∀C:Bool->ci->Prop,(∀b,C b {s with heap:=h'})->db (dL prog w) A.in1.in1 (keyLt' κ (vs.getD i AM) (vs.getD j AM)) C (λ_ _=>False) {s with heap:=h'})
  (h:∀out:List bn,out.Perm vs->Q (.ref (s.heap.objs.size+1)) {s with heap:=sortedAll s.heap vs out.toArray}) :
  db (dL prog w) A (call (.builtin "sorted") [.ref l]) Q E s:=by
 refine Calls.call_function_entry kind_sorted plain_sorted entry_sorted (args_sorted1 _) ?_;refine Aa (m:=checkCount "sorted" 1 1 _) (Ae ?_);refine Aa (collect_list hl ?_);refine Aa (wpAny_newList ?_);have hsz:((s.heap.push (sB "list" #[] 0)).update s.heap.objs.size (Bi (·++vs.toArray))).objs.size=s.heap.objs.size+1:=by
  rw [Ei,size_push']
 have û:(((s.heap.push (sB "list" #[] 0)).update s.heap.objs.size (Bi (·++vs.toArray))).push (sB "list" vs.toArray 0)).get? (s.heap.objs.size+1)=am (sB "list" vs.toArray 0):=by
  rw [<- hsz];exact Ap _ rfl
 have kp:∀b o,s.heap.get? b=am o->b≠s.heap.objs.size+1/\(((s.heap.push (sB "list" #[] 0)).update s.heap.objs.size (Bi (·++vs.toArray))).push (sB "list" vs.toArray 0)).get? b=am o:=λb o e=>by
  have lt:=Ar e;refine⟨AA (Nat.lt_succ_of_lt lt),Ag _ ?_⟩;rw [Fb _ _ _ _ (AA lt)];exact Ag _ e
 show db _ _ _ _ _ {s with heap:=((s.heap.push (sB "list" #[] 0)).update s.heap.objs.size (Bi (·++vs.toArray))).push (sB "list" vs.toArray 0)};rw [hsz];refine Aa (Bk (Bl slot_list_sort ⟨_,û,rfl⟩ entry_list_sort (Hr (κ:=κ) û ä (λh2 h' k=>?_) (λh' k=>?_) λout hp=>⟨_,rfl,?_⟩) (args_list_sort _)))
 ·exact ĝ h2 h' λb o e=>k b o (kp b o e).1 (kp b o e).2
 ·exact iB h' λb o e=>k b o (kp b o e).1 (kp b o e).2
 ·exact Ae ⟨_,rfl,h out hp⟩
end
end L2
variable {t t1:PySem.Tok}{p:B9}
namespace FL
section
open PySem PySem.Spec PyProof.Rows L2 PL
variable {K:Ab}
def pK:PV->Bool
 | .tup [.str _,.tup [.int _,.int _]]=>true
 | _=>false
def HM (h:pK x=true):∃s i j,x=.tup [.str s,.tup [.int i,.int j]]:=by
 unfold pK at h
 split at h
 ·exact⟨_,_,_,rfl⟩
 ·cases h
section
def SH (I:Inv X Z σ H s) {v:V}{u:bn} (hv:VR X.K [] H v x) (ru:RelV v u) (hx:pK x=true):∃(a b:ce) (st:Str) (i j:Int) (t t1 t2:Tok) (oa ob:Obj) (na nb:Nat),u=.ref a/\s.heap.get? a=am oa/\oa.cls=.type "tuple"/\oa.data=.seq #[.str st t,.ref b] na/\s.heap.get? b=am ob/\ob.cls=.type "tuple"/\ob.data=.seq #[.int i t1,.int j t2] nb:=by
 obtain⟨st,i,j,rfl⟩:=HM hx;cases hv with
 | @tup p vs _ e r=>
 cases ru;cases r with
 | cons r1 r2=>
 cases r1;cases r2 with
 | cons r2 r3=>
 cases r3;cases r2 with
 | @tup b ws _ e2 r4=>
 cases r4 with
 | cons r4 r5=>
 cases r4;cases r5 with
 | cons r5 r6=>
 cases r6;cases r5;obtain⟨aq,rv,⟨o,h1,h2,n,h3⟩,_⟩:=I.tuple (d4.of (K:=X.K) e);obtain⟨cH,rv2,⟨o2,k1,k2,n2,k3⟩,_⟩:=I.tuple (d4.of (K:=X.K) e2);cases rv with
 | cons q1 q2=>
 cases q2 with
 | cons q2 q3=>
 cases q3;cases rv2 with
 | cons m1 m2=>
 cases m2 with
 | cons m2 m3=>
 cases m3;obtain⟨t,rfl⟩:=q1;cases q2;obtain⟨t1,rfl⟩:=m1;obtain⟨t2,rfl⟩:=m2;exact⟨p,b,st,i,j,t,t1,t2,o,o2,n,n2,rfl,h1,h2,h3,k1,k2,k3⟩
end
theorem SE {b a' b':ce}{st qN:Str}{i j i' j':Int}{t2 t' YC YA:Tok}{oa Xx Zh:Obj}{na nb na' Č:Nat} (hu:A.units+1 < pc)
  (h1:s.heap.get? a=am oa) (h3:oa.data=.seq #[.str st t,.ref b] na) (k1:s.heap.get? b=am ob) (k2:ob.cls=.type "tuple") (k3:ob.data=.seq #[.int i t1,.int j t2] nb)
  (gC:s.heap.get? a'=am Xx) (OP:Xx.data=.seq #[.str qN t',.ref b'] na') (đ:s.heap.get? b'=am Zh) (Đ:Zh.cls=.type "tuple") (ď:Zh.data=.seq #[.int i' YC,.int j' YA] Č)
  {C:Bool->ci->Prop} (hC:∀b,C b s):db (dL prog w) A (keyLt' (tuples' true) (.ref a) (.ref a')) C (λ_ _=>False) s:=by
 refine PySem.W.kat_lt h1 h3 gC OP (Fs (Dg.str_str st t qN t' prog w _ _ (PySem.W.kat_go (λ_=>PySem.W.kat_yes ?_) λ_=>PySem.W.kat_no ?_)))
 ·refine Fs ?_;have hT:s.heap.IsTuple b #[.int i t1,.int j t2]:=⟨ob,k1,k2,nb,k3⟩;have hT':s.heap.IsTuple b' #[.int i' YC,.int j' YA]:=⟨Zh,đ,Đ,Č,ď⟩;have go:∀e,PySem.W.KatGo prog w A true (decide ((#[Bc st t,.ref b]:Array bn).size < (#[Bc qN t',.ref b']:Array bn).size)) C (.ref b) (.ref b') [] 1 e s:=λe=>PySem.W.kat_go (λ_=>PySem.W.kat_yes (PySem.W.kat_nil (hC _))) λ_=>PySem.W.kat_no (PySem.W.kat_one _ _ (HT.Ho hT hT' (.cons i t1 (.cons j t2 .nil)) (.cons i' YC (.cons j' YA .nil)) ∅ (hC _)));by_cases c:b=b'
  ·subst c;exact Fy (.ref b) prog w _ _ (go _)
  ·refine Fj c (Fo (e:=λk=>if k=0 then i==i' else j==j') hT hT' ∅ λk g1 g2=>?_) prog w _ _ (go _);have:k=0\/k=1:=by simp at g1;omega
   rcases this with rfl | rfl
   ·exact DR i t1 i' YC
   ·exact DR j t2 j' YA
 ·exact oneLt_str (hC _)
section
def Va (K:Ab):List V->Hp->VK->Prop:=λxs H Q=>∃(p:ce) (vs:List V) (l:List PV),xs=[.ref p]/\c7 K H p vs/\aE K [] H vs l/\l.length < 64/\l.all pK=true/\∀m:List PV,m.Perm l->∀ws,aE K [] H ws m->lO H (.lst ws) Q
def NF {vs:List V}{out:List bn} (r:Vals vs us) (v:aE K [] H vs l) (p:out.Perm us):∃ws m,Vals ws out/\aE K [] H ws m/\m.Perm l:=by
 induction p generalizing vs l with
 | nil=>cases r;cases v;exact⟨[],[],.nil,.nil,.refl _⟩
 | cons x p ih=>
  cases r with
  | cons r1 r2=>
  cases v with
  | cons v1 v2=>
  obtain⟨ws,m,a,b,c⟩:=ih r2 v2;exact⟨_::ws,_::m,.cons r1 a,.cons v1 b,.cons _ c⟩
 | swap x y l'=>
  cases r with
  | cons r1 r2=>
  cases r2 with
  | cons r2 r3=>
  cases v with
  | cons v1 v2=>
  cases v2 with
  | cons v2 v3=>exact⟨_::_::_,_::_::_,.cons r2 (.cons r1 r3),.cons v2 (.cons v1 v3),.swap _ _ _⟩
 | trans p1 p2 Mj R8=>
  obtain⟨ws,m,a,b,c⟩:=R8 r v;obtain⟨rC,m',a',b',c'⟩:=Mj a b;exact⟨rC,m',a',b',c'.trans c⟩
theorem IB (hK:X.K=K) (hu:X.A.units+200 < pc):bP X (.builtin "sorted") (Va K):=by
 subst hK;intro Z s σ H xs us Q I r h;obtain⟨p,vs,l,rfl,hq,hv,ä,hd,q⟩:=h;obtain⟨u,rfl,rx⟩:=vals1 r;cases rx;obtain⟨aq,r',pl,hz⟩:=I.list hq;have hl:=r'.length;have Qf:=hv.length;have el:∀i,i < aq.length->∃(a b:ce) (st:Str) (i1 j1:Int) (t t1 t2:Tok) (oa ob:Obj) (na nb:Nat),aq.getD i AM=.ref a/\s.heap.get? a=am oa/\oa.cls=.type "tuple"/\oa.data=.seq #[.str st t,.ref b] na/\s.heap.get? b=am ob/\ob.cls=.type "tuple"/\ob.data=.seq #[.int i1 t1,.int j1 t2] nb:=λi hi=>by
  have e1:vs[i]?=am vs[i]:=Ad ∅;obtain⟨x,ex,vx⟩:=hv.aab e1;have hx:=CN.mp hd x (Br ex);have ru:RelV vs[i] (aq.getD i AM):=by
   obtain⟨u,hu1,hu2⟩:=Vals.get r' e1;rw [Ah,hu1];exact hu2
  exact SH I vx ru hx
 refine QI (κ:=tuples' true) pl.isList ∅ (λh2 h' kp=>?_) (λh' kp i j hi hj C hC=>?_) λout hp=>?_
 ·have ß:∀l:List bn,(∀v∈l,∃(a:ce) (x:bn) (st:Str) (t:Tok) (oa:Obj) (na:Nat),v=.ref a/\h'.get? a=am oa/\oa.cls=.type "tuple"/\oa.data=.seq #[.str st t,x] na)->∃fs,PySem.W.KatTups h' l fs/\fs.length=l.length/\∀v∈fs,∃st t,v=Bc st t:=by
   intro l
   induction l with
   | nil=>intro _;exact⟨[],trivial,rfl,by simp⟩
   | cons v l ih=>
    intro hl;obtain⟨fs,f1,f2,f3⟩:=ih λy hy=>hl y (.tail _ hy);obtain⟨a,x,st,t,oa,na,rfl,g1,g2,g3⟩:=hl v (.head _);refine⟨.str st t::fs,PySem.W.KatTups.cons g1 g2 g3 rfl f1,by simp [f2],λy hy=>?_⟩;rcases Aw.mp hy with rfl | hy
    ·exact⟨st,t,rfl⟩
    ·exact f3 y hy
  obtain⟨fs,f1,f2,f3⟩:=ß aq λv hv=>by
   obtain⟨i,hi,rfl⟩:=DG hv;obtain⟨a,b,st,i1,j1,t,t1,t2,oa,ob,na,nb,e,h1,h2,h3,_⟩:=el i hi;rw [Ah,Ad hi] at e;exact⟨a,.ref b,st,t,oa,na,e,kp _ _ h1,h2,h3⟩
  refine PySem.W.kat_kind (T:=.type "str") f1 ∅ (λv hv=>?_) ⋯ ⟨rfl,rfl⟩;obtain⟨st,t,rfl⟩:=f3 v hv;exact PySem.W.Looks.now
 ·obtain⟨a,b,st,i1,j1,t,t1,t2,oa,ob,na,nb,e,h1,h2,h3,k1,k2,k3⟩:=el i hi;obtain⟨a',b',qN,i1',j1',t',YC,YA,Xx,Zh,na',Č,e',gC,qZ,OP,đ,Đ,ď⟩:=el j hj;rw [e,e'];exact SE (s:={s with heap:=h'}) (by show X.A.units+1+1+1 < _;omega) (kp _ _ h1) h3 (kp _ _ k1) k2 k3 (kp _ _ gC) OP (kp _ _ đ) Đ ď hC
 ·obtain⟨ws,m,a1,a2,a3⟩:=NF r' hv hp;obtain⟨e,he⟩:=sortedAll_at s.heap aq out.toArray;refine⟨.ref (s.heap.objs.size+1),_,I.laid (t':=s.toks) (λ_ _=>sortedAll_old) (Dw _) (show a7 X.prog X.w _ _ _ (.lst ws) from⟨?_,out,e,a1,he⟩),rfl,(q m a3 ws a2).at _ (I.br.fresh (Dw _))⟩;rw [a2.length,a3.length_eq];rw [<- Qf];exact hz
def MX (l:List PV):W (List PV):=.fh (l.length < 64/\l.all pK=true) (.any λm=>m.Perm l)
def RJ (hK:X.K=K) (hu:X.A.units+200 < pc) (hg:Gl X "sorted") (hm:X.mg "sorted"=bm) (ha:IW X K fs e wl) (he:gM X e []:=by rfl) (dH:lT X pos []:=by rfl):LF X K fs (.Call (.Name "sorted" p) [e] [] pos) (.bind wl MX):=
 ⟨PE.imp (ft (IB hK hu) hg hm boot_sorted (aZ ha.p b9 he) ⋯ ⋯ he dH) λσ H Q ⟨sr,q⟩=>⟨sr,wl.mono (λl q1 u1 H1 g1 s1 _ v1=>by
  obtain⟨⟨c1,c2⟩,q2⟩:=q1;obtain⟨a,vs,rfl,h1,r1⟩:=v1 H1 .refl s1;exact⟨a,vs,l,rfl,h1,r1,c1,c2,λm hm ws hw=>JO g1 s1 hw (q2 m hm)⟩) q⟩⟩
end
end
end FL
variable {x z:B1}{ts:List B1}{t3:PySem.Tok}
namespace FL
section
open PySem PySem.Spec PyProof.Rows L2 PL
variable {K:Ab}
structure P1 (K:Ab) (a:ce) (ts:List Str):Prop where
 ex:∃(o:Obj) (aq:Array bn) (n:Nat),K.lookup a=am o/\o.cls=.type "tuple"/\o.data=.seq aq n/\aq.size<=sizeLine/\Vals (ts.map V.str) aq.toList
 tn:∃o:Obj,K.lookup a=am o/\o.cls=.type "tuple"/\o.dict=bm
def tup3K {t2:Tok} (h:K.lookup a=am ⟨.type "tuple",bm,.seq #[.str x t1,.str y t2,.str z t3] n,Qc⟩):P1 K a [x,y,z]:=⟨⟨_,_,_,h,rfl,rfl,cv (by show 3<=_;decide),.cons ⟨_,rfl⟩ (.cons ⟨_,rfl⟩ (.cons ⟨_,rfl⟩ .nil))⟩,_,h,rfl,rfl⟩
section
theorem Jj (H:Hp):∀ts:List Str,aE K [] H (ts.map V.str) (ts.map PV.str)
 | []=>.nil
 | t::ts=>.cons (.str t) (Jj H ts)
end
section
variable {a:ii}
def Yl (hK:X.K=K) (hu:X.A.units+200 < pc) {ad:ce} (ha:EF X K fs a wa) (hm:X.mg x=am (.ref ad)) (T:P1 K ad ts) (hg:Gl X x:=by rfl) (hd:i5 x:=by decide) (hk:re .In (.Name x p)=false:=by rfl) :
  TF X K fs (.Compare a [.In] [.Name x p] pos) (.bind wa λv=>qB false v (ts.map PV.str)):=⟨PT.imp (nA (NM K hK hu) ha.p (qP hg hm (v:=.ref ad) rfl hd) hk) λσ H Q ⟨sr,q⟩=>⟨sr,wa.mono (λv q1 u1 H1 g1 s1 v1=>⟨ad,_,_,v,rfl,.inr (.inr T.ex),Jj H1 ts,v1,q1.1,_,rfl,q1.2 H1 g1 s1⟩) q⟩⟩
end
end
section
open PySem PySem.Spec PyProof.Rows L2 PL
variable {K:Ab}
section
variable {rest:List ss}{S T T2:Type}{hd:ce->S->bg}{s0:S}{wt:PV->W T2}{cq:ce->S->T2->bg}{k:S->W T}{out:T->End}{x:Bool}
def Rc (sr:aR K H σ fs) (hs:fs[i]?=am (am (.ol (am a) l))):∃ws,H a=am (.lst ws)/\aE K [] H ws l:=by
 obtain⟨u,_,⟨v,e,_⟩ | ⟨b,_,z,ws,q1,q2⟩⟩:=sr.at' i _ hs
 ·cases e
 ·cases z a rfl;exact⟨ws,q1,q2⟩
theorem SF.aep (i:Nat) {f:PV->S->W S}{wb:T2->S->W S} (hs:fs[i]?=am (am (.ol q0 l))) (hK:X.K=K) (hN:X.N[i]?=am y) (hv:Gs X.env.scope y) (hp:wf (dL X.prog X.w) X.A X.env X.xe) (hc:X.calm=true)
  (hl:∀a,hU (fs.set i (am (.ol (am a) l))) (hd a s0)) (Z7:∀a s,(hd a s)[i]?=am (am (.ol (am a) l))) (hg:∀a s,GF X K (hd a s) tg is wt (cq a s)) (hf:∀p s,f p s=.bind (wt p) λt=>wb t s)
  (hb:∀a s t,SF X K false (cq a s t) body (wb t s) λs'=>.nc (hd a s')) (hr:∀a s,SF X K x ((hd a s).set i (am (.ol bm l))) rest (k s) out) (Z5:i5 y:=by decide) (jt:GL y:=by decide) (Ė:∀x,foldedSetIterable (.Name y p) X.env x=pure x:=by intro _;rfl) :
  SF X K x fs (.For tg (.Name y p) body [] pos::rest) (.bind (cB l s0 f) k) out:=by
 refine SF.step (G8 (g:=λv σ H Q=>∃a s,fG K (hd a s) is wt (cq a s) v σ H Q) (tb:=λD σ H=>∃a s t,fS K false (cq a s t) (wb t s) (λs'=>.nc (hd a s')) D σ H) hp hc (NA (K:=K) (hK:=hK) (d8 hN hv Z5 jt)) (λZ s σ H v u Q I r ⟨a,s1,q⟩=>(hg a s1).p Z s σ H v u Q I r q) (λZ s σ H D I ⟨a,s1,t1,q⟩=>(hb a s1 t1).p Z s σ H D I q) Ė) λD σ H ⟨sr,q1⟩=>?_;obtain⟨a,ws,e1,h1,r1⟩:=di sr hs;obtain⟨s1,g1⟩:=eO (t':=.ol (am a) l) sr hs rfl (by simp) e1 (λ_ _ _ h=>h) λ_=>⟨λb z=>Option.some.inj z,ws,h1,r1⟩;refine⟨_,e1,a,rfl,⟨ws,.inl (.inl h1)⟩,?_⟩;refine⟨λi' m σ' H'=>∃s,aR K H' σ' (hd a s)/\cE σ fs H σ' (hd a s) H'/\m=l.length-i'/\i'<=l.length/\(cB (l.drop i') s f).run λs'=>(k s').run λt=>bE K x σ fs H D (out t),⟨l.length,s0,s1.le (hl a),g1.trans (cE.le s1 (hl a)),by simp,A9 _,by simpa using q1⟩,?_⟩;rintro i' m σ2 H2 ⟨s,s2,g2,rfl,hi,q2⟩;obtain⟨us,h2,r2⟩:=Rc s2 (Z7 a s);have sq:c7 K H2 a us:=.inl (.inl h2);by_cases iB:i' < l.length
 ·obtain⟨v,h3,h4⟩:=r2.get (Ad iB);rw [Bh iB] at q2;refine .inr ⟨⟨us,v,sq,h3⟩,λσ3 H3=>∃s',aR K H3 σ3 (hd a s')/\cE σ fs H σ3 (hd a s') H3/\(cB (l.drop (i'+1)) s' f).run λs'=>(k s').run λt=>bE K x σ fs H D (out t),λσ3 H3 ⟨s',a1,a2,a4⟩=>⟨l.length-(i'+1),by omega,s',a1,a2,rfl,iB,a4⟩,λv2 H3 y=>?_⟩;obtain⟨rfl,y⟩:=y;have:=y us sq;rw [h3] at this;cases this;have q2:(f l[i'] s).run λs'=>(cB (l.drop (i'+1)) s' f).run λs'=>(k s').run λt=>bE K x σ fs H D (out t):=q2;rw [hf] at q2;refine⟨a,s,_,s2,h4,(wt l[i']).mono (λt q4 us g4 s4=>?_) q2⟩;refine⟨a,s,t,s4,(wb t s).mono (λs' q5 σ5 H5 g5 s5=>?_) q4⟩;exact⟨λ_=>⟨s',s5,(g2.trans g4).trans g5,q5⟩,s',s5,(g2.trans g4).trans g5,q5⟩
 ·have e:i'=l.length:=by omega
  subst e;rw [Dn] at q2;obtain⟨a',us',e2,qZ,r2'⟩:=di s2 (Z7 a s);obtain⟨s3,g3⟩:=eO (t':=.ol bm l) s2 (Z7 a s) rfl (by simp) e2 (λ_ _ _ h=>h) λ_=>⟨by simp,us',qZ,r2'⟩;exact .inl ⟨⟨us,sq,by rw [r2.length];exact An _⟩,_,k s,hr a s,s3,(k s).mono (λt q3=>q3.go (g2.trans g3) sr s3) q2⟩
def SF.aaj (i:Nat) {f:PV->S->W S} (hs:fs[i]?=am (am (.ol q0 l))) (hK:X.K=K) (hN:X.N[i]?=am y) (hv:Gs X.env.scope y) (hp:wf (dL X.prog X.w) X.A X.env X.xe) (hc:X.calm=true)
  (hl:∀a,hU (fs.set i (am (.ol (am a) l))) (hd a s0)) (Z7:∀a s,(hd a s)[i]?=am (am (.ol (am a) l))) (hg:PG X tg (dZ j))
  (hb:∀a s p,SF X K false ((hd a s).set j (am (.val p))) body (f p s) λs'=>.nc (hd a s')) (hr:∀a s,SF X K x ((hd a s).set i (am (.ol bm l))) rest (k s) out) (Z5:i5 y:=by decide) (jt:GL y:=by decide) (Ė:∀x,foldedSetIterable (.Name y p) X.env x=pure x:=by intro _;rfl) :
  SF X K x fs (.For tg (.Name y p) body [] pos::rest) (.bind (cB l s0 f) k) out:=SF.aep (wt:=.ret) (wb:=λp s=>f p s) i hs hK hN hv hp hc hl Z7 (λa s=>Ug hg) (λ_ _=>rfl) hb hr Z5 jt Ė
end
end
end FL
variable {kp cp:B9}{kc:Nat}
namespace L2
open PySem PySem.Spec PyProof.Rows
section
variable {R:Result->ci->Prop}{I S:ce}{wr:List ce}{P:Nat->bn->Prop}{St:Nat->lf->Prop}
abbrev dfN:List (Str×bn):=[(B7 "default",.none)]
abbrev aaO (l:List bn) (c:Nat):Obj:={cls:=.type "list",dict:=bm,data:=.seq l.toArray c,slots:=#[]}
def Sm {n:Nat} (h:n<=2):n<=sizeLine:=BB h ⋯
theorem Lf (W:Walks prog w A.in1 I fp wr n P St) (bt:Nat->Nat->Bool) (ad6:CmpOf prog w A.in1 .Lt P bt) (hSf:S∉fp) :
  ∀(k j:Nat) (s:ci) (l:List bn) (c:Nat),n-j=k->j<=n->St j s.heap->(j=0/\l=[]\/∃i v,j=i+1/\l=[v,v]/\P (argBest bt i) v)->s.heap.get? S=am (aaO l c)->
  (∀v h' tk,(n=0/\v=.none\/0 < n/\P (argBest bt (n-1)) v)->(∀b o,b∉wr->b≠S->s.heap.get? b=am o->h'.get? b=am o)->R (.ok (.ret v)) {s with heap:=h',toks:=tk})->
  BT (dL prog w) A (.builtin "min.loop" ⟨[.ref I,.none,.ref S],dfN⟩) R s:=by
 have hSw:S∉wr:=λh=>hSf (W.sub _ h);have hn:(toString "min"++toString ".loop":String)="min.loop":=by decide
 intro k
 induction k with
 | zero=>
  intro j s l c hk hj qX hl hS hR;have e:j=n:=by omega
  subst e;refine FB F.entry_min_loop ?_;rw [E1 Co _];refine Aa (Bq hS rfl (Aa (DU (W.done s _ _ qX λh' tk Wz=>?_))));have WE:=Wz S _ hSw hS;rcases hl with⟨e0,rfl⟩ | ⟨i,v,rfl,rfl,hv⟩
  ·exact Aa (CZ (Ae (hR _ h' tk (.inl ⟨e0,rfl⟩) λb o hb _ z=>Wz b o hb z)))
  ·refine Aa (Cv WE rfl (Aa (Cs (Ae ?_))) (Sm (An _)) (A9 _));exact hR v _ tk (.inr ⟨Nat.succ_pos _,hv⟩) λb o hb OL z=>(BI _ _ (BA OL)).trans (Wz b o hb z)
 | succ k ih=>
  intro j s l c hk hj qX hl hS hR;have iB:j < n:=by omega
  refine FB F.entry_min_loop ?_;rw [E1 Co _];refine Aa (Bq hS rfl (Aa (DU (W.item j s _ _ iB qX λv h' tk hP ZP Wz=>?_))));have WE:=Wz S _ hSw hS;have TU:∀(f:Obj->Obj) b o,b∉wr->b≠S->s.heap.get? b=am o->(h'.update S f).get? b=am o:=λf b o hb OL z=>(BI _ _ (BA OL)).trans (Wz b o hb z);have frU:∀(f:Obj->Obj),St (j+1) (h'.update S f):=λf=>W.frame _ _ _ ZP λb hbf o e=>(BI _ _ (λh:S=b=>hSf (by rw [h];exact hbf))).trans e;refine Aa (Ae ?_);rcases hl with⟨rfl,rfl⟩ | ⟨i,vb,rfl,rfl,hb⟩
  ·refine Aa (Cv WE rfl ?_ (A9 _) (Nat.le_succ_of_le (Sm (An _))));rw [hn];refine Ae ⟨ut Co _,ih 1 _ [v,v] _ ∅ iB (frU _) (.inr ⟨0,v,rfl,rfl,hP⟩) (BQ _ WE rfl) λv' h2 Yi Z9 Wy=>?_⟩;exact hR v' h2 Yi Z9 λb o hb OL z=>Wy b o hb OL (TU _ b o hb OL z)
  ·refine Aa (DU (Bk (Aa (ad6 (i+1) (argBest bt i) v vb _ _ _ hP hb ?_))));refine Aa (Bk (C3 (Aa (Cs (Ae ?_)))));cases hbt:bt (i+1) (argBest bt i) with
   | true=>
    refine Aa (Cv WE rfl (Aa (Cs ?_)) (Sm (An _)) (Nat.le_succ_of_le (Sm (An _))));rw [hn];refine Ae ⟨ut Co _,ih (i+2) _ [v,v] _ ∅ iB (frU _) (.inr ⟨i+1,v,rfl,rfl,by simp only [argBest,hbt,if_true];exact hP⟩) (BQ _ WE rfl) λv' h2 Yi Z9 Wy=>?_⟩;exact hR v' h2 Yi Z9 λb o hb OL z=>Wy b o hb OL (TU _ b o hb OL z)
   | false=>
    refine Aa (Cs ?_);rw [hn];refine Ae ⟨ut Co _,ih (i+2) _ [vb,vb] c ∅ iB ZP (.inr ⟨i+1,vb,rfl,rfl,by simp only [argBest,hbt];exact hb⟩) WE λv' h2 Yi Z9 Wy=>?_⟩;exact hR v' h2 Yi Z9 λb o hb OL z=>Wy b o hb OL (Wz b o hb z)
def Ma (a:bn):argsOk "min" ⟨[a],dfN⟩:=by unfold argsOk;kernel_rfl
def RD (ns:List Int) (t:Tok):bn:=if ns=[] then .none else .int (nQ ns) t
theorem Hm {l:ce}{Q:bn->ci->Prop} (hh:A.handled=bm) (hl:s.heap.IsList l vs.toArray) (hi:tz vs ns)
  (h:∀(h':lf) (t:Tok) tk,(∀b o,s.heap.get? b=am o->h'.get? b=am o)->Q (RD ns t) {s with heap:=h',toks:=tk}):db (dL prog w) A (call (.builtin "min") [.ref l] dfN) Q E s:=by
 obtain⟨xs,e⟩:=hi.allInts.items;have GI:ns=xs.toList.map (·.1):=by rw [<- hi.numsOf,<- nums_intItems,<- e]
 rw [e] at hl;have hn:(toString "min"++toString ".loop":String)="min.loop":=by decide
 refine kmb_tree F.kind_min F.plain_min F.entry_min (Ma _) ?_;refine Aa (Cr (show Builtin.Builtins.bindParams "min" ["key","default"] 0 ⟨[],dfN⟩=pure [bm,am .none] from rfl) ?_);refine Aa (Ae ?_);refine Aa (iter_intList hl λs₂ e2 st hfp hlI=>?_);subst e2;refine Aa (A1 ?_);rw [hn];have W:=Walks.list (A:=A.in1) (prog:=prog) (w:=w) hh s.heap.objs.size l hlI (intItems xs);have hsz:(intItems xs).size=ns.length:=by rw [GI];simp [intItems]
 refine Ae ⟨ut Co _,Lf W _ (CmpOf.ints_lt (numAt xs) (λ_ _=>intItems_at)) (λhm=>AU _ (hfp _ hm)) _ 0 _ [] 0 rfl (A9 _) (W.frame _ _ _ st λb _ o e=>Ag _ e) (.inl ⟨rfl,rfl⟩) (Ap _ rfl) λv h' tk hP hk=>?_⟩;have kp:∀b o,s.heap.get? b=am o->h'.get? b=am o:=λb o z=>by
  have h1:=Ar z;refine hk b o (λy=>AA h1 (AR.mp y)) (λy=>?_) (Ag _ (Ag _ z));rw [y,Cn] at h1;exact absurd h1 (Nat.not_lt_of_le (Dw _))
 rcases hP with⟨h0,rfl⟩ | ⟨h0,hP⟩
 ·have e0:ns=[]:=BX ∅;have:=h h' 0 tk kp;rw [RD,if_pos e0] at this;exact this
 ·obtain⟨t,rfl⟩:=intItems_at hP;have e0:ns≠[]:=λz=>by rw [hsz,z] at h0;exact AU _ h0
  have h2:=h h' t tk kp;rw [RD,if_neg e0,<- JT GI e0] at h2;have ez:(intItems xs).size=xs.size:=by simp [intItems]
  rw [ez];exact h2
end
def YS (K:Ab):List V->Hp->VK->Prop:=λxs H Q=>∃(p:ce) (ns:List Int),xs=[.ref p]/\c7 K H p (ns.map V.int)/\Q (if ns=[] then .aG else .int (nQ ns)) H
def Q8 {t:TA} (K:Ab) (hK:X.K=K) (hc:X.calm=true) (hg:Gl X "min") (hm:X.mg "min"=bm) (ha:PA X [e] t) (he:v4 pos (f8 [e] X.env)=(false,kw e X.env)::v4 pos (f8 [] X.env)) (hp:(v4 pos (f8 [e] X.env)).any (·.1)=false) :
  PE X (.Call (.Name "min" p) [e] [⟨am (B7 "default"),.Constant .none kc cp,kp⟩] pos) (λσ H Q=>t σ H λvs H'=>YS K vs H' Q):=by
 subst hK;intro Z s σ H Q I h;refine BD (ib I hg hm boot_min ?_ ⋯ ⋯);refine callWith_kw (bV (ha pos Z s σ H _ I h) λus s1 ⟨vs,H1,I1,r1,q1⟩=>?_) he hp;refine kws_cons (bV (NH Z s1 σ H1 (λv H2=>v=.aG/\H2=H1) I1 ⟨rfl,rfl⟩) λv s2 ⟨x,H2,I2,r2,e1,e2⟩=>kws_nil ?_);subst e1 e2;cases r2;obtain⟨a,ns,rfl,hq,q⟩:=q1;obtain⟨u,rfl,rx⟩:=vals1 r1;cases rx;obtain⟨aq,r',pl,hz⟩:=I2.list hq;refine Hm (I2.ok.hd hc) pl.isList (intsAre_of r') λh' t tk hk=>?_;unfold RD;by_cases c:ns=[]
 ·rw [if_pos c] at q ⊢;exact⟨.aG,_,I2.kept (t':=tk) hk,rfl,q⟩
 ·rw [if_neg c] at q ⊢;exact⟨.int _,_,I2.kept (t':=tk) hk,⟨t,rfl⟩,q⟩
end L2
namespace FL
open PySem PySem.Spec PyProof.Rows L2 PL
def JS (l:List PV):W PV:=.bind (mn l) λns=>.ret (if ns=[] then .aG else .int (nQ ns))
def W2 {K:Ab} (hK:X.K=K) (hc:X.calm=true) (hg:Gl X "min") (hm:X.mg "min"=bm) (ha:IW X K fs e wl) (hs:gM X e []:=by rfl) (he:v4 pos (f8 [e] X.env)=(false,kw e X.env)::v4 pos (f8 [] X.env):=by rfl) (hp:(v4 pos (f8 [e] X.env)).any (·.1)=false:=by rfl) :
  EF X K fs (.Call (.Name "min" p) [e] [⟨am (B7 "default"),.Constant .none kc cp,kp⟩] pos) (.bind wl JS):=⟨PE.imp (Q8 K hK hc hg hm (aZ ha.p b9 hs) he hp) λσ H Q ⟨sr,q⟩=>⟨sr,wl.mono (λl q1 u1 H1 g1 s1 _ v1=>by
 obtain⟨ns,el,q2⟩:=fZ (l:=l) q1;obtain⟨a,vs,rfl,h1,r1⟩:=v1 H1 .refl s1;rw [el] at r1;have:=jr r1;subst this;refine⟨a,ns,rfl,h1,?_⟩;by_cases c:ns=[]
 ·simp only [if_pos c] at q2 ⊢;exact q2 _ H1 g1 s1 .aG
 ·simp only [if_neg c] at q2 ⊢;exact q2 _ H1 g1 s1 (.int _)) q⟩⟩
end FL
namespace L2
open PySem PySem.Spec PyProof.Rows
def XC (x y z q:Str):Nat:=if x=q then 0 else if y=q then 1 else 2
def pA {q:Str}{t2:Tok}:Meets (u8.«tuple.index» ⟨[.ref a,.str q t],[]⟩) (λ_ R s=>(∃o,s.heap.get? a=am o/\o.data=.seq #[.str x t1,.str y t2,.str z t3] n)/\q∈[x,y,z]/\∀u,R (.ok (.ret (.int (XC x y z q:Nat) u))) {s with toks:=s.toks+1}):=by
 refine .of_wp λprog w A R s ⟨⟨o,ho,hd⟩,hq,h⟩=>?_;refine Aa (Ae ?_);refine Aa (Aa (Bq ho hd (Ae ?_)));refine Aa (Ae ?_);refine Aa (Ae ?_);refine Aa ?_;rw [Std.Legacy.Range.forIn_eq_forIn_range'];rw [show List.range' [:min #[Bc x t1,Bc y t2,Bc z t3].size #[Bc x t1,Bc y t2,Bc z t3].size].start [:min #[Bc x t1,Bc y t2,Bc z t3].size #[Bc x t1,Bc y t2,Bc z t3].size].size [:min #[Bc x t1,Bc y t2,Bc z t3].size #[Bc x t1,Bc y t2,Bc z t3].size].step=[0,1,2] from by simp only [Std.Legacy.Range.size,Aj,Ao,Bj];decide];simp only [BO,List.forIn_nil];refine Aa (Aa (Dk ?_));have Ñ:∀k:Nat,XC x y z q=k->∃v,EY (.ret (.int (k:Int) s.toks))=EY (.ret v)/\R (.ok (.ret v)) {s with toks:=s.toks+1}:=λk e=>⟨_,rfl,by have:=h s.toks;rw [e] at this;exact this⟩;by_cases c1:x=q
 ·subst c1;rw [decide_eq_true rfl,if_pos rfl];exact Aa (Aa (Aa (wpAny_fresh (Ae (Ae (Ae (Ae (Ae (Ñ 0 (if_pos rfl))))))))))
 ·rw [decide_eq_false c1,if_neg ⋯];refine Ae (Aa (Aa (Dk ?_)));by_cases c2:y=q
  ·subst c2;rw [decide_eq_true rfl,if_pos rfl];exact Aa (Aa (Aa (wpAny_fresh (Ae (Ae (Ae (Ae (Ae (Ñ 1 (by rw [XC,if_neg c1,if_pos rfl]))))))))))
  ·rw [decide_eq_false c2,if_neg ⋯];refine Ae (Aa (Aa (Dk ?_)));have c3:z=q:=by simp at hq;rcases hq with e | e | e <;> first | exact absurd e.symm c1 | exact absurd e.symm c2 | exact e.symm
   subst c3;rw [decide_eq_true rfl,if_pos rfl];exact Aa (Aa (Aa (wpAny_fresh (Ae (Ae (Ae (Ae (Ae (Ñ 2 (by rw [XC,if_neg c1,if_neg c2]))))))))))
def YW (K:Ab):V->List V->Hp->VK->Prop:=λv vs H Q=>∃a x y z q,v=.ref a/\vs=[.str q]/\d4 K H a [.str x,.str y,.str z]/\q∈[x,y,z]/\Q (.int (XC x y z q:Nat)) H
def RA (K:Ab) (hK:X.K=K):Kw X "tuple.index" (YW K):=by
 subst hK;intro Z s σ H v vs u us Q I rx rv h;obtain⟨a,x,y,z,q,rfl,rfl,hq,hm,qq⟩:=h;cases rx;obtain⟨u,rfl,ru⟩:=rv.one;obtain⟨t,rfl⟩:=ru;obtain⟨aq,r,pl,hz⟩:=I.tuple hq;obtain⟨o,ho,hc,n,hd⟩:=pl;cases r with
 | cons q1 r=>cases r with
  | cons q2 r=>cases r with
   | cons q3 r=>
    cases r;obtain⟨t1,rfl⟩:=q1;obtain⟨t2,rfl⟩:=q2;obtain⟨t3,rfl⟩:=q3;exact sK F.slot_tuple_index ⟨_,ho,hc⟩ F.entry_tuple_index (F.args_tuple_index_2 _ _) pA ⟨⟨_,ho,hd⟩,hm,λu=>⟨.int _,H,I.tok _,⟨u,rfl⟩,qq⟩⟩
end L2
namespace FL
open PySem PySem.Spec PyProof.Rows L2 PL
def OB (ts:List Str):PV->W PV
 | .str q=>match ts with
  | [x,y,z]=>.fh (q∈[x,y,z]) (.ret (.int (XC x y z q:Nat)))
  | _=>.fail
 | _=>.fail
def W3 {K:Ab}{w:W PV}{n:Str}{ad:ce} (hK:X.K=K) (he:EF X K fs e w) (hm:X.mg n=am (.ref ad)) (T:P1 K ad ts) (hg:Gl X n:=by rfl) (hd:i5 n:=by decide)
  (eJ:o0 (.Name n p) "index" X.env (kw (.Name n p) X.env)=kw (.Name n p) X.env:=by rfl)
  (pM:Xt X bD [e]:=by rfl)
  (eI:Qm Ã bD:=by rfl) (qX:gM X e []:=by rfl) (eX:lT X bD []:=by rfl) :
  EF X K fs (.Call (.Attribute (.Name n p) "index" Ã) [e] [] bD) (.bind w (OB ts)):=
 ⟨PE.imp (rV K hK PySem.F.plainAttrs_tuple PySem.F.slot_tuple_index PySem.F.type_tuple_index (RA K hK) (qP hg hm (v:=.ref ad) rfl hd) (aZ he.p b9 qX) eJ pM eI qX eX) λσ H Q ⟨sr,q⟩=>
  ⟨.inr (.inl ⟨rfl,T.tn⟩),sr,w.mono (λx q2 u2 H2 g2 s2 v2=>by
   cases v2 <;> first | exact q2.elim | skip
   match ts,T,q2 with
   | [x,y,z],T,q2=>exact⟨ad,x,y,z,_,rfl,rfl,.inr T.ex,q2.1,q2.2 _ H2 g2 s2 (.int _)⟩
   | [],_,q2=>exact q2.elim
   | [_],_,q2=>exact q2.elim
   | [_,_],_,q2=>exact q2.elim
   | _::_::_::_::_,_,q2=>exact q2.elim) q⟩⟩
section
variable {K:Ab}
def wu (l:List PV):PV->W (List PV×PV)
 | .int k=>.bind (.JL (uB l.length k)) λj=>.bind (.JL l[j]?) λv=>.fh (l.length<=sizeLine) (.ret (l.eraseIdx j,v))
 | _=>.fail
theorem aE.erase:∀{ws:List V}{l:List PV} (j:Nat),aE K [] H ws l->aE K [] H (ws.eraseIdx j) (l.eraseIdx j)
 | _,_,_,.nil=>by simp only [List.eraseIdx_nil];exact .nil
 | _,_,0,.cons _ t=>t
 | _,_,j+1,.cons r t=>by rw [Cq,Cq];exact .cons r (aE.erase j t)
section
variable {rest:List ss}{T:Type}{out:T->End}{x:Bool}
theorem SF.ac3 (i j:Nat) {k:List PV×PV->W T} (hs:fs[i]?=am (am (.ol q0 l))) (ZZ:j≠i) (hK:X.K=K) (hN:X.N[i]?=am y) (hv:Gs X.env.scope y) (ĥ:X.N.Nodup) (hj:X.N[j]?=am z) (hx:Loc X.env.scope z) (he:EF X K fs e we) (hr:∀t:List PV×PV,SF X K x ((fs.set i (am (.ol q0 t.1))).set j (am (.val t.2))) rest (k t) out)
  (hd:i5 y:=by decide) (jt:GL y:=by decide) (eJ:o0 (.Name y p) "pop" X.env (kw (.Name y p) X.env)=kw (.Name y p) X.env:=by rfl)
  (pM:Xt X bD [e]:=by rfl)
  (eI:Qm Ã bD:=by rfl) (qX:gM X e []:=by rfl) (eX:lT X bD []:=by rfl)
  (og:im (.Call (.Attribute (.Name y p) "pop" Ã) [e] [] bD) (am (.Name z p')) pos.line X.env=pure false:=by rfl) (hf:Mn X z:=by first | exact .inl rfl | exact .inr rfl | assumption) :
  SF X K x fs (.Assign [.Name z p'] (.Call (.Attribute (.Name y p) "pop" Ã) [e] [] bD) pos::rest) (.bind we λn=>.bind (wu l n) k) out:=
 SF.step (rT ĥ hj hx (rV K hK BZ ET ES NX (d8 hN hv hd jt) (aZ he.p b9 qX) eJ pM eI qX eX) og hf) λD σ H ⟨sr,q⟩=>by
  obtain⟨a,ws,e1,h1,r1⟩:=di sr hs;refine⟨_,e1,.inl ⟨rfl,_,c7.of h1⟩,sr,we.mono (λn q1 u H1 g1 s1 v1=>?_) q⟩;obtain⟨a',rC,qG,gC,uo⟩:=di s1 hs;rw [e1] at qG;cases qG;cases v1 with
  | int kk=>
   have q1:(ap (.JL (uB l.length kk)) λj=>.bind (.JL l[j]?) λv=>.fh (l.length<=sizeLine) (.ret (l.eraseIdx j,v))).run λt=>(k t).run λt=>bE K x σ fs H D (out t):=q1;cases hx:uB l.length kk with
   | none=>rw [hx] at q1;exact q1.elim
   | some m=>
   cases hv:l[m]? with
   | none=>rw [hx] at q1;simp only [wS,ga,hv] at q1;exact q1.elim
   | some v=>
   rw [hx] at q1;simp only [wS,ga,hv] at q1;obtain⟨hz,q1⟩:=q1;obtain⟨uu,hu,ru⟩:=uo.get hv;obtain⟨h3,h4,h5,h6⟩:=xh hx;have h9:(sizeLine:Int) < 2 ^ 63:=by decide
   refine⟨a,rC,kk,m,uu,rfl,rfl,gC,by omega,by omega,by rw [uo.length];exact h3,hu,?_⟩;have sx:oQ a H1 (upd H1 a (.lst (rC.eraseIdx m))):=λz o n hz=>by rw [av n];exact hz
   obtain⟨s2,g2⟩:=eO (t':=.ol q0 (l.eraseIdx m)) s1 hs rfl (by simp) e1 sx λtk=>⟨λb hb=>by
    subst hb;obtain⟨u,e2,⟨v,e,_⟩ | ⟨b',e,z,_⟩⟩:=s1.at' i _ hs
    ·cases e
    ·rw [e2] at e1;cases e1;cases e;exact z b rfl,_,aM,aE.tk tk (aE.erase m uo)⟩
   have s3:=s2.fq (g2.vr s1 ru) j;exact⟨_,k _,hr (l.eraseIdx m,v),s3,(k _).mono (λt q2=>q2.go ((g1.f.trans g2).trans (cE.fq s2 _ _ j)) sr s3) q1⟩
  | _=>exact q1.elim
end
end
section
variable {K:Ab}
def zj (kvs:List (List Key×PV)) (k:List Key) (v:PV):List (List Key×PV):=
 if (kvs.any λkv=>decide (kv.1=k)) then kvs.map λkv=>if kv.1=k then (kv.1,v) else kv else kvs++[(k,v)]
section
theorem bH.ind {C:List (List Key×V)->List (List Key×PV)->Prop} (h0:C [] []) (h1:∀(p:List Key×V) (q:List Key×PV) vs kvs,p.1=q.1->VR K [] H p.2 q.2->bH K H vs kvs->C vs kvs->C (p::vs) (q::kvs)):∀{vs kvs},bH K H vs kvs->C vs kvs
 | [],[],_=>h0
 | [],_::_,h=>by simp [bH] at h
 | _::_,[],h=>by simp [bH] at h
 | p::vs,q::kvs,⟨a,b⟩=>by
  rw [Aq,Aq] at a b;injection a with a1 a2;cases b with
  | cons r t=>exact h1 p q vs kvs a1 r ⟨a2,t⟩ (bH.ind h0 h1 ⟨a2,t⟩)
def bH.mk' {p:List Key×V}{q:List Key×PV}{vs kvs} (e:p.1=q.1) (r:VR K [] H p.2 q.2) (h:bH K H vs kvs):bH K H (p::vs) (q::kvs):=⟨by rw [Aq,Aq,e,h.1],.cons r h.2⟩
def bH.put {vs:List (List Key×V)} (h:bH K H vs kvs) (k:List Key) (r:VR K [] H u v):bH K H (putK vs k u) (zj kvs k v):=by
 have hh:(vs.any λkv=>decide (kv.1=k))=kvs.any λkv=>decide (kv.1=k):=bH.ind (C:=λvs kvs=>(vs.any λkv=>decide (kv.1=k))=kvs.any λkv=>decide (kv.1=k)) rfl (λp q vs kvs e _ _ ih=>by rw [Bx,Bx,ih,e]) h;unfold putK zj;rw [hh]
 split
 ·refine bH.ind (C:=λvs kvs=>bH K H (vs.map λkv=>if kv.1=k then (kv.1,u) else kv) (kvs.map λkv=>if kv.1=k then (kv.1,v) else kv)) ⟨rfl,.nil⟩ (λp q vs kvs e rr _ ih=>?_) h;rw [Aq,Aq];by_cases c:p.1=k
  ·rw [if_pos c,if_pos (e▸c)];exact bH.mk' e r ih
  ·rw [if_neg c,if_neg (e▸c)];exact bH.mk' e rr ih
 ·exact bH.ind (C:=λvs kvs=>bH K H (vs++[(k,u)]) (kvs++[(k,v)])) ⟨rfl,.cons r .nil⟩ (λp q vs kvs e rr _ ih=>bH.mk' e rr ih) h
end
section
variable {a ei:ii}{rest:List ss}{T:Type}{out:T->End}{x:Bool}
def qQ (sr:aR K H σ fs) (hs:fs[i]?=am (am (.ot kvs))):∃a vs,σ[i]?=am (am (.ref a))/\H a=am (.dT vs)/\bH K H vs kvs:=by
 obtain⟨u,e1,⟨v,e,_⟩ | ⟨a,e,vs,q⟩⟩:=sr.at' i _ hs
 ·cases e
 ·subst e;exact⟨a,vs,e1,q⟩
def SF.YH {k:W T} (hN:X.N.Nodup) (hi:X.N[i]?=am y) (hx:Loc X.env.scope y) (hr:SF X K x (fs.set i (am (.ot []))) rest k out) (hs:im (.Dict [] [] p2) (am (.Name y p')) pos.line X.env=pure false:=by rfl)
  (hf:Mn X y:=by first | exact .inl rfl | exact .inr rfl | assumption):SF X K x fs (.Assign [.Name y p'] (.Dict [] [] p2) pos::rest) k out:=SF.step (rT hN hi hx NI hs hf) λD σ H ⟨sr,q⟩=>λa n1=>by
 have s1:=iH n1 (.dT []);have no:=sr.noOwn n1;have s2:=(sr.same s1).wj (t:=.ot []) ⟨[],aM,rfl,.nil⟩ no i;exact⟨_,k,hr,s2,k.mono (λt q2=>q2.go (cE.wj (sr.same s1) (cE.same s1 sr) no n1 i) sr s2) q⟩
def ZC:PV->Option Key
 | .int i=>am (.inl i)
 | .str s=>am (.inr s)
 | _=>bm
def sM:List PV->Option (List Key)
 | []=>am []
 | p::l=>(ZC p).bind λk=>(sM l).bind λks=>am (k::ks)
def J1:PV->W (List Key)
 | .tup l=>.JL (sM l)
 | _=>.fail
theorem vd:∀{l:List PV}{ks:List Key},sM l=am ks->l=ks.map kP
 | [],ks,h=>by cases h;rfl
 | p::l,ks,h=>by
  unfold sM at h;cases e:ZC p with
  | none=>rw [e] at h;cases h
  | some k=>
  cases e2:sM l with
  | none=>rw [e,e2] at h;cases h
  | some ks'=>
  rw [e,e2] at h;cases h;rw [vd e2];cases p <;> first | cases e | skip
  all_goals rfl
def Ob {Q:List Key->Prop} (r:VR K [] H u v) (q:(J1 v).run Q):∃b k,u=.ref b/\H b=am (.tup (k.map kV))/\Q k:=by
 cases r with
 | @tup b vs l e rs=>
  have q:(W.JL (sM l)).run Q:=q;cases h:sM l with
  | none=>rw [h] at q;exact q.elim
  | some k=>
   rw [h] at q;rw [vd h] at rs;rw [FJ rs] at e;exact⟨b,k,rfl,e,q⟩
 | _=>exact q.elim
theorem aez (i:Nat) (hs:fs[i]?=am (am (.ot kvs))) (hu:X.A.units+200 < pc) (ha:EF X K fs a wa) (hN:X.N[i]?=am y:=by rfl) (hv:Gs X.env.scope y:=by first | exact C0 rfl | exact CD (C0 rfl) | exact CD (CD rfl)) (hd:i5 y:=by decide) (jt:GL y:=by decide) (hsl:S6 a) :
  EF X K fs (.Subscript (.Name y p) a pos) (.bind wa λx=>.bind (J1 x) λk=>.JL (cI kvs k)):=⟨PE.imp (JD ∅ (d8 hN hv hd jt) ha.p hsl) λσ H Q ⟨sr,q⟩=>by
 obtain⟨a,vs,e1,h1,r1⟩:=qQ sr hs;refine⟨_,e1,sr,wa.mono (λv q1 u H1 g1 s1 v1=>?_) q⟩;obtain⟨b,k,rfl,eb,q2⟩:=Ob v1 q1;have q2:(W.JL (cI kvs k)).run _:=q2;obtain⟨a',Mf,qG,gC,uo⟩:=qQ s1 hs;rw [e1] at qG;cases qG;cases hg:cI kvs k with
 | none=>rw [hg] at q2;exact q2.elim
 | some z=>
  rw [hg] at q2;obtain⟨u,k1,k2⟩:=uo.get.2 hg;exact⟨a,u,rfl,by rw [<- k1];exact IX.t gC eb,q2 u H1 g1 s1 k2⟩⟩
def Nq (kvs:List (List Key×PV)) (n v:PV):W (List (List Key×PV)):=.bind (J1 n) λkk=>.fh (kvs.length < sizeLine) (.ret (zj kvs kk v))
theorem SF.zj (i:Nat) {k:List (List Key×PV)->W T} (hs:fs[i]?=am (am (.ot kvs))) (hu:X.A.units+200 < pc) (hN:X.N[i]?=am y) (hv:Gs X.env.scope y) (he:EF X K fs e we) (hi:EF X K fs ei wi) (hr:∀l',SF X K x (fs.set i (am (.ot l'))) rest (k l') out)
  (hd:i5 y:=by decide) (jt:GL y:=by decide) (og:im e (am (.Subscript (.Name y p) ei vQ)) pos.line X.env=pure false:=by rfl) :
  SF X K x fs (.Assign [.Subscript (.Name y p) ei vQ] e pos::rest) (.bind we λv=>.bind wi λn=>.bind (Nq kvs n v) k) out:=
 SF.step (QY ∅ (d8 hN hv hd jt) hi.p he.p og) λD σ H ⟨sr,q⟩=>by
  refine⟨sr,we.mono (λv q1 u H1 g1 s1 v1=>?_) q⟩;obtain⟨a,vs,e1,h1,r1⟩:=qQ s1 hs;refine⟨_,e1,s1,wi.mono (λn q2 u2 H2 g2 s2 v2=>?_) q1⟩;obtain⟨b,kk,rfl,eb,hz,q3⟩:=Ob v2 q2;obtain⟨a',Mf,qG,gC,uo⟩:=qQ s2 hs;rw [e1] at qG;cases qG;have len:Mf.length=kvs.length:=by have:=congrArg BN uo.1;simpa using this
  refine⟨a,_,rfl,P7.t gC eb (by rw [len];exact hz),?_⟩;have sx:oQ a H2 (upd H2 a (.dT (putK Mf kk u))):=λz o n hz=>by rw [av n];exact hz
  have rp:=uo.put kk (g2.vr s1 v1);obtain⟨s3,g3⟩:=eO (t':=.ot (FL.zj kvs kk v)) s2 hs rfl (by simp) e1 sx λtk=>⟨_,aM,rp.1,aE.tk tk rp.2⟩;exact⟨_,k _,hr _,s3,(k _).mono (λt q4=>q4.go ((g1.trans g2).f.trans g3) sr s3) q3⟩
end
end
def iI (ns:List Int):Prop:=∃g s c:Int,ns=[g,s,c]/\0<=g/\0<=s/\s < 2305843009213693951/\0<=c
def drawn (m:Int):W PV:=.any λv=>∃d:Int,v=.int d/\0<=d/\d < m
def bW:PV->W PV
 | .int m=>.fh (0 < m/\m<=2000) (drawn m)
 | _=>.fail
end FL
variable {i j:Int}
namespace FL
open PySem PySem.Spec PyProof.Rows L2 PL
def rX:of2 (aI g) (.int i) (.int j)=.ret (g i j):=wE λQ=>⟨CO,λq=>⟨rfl,q⟩⟩
def qS {C:Int->Int->Prop}:of2 (Xl C g) (.int i) (.int j)=.fh (C i j) (.ret (g i j)):=wE λQ=>⟨λq=>⟨q.1,q.2.2⟩,λq=>⟨q.1,rfl,q.2⟩⟩
section
variable (i j:Int) (a:Bool) (x y:PV) (l m:List PV) (s t:Str)
@[simp] theorem tu:of2 wC (.int i) (.int j)=.ret (.int (i-j)):=rX
@[simp] theorem Ie:of2 nG (.int i) (.int j)=.fh (ww i j) (.ret (.int (i*j))):=qS
@[simp] theorem aex:of2 oDiv (.int i) (.int j)=.fh (Me i j) (.ret (.int (i / j))):=qS
@[simp] theorem O9:of2 oMod (.int i) (.int j)=.fh (0 < j) (.ret (.int (i % j))):=qS
@[simp] theorem O7:of2 NR (.int i) (.int j)=.fh (P9 i j) (.ret (.int (i ^ j.toNat))):=qS
@[simp] theorem Ke:of2 oLt (.int i) (.int j)=.ret (.bl (decide (i < j))):=rX
@[simp] theorem aat:of2 oLe (.int i) (.int j)=.ret (.bl (decide (i<=j))):=rX
@[simp] theorem aau:of2 oGt (.int i) (.int j)=.ret (.bl (decide (j < i))):=rX
@[simp] theorem aav:of2 oGe (.int i) (.int j)=.ret (.bl (decide (j<=i))):=rX
def F0:of2 iK x y=.fh (LL x y) (.ret (.bl (kg x y))):=wE λQ=>⟨λq=>⟨q.1,q.2.2⟩,λq=>⟨q.1,rfl,q.2⟩⟩
def Ul:of2 Hf x y=.fh (LL x y) (.ret (.bl (!kg x y))):=wE λQ=>⟨λq=>⟨q.1,q.2.2⟩,λq=>⟨q.1,rfl,q.2⟩⟩
@[simp] theorem kL:of2 zD x .aG=.ret (.bl x.gA):=wE λQ=>⟨CO,λq=>⟨rfl,q⟩⟩
@[simp] theorem abR:of2 rY x .aG=.ret (.bl (!x.gA)):=wE λQ=>⟨CO,λq=>⟨rfl,q⟩⟩
def WX {c:Nat} (h:dq s.cps.toList i=am c):of2 NT (.str s) (.int i)=.fh (s.length<=sizeLine) (.ret (.str ⟨#[c]⟩)):=wE λQ=>by
 show (s.length<=sizeLine/\match dq s.cps.toList i with | some c=>_/\_ | none=>False)↔_;rw [h];exact⟨λq=>⟨q.1,q.2.2⟩,λq=>⟨q.1,rfl,q.2⟩⟩
@[simp] theorem ff:addW (.int i) (.int j)=.ret (.int (i+j)):=(rfl)
@[simp] theorem Su:addW (.str s) (.str t)=.fh (s.length+t.length<=sizeLine) (.ret (.str (s++t))):=(rfl)
@[simp] theorem Ss:addW (.tup l) (.tup m)=.fh (l.length+m.length<=sizeLine) (.ret (.tup (l++m))):=(rfl)
@[simp] theorem Ic:K9 (.int i)=.ret (.int (-i)):=(rfl)
@[simp] theorem bC:asB (.bl a)=.ret a:=(rfl)
@[simp] theorem XW (w:W PV):PB (.bl true) w=w:=(rfl)
@[simp] theorem XX (w:W PV):PB (.bl false) w=.ret (.bl false):=(rfl)
@[simp] theorem Sr (w:W PV):SX (.bl true) w=w:=(rfl)
@[simp] theorem ab8 (w:W PV):SX (.bl false) w=.ret (.bl false):=(rfl)
@[simp] theorem dc:gI (.bl a)=.ret a:=(rfl)
@[simp] theorem abP:gI (.int i)=.ret (i != 0):=(rfl)
@[simp] theorem abO:gI .aG=.ret false:=(rfl)
@[simp] theorem abN:gI (.tup l)=.ret (!l.isEmpty):=(rfl)
@[simp] theorem abQ:gI (.cl l)=.ret (!l.isEmpty):=(rfl)
@[simp] theorem aF:aD (.tup l)=.ret l:=(rfl)
@[simp] theorem bG:aD (.cl l)=.ret l:=(rfl)
@[simp] theorem jw:so (.cl l)=.ret l:=(rfl)
@[simp] theorem cf:T4 l (.int i)=.JL (dq l i):=(rfl)
@[simp] theorem xO:zT l=.ret (.int l.length):=(rfl)
@[simp] theorem O6:mB l=.ret (.tup l):=(rfl)
@[simp] theorem Sq:part (.int i)=.ret (am i):=(rfl)
@[simp] theorem mK:uP (.tup [x,y])=.ret (x,y):=(rfl)
@[simp] theorem O5 (z u:PV):Yh (.tup [x,y,z,u])=.ret (x,y,z,u):=(rfl)
@[simp] theorem ab4 (k:Kd):ig k (.int i)=.ret (.bl (k.is (.int i))):=(rfl)
@[simp] theorem xQ (k:Kd):ig k (.str s)=.ret (.bl (k.is (.str s))):=(rfl)
@[simp] theorem lH (k:Kd):ig k (.tup l)=.ret (.bl (k.is (.tup l))):=(rfl)
@[simp] theorem ab5 (k:Kd):ig k (.cl l)=.ret (.bl (k.is (.cl l))):=(rfl)
@[simp] theorem ab6 (k:Kd):ig k (.bl a)=.ret (.bl (k.is (.bl a))):=(rfl)
@[simp] theorem ab3 (k:Kd):ig k .aG=.ret (.bl (k.is .aG)):=(rfl)
@[simp] theorem gZ:qa dR [.tup l]=.ret (.int l.length):=wE λQ=>⟨CO,λq=>⟨rfl,q⟩⟩
@[simp] theorem fe:qa dR [.cl l]=.ret (.int l.length):=wE λQ=>⟨CO,λq=>⟨rfl,q⟩⟩
@[simp] theorem abT:qa dR [.str s]=.fh (s.length<=sizeLine) (.ret (.int s.length)):=wE λQ=>⟨λq=>⟨q.1,q.2.2⟩,λq=>⟨q.1,rfl,q.2⟩⟩
@[simp] theorem WY:qa Gk [.int i]=.ret (.int (if i < 0 then -i else i)):=wE λQ=>⟨CO,λq=>⟨rfl,q⟩⟩
@[simp] theorem ab7:qa Gj [.int i]=.ret (.int i):=wE λQ=>⟨CO,λq=>⟨rfl,q⟩⟩
@[simp] theorem Kf:qa Gj [.bl a]=.ret (.int (if a then 1 else 0)):=wE λQ=>⟨CO,λq=>⟨rfl,q⟩⟩
@[simp] theorem WW:qa L9 [.int i,.int j]=.ret (.int (if j > i then j else i)):=wE λQ=>⟨CO,λq=>⟨rfl,q⟩⟩
@[simp] theorem WV:qa L8 [.int i,.int j]=.ret (.int (if j < i then j else i)):=wE λQ=>⟨CO,λq=>⟨rfl,q⟩⟩
@[simp] theorem Sn:M3 (.tup l) bm bm (am (-1))=.ret (.tup l.reverse):=nn ⟨rfl,rfl,rfl⟩
@[simp] theorem df:fo (.int j)=.fh (okN 0 j) (.ret (gX 0 j.toNat)):=(rfl)
@[simp] theorem So (k:Int):Nd (.int i) (.int j) (.int k)=.fh (k = -1/\okN j i) (.ret (qk i (i-j).toNat)):=(rfl)
@[simp] theorem WU:zq (l++[x])=.ret (l,x):=by unfold zq;simp
@[simp] theorem WT:QO l (.int i)=.fh (-(2 ^ 63)<=i/\i < 2 ^ 63/\l.length*i.toNat<=sizeLine) (.ret (Am i.toNat l).flatten):=(rfl)
@[simp] theorem abZ:Kd.is .int (.int i)=true:=(rfl)
@[simp] theorem ab0:Kd.is .int (.bl a)=true:=(rfl)
@[simp] theorem ab2:Kd.is .bool (.bl a)=true:=(rfl)
@[simp] theorem ab1:Kd.is .bool (.int i)=false:=(rfl)
@[simp] theorem xP:Kd.is .str (.str s)=true:=(rfl)
@[simp] theorem lG:Kd.is .str (.tup l)=false:=(rfl)
@[simp] theorem abY:Kd.is .str (.int i)=false:=(rfl)
@[simp] theorem abU:Kd.is .tup (.tup l)=true:=(rfl)
@[simp] theorem abV:Kd.is .tup (.str s)=false:=(rfl)
@[simp] theorem abW:Kd.is .tup (.int i)=false:=(rfl)
@[simp] theorem abX:Kd.is .tup (.bl a)=false:=(rfl)
@[simp] theorem de (h0:0 < i) (h1:i<=2000):bW (.int i)=drawn i:=nn ⟨h0,h1⟩
def bB {m:Int} (h:∀d:Int,0<=d->d < m->Q (.int d)):(drawn m).run Q:=λv ⟨d,e,h0,h1⟩=>e▸h d h0 h1
end
namespace W
variable {α β:Type}
def le (a b:W α):Prop:=∀Q,b.run Q->a.run Q
def le.refl (a:W α):a.le a:=λ_ h=>h
def le.of_eq {a b:W α} (h:a=b):a.le b:=h▸le.refl a
def le.ret {a:W α}{v:α}{f:α->W β}{b:W β} (h:a.le (.ret v)) (hf:(f v).le b):(a.bind f).le b:=λQ q=>h _ (hf Q q)
def le.use {a:W α}{v:α}{Q:α->Prop} (h:a.le (.ret v)) (q:Q v):a.run Q:=h _ q
end W
section
variable {S R:Type}
@[simp] theorem aai (s:S) (f:PV->S->W S):cB [] s f=.ret s:=(rfl)
@[simp] theorem XO (x:PV) (r:List PV) (s:S) (f:PV->S->W S):cB (x::r) s f=.bind (f x s) λs'=>cB r s' f:=(rfl)
theorem tm {f:PV->S->W S}{Q:S->Prop} (I:List PV->S->Prop):∀{l:List PV}{s:S},I l s->(∀x r s,I (x::r) s->(f x s).run (I r))->(∀s,I [] s->Q s)->(cB l s f).run Q
 | [],s,h0,_,he=>he s h0
 | x::r,s,h0,hs,he=>(f x s).mono (λs' h=>tm I h hs he) (hs x r s h0)
theorem FY {f:PV->S->W (Lp S R)}{Q:Lp S R->Prop} (I:List PV->S->Prop):∀{l:List PV}{s:S},I l s->(∀x r s,I (x::r) s->(f x s).run λo=>match o with | .go s'=>I r s' | .out t=>Q (.out t))->(∀s,I [] s->Q (.go s))->(FL.lQ l s f).run Q
 | [],s,h0,_,he=>he s h0
 | x::r,s,h0,hs,he=>(f x s).mono (λo h=>match o,h with
  | .go s',h=>FY I h hs he
  | .out t,h=>h) (hs x r s h0)
theorem fV {f:PV->S->W S}{Q:S->Prop} (I:Nat->S->Prop) {s:S} (h0:I 0 s) (hs:∀(i:Nat) (x:PV) s,l[i]?=am x->I i s->(f x s).run (I (i+1))) (he:∀s,I l.length s->Q s):(cB l s f).run Q:=by
 refine tm (λr s=>∃i,i<=l.length/\r=l.drop i/\I i s) ⟨0,A9 _,rfl,h0⟩ (λx r s ⟨i,hi,e,h⟩=>?_) (λs ⟨i,hi,e,h⟩=>?_)
 ·have iB:i < l.length:=by
   rcases C6 i l.length with h | h
   ·exact h
   ·rw [EC h] at e;cases e
  rw [Bh iB] at e;injection e with e1 e2;subst e1;exact (f _ s).mono (λs' h'=>⟨i+1,iB,e2,h'⟩) (hs i _ s (Ad iB) h)
 ·have:i=l.length:=by
   have:=congrArg BN e;rw [List.length_drop] at this;simp at this;omega
  subst this;exact he s h
theorem Kb {f:PV->S->W (Lp S R)}{Q:Lp S R->Prop} (I:Nat->S->Prop) {s:S} (h0:I 0 s) (hs:∀(i:Nat) (x:PV) s,l[i]?=am x->I i s->(f x s).run λo=>match o with | .go s'=>I (i+1) s' | .out t=>Q (.out t)) (he:∀s,I l.length s->Q (.go s)):(FL.lQ l s f).run Q:=by
 refine FY (λr s=>∃i,i<=l.length/\r=l.drop i/\I i s) ⟨0,A9 _,rfl,h0⟩ (λx r s ⟨i,hi,e,h⟩=>?_) (λs ⟨i,hi,e,h⟩=>?_)
 ·have iB:i < l.length:=by
   rcases C6 i l.length with h | h
   ·exact h
   ·rw [EC h] at e;cases e
  rw [Bh iB] at e;injection e with e1 e2;subst e1;exact (f _ s).mono (λo h'=>match o,h' with
   | .go s',h'=>⟨i+1,iB,e2,h'⟩
   | .out t,h'=>h') (hs i _ s (Ad iB) h)
 ·have:i=l.length:=by
   have:=congrArg BN e;simp at this;omega
  subst this;exact he s h
def iV {f:PV->S->W S}{Q:S->Prop} (I:Nat->S->Prop) {s:S} (h0:I 0 s) (hs:∀(i:Nat) s,i < n->I i s->(f (.int (i:Int)) s).run (I (i+1))) (he:∀s,I n s->Q s):(cB (gX 0 n) s f).run Q:=
 fV I h0 (λi x s hx h=>by obtain⟨hi,rfl⟩:=pL hx;rw [ED];exact hs i s hi h) (λs h=>he s (by rw [iT] at h;exact h))
def FZ {f:PV->S->W (Lp S R)}{Q:Lp S R->Prop} (I:Nat->S->Prop) {s:S} (h0:I 0 s) (hs:∀(i:Nat) s,i < n->I i s->(f (.int (i:Int)) s).run λo=>match o with | .go s'=>I (i+1) s' | .out t=>Q (.out t)) (he:∀s,I n s->Q (.go s)):(FL.lQ (gX 0 n) s f).run Q:=
 Kb I h0 (λi x s hx h=>by obtain⟨hi,rfl⟩:=pL hx;rw [ED];exact hs i s hi h) (λs h=>he s (by rw [iT] at h;exact h))
theorem GQ {c:S->W Bool}{b:S->W S}{Q:S->Prop} (I:Nat->S->Prop) {s:S} (h0:I n s) (hs:∀n s,I n s->(c s).run λk=>if k=true then (b s).run (λs'=>∃m,m < n/\I m s') else Q s):(GR c b s).run Q:=by
 refine⟨n+1,?_⟩;have:∀k n s,n < k->I n s->(mz c b k s).run Q:=by
  intro k
  induction k with
  | zero=>intro n s h;omega
  | succ k ih=>
   intro n s hn h;refine (c s).mono (λz q=>?_) (hs n s h);cases z with
   | true=>exact (b s).mono (λs' ⟨m,hm,h'⟩=>ih m s' ∅ h') (show (b s).run _ from q)
   | false=>exact q
 exact this (n+1) n s ∅ h0
theorem JW {f:PV->W PV}{g:PV->PV}:∀{l:List PV},(∀x∈l,f x=.ret (g x))->bI l f=.ret (l.map g)
 | [],_=>rfl
 | x::r,h=>by
  show ap (f x) (λy=>ap (bI r f) λl=>bd (y::l))=_;rw [h x (.head _),JW λy hy=>h y (.tail _ hy)];rfl
theorem wM {g:PV->Option PV}:∀{l:List PV},(∀x∈l,f x=.ret (g x))->lP l f=.ret (l.filterMap g)
 | [],_=>rfl
 | x::r,h=>by
  show ap (f x) (λo=>ap (lP r f) λl=>bd (o.toList++l))=_;rw [h x (.head _),wM λy hy=>h y (.tail _ hy),A6];cases g x <;> rfl
end
section
variable (i j:Int) (a b:Bool) (x y:PV) (l m:List PV) (s t:Str)
@[simp] theorem Uj:kg (.int i) (.int j)=(i==j):=by rw [kg]
@[simp] theorem Ui:kg (.str s) (.str t)=(s==t):=by rw [kg]
@[simp] theorem Uk:kg (.bl a) (.bl b)=(a==b):=by rw [kg]
@[simp] theorem afK:kg (.tup l) (.tup m)=fW l m:=by rw [kg]
@[simp] theorem afL:kg (.cl l) (.cl m)=fW l m:=by rw [kg]
@[simp] theorem aet:fW [] []=true:=by rw [fW]
@[simp] theorem aes:fW (x::l) (y::m)=(kg x y&&fW l m):=by rw [fW]
@[simp] theorem abK:PV.j7 (.int i)=true:=by rw [PV.j7] <;> simp
@[simp] theorem aer:PV.j7 (.bl a)=true:=by rw [PV.j7] <;> simp
@[simp] theorem abI:PV.j7 (.str s)=true:=by rw [PV.j7] <;> simp
@[simp] theorem abJ:PV.j7 .aG=true:=by rw [PV.j7] <;> simp
@[simp] theorem abH:PV.j7 (.tup l)=eY l:=by rw [PV.j7]
@[simp] theorem aeq:PV.j7 (.cl l)=eY l:=by rw [PV.j7]
@[simp] theorem aak:eY []=true:=by rw [eY]
@[simp] theorem XQ:eY (x::l)=(PV.j7 x&&eY l):=by rw [eY]
@[simp] theorem aar:PV.iq (.int i)=0:=by rw [PV.iq] <;> simp
@[simp] theorem abM:PV.iq (.bl a)=0:=by rw [PV.iq] <;> simp
@[simp] theorem aap:PV.iq (.str s)=0:=by rw [PV.iq] <;> simp
@[simp] theorem aaq:PV.iq .aG=0:=by rw [PV.iq] <;> simp
@[simp] theorem aao:PV.iq (.tup l)=dC l+1:=by rw [PV.iq]
@[simp] theorem abL:PV.iq (.cl l)=dC l+1:=by rw [PV.iq]
@[simp] theorem XS:dC []=0:=by rw [dC]
@[simp] theorem WR:dC (x::l)=max (PV.iq x) (dC l):=by rw [dC]
def F1:LL (.int i) (.int j):=⟨by simp,by simp,by simp⟩
@[simp] theorem gF:of2 iK (.int i) (.int j)=.ret (.bl (i==j)):=by rw [F0,nn (F1 i j),Uj]
@[simp] theorem O8:of2 Hf (.int i) (.int j)=.ret (.bl (!(i==j))):=by rw [Ul,nn (F1 i j),Uj]
@[simp] theorem aew:of2 iK (.bl a) (.bl b)=.ret (.bl (a==b)):=by rw [F0,nn ⟨by simp,by simp,by simp⟩,Uk]
@[simp] theorem aev:of2 Hf (.bl a) (.bl b)=.ret (.bl (!(a==b))):=by rw [Ul,nn ⟨by simp,by simp,by simp⟩,Uk]
end
theorem kJ:∀{l:List PV},eY l=true↔∀x∈l,PV.j7 x=true
 | []=>by simp
 | x::l=>by rw [eY,AO,kJ (l:=l)];simp
theorem kK:∀{l:List PV},(∀x∈l,PV.iq x<=n)->dC l<=n
 | [],_=>by simp
 | x::l,h=>by
  have h1:=h x (.head _);have h2:=kK (l:=l) λy hy=>h y (.tail _ hy);rw [dC];omega
structure EV where
 P:tt
 w:t0
 K:Ab
 mg:Str->Option bn
 base:lf
structure DF where
 x:Str
 s:ss
 ps:List Str
 k:Nat
 sp:Ab->Sp
abbrev DF.C (d:DF) (v:EV):=Tc v.P v.w v.K v.mg v.base d.x d.k d.ps (d.sp v.K)
structure DI (v:EV) (d:DF) where
 f:ce
 fd:Ev
 fn:Ql v.K d.x d.x d.s f fd
 bi:Binds v.K fd d.ps []
 at':v.mg d.x=am (.ref f)
abbrev DI.O {v:EV}{d:DF} (D:DI v d):Prop:=iZ v.P v.w v.K v.mg v.base my d.k D.f D.fd d.ps (d.sp v.K)
def DI.c {v:EV}{d:DF} (D:DI v d) (h:D.O):d.C v:=⟨D.f,D.fd,h,D.bi,D.fn.kp,D.at'⟩
def DI.cN {v:EV}{d:DF} (D:DI v d) (h:iZ v.P v.w v.K v.mg v.base my k D.f D.fd d.ps sp):Tc v.P v.w v.K v.mg v.base d.x k d.ps sp:=⟨D.f,D.fd,h,D.bi,D.fn.kp,D.at'⟩
structure DX (K:Ab) (x:Str) (st:ss):Prop where
 ex:∃f fd,AE K ev x=am (am (.ref f))/\Ql K x x st f fd
def dx {K:Ab}{st:ss}{f:ce}{kV:bn} (a:AE K ev x=am (am (.ref f))) (l:K.lookup f=am ⟨oc,od,.func (BU x x (fX st) (aY st) (af st) .none kV È pm an bQ ct),Qc⟩)
  (c:DP K bQ x=true) (k:DN K (.ref f)=true):DX K x st:=⟨f,_,a,WN l c k⟩
def gE {N P:List Str} (h1:sc.kind=.function:=by rfl) (h2:sc.isCoroutine=false:=by rfl) (h3:sc.isGenerator=false:=by rfl) (h4:N.Nodup:=by decide +kernel) (h5:N.take P.length=P:=by rfl) (h6:∀x∈P,sc.names.lookup x=am .local\/sc.names.lookup x=am .cell:=by decide +kernel) (h7:∀y∈sc.names,y.2≠.free:=by decide +kernel):ao N P sc:=⟨h1,h2,h3,h4,h5,h6,h7⟩
def lcs {N:List Str} (h1:sc.kind=.function:=by rfl) (h2:∀y∈sc.names,y.2≠.cell:=by decide +kernel) (h3:∀y∈sc.names,y.2=.local->sc.names.lookup y.1=am .local:=by decide +kernel) (h4:∀y∈sc.names,y.2=.free->(Xs.names.lookup y.1=am .cell\/Xs.names.lookup y.1=am .free):=by decide +kernel) (h5:N'.Nodup:=by decide +kernel) (h6:ix.length=N'.length:=by rfl)
  (h7:((ix.zip N').all λp=>match p.1 with | none=>true | some j=>decide (N[j]?=am p.2)&&decide (sc.names.lookup p.2=am .free))=true:=by decide +kernel):aw Xs N sc N' ix:=⟨h1,h2,h3,h4,h5,h6,h7⟩
abbrev qb (l:List (Str×wv)):pr:={kind:=.function,names:=(B7 ".0",.local)::l,isGenerator:=false,isCoroutine:=false,more:=[]}
abbrev lo:wv:=.local
abbrev gi:wv:=.globalImplicit
abbrev fr:wv:=.free
section
variable {v:EV}{st:ss}{N:List Str}
def XA {m:Tb PV n} (D:DI v ⟨x,st,ps,k+1,λK=>gh K ks (ck n m)⟩) (S:ao N ps (af st)) (Á:∀l:List PV,l.length=n->∀(bQ:bn) (A:nw) (outer:List Env) (s:ci) (H:Hp) (E:XK),cC k (A.deeper (r9 x (af st) s.heap.objs.size D.f bQ))->SF (gJ my v.P v.w v.K v.mg v.base N x (af st) D.f bQ A outer s H E).uZ v.K false (gK ks l N.length) (aY st) (ck n m l) .rt)
  (oj:ks.length=ps.length:=by rfl) (one:iY ks:=by repeat' first | exact cO | exact au (n:=0) | exact au (n:=1) | exact au (n:=2) | exact au (n:=3) | exact au (n:=4) | exact au (n:=5) | exact au (n:=6) | apply gR | apply jT):D.O:=fnV D.fn S oj one Á
def Zo {m:Tb (List PV) n} (D:DI v ⟨x,st,ps,k+1,λK=>fj K ks (ck n m)⟩) (S:ao N ps (af st)) (Á:∀l:List PV,l.length=n->∀(bQ:bn) (A:nw) (outer:List Env) (s:ci) (H:Hp) (E:XK),cC k (A.deeper (r9 x (af st) s.heap.objs.size D.f bQ))->SF (gJ my v.P v.w v.K v.mg v.base N x (af st) D.f bQ A outer s H E).uZ v.K false (gK ks l N.length) (aY st) (ck n m l) .rl)
  (oj:ks.length=ps.length:=by rfl) (one:iY ks:=by repeat' first | exact cO | exact au (n:=0) | exact au (n:=1) | exact au (n:=2) | exact au (n:=3) | exact au (n:=4) | exact au (n:=5) | exact au (n:=6) | apply gR | apply jT):D.O:=fnL D.fn S oj one Á
def adf {m:W PV} (D:DI v ⟨x,st,ps,k+1,λK=>gh K ks (ck 0 m)⟩) (S:ao N ps (af st)) (Á:∀(bQ:bn) (A:nw) (outer:List Env) (s:ci) (H:Hp) (E:XK),cC k (A.deeper (r9 x (af st) s.heap.objs.size D.f bQ))->SF (gJ my v.P v.w v.K v.mg v.base N x (af st) D.f bQ A outer s H E).uZ v.K false (gK ks [] N.length) (aY st) (m) .rt)
  (oj:ks.length=ps.length:=by rfl) (one:iY ks:=by repeat' first | exact cO | exact au (n:=0) | exact au (n:=1) | exact au (n:=2) | exact au (n:=3) | exact au (n:=4) | exact au (n:=5) | exact au (n:=6) | apply gR | apply jT):D.O:=XA (n:=0) (m:=m) D S (λl hl=>match l,hl with | [],_=>Á) oj one
def qt {m:PV->W PV} (D:DI v ⟨x,st,ps,k+1,λK=>gh K ks (ck 1 m)⟩) (S:ao N ps (af st)) (Á:∀(x0:PV) (bQ:bn) (A:nw) (outer:List Env) (s:ci) (H:Hp) (E:XK),cC k (A.deeper (r9 x (af st) s.heap.objs.size D.f bQ))->SF (gJ my v.P v.w v.K v.mg v.base N x (af st) D.f bQ A outer s H E).uZ v.K false (gK ks [x0] N.length) (aY st) (m x0) .rt)
  (oj:ks.length=ps.length:=by rfl) (one:iY ks:=by repeat' first | exact cO | exact au (n:=0) | exact au (n:=1) | exact au (n:=2) | exact au (n:=3) | exact au (n:=4) | exact au (n:=5) | exact au (n:=6) | apply gR | apply jT):D.O:=XA (n:=1) (m:=m) D S (λl hl=>match l,hl with | [x0],_=>Á x0) oj one
def zK {m:PV->PV->W PV} (D:DI v ⟨x,st,ps,k+1,λK=>gh K ks (ck 2 m)⟩) (S:ao N ps (af st)) (Á:∀(x0:PV) (x1:PV) (bQ:bn) (A:nw) (outer:List Env) (s:ci) (H:Hp) (E:XK),cC k (A.deeper (r9 x (af st) s.heap.objs.size D.f bQ))->SF (gJ my v.P v.w v.K v.mg v.base N x (af st) D.f bQ A outer s H E).uZ v.K false (gK ks [x0,x1] N.length) (aY st) (m x0 x1) .rt)
  (oj:ks.length=ps.length:=by rfl) (one:iY ks:=by repeat' first | exact cO | exact au (n:=0) | exact au (n:=1) | exact au (n:=2) | exact au (n:=3) | exact au (n:=4) | exact au (n:=5) | exact au (n:=6) | apply gR | apply jT):D.O:=XA (n:=2) (m:=m) D S (λl hl=>match l,hl with | [x0,x1],_=>Á x0 x1) oj one
def Hl {m:PV->PV->PV->W PV} (D:DI v ⟨x,st,ps,k+1,λK=>gh K ks (ck 3 m)⟩) (S:ao N ps (af st)) (Á:∀(x0:PV) (x1:PV) (x2:PV) (bQ:bn) (A:nw) (outer:List Env) (s:ci) (H:Hp) (E:XK),cC k (A.deeper (r9 x (af st) s.heap.objs.size D.f bQ))->SF (gJ my v.P v.w v.K v.mg v.base N x (af st) D.f bQ A outer s H E).uZ v.K false (gK ks [x0,x1,x2] N.length) (aY st) (m x0 x1 x2) .rt)
  (oj:ks.length=ps.length:=by rfl) (one:iY ks:=by repeat' first | exact cO | exact au (n:=0) | exact au (n:=1) | exact au (n:=2) | exact au (n:=3) | exact au (n:=4) | exact au (n:=5) | exact au (n:=6) | apply gR | apply jT):D.O:=XA (n:=3) (m:=m) D S (λl hl=>match l,hl with | [x0,x1,x2],_=>Á x0 x1 x2) oj one
def VV {m:PV->PV->PV->PV->W PV} (D:DI v ⟨x,st,ps,k+1,λK=>gh K ks (ck 4 m)⟩) (S:ao N ps (af st)) (Á:∀(x0:PV) (x1:PV) (x2:PV) (x3:PV) (bQ:bn) (A:nw) (outer:List Env) (s:ci) (H:Hp) (E:XK),cC k (A.deeper (r9 x (af st) s.heap.objs.size D.f bQ))->SF (gJ my v.P v.w v.K v.mg v.base N x (af st) D.f bQ A outer s H E).uZ v.K false (gK ks [x0,x1,x2,x3] N.length) (aY st) (m x0 x1 x2 x3) .rt)
  (oj:ks.length=ps.length:=by rfl) (one:iY ks:=by repeat' first | exact cO | exact au (n:=0) | exact au (n:=1) | exact au (n:=2) | exact au (n:=3) | exact au (n:=4) | exact au (n:=5) | exact au (n:=6) | apply gR | apply jT):D.O:=XA (n:=4) (m:=m) D S (λl hl=>match l,hl with | [x0,x1,x2,x3],_=>Á x0 x1 x2 x3) oj one
def ade {m:PV->PV->PV->PV->PV->W PV} (D:DI v ⟨x,st,ps,k+1,λK=>gh K ks (ck 5 m)⟩) (S:ao N ps (af st)) (Á:∀(x0:PV) (x1:PV) (x2:PV) (x3:PV) (x4:PV) (bQ:bn) (A:nw) (outer:List Env) (s:ci) (H:Hp) (E:XK),cC k (A.deeper (r9 x (af st) s.heap.objs.size D.f bQ))->SF (gJ my v.P v.w v.K v.mg v.base N x (af st) D.f bQ A outer s H E).uZ v.K false (gK ks [x0,x1,x2,x3,x4] N.length) (aY st) (m x0 x1 x2 x3 x4) .rt)
  (oj:ks.length=ps.length:=by rfl) (one:iY ks:=by repeat' first | exact cO | exact au (n:=0) | exact au (n:=1) | exact au (n:=2) | exact au (n:=3) | exact au (n:=4) | exact au (n:=5) | exact au (n:=6) | apply gR | apply jT):D.O:=XA (n:=5) (m:=m) D S (λl hl=>match l,hl with | [x0,x1,x2,x3,x4],_=>Á x0 x1 x2 x3 x4) oj one
def VX {m:PV->W (List PV)} (D:DI v ⟨x,st,ps,k+1,λK=>fj K ks (ck 1 m)⟩) (S:ao N ps (af st)) (Á:∀(x0:PV) (bQ:bn) (A:nw) (outer:List Env) (s:ci) (H:Hp) (E:XK),cC k (A.deeper (r9 x (af st) s.heap.objs.size D.f bQ))->SF (gJ my v.P v.w v.K v.mg v.base N x (af st) D.f bQ A outer s H E).uZ v.K false (gK ks [x0] N.length) (aY st) (m x0) .rl)
  (oj:ks.length=ps.length:=by rfl) (one:iY ks:=by repeat' first | exact cO | exact au (n:=0) | exact au (n:=1) | exact au (n:=2) | exact au (n:=3) | exact au (n:=4) | exact au (n:=5) | exact au (n:=6) | apply gR | apply jT):D.O:=Zo (n:=1) (m:=m) D S (λl hl=>match l,hl with | [x0],_=>Á x0) oj one
def RC {m:PV->PV->W (List PV)} (D:DI v ⟨x,st,ps,k+1,λK=>fj K ks (ck 2 m)⟩) (S:ao N ps (af st)) (Á:∀(x0:PV) (x1:PV) (bQ:bn) (A:nw) (outer:List Env) (s:ci) (H:Hp) (E:XK),cC k (A.deeper (r9 x (af st) s.heap.objs.size D.f bQ))->SF (gJ my v.P v.w v.K v.mg v.base N x (af st) D.f bQ A outer s H E).uZ v.K false (gK ks [x0,x1] N.length) (aY st) (m x0 x1) .rl)
  (oj:ks.length=ps.length:=by rfl) (one:iY ks:=by repeat' first | exact cO | exact au (n:=0) | exact au (n:=1) | exact au (n:=2) | exact au (n:=3) | exact au (n:=4) | exact au (n:=5) | exact au (n:=6) | apply gR | apply jT):D.O:=Zo (n:=2) (m:=m) D S (λl hl=>match l,hl with | [x0,x1],_=>Á x0 x1) oj one
def VW {m:PV->PV->PV->W (List PV)} (D:DI v ⟨x,st,ps,k+1,λK=>fj K ks (ck 3 m)⟩) (S:ao N ps (af st)) (Á:∀(x0:PV) (x1:PV) (x2:PV) (bQ:bn) (A:nw) (outer:List Env) (s:ci) (H:Hp) (E:XK),cC k (A.deeper (r9 x (af st) s.heap.objs.size D.f bQ))->SF (gJ my v.P v.w v.K v.mg v.base N x (af st) D.f bQ A outer s H E).uZ v.K false (gK ks [x0,x1,x2] N.length) (aY st) (m x0 x1 x2) .rl)
  (oj:ks.length=ps.length:=by rfl) (one:iY ks:=by repeat' first | exact cO | exact au (n:=0) | exact au (n:=1) | exact au (n:=2) | exact au (n:=3) | exact au (n:=4) | exact au (n:=5) | exact au (n:=6) | apply gR | apply jT):D.O:=Zo (n:=3) (m:=m) D S (λl hl=>match l,hl with | [x0,x1,x2],_=>Á x0 x1 x2) oj one
def Zn {m:PV->PV->PV->PV->W (List PV)} (D:DI v ⟨x,st,ps,k+1,λK=>fj K ks (ck 4 m)⟩) (S:ao N ps (af st)) (Á:∀(x0:PV) (x1:PV) (x2:PV) (x3:PV) (bQ:bn) (A:nw) (outer:List Env) (s:ci) (H:Hp) (E:XK),cC k (A.deeper (r9 x (af st) s.heap.objs.size D.f bQ))->SF (gJ my v.P v.w v.K v.mg v.base N x (af st) D.f bQ A outer s H E).uZ v.K false (gK ks [x0,x1,x2,x3] N.length) (aY st) (m x0 x1 x2 x3) .rl)
  (oj:ks.length=ps.length:=by rfl) (one:iY ks:=by repeat' first | exact cO | exact au (n:=0) | exact au (n:=1) | exact au (n:=2) | exact au (n:=3) | exact au (n:=4) | exact au (n:=5) | exact au (n:=6) | apply gR | apply jT):D.O:=Zo (n:=4) (m:=m) D S (λl hl=>match l,hl with | [x0,x1,x2,x3],_=>Á x0 x1 x2 x3) oj one
def adg {m:PV->PV->PV->PV->PV->W (List PV)} (D:DI v ⟨x,st,ps,k+1,λK=>fj K ks (ck 5 m)⟩) (S:ao N ps (af st)) (Á:∀(x0:PV) (x1:PV) (x2:PV) (x3:PV) (x4:PV) (bQ:bn) (A:nw) (outer:List Env) (s:ci) (H:Hp) (E:XK),cC k (A.deeper (r9 x (af st) s.heap.objs.size D.f bQ))->SF (gJ my v.P v.w v.K v.mg v.base N x (af st) D.f bQ A outer s H E).uZ v.K false (gK ks [x0,x1,x2,x3,x4] N.length) (aY st) (m x0 x1 x2 x3 x4) .rl)
  (oj:ks.length=ps.length:=by rfl) (one:iY ks:=by repeat' first | exact cO | exact au (n:=0) | exact au (n:=1) | exact au (n:=2) | exact au (n:=3) | exact au (n:=4) | exact au (n:=5) | exact au (n:=6) | apply gR | apply jT):D.O:=Zo (n:=5) (m:=m) D S (λl hl=>match l,hl with | [x0,x1,x2,x3,x4],_=>Á x0 x1 x2 x3 x4) oj one
end
section
variable {K:Ab}{W':W PV}{WL:W (List PV)}
theorem eC {m:List PV->W PV} (G:Tc X.prog X.w X.K X.mg X.base x k ps (gh K ks m)) (hr:cC k' X.A) (ha:AF X K fs (e::es) ks B) (hk:k<=k':=by first | exact EU rfl | exact An _ | omega) (hg:Gl X x:=by rfl) (hW:W'=B m:=by rfl) (om:i5 x:=by decide)
  (he:gM X e es:=by rfl) (dH:lT X pos es:=by rfl):EF X K fs (.Call (.Name x p) (e::es) [] pos) W':=SD G hr hk hg ha hW om he dH
theorem lC {m:List PV->W (List PV)}{B:(List PV->W (List PV))->W (List PV)} (G:Tc X.prog X.w X.K X.mg X.base x k ps (fj K ks m)) (hr:cC k' X.A) (ha:AF X K fs (e::es) ks B) (hk:k<=k':=by first | exact EU rfl | exact An _ | omega) (hg:Gl X x:=by rfl) (hW:WL=B m:=by rfl) (om:i5 x:=by decide)
  (he:gM X e es:=by rfl) (dH:lT X pos es:=by rfl):LF X K fs (.Call (.Name x p) (e::es) [] pos) WL:=RL G hr hk hg ha hW om he dH
def dr (i:Nat) (hN:X.N.Nodup) (hi:X.N[i]?=am x:=by rfl) (hx:Loc X.env.scope x:=by first | exact .inl rfl | exact .inr rfl) (hf:Mn X x:=by first | exact .inl rfl | exact .inr rfl | assumption):PG X (.Name x pos) (dZ i):=Q3 hN hi hx hf
variable {T:Type}{out:T->End}{rest:List ss}
def sv (i:Nat) {k:PV->W T} (hN:X.N.Nodup) (he:EF X K fs e we) (hr:∀v,SF X K b (fs.set i (am (.val v))) rest (k v) out) (hi:X.N[i]?=am y:=by rfl) (hx:Loc X.env.scope y:=by first | exact .inl rfl | exact .inr rfl) (hs:im e (am (.Name y p')) pos.line X.env=pure false:=by rfl)
  (hf:Mn X y:=by first | exact .inl rfl | exact .inr rfl | assumption):SF X K b fs (.Assign [.Name y p'] e pos::rest) (.bind we k) out:=SF.set hN hi hx he hr hs hf
def sl (i:Nat) {k:List PV->W T} (hN:X.N.Nodup) (he:LF X K fs e wl) (hr:∀l,SF X K b (fs.set i (am (.ol bm l))) rest (k l) out) (hi:X.N[i]?=am y:=by rfl) (hx:Loc X.env.scope y:=by first | exact .inl rfl | exact .inr rfl) (hs:im e (am (.Name y p')) pos.line X.env=pure false:=by rfl)
  (hf:Mn X y:=by first | exact .inl rfl | exact .inr rfl | assumption):SF X K b fs (.Assign [.Name y p'] e pos::rest) (.bind wl k) out:=SF.acW hN hi hx he hr hs hf
end
end FL
variable {P:List AZ->Prop}{d:FL.DF}
namespace FL
open PySem PySem.Spec PyProof.Rows L2 PL
def us1 (h:∀a,P [a]):∀us:List bn,us.length=1->P us
 | [_],_=>h _
def us2 (h:∀a b,P [a,b]):∀us:List bn,us.length=2->P us
 | a::_,e=>us1 (P:=λl=>P (a::l)) (h _) _ (FC.inj e)
def us3 (h:∀a b c,P [a,b,c]):∀us:List bn,us.length=3->P us
 | a::_,e=>us2 (P:=λl=>P (a::l)) (h _) _ (FC.inj e)
def us4 (h:∀a b c d,P [a,b,c,d]):∀us:List bn,us.length=4->P us
 | a::_,e=>us3 (P:=λl=>P (a::l)) (h _) _ (FC.inj e)
def us5 (h:∀a b c d e,P [a,b,c,d,e]):∀us:List bn,us.length=5->P us
 | a::_,e=>us4 (P:=λl=>P (a::l)) (h _) _ (FC.inj e)
def DX.mk2 {v:EV} (D:DX v.K d.x d.s) (X:v.K.In h) (G:h.Ns ev v.mg)
  (hb:∀(kV È pm:bn) (an:Option ce) (bQ ct:bn) (us:List bn),us.length=d.ps.length->bindArgs (BU d.x d.x (fX d.s) (aY d.s) (af d.s) .none kV È pm an bQ ct) ⟨us,[]⟩=pure (d.ps.zip us):=by
   first
    | exact λ_ _ _ _ _ _=>us1 λ_=>rfl
    | exact λ_ _ _ _ _ _=>us2 λ_ _=>rfl
    | exact λ_ _ _ _ _ _=>us3 λ_ _ _=>rfl
    | exact λ_ _ _ _ _ _=>us4 λ_ _ _ _=>rfl
    | exact λ_ _ _ _ _ _=>us5 λ_ _ _ _ _=>rfl
    | exact λ_ _ _ _ _ _=>us6 λ_ _ _ _ _ _=>rfl
    | exact λ_ _ _ _ _ _=>us7 λ_ _ _ _ _ _ _=>rfl
    | exact λ_ _ _ _ _ _=>us8 λ_ _ _ _ _ _ _ _=>rfl):Nonempty (DI v d):=by
 obtain⟨f,fd,a,F⟩:=D.ex;exact⟨⟨f,fd,F,F.binds hb,BH X G a⟩⟩
def DX.go {v:EV} (D:DX v.K d.x d.s) (X:v.K.In h) (G:h.Ns ev v.mg) {P:Prop} (k:∀D:DI v d,D.O) (r:d.C v->P)
  (hb:∀(kV È pm:bn) (an:Option ce) (bQ ct:bn) (us:List bn),us.length=d.ps.length->bindArgs (BU d.x d.x (fX d.s) (aY d.s) (af d.s) .none kV È pm an bQ ct) ⟨us,[]⟩=pure (d.ps.zip us):=by
   first
    | exact λ_ _ _ _ _ _=>us1 λ_=>rfl
    | exact λ_ _ _ _ _ _=>us2 λ_ _=>rfl
    | exact λ_ _ _ _ _ _=>us3 λ_ _ _=>rfl
    | exact λ_ _ _ _ _ _=>us4 λ_ _ _ _=>rfl
    | exact λ_ _ _ _ _ _=>us5 λ_ _ _ _ _=>rfl
    | exact λ_ _ _ _ _ _=>us6 λ_ _ _ _ _ _=>rfl
    | exact λ_ _ _ _ _ _=>us7 λ_ _ _ _ _ _ _=>rfl
    | exact λ_ _ _ _ _ _=>us8 λ_ _ _ _ _ _ _ _=>rfl):P:=by
 obtain⟨D⟩:=D.mk2 X G hb;exact r (D.c (k D))
def Jp (K:Ab):Sp:=λvs H Q _=>∃(a:ce) (ns:List Int),vs=[.ref a]/\S5 H/\c7 K H a (ns.map V.int)/\ns.length<=63/\∀H',Q (.bl true) H'
def RI {K:Ab}{m:PV->W PV} (ok:∀ns:List Int,ns.length<=63->(m (.cl (ns.map PV.int))).run (·=.bl true)):∀vs H Q E,Jp K vs H Q E->gh K [.v] (ck 1 m) vs H Q E:=λvs H Q E ⟨a,ns,e,hO,hS,hl,q⟩=>by
 subst e;have fz:Uw K H a (ns.map V.int):=by
  rcases hS with (h | ⟨o,h⟩) | h
  ·rcases hO a with z | ⟨o,xs,z⟩
   ·rw [h] at z;cases z
   ·rw [h] at z;cases z
  ·exact .inl ⟨o,h⟩
  ·exact .inr h
 refine⟨[.cl (ns.map PV.int)],.v (.cl fz (oe _ _ ns)) .nil,(m (.cl (ns.map PV.int))).mono (λv e u H' _ r=>?_) (ok ns hl)⟩;subst e;cases r;exact q H'
structure aaY (K:Ab) (mg:Str->Option bn) (d:DF):Prop where
 f:∀v:EV,v.K=K->v.mg=mg->∀D:DI v d,D.O
def mkAll {l:EI}{K:Ab}{fa:ce}{st:ss}{m:PV->W PV} (ok:∀ns:List Int,ns.length<=63->(m (.cl (ns.map PV.int))).run (·=.bl true)) (X:K.In h) (G:h.Ns ev mg) (hfa:mg "law"=am (.ref fa)) (aaB:DX K "law" st)
  (hb:∀(kV È pm:bn) (an:Option ce) (bQ ct:bn) (us:List bn),us.length=1->bindArgs (BU "law" "law" (fX st) (aY st) (af st) .none kV È pm an bQ ct) ⟨us,[]⟩=pure (([("_law_script":Str)]:List Str).zip us))
  (F:aaY K mg ⟨"law",st,["_law_script"],k,λK=>gh K [.v] (ck 1 m)⟩) :
  ∃fd:Ev,(∀(s:ci) (v:bn),BindsTo s fd ⟨[v],[]⟩ [("_law_script",v)])/\∀base:lf,K.In base->base.Ns ev mg->iZ l.prog w K mg base my k fa fd ["_law_script"] (Jp K):=by
 obtain⟨f,fd,a,F'⟩:=aaB.ex;have e:=hfa.symm.trans (BH X G a);cases e;have fb:=F'.binds (ps:=["_law_script"]) hb;obtain⟨oc,od,kV,È,pm,an,bQ,ct,Qc,rfl,_⟩:=id F'.ex;exact⟨BU "law" "law" (fX st) (aY st) (af st) .none kV È pm an bQ ct,λs v=>.of_eq (hb kV È pm an bQ ct [v] rfl),λbase _ _=>(F.f ⟨l.prog,w,K,mg,base⟩ rfl rfl ⟨_,_,F',fb,hfa⟩).imp (RI ok)⟩
end FL
namespace My
open PySem PySem.Spec PyProof.Rows L2 PL FL
def jm (cK:PV):W (List PV):=
 []\λmV=>
 ap (cK\λx3=>bd [x3]) λo4=>
 ap (GR (λs4=>(s4.2\λl5=>bd (!l5.isEmpty))) (λs4=>(
 ap (zq s4.2) λt7=>
 t7.2\λx9=>ap (iw s4.1 x9) λmU=>
 dP (GX (ap (ap (bd t7.2) (ig .str)) gI)) (
 ap (ap (bd t7.2) aD) λZz=>ap (WS t7.1 Zz) λrE=>
 bd (mU,rE)) (
 bd (mU,t7.1)))) (mV,o4)) λs4=>
 (s4.1\λWa=>bd Wa.reverse)
def gU (cK:PV):W PV:=
 []\λi7=>
 []\λwH=>
 ap (cK\λx3=>jm x3) λl30=>ap (cB l30 (i7,wH) λwx s4=>(
 ap (ap (ap (bd wx) (ig .str)) gI) λb=>ap (if b=true then (
 wx\λGO=>ap (iw s4.1 GO) λJd=>
 bd (Jd,s4.2)) else (
 ap (zq s4.2) λt20=>
 ap (zq t20.1) λt22=>
 ap (t22.2\λMq=>t20.2\λMp=>bd (.tup [Mq,Mp])) λUD=>ap (iw s4.1 UD) λJc=>
 bd (Jc,t22.1))) λU2=>
 ap (b2 wC (ap (bd U2.1) zT) (bd (.int 1))) λYb=>ap (iw U2.2 Yb) λzQ=>
 bd (U2.1,zQ))) λs4=>
 (ap (bd s4.1) mB)
def cy (bT:PV):W PV:=
 (dP (ap (ap (bd bT) (ig .str)) gI) (bd (.tup [])) (bd bT))
def eU (cK:PV):W PV:=
 ap (cK\λx2=>gU x2) λi7=>
 ap (ap (ap (bd i7) aD) λl4=>bI l4 λp5=>(bd .aG)) λyt=>
 ap (ap (ap (bd i7) aD) λl6=>.fh (l6.length<=sizeLine) (.ret (dD 0 l6))) λV9=>ap (cB V9 yt λp8 s7=>ap (uP p8) λt9=>(
 ap (ap (t9.2\λkh=>cy kh) aD) λRM=>ap (cB RM s7 λJ6 U3=>(
 t9.1\λvO=>J6\λrA=>ap (kd U3 rA vO) λGp=>
 bd Gp)) λU3=>
 bd U3)) λs7=>
 (ap (bd s7) mB)
def dY (fc:PV) (kG:PV):W PV:=
 (dP (ap (ap (cA (ap (bd fc) aD) (bd kG)) (ig .str)) gI) (cA (ap (bd fc) aD) (bd kG)) (bd kG))
def gr (dj:PV):W (List PV):=
 ap (dj\λx2=>eU x2) λdJ=>
 ap (ap (ap (bd dJ) aD) λl4=>bI l4 λp5=>(bd (.tup []))) λlz=>
 ap (ap (b2 wC (c1 dR (bd dJ)) (bd (.int 1))) λx6=>ap (ap (bd (.int 1)) K9) λx7=>ap (ap (bd (.int 1)) K9) λx8=>Nd x6 x7 x8) λRM=>ap (cB RM lz λkF s9=>(
 ap (dP (t2 zD (cA (ap (bd dJ) aD) (bd kF)) (bd .aG)) (bd (.tup [])) (cA (bd s9) (cA (ap (bd dJ) aD) (bd kF)))) λGq=>
 ap (w2 addW (kF\λue=>bd (.tup [ue])) (bd Gq)) λvO=>kF\λrA=>ap (kd s9 rA vO) λzS=>
 bd zS)) λs9=>
 bd s9
def eA (wJ:PV) (kG:PV):W PV:=
 (ap (ap (ap (c1 dR (bd wJ)) fo) λl2=>lP l2 λp3=>Mi (KH (Oz true (bd p3) (ap (cA (ap (bd wJ) aD) (bd kG)) aD)) (Oz true (bd kG) (ap (cA (ap (bd wJ) aD) (bd p3)) aD))) (bd p3)) mB)
def kC (dj:PV):W PV:=
 ap (dj\λx2=>gU x2) λbx=>
 ap (dj\λx4=>gr x4) λlz=>
 (ap (ap (ap (c1 dR (bd bx)) fo) λl6=>bI l6 λp7=>(ap (bx\λx8=>p7\λx9=>dY x8 x9) λkh=>(.int 0)\λrB=>ap (ap (cA (ap (bd bx) aD) (bd p7)) λqp=>cy qp) λue=>ap ((.cl lz)\λvO=>p7\λrA=>eA vO rA) λyU=>bd (.tup [kh,rB,ue,yU]))) mB)
def dA (fc:PV) (dm:PV):W (List PV):=
 (ap (ap (ap (bd fc) aD) λl1=>ap (ap (bd dm) aD) λl2=>Kx l1 l2) λl3=>lP l3 λp4=>ap (uP p4) λt5=>Mi (GX (ap (ap (bd t5.1) (ig .str)) gI)) (bd t5.2))
def bK (uW:PV):W PV:=
 (cA (ap (bd uW) aD) (ap (c1 dR (bd uW)) λx1=>bW x1))
def gp (dj:PV) (dm:PV) (jN:PV):W (List PV):=
 ap (dj\λx2=>eU x2) λdJ=>
 []\λwz=>
 ap (ap (ap (bd jN) aD) λl4=>.fh (l4.length<=sizeLine) (.ret (dD 0 l4))) λV9=>ap (cB V9 wz λp6 s5=>ap (uP p6) λt7=>(
 ap (ap (ap (bd dm) aD) λl8=>.fh (l8.length<=sizeLine) (.ret (dD 0 l8))) λRM=>ap (cB RM s5 λċ s9=>ap (uP ċ) λYB=>(
 dP (KH (t2 oLe (bd YB.2) (bd t7.2)) (tor (t2 zD (cA (ap (bd dJ) aD) (bd YB.1)) (bd .aG)) (t2 oLt (bd t7.2) (cA (ap (bd dm) aD) (cA (ap (bd dJ) aD) (bd YB.1)))))) (
 ap (YB.1\λue=>t7.1\λvO=>bd (.tup [ue,vO])) λrA=>ap (iw s9 rA) λzx=>
 bd zx) (
 bd s9))) λs9=>
 bd s9)) λs5=>
 bd s5
def iO (fc:PV) (dm:PV) (jN:PV) (nH:PV) (NL:PV):W PV:=
 ap (cA (ap (bd NL) aD) (bd (.int 0))) λlB=>
 ap (cA (ap (bd NL) aD) (bd (.int 1))) λnX=>
 ap (b2 oLt (cA (ap (bd dm) aD) (bd lB)) (cA (ap (bd jN) aD) (bd nX))) λvm=>
 ap (dP (ap (bd vm) gI) (lB\λx5=>bd (.tup [x5])) (ap (cA (ap (bd fc) aD) (bd lB)) λx6=>cy x6)) λbelow_4=>
 ap (ap (ap (ap (bd below_4) aD) λl8=>bI l8 λp9=>(Qi (bd nH) (p9\λkh=>ap (b2 wC (bd nX) (bd (.int 1))) λrB=>bd (.tup [kh,rB])))) mB) λJa=>
 ap (ap (ap (ap (bd nH) Oa) λl13=>lP l13 λY9=>Mi (KH (t2 iK (cA (ap (bd Y9) aD) (bd (.int 1))) (bd nX)) (t2 Hf (cA (ap (bd Y9) aD) (bd (.int 0))) (bd lB))) (Qi (bd nH) (bd Y9))) mB) λvJ=>
 (ap (fc\λrA=>lB\λyU=>dY rA yU) λMt=>nX\λGO=>Ja\λMs=>vJ\λMr=>bd (.tup [Mt,GO,Ms,Mr]))
def lu (dj:PV) (dm:PV):W PV:=
 ap (dj\λx2=>gU x2) λbx=>
 ap (ap ((.int 0)\λx4=>bd [x4]) λl7=>ap (ap (bx\λx5=>dm\λx6=>dA x5 x6) vY) λl8=>mT l7 l8) λtT=>
 ap (dj\λkh=>dm\λrB=>(.cl tT)\λqp=>gp kh rB qp) λwy=>
 ap (ap (ap (ap (ap (bd (.cl wy)) aD) λl14=>.fh (l14.length<=sizeLine) (.ret (dD 0 l14))) λl15=>bI l15 λp16=>ap (uP p16) λć=>(ć.2\λGO=>ć.1\λMs=>bd (.tup [GO,Ms]))) Iv) λrZ=>
 (ap (ap (ap (bd (.cl wy)) aD) λZy=>bI Zy λY8=>(bx\λKz=>dm\λKy=>(.cl tT)\λMq=>rZ\λMp=>Y8\λUD=>iO Kz Ky Mq Mp UD)) mB)
def cT (i8:PV) (bo:PV):W PV:=
 (cA (ap (cA (ap (bd i8) aD) (bd bo)) aD) (bd (.int 2)))
def fw (i8:PV) (bo:PV):W PV:=
 (cA (ap (cA (ap (bd i8) aD) (bd bo)) aD) (bd (.int 3)))
def iP (i8:PV) (bo:PV) (Tf:PV):W PV:=
 (aeD (b2 iK (i8\λx1=>bo\λx2=>cT x1 x2) (bd (.tup []))) (b2 iK (cA (ap (cA (ap (bd i8) aD) (bd bo)) aD) (bd (.int 0))) (bd Tf)))
def fv (aL:PV) (bo:PV):W (List PV):=
 ap (aL\λx2=>bo\λx3=>cT x2 x3) λfM=>
 (dP (t2 iK (c1 dR (bd fM)) (bd (.int 2))) (fM\λx4=>ap (ap (cA (ap (bd fM) aD) (bd (.int 1))) λx5=>ap (cA (ap (bd fM) aD) (bd (.int 0))) λx6=>bd (.tup [x5,x6])) λx7=>bd [x4,x7]) (bd []))
def gq (aL:PV) (bo:PV):W (List PV):=
 ap (aL\λx2=>bo\λx3=>fw x2 x3) λtS=>
 (ap (ap (ap (bd tS) aD) λl4=>bI l4 λp5=>(bo\λx6=>p5\λx7=>bd (.tup [x6,x7]))) λWa=>ap (ap (ap (bd tS) aD) λl8=>bI l8 λp9=>(p9\λkh=>bo\λrB=>bd (.tup [kh,rB]))) λl13=>mT Wa l13)
def eR (aL:PV) (bT:PV) (bo:PV):W (List PV):=
 dP (ap (ap (bd bT) (ig .str)) gI) (
 (dP (ap (aL\λx1=>bo\λx2=>bT\λx3=>iP x1 x2 x3) gI) (ap ((.str "found")\λx4=>(.tup [])\λx5=>bd (.tup [x4,x5])) λx6=>bd [x6]) (bd []))) (
 ap (ap (aL\λx8=>bo\λx9=>fv x8 x9) λl10=>bI l10 λï=>((.str "split")\λqp=>ï\λue=>bd (.tup [qp,ue]))) λJo=>
 ap (ap (aL\λrA=>bo\λyU=>gq rA yU) λRM=>bI RM λp18=>((.str "over")\λMs=>p18\λMr=>bd (.tup [Ms,Mr]))) λJH=>
 (ap (ap (ap (ap ((.str "doubled")\λQp=>ap (bo\λKz=>bo\λKy=>bd (.tup [Kz,Ky])) λMq=>bd (.tup [Qp,Mq])) λMp=>bd [Mp]) λZx=>ap (ap (bd (.cl Jo)) so) λl27=>mT Zx l27) λl28=>ap (ap (bd (.cl JH)) so) λl29=>mT l28 l29) MX))
def iM (pS:PV):W PV:=
 (dP (Oz false (bd .aG) (ap (bd pS) aD)) (bd .aG) (ap (ap (bd pS) so) Ji))
def cV (pS:PV):W PV:=
 (ap (ap (ap (bd pS) aD) λl1=>lP l1 λp2=>Mi (t2 rY (bd p2) (bd .aG)) (bd p2)) JS)
def dN (aX:PV) (tI:PV):W PV:=
 (dP (tI\λx1=>qB false x1 ([("split":Str),("doubled":Str),("over":Str)].map PV.str)) (cA (ap (bd aX) aD) (ap (bd tI) (OB ["split","doubled","over"]))) (bd (.int 0)))
def cU (aX:PV) (nu:PV) (bT:PV) (tI:PV):W PV:=
 ap (ap (ap (ap (bT\λx2=>cy x2) aD) λl3=>ap (ap (cA (ap (bd tI) aD) (bd (.int 1))) aD) λl4=>Kx l3 l4) λl5=>bI l5 λp6=>ap (uP p6) λt7=>(cA (ap (cA (ap (bd nu) aD) (bd t7.1)) aD) (bd t7.2))) λzC=>
 (ap (ox (ap (ap (aX\λx8=>ap (cA (ap (bd tI) aD) (bd (.int 0))) λx9=>dN x8 x9) λkh=>bd [kh]) λZz=>ap (ap (bd (.cl zC)) so) λWa=>mT Zz Wa)) λue=>iM ue)
def eg (aL:PV) (aX:PV) (nu:PV) (bT:PV) (bo:PV):W (List PV):=
 (ap (aL\λx1=>bT\λx2=>bo\λx3=>eR x1 x2 x3) λl4=>bI l4 λp5=>(aX\λx6=>nu\λx7=>bT\λx8=>p5\λx9=>cU x6 x7 x8 x9))
def fu (aL:PV) (aX:PV) (bo:PV):W PV:=
 (dP (t2 iK (c1 dR (aL\λx1=>bo\λx2=>cT x1 x2)) (bd (.int 2))) (cA (ap (bd aX) aD) (bd (.int 3))) (bd (.int 0)))
def d9 (aL:PV) (aX:PV) (YL:PV) (bo:PV):W (List PV):=
 ap (aL\λx2=>aX\λx3=>bo\λx4=>fu x2 x3 x4) λTx=>
 (ap (ap (aL\λx5=>bo\λx6=>cT x5 x6) aD) λl7=>bI l7 λp8=>(ap (ox (Tx\λx9=>ap (cA (ap (bd YL) aD) (bd p8)) λkh=>bd [x9,kh])) λrB=>iM rB))
def kB (aL:PV) (aX:PV) (nu:PV) (bT:PV):W PV:=
 []\λNc=>
 ap (ap (c1 dR (bd aL)) fo) λl21=>ap (cB l21 Nc λGZ s3=>(
 ap (ap (ap (aL\λx6=>aX\λx7=>nu\λx8=>bT\λx9=>GZ\λkh=>eg x6 x7 x8 x9 kh) λl15=>ap (aL\λrB=>aX\λqp=>(.cl s3)\λue=>GZ\λvO=>d9 rB qp ue vO) λl16=>mT l15 l16) uR) λoC=>
 ap ((.cl oC)\λGO=>cV GO) λMs=>ap (iw s3 Ms) λNb=>
 bd Nb)) λs3=>
 (ap (bd s3) mB)
def nS (aL:PV) (o9:PV) (aX:PV):W PV:=
 []\λG7=>
 ap (ap (o9\λx2=>gU x2) aD) λWa=>ap (cB Wa G7 λkz s3=>(
 ap (ap (aL\λx6=>aX\λx7=>(.cl s3)\λx8=>kz\λx9=>kB x6 x7 x8 x9) MF) λkh=>ap (iw s3 kh) λNa=>
 bd Na)) λs3=>
 (ap (bd s3) mB)
def fx (fR:PV) (k_:PV):W (List PV):=
 ap (dP (t2 oLt (bd k_) (c1 dR (bd fR))) (cA (ap (bd fR) aD) (bd k_)) (bd (.int 0))) λkT=>
 ap (b2 nG (c1 Gk (bd kT)) (c1 Gj (b2 oGe (c1 Gk (bd kT)) (b2 NR (bd (.int 10)) (bd (.int 18)))))) λfU=>
 (fU\λx3=>ap (b2 oMod (b2 nG (w2 addW (w2 addW (b2 oMod (bd kT) (bd (.int 2147483629))) (b2 nG (b2 nG (bd (.int 7919)) (bd k_)) (bd k_))) (bd (.int 11))) (bd (.int 48271))) (bd (.int 2147483647))) λx4=>(.int 0)\λx5=>bd [x3,x4,x5])
def dB (gB:List PV) (nR:PV):W (PV×List PV):=
 ap (w2 addW (cA (bd gB) (bd (.int 2))) (bd (.int 1))) λx2=>(.int 2)\λx3=>ap (kd gB x3 x2) λbM=>
 dP (KH (t2 oGt (cA (bd bM) (bd (.int 0))) (bd (.int 0))) (t2 oLe (cA (bd bM) (bd (.int 2))) (bd (.int 60)))) (
 ap (b2 oMod (cA (bd bM) (bd (.int 0))) (bd nR)) λKm=>
 ap (b2 oDiv (cA (bd bM) (bd (.int 0))) (bd nR)) λx6=>(.int 0)\λx7=>ap (kd bM x7 x6) λkH=>
 Km\λx8=>bd (x8,kH)) (
 ap (b2 oMod (w2 addW (w2 addW (b2 nG (cA (bd bM) (bd (.int 1))) (bd (.int 48271))) (bd (.int 12345))) (cA (bd bM) (bd (.int 2)))) (bd (.int 2147483647))) λkh=>(.int 1)\λrB=>ap (kd bM rB kh) λfC=>
 ap (b2 oMod (b2 oDiv (b2 oMod (b2 nG (cA (bd fC) (bd (.int 1))) (w2 addW (b2 oMod (cA (bd fC) (bd (.int 1))) (bd (.int 40009))) (bd (.int 3)))) (bd (.int 2147483629))) (bd (.int 7))) (bd nR)) λqp=>bd (qp,fC))
def cW (nR:PV):W (List PV):=
 (.str "abcdefghijklmnopqrstuvwxyz")\λu7=>
 ap (ap ((.int 26)\λx2=>bW x2) λx3=>ap (ap (ox ((.int 1)\λx4=>(.int 3)\λx5=>(.int 5)\λx6=>(.int 7)\λx7=>(.int 9)\λx8=>(.int 11)\λx9=>bd [x4,x5,x6,x7,x8,x9])) λkh=>bK kh) λrB=>bd (.tup [x3,rB])) λqp=>ap (uP qp) λt13=>
 ap (ap (ox ((.str "")\λrA=>(.str "")\λyU=>(.str "a")\λMt=>(.str "zq")\λGO=>(.str "mnopqrs")\λMs=>bd [rA,yU,Mt,GO,Ms])) λMr=>bK Mr) λJe=>
 (ap (ap (bd nR) fo) λl22=>bI l22 λp23=>(w2 addW (b2 NT (bd u7) (b2 oMod (w2 addW (bd t13.1) (b2 nG (bd t13.2) (bd p23))) (bd (.int 26)))) (bd Je)))
def cF (uW:PV):W PV:=
 ap (ap (bd uW) aD) λmC=>
 ap (ap (b2 wC (ap (bd mC) zT) (bd (.int 1))) fo) λl23=>ap (cB l23 mC λUJ s3=>(
 ap (ap (ap (bd s3) zT) λx6=>bW x6) λx7=>ap (wu s3 x7) λt8=>
 ap (ap (ap (bd t8.1) zT) λkh=>bW kh) λXg=>
 ap (t8.2\λqp=>ap (cA (bd t8.1) (bd Xg)) λue=>bd (.tup [qp,ue])) λwA=>
 ap (dP (t2 iK ((.int 2)\λrA=>bW rA) (bd (.int 0))) (bd wA) (wA\λyU=>bm\λi17=>bm\λj18=>ap (ap (ap (bd (.int 1)) K9) part) λk19=>M3 yU i17 j18 k19)) λMr=>Xg\λQp=>ap (kd t8.1 Qp Mr) λJs=>
 bd Js)) λs3=>
 (cA (bd s3) (bd (.int 0)))
def cY (zJ:PV):W PV:=
 ap (ap (w2 addW (bd (.int 1)) (zJ\λx2=>bW x2)) λx3=>cW x3) λi6=>
 (ap ((.cl i6)\λx4=>cF x4) λx5=>(.cl i6)\λx6=>bd (.tup [x5,x6]))
def cX (pU:PV) (zJ:PV):W PV:=
 ap (ap (ap (w2 addW (bd (.int 1)) (zJ\λx2=>bW x2)) fo) λl4=>bI l4 λp5=>(pU\λx6=>bK x6)) λmC=>
 ((.cl mC)\λx7=>cF x7)
def aW:Nat->PV->W (List PV)
 | 0,_=>W.fail
 | n+1,cK=>
 dP (ap (ap (bd cK) (ig .str)) gI) (
 (cK\λx1=>bd [x1])) (
 ap (ox (ap (cA (ap (bd cK) aD) (bd (.int 0))) λx2=>aW n x2)) λpZ=>ap (ox (ap (cA (ap (bd cK) aD) (bd (.int 1))) λx3=>aW n x3)) λnC=>
 []\λpe=>
 ap (ap (bd nC) aD) λZx=>ap (cB Zx pe λsf s7=>(
 ap (GX (ap (ap (bd sf) (ig .str)) gI)) λb=>ap (if b=true then (
 ap (ap (w2 addW (cA (ap (bd sf) aD) (bd (.int 0))) (c1 dR (bd pZ))) λvO=>ap (w2 addW (cA (ap (bd sf) aD) (bd (.int 1))) (c1 dR (bd pZ))) λrA=>bd (.tup [vO,rA])) λJM=>
 bd JM) else (
 bd sf)) λì=>
 ì\λMt=>ap (iw s7 Mt) λrK=>
 bd rK)) λs7=>
 (ap (ap (ap (bd pZ) so) λl18=>s7\λV9=>mT l18 V9) λl23=>ap (ap (ap (b2 wC (c1 dR (bd pZ)) (bd (.int 1))) λMr=>ap (b2 wC (w2 addW (c1 dR (bd pZ)) (c1 dR (bd nC))) (bd (.int 1))) λQp=>bd (.tup [Mr,Qp])) λKz=>bd [Kz]) λl24=>mT l23 l24))
def c6 (bN:PV):W PV:=
 ap (bN\λx2=>aW 12 x2) λbx=>
 ap (ap ((.int 0)\λx4=>bd [x4]) λl5=>ap (c1 dR (bd (.cl bx))) λx6=>QO l5 x6) λxK=>
 (.int 0)\λIz=>
 ap (ap (ap (ap (bd (.cl bx)) aD) λl9=>.fh (l9.length<=sizeLine) (.ret (dD 0 l9))) λl10=>lP l10 λï=>ap (uP ï) λé=>Mi (GX (ap (ap (bd é.2) (ig .str)) gI)) (bd é.1)) λkX=>
 ap (ap (ap (bd kX) zT) fo) λl32=>ap (cB l32 (xK,Iz,kX) λJb zh=>(
 []\λxH=>
 ap (cB zh.2.2 xH λKr Tp=>(
 dP (KH (Oz true (cA (ap (cA (ap (bd (.cl bx)) aD) (bd Kr)) aD) (bd (.int 0))) (bd zh.2.2)) (Oz true (cA (ap (cA (ap (bd (.cl bx)) aD) (bd Kr)) aD) (bd (.int 1))) (bd zh.2.2))) (
 Kr\λQp=>ap (iw Tp Qp) λKa=>
 bd Ka) (
 bd Tp))) λTp=>
 ap ((.cl Tp)\λKy=>bK Ky) λPR=>
 ap (w2 addW (w2 addW (bd zh.2.1) (bd (.int 1))) ((.int 12)\λMp=>bW Mp)) λyk=>
 yk\λYc=>PR\λYb=>ap (kd zh.1 Yb Yc) λFX=>
 PR\λUC=>ap (U9 zh.2.2 UC) λrD=>
 bd (FX,yk,rD))) λzh=>
 (ap (bd zh.1) mB)
def eF (bN:PV):W PV:=
 dP (t2 iK ((.int 2)\λx1=>bW x1) (bd (.int 0))) (
 (bN\λx2=>kC x2)) (
 (bN\λx3=>ap (bN\λx4=>c6 x4) λx5=>lu x3 x5))
def cz:W PV:=
 []\λgY=>
 ap (ap (bd (.int 4)) fo) λl25=>ap (cB l25 gY λk_4 s3=>(
 ap ((.int 0)\λx6=>(.int 1)\λx7=>(.int 2)\λx8=>(.int 3)\λx9=>(.int 10)\λkh=>ap ((.int 10)\λrB=>bW rB) λqp=>ap ((.int 1001)\λue=>bW ue) λvO=>bd [x6,x7,x8,x9,kh,qp,vO]) λM0=>
 ap (ap (ap (bd (.cl M0)) so) λV9=>ap ((.int 1000)\λyU=>ap (w2 addW (b2 NR (bd (.int 10)) (bd (.int 28))) ((.int 1000)\λMt=>bW Mt)) λGO=>bd [yU,GO]) λZy=>mT V9 Zy) λJr=>
 ap ((.cl Jr)\λKz=>bK Kz) λKy=>ap (iw s3 Ky) λkI=>
 bd kI)) λs3=>
 (ap (bd s3) mB)
def cZ (az:PV) (d6:PV) (bT:PV) (Ö:PV):W (List PV):=
 ap (cA (ap (bd az) aD) (bd Ö)) λx1=>ap (Yh x1) λt3=>
 dP (ap (ap (cA (ap (bd d6) aD) (bd bT)) (ig .str)) gI) (
 (dP (KH (t2 iK (bd t3.2.2.1) (bd (.tup []))) (t2 iK (bd t3.1) (cA (ap (bd d6) aD) (bd bT)))) (ap (.aG\λx4=>ap (ox (bd [])) λx5=>bd (.tup [x4,x5])) λx6=>bd [x6]) (bd []))) (
 ap (cA (ap (bd d6) aD) (bd bT)) λx7=>ap (uP x7) λt8=>
 ap (ap ((.int 1)\λkh=>ap (ox (ap (t8.1\λrB=>Ö\λqp=>bd (.tup [rB,qp])) λue=>ap (t8.2\λvO=>Ö\λrA=>bd (.tup [vO,rA])) λyU=>bd [ue,yU])) λMt=>bd (.tup [kh,Mt])) λGO=>bd [GO]) λxJ=>
 ap (ap (bd t3.2.2.2) aD) λl83=>ap (cB l83 xJ λMD Tn=>(
 ap ((.int 2)\λKz=>ap (ox (ap (t8.1\λKy=>Ö\λMq=>bd (.tup [Ky,Mq])) λMp=>ap (t8.2\λUD=>MD\λYc=>bd (.tup [UD,Yc])) λYb=>bd [Mp,Yb])) λx29=>bd (.tup [Kz,x29])) λUC=>ap (iw Tn UC) λkI=>
 ap ((.int 2)\λYa=>ap (ox (ap (t8.1\λUB=>MD\λx34=>bd (.tup [UB,x34])) λx35=>ap (t8.2\λx36=>Ö\λx37=>bd (.tup [x36,x37])) λx38=>bd [x35,x38])) λx39=>bd (.tup [Ya,x39])) λx40=>ap (iw kI x40) λFW=>
 bd FW)) λTn=>
 ap (t2 iK (c1 dR (bd t3.2.2.1)) (bd (.int 2))) λb=>ap (if b=true then (
 ap ((.int 0)\λx63=>ap (ox (ap (t8.1\λx64=>ap (cA (ap (bd t3.2.2.1) aD) (bd (.int 0))) λx65=>bd (.tup [x64,x65])) λx66=>ap (t8.2\λx67=>ap (cA (ap (bd t3.2.2.1) aD) (bd (.int 1))) λx68=>bd (.tup [x67,x68])) λx69=>bd [x66,x69])) λx70=>bd (.tup [x63,x70])) λx71=>ap (iw Tn x71) λFV=>
 ap ((.int 0)\λx73=>ap (ox (ap (t8.1\λx74=>ap (cA (ap (bd t3.2.2.1) aD) (bd (.int 1))) λx75=>bd (.tup [x74,x75])) λx76=>ap (t8.2\λx77=>ap (cA (ap (bd t3.2.2.1) aD) (bd (.int 0))) λx78=>bd (.tup [x77,x78])) λx79=>bd [x76,x79])) λx80=>bd (.tup [x73,x80])) λx81=>ap (iw FV x81) λFU=>
 bd FU) else (
 bd Tn)) λê=>
 bd ê)
def eE (az:PV) (bT:PV) (Ö:PV):W (List PV):=
 ap (cA (ap (cA (ap (bd az) aD) (bd Ö)) aD) (bd (.int 2))) λfM=>
 ap (dP (t2 iK (c1 dR (bd fM)) (bd (.int 2))) (bd (.int 3)) (bd .aG)) λJz=>
 (ap (ap (bd fM) aD) λl3=>bI l3 λp4=>(Jz\λx5=>ap (ox (ap (bT\λx6=>p4\λx7=>bd (.tup [x6,x7])) λx8=>bd [x8])) λx9=>bd (.tup [x5,x9])))
def eB (aO:PV) (gW:PV) (nF:PV):W PV:=
 ap (dP (t2 zD (cA (ap (bd nF) aD) (bd (.int 0))) (bd .aG)) (bd (.int 0)) (cA (ap (bd aO) aD) (cA (ap (bd nF) aD) (bd (.int 0))))) λm7=>
 ap (ap (cA (ap (bd nF) aD) (bd (.int 1))) aD) λl7=>ap (lQ l7 m7 λlI s2=>(
 dP (t2 zD (Qi (bd gW) (bd lI)) (bd .aG)) (
 .aG\λx4=>bd (Lp.out x4)) (
 ap (w2 addW (bd s2) (Qi (bd gW) (bd lI))) λqL=>
 bd (.go qL)))) (LH (λs2=>
 (bd s2)) id)
def eG (az:PV) (d6:PV) (aO:PV):W PV:=
 ap (ap (c1 dR (bd d6)) fo) λl37=>ap (cB l37 [] λkz s3=>(
 ap (ap (c1 dR (bd az)) fo) λl35=>ap (cB l35 s3 λSU s6=>(
 ap (az\λx9=>d6\λkh=>kz\λrB=>SU\λqp=>cZ x9 kh rB qp) λMZ=>
 ap (ap (ap (bd (.cl MZ)) so) λRM=>ap (az\λvO=>kz\λrA=>SU\λyU=>eE vO rA yU) λl18=>mT RM l18) λJt=>
 ap (ap (ap (ap (bd (.cl Jt)) aD) λZy=>bI Zy λY8=>(aO\λKz=>(yQ s6)\λKy=>Y8\λMq=>eB Kz Ky Mq)) uR) λGg=>
 ap (ap (ap (bd (.cl Gg)) aD) λZx=>lP Zx λí=>Mi (t2 rY (bd í) (bd .aG)) (bd í)) λtN=>
 ap (dP (ap (ap (bd (.cl tN)) so) λl29=>bd (!l29.isEmpty)) (ap (ap (bd (.cl tN)) so) sj) (bd .aG)) λYa=>ap (kz\λUC=>SU\λx31=>bd (.tup [UC,x31])) λUB=>ap (Nq s6 UB Ya) λmm=>
 bd mm)) λs6=>
 bd s6)) λs3=>
 (bd (yQ s3))
def fy (qf:PV) (pW:PV):W PV:=
 ap (qf\λx1=>cY x1) λx2=>ap (uP x2) λt3=>
 ap (t3.1\λx5=>eF x5) λng=>
 ap (t3.2\λx7=>pW\λx8=>cX x7 x8) λjc=>
 (ng\λx9=>jc\λkh=>ap (ox (jc\λrB=>aW 12 rB)) λqp=>ap (cz) λue=>bd (.tup [x9,kh,qp,ue]))
def gV (aL:PV) (o9:PV) (aX:PV):W PV:=
 (ap (cA (ap (aL\λx1=>o9\λx2=>aX\λx3=>nS x1 x2 x3) aD) (ap (bd (.int 1)) K9)) λx4=>cV x4)
def gs (az:PV) (d6:PV) (aO:PV):W PV:=
 ap (az\λx2=>d6\λx3=>aO\λx4=>eG x2 x3 x4) λn6=>
 ap (ap (ap (c1 dR (bd az)) fo) λl7=>bI l7 λp8=>(Qi (bd n6) (ap (b2 wC (c1 dR (bd d6)) (bd (.int 1))) λx9=>p8\λkh=>bd (.tup [x9,kh])))) λoC=>
 (ap (ap (ap (bd (.cl oC)) aD) λZz=>lP Zz λî=>Mi (t2 rY (bd î) (bd .aG)) (bd î)) sj)
def c9 (az:PV) (pX:PV) (d6:PV) (aO:PV):W PV:=
 ap (az\λx2=>pX\λx3=>aO\λx4=>gV x2 x3 x4) λgY=>
 dP (tor (ap (ap (bd gY) (ig .bool)) gI) (GX (ap (ap (bd gY) (ig .int)) gI))) (
 (bd (.bl false))) (
 (b2 iK (bd gY) (az\λx5=>d6\λx6=>aO\λx7=>gs x5 x6 x7)))
def nT (fR:PV):W PV:=
 ap (ap ((.int 1)\λx3=>ap ((.int 3)\λx1=>ap (c1 dR (bd fR)) λx2=>qa L8 [x1,x2]) λx4=>qa L9 [x3,x4]) fo) λl64=>ap (lQ l64 () λĎ s6=>(
 ap (fR\λx9=>Ď\λkh=>fx x9 kh) λqe=>Y1 iI qe (
 ap (cA (ap ((.int 5)\λqp=>(.int 6)\λue=>bd (.tup [qp,ue])) λvO=>ap ((.int 5)\λrA=>(.int 6)\λyU=>bd (.tup [rA,yU])) λMt=>ap ((.int 8)\λGO=>(.int 6)\λMs=>bd (.tup [GO,Ms])) λMr=>ap ((.int 8)\λQp=>(.int 10)\λKz=>bd (.tup [Qp,Kz])) λKy=>bd [vO,Mt,Mr,Ky]) ((.int 4)\λMq=>bW Mq)) λnh=>
 ap (ap (cA (ap (bd nh) aD) (bd (.int 0))) λMp=>ap (cA (ap (bd nh) aD) (bd (.int 1))) λUD=>fy Mp UD) λYc=>ap (Yh Yc) λuT=>
 dP (GX (ap (uT.1\λx29=>uT.2.1\λUC=>uT.2.2.1\λx31=>uT.2.2.2\λYa=>c9 x29 UC x31 Ya) gI)) (
 (.bl false)\λUB=>bd (Lp.out UB)) (
 dP (t2 Hf (uT.1\λx34=>uT.2.1\λx35=>ap ((.int 0)\λx36=>(.int 0)\λx37=>(.int 0)\λx38=>(.int 0)\λx39=>bd (.tup [x36,x37,x38,x39])) λx40=>gV x34 x35 x40) (bd (.int 0))) (
 (.bl false)\λx41=>bd (Lp.out x41)) (
 ap (ap (bd (.int 4)) fo) λl62=>ap (lQ l62 () λPQ ë=>(
 ap (ap (ap (ap (bd (.int 4)) fo) λl47=>bI l47 λp48=>(b2 nG (cA (ap (bd uT.2.2.2) aD) (bd PQ)) (c1 Gj (b2 iK (bd PQ) (bd p48))))) mB) λtU=>
 dP (GX (ap (uT.1\λx49=>uT.2.1\λx50=>uT.2.2.1\λx51=>tU\λx52=>c9 x49 x50 x51 x52) gI)) (
 (.bl false)\λx53=>bd (Lp.out x53)) (
 dP (t2 oGt (uT.1\λx54=>uT.2.1\λx55=>tU\λx56=>gV x54 x55 x56) (uT.1\λx57=>uT.2.1\λx58=>uT.2.2.2\λx59=>gV x57 x58 x59)) (
 (.bl false)\λx60=>bd (Lp.out x60)) (
 bd (.go ()))))) (LH (λë=>
 bd (.go ())) Lp.out)))))) (LH (λs6=>
 (bd (.bl true))) id)
end My
variable {x:PL.PV}{Q:List PL.PV->Prop}{t:My.Tr}
namespace My
open PySem PySem.Spec PyProof.Rows L2 PL FL
def Tr.pv:Tr->PV
 | .leaf x=>.str x
 | .node l r=>.tup [l.pv,r.pv]
def Ent.pv:Ent->PV
 | .word x=>.str x
 | .pair a b=>.tup [.int (a:Int),.int (b:Int)]
def QJ {l:List α} (h:l≠[]):∃a x,l=a++[x]:=⟨l.dropLast,l.getLast h,(List.dropLast_concat_getLast h).symm⟩
def M4 {a b:List Tr} (h:iJ a++b=t.post):eN a+b.length=t.size:=by
 have h1:=congrArg BN h;rw [Ai,t.kr] at h1;have h2:∀l:List Tr,(iJ l).length=eN l:=by
  intro l
  induction l with
  | nil=>rfl
  | cons x l ih=>
   have e1:iJ (x::l)=x.post++iJ l:=rfl;have e2:eN (x::l)=x.size+eN l:=rfl;rw [e1,e2,Ai,ih,x.kr]
 rw [h2] at h1;exact h1
theorem dU (h:l.length < 1000):iw l x=.ret (l++[x]):=nn (by have:=cv (n:=1000) (An _);omega)
theorem NK (t:Tr) (hz:t.size<=900):(jm t.pv).le (.ret (t.post.map Tr.pv)):=λQ q=>by
 refine GQ (λn s=>∃ts bs:List Tr,n=eN ts/\s=(bs.map Tr.pv,ts.map Tr.pv)/\iJ ts++bs.reverse=t.post) ⟨[t],[],rfl,rfl,by rw [pw];simp⟩ ?_;rintro n s ⟨ts,bs,rfl,rfl,hp⟩;have hs:=M4 hp;rw [B5] at hs;by_cases he:ts=[]
 ·subst he;have Ě:bs.reverse=t.post:=hp;simp;rw [<- List.map_reverse,Ě];exact q
 ·obtain⟨us,u,rfl⟩:=QJ he;have Qf:=u9 us;rw [fP,pd] at hs;simp;rw [dU (by rw [Af];omega)];cases u with
  | leaf x=>
   simp [Tr.pv];refine⟨_,?_,us,rfl,bs++[.leaf x],⟨by simp [Tr.pv],rfl⟩,?_⟩
   ·rw [fP,pd];show eN us < eN us+1;omega
   ·rw [jg,pw] at hp;rw [Fc,<- hp];simp [Tr.post]
  | node c d=>
   have e1:WS (us.map Tr.pv) [c.pv,d.pv]=.ret (us.map Tr.pv++[c.pv,d.pv]):=nn (cv (by
    have:(Tr.node c d).size=c.size+d.size+1:=rfl;simp;omega))
   simp [Tr.pv,e1];refine⟨_,?_,us++[c,d],rfl,bs++[.node c d],⟨by simp [Tr.pv],by simp⟩,?_⟩
   ·have e2:eN [Tr.node c d]=c.size+d.size+1:=by rw [pd];rfl
    have e3:eN [c,d]=c.size+d.size:=by simp [eN]
    rw [fP,fP,e2,e3];omega
   ·rw [jg,pw] at hp;rw [Fc,<- hp,jg,K2];simp [Tr.post]
def aP (l:List Nat):List PV:=l.map λ(n:Nat)=>.int (n:Int)
@[simp] theorem dz (l:List Nat):(aP l).length=l.length:=Af _
@[simp] theorem Zm (a b:List Nat):aP (a++b)=aP a++aP b:=AN
@[simp] theorem lq (a:Nat) (l:List Nat):aP (a::l)=.int (a:Int)::aP l:=rfl
@[simp] theorem nM:aP []=[]:=rfl
def iR (n:Nat):gX 0 n=aP (Az n):=by
 refine BL λi _=>?_;rw [ED]
theorem N5 {p:Nat->Bool}:∀{l:List Nat},(∀k∈l,f (.int ((k:Nat):Int))=.ret (if p k=true then am (.int ((k:Nat):Int)) else bm))->lP (aP l) f=.ret (aP (l.filter p))
 | [],_=>rfl
 | k::l,h=>by
  show ap (f _) (λo=>ap (lP (aP l) f) λm=>bd (o.toList++m))=_;rw [h k (.head _),N5 λy hy=>h y (.tail _ hy),Dm];cases p k <;> rfl
theorem jl {f:PV->W PV}{g:Nat->PV}:∀{l:List Nat},(∀k∈l,f (.int ((k:Nat):Int))=.ret (g k))->bI (aP l) f=.ret (l.map g)
 | [],_=>rfl
 | k::l,h=>by
  show ap (f _) (λy=>ap (bI (aP l) f) λm=>bd (y::m))=_;rw [h k (.head _),jl λy hy=>h y (.tail _ hy)];rfl
def Zs (g:PV->Option PV) (h:∀x∈l,f x=.ret (g x)) (q:Q (l.filterMap g)):(lP l f).run Q:=by rw [wM h];exact q
def NZ {f:PV->W PV} (g:PV->PV) (h:∀x∈l,f x=.ret (g x)) (q:Q (l.map g)):(bI l f).run Q:=by rw [JW h];exact q
def N4 {l:List Nat} (p:Nat->Bool) (h:∀k∈l,f (.int ((k:Nat):Int))=.ret (if p k=true then am (.int ((k:Nat):Int)) else bm)) (q:Q (aP (l.filter p))):(lP (aP l) f).run Q:=by rw [N5 h];exact q
def Lg {l:List Nat}{f:PV->W PV} (g:Nat->PV) (h:∀k∈l,f (.int ((k:Nat):Int))=.ret (g k)) (q:Q (l.map g)):(bI (aP l) f).run Q:=by rw [jl h];exact q
theorem nK (t:Tr) (hz:t.size<=900):(gU t.pv).le (.ret (.tup ((t.nd 0).map Ent.pv))):=λQ q=>by
 unfold gU;simp only [ga,cr];refine W.le.use (NK t hz) ?_;refine tm (λr s=>∃(k:List Tr) (À:List Ent) (ls:List Nat),r=k.map Tr.pv/\s=(À.map Ent.pv,aP ls.reverse)/\run k À ls=am (t.nd 0,[t.size-1])/\À.length+k.length<=900/\ls.length<=À.length) ⟨t.post,[],[],rfl,rfl,KZ t,by simp [t.kr];omega,An _⟩ ?_ ?_
 ·rintro x r s ⟨k,À,ls,e,rfl,h,hl,ZV⟩;cases k with
  | nil=>cases e
  | cons p k=>
   injection e with e1 e2;subst e1;subst e2;rw [Ao] at hl;cases p with
   | leaf x=>
    have a1:∀y,iw (aP ls.reverse) y=.ret (aP ls.reverse++[y]):=λy=>dU (by simp;omega);simp [Tr.pv,dU (l:=À.map Ent.pv) (by simp;omega),a1];refine⟨k,rfl,À++[Ent.word x],À.length::ls,⟨by simp [Ent.pv],by simp⟩,h,by simp;omega,by simp;omega⟩
   | node c d=>
    match ls,h,ZV with
    | b::a::ls,h,ZV=>
     rw [Ao,Ao] at ZV;have a0:aP (b::a::ls).reverse=(aP ls.reverse++[.int (a:Int)])++[.int (b:Int)]:=by simp
     have a1:∀y,iw (aP ls.reverse) y=.ret (aP ls.reverse++[y]):=λy=>dU (by simp;omega);rw [a0];simp only [Tr.pv,ga,lH,lG,dc,Au,if_false,WU];simp [dU (l:=À.map Ent.pv) (by simp;omega),a1];refine⟨k,rfl,À++[Ent.pair a b],À.length::ls,⟨by simp [Ent.pv],by simp⟩,h,by simp;omega,by simp;omega⟩
 ·rintro s ⟨k,À,ls,e,rfl,h,hl,ZV⟩;cases k with
  | nil=>
   cases h;simpa using q
  | cons p k=>cases e
end My
variable {a b:Int}
namespace My
open PySem PySem.Spec PyProof.Rows L2 PL FL
theorem mulL (h:-1000000000<=a/\a<=1000000000):ww a b:=TC ∅ ∅
theorem mulR (h:-1000000000<=b/\b<=1000000000):ww a b:=mul_r ∅ ∅
theorem Xk (i:Int):0<=(if i < 0 then -i else i):=by split <;> omega
theorem bp (h:-1000<=i/\i<=1000/\-1000<=j/\j<=1000) (h2:j-i<=1000):okN i j:=⟨by omega,by omega,by omega,by omega,cv ∅⟩
structure vM (t:Tr):Prop where
 ws:t.Ws
 nd:t.ax.Nodup
 few:t.ax.length<=8
 sg:∃b,b<=1/\(t.ax.map λx=>x.cps[b]?).Nodup
end My
variable {b i j:Nat}{ds:List Int}{d:Int}{left:List Nat}
namespace My
open PySem PySem.Spec PyProof.Rows L2 PL FL
def uC:Ent->Bool
 | .word _=>false
 | .pair _ _=>true
structure Dt (t:Tr) (ds:List Int) (left:List Nat) (d:Int):Prop where
 len:ds.length=t.size
 zero:∀j,j < t.size->(uC (en t 0 j)=false\/j∈left)->ds.getD j 0=0
 up:∀j,j < t.size->j∉left->∀a b,en t 0 j=.pair a b->a∉left/\b∉left/\ds.getD a 0 < ds.getD j 0/\ds.getD b 0 < ds.getD j 0/\1<=ds.getD j 0/\ds.getD j 0<=d
 inj:∀i j,i < t.size->j < t.size->i∉left->j∉left->uC (en t 0 i)=true->uC (en t 0 j)=true->ds.getD i 0=ds.getD j 0->i=j
 pos:0<=d
 XB:∀j∈left,j < t.size/\uC (en t 0 j)=true
 ris:left.Pairwise (· < ·)
def ik {l:List Int}{v:Int} (h:i < l.length):(l.set i v).getD i 0=v:=by rw [Ah,Cu h];rfl
def bA {l:List Int}{v:Int} (h:i≠j):(l.set i v).getD j 0=l.getD j 0:=by rw [Ah,BW h,<- Ah]
def uq {l:List Nat} (h:l.Pairwise (· < ·)) {x y:Nat}:y∈l.erase x↔y∈l/\y≠x:=by
 have nd:l.Nodup:=h.imp (λz=>AA z);rw [nd.mem_erase_iff];exact⟨λz=>⟨z.2,z.1⟩,λz=>⟨z.2,z.1⟩⟩
theorem dh (t:Tr) {a:Nat} (h:j < t.size) (e:en t 0 j=.pair a b):a < j/\b < j:=by
 rcases PN t 0 j h with⟨x,e1,_⟩ | ⟨a',b',e1,e2,e3,_⟩
 ·rw [e1] at e;cases e
 ·rw [e1] at e;injection e with h1 h2;omega
theorem Dt.next {x:Int}{a:Nat} (D:Dt t ds left d) (hj:j∈left) (e:en t 0 j=.pair a b) (ha:a∉left) (hb:b∉left) (hx:0<=x):Dt t (ds.set j (d+1+x)) (left.erase j) (d+1+x):=by
 obtain⟨hjs,hjp⟩:=D.XB j hj;obtain⟨haj,hbj⟩:=dh t hjs e;have XH:j < ds.length:=by rw [D.len];exact hjs
 have hm:∀y,y∈left.erase j↔y∈left/\y≠j:=λy=>uq D.ris;have Ô:∀y,y < t.size->y∉left->ds.getD y 0<=d:=λy hy ô=>by
  cases ey:en t 0 y with
  | word w=>rw [D.zero y hy (.inl (by rw [ey];rfl))];exact D.pos
  | pair p q=>exact (D.up y hy ô p q ey).2.2.2.2.2
 refine⟨by rw [BM];exact D.len,λy hy hc=>?_,λy hy ô p q ey=>?_,λu v hu hv hul hvl pu pv T7=>?_,by have:=D.pos;omega,λy hy=>D.XB y ((hm y).mp hy).1,List.Pairwise.sublist List.erase_sublist D.ris⟩
 ·have ZK:j≠y:=λz=>by
   subst z;rcases hc with hc | hc
   ·rw [hjp] at hc;cases hc
   ·exact ((hm j).mp hc).2 rfl
  rw [bA ZK];exact D.zero y hy (hc.imp id λz=>((hm y).mp z).1)
 ·by_cases ZK:j=y
  ·subst ZK;rw [e] at ey;injection ey with h1 h2;subst h1 h2;have la:=Ô a ∅ ha;have lb:=Ô b ∅ hb;rw [ik XH,bA ∅,bA ∅];have:=D.pos;exact⟨λz=>ha ((hm a).mp z).1,λz=>hb ((hm b).mp z).1,by omega,by omega,by omega,by omega⟩
  ·have adA:y∉left:=λz=>ô ((hm y).mpr ⟨z,BA ZK⟩);obtain⟨p1,p2,p3,p4,p5,p6⟩:=D.up y hy adA p q ey;have np:j≠p:=λz=>p1 (z▸hj);have nq:j≠q:=λz=>p2 (z▸hj);rw [bA ZK,bA np,bA nq];exact⟨λz=>p1 ((hm p).mp z).1,λz=>p2 ((hm q).mp z).1,p3,p4,p5,by omega⟩
 ·by_cases c1:j=u
  ·by_cases c2:j=v
   ·exact c1.symm.trans c2
   ·exfalso;subst c1;have Wt:v∉left:=λz=>hvl ((hm v).mpr ⟨z,BA c2⟩);rw [ik XH,bA c2] at T7;have:=Ô v hv Wt;omega
  ·have ZN:u∉left:=λz=>hul ((hm u).mpr ⟨z,BA c1⟩);by_cases c2:j=v
   ·exfalso;subst c2;rw [ik XH,bA c1] at T7;have:=Ô u hu ZN;omega
   ·have Wt:v∉left:=λz=>hvl ((hm v).mpr ⟨z,BA c2⟩);rw [bA c1,bA c2] at T7;exact D.inj u v hu hv ZN Wt pu pv T7
def splits (t:Tr):List Nat:=(Az t.size).filter λj=>uC (en t 0 j)
def Dt.first (t:Tr):Dt t (Am t.size 0) (splits t) 0:=by
 have z:∀j,(Am t.size (0:Int)).getD j 0=0:=λj=>by
  rw [Ah,Bo]
  split <;> rfl
 have mem:∀j,j∈splits t↔j < t.size/\uC (en t 0 j)=true:=λj=>by unfold splits;rw [A8,AY]
 refine⟨Bm,λj _ _=>z j,λj hj hn a b e=>absurd ((mem j).mpr ⟨hj,by rw [e];rfl⟩) hn,λi j hi hj hni _ pi _ _=>absurd ((mem i).mpr ⟨hi,pi⟩) hni,BF _,λj hj=>(mem j).mp hj,?_⟩;exact List.Pairwise.filter _ C8
theorem Kg (t:Tr):dD 0 ((t.nd 0).map Ent.pv)=(Az t.size).map λj=>PV.tup [.int ((j:Nat):Int),(en t 0 j).pv]:=by
 have hl:(dD 0 ((t.nd 0).map Ent.pv)).length=t.size:=by rw [cg,Af,t.ba]
 apply B3;intro i;by_cases hi:i < t.size
 ·have h1:(dD 0 ((t.nd 0).map Ent.pv))[i]?=am ((dD 0 ((t.nd 0).map Ent.pv))[i]'∅):=Ad _;obtain⟨y,hy,e⟩:=f7 h1;rw [Ak,gm t 0 i hi] at hy;have Wr:=Option.some.inj hy;rw [h1,e,<- Wr,Ak,Bv hi,AG];rfl
 ·rw [AI ∅,AI (by rw [Af,CI];omega)]
def RF:PV->Option PV
 | .tup [_,.str _]=>bm
 | .tup [k,_]=>am k
 | _=>bm
def V2 (t:Tr):(dD 0 ((t.nd 0).map Ent.pv)).filterMap RF=aP (splits t):=by
 rw [Kg];unfold splits;generalize Az t.size=l
 induction l with
 | nil=>rfl
 | cons j l ih=>
  rw [Aq,A6,Dm];cases e:en t 0 j with
  | word w=>exact ih
  | pair a b=>
   rw [ih];rfl
def u0 (l:List Nat):aP l=(l.map λn=>((n:Nat):Int)).map PV.int:=by unfold aP;rw [AB];rfl
theorem tw (y:Nat):∀l:List Nat,(l.map λn=>((n:Nat):Int)).erase (y:Int)=(l.erase y).map λn=>((n:Nat):Int)
 | []=>rfl
 | a::l=>by
  rw [Aq,List.erase_cons,List.erase_cons,tw y l];by_cases c:a=y
  ·subst c;simp
  ·have c1:(((a:Nat):Int)==(y:Int))=false:=by simp;omega
   have c2:(a==y)=false:=by simpa using c
   rw [c1,c2];simp
theorem Jw:∀(l:List Nat) (k n:Nat),l.Pairwise (· < ·)->(∀x∈l,k<=x/\x < n)->l.length<=n-k
 | [],_,_,_,_=>A9 _
 | a::l,k,n,h,hb=>by
  have h1:=(D1.mp h);have h2:=hb a Bs;have ih:=Jw l (a+1) n h1.2 λx hx=>⟨h1.1 x hx,(hb x (AV _ hx)).2⟩;rw [Ao];omega
def UZ (s:Nat):Ent->Ent
 | .word x=>.word x
 | .pair p q=>.pair (p+s) (q+s)
theorem Hh:∀(t:Tr) (o s:Nat),t.nd (o+s)=(t.nd o).map (UZ s)
 | .leaf _,_,_=>rfl
 | .node a b,o,s=>by
  have ha:=a.size_pos;rw [Tr.nd,Tr.nd,Hh a o s,show o+s+a.size=o+a.size+s by omega,Hh b (o+a.size) s,AN,AN];congr 2;congr 1 <;> omega
def gH {m:List PV} (h:l.length+m.length<=1000):mT l m=.ret (l++m):=nn (cv h)
theorem pick_run (h0:l≠[]) (h1:l.length<=1000) {Q:PV->Prop} (q:∀x∈l,Q x):(bK (.cl l)).run Q:=by
 unfold bK;have hp:0 < l.length:=Cm.mpr h0;simp only [ga,cr,bG,fe,de (l.length:Int) ∅ ∅,gl];refine bB λd d0 d1=>?_;obtain⟨v,hv,hv2⟩:=PU (xs:=l) d0 d1;simp only [cf,hv,wS,gl];exact q v (Br hv2)
theorem Oy (k:Nat) (l:List Nat) (b:Bool):qB b (.int (k:Int)) (aP l)=.ret (if b then !decide (k∈l) else decide (k∈l)):=by
 have h1:R7 (.int (k:Int)) (aP l):=⟨by simp,kJ.mpr λx hx=>by
  obtain⟨n,_,rfl⟩:=Av.mp hx;simp,kK λx hx=>by
  obtain⟨n,_,rfl⟩:=Av.mp hx;simp⟩
 have h2:sU (.int (k:Int)) (aP l)=decide (k∈l):=by
  unfold sU aP;rw [List.any_map]
  induction l with
  | nil=>simp
  | cons a l ih=>
   have ih:=ih ⟨by simp,kJ.mpr λx hx=>by
    obtain⟨n,_,rfl⟩:=Av.mp hx;simp,kK λx hx=>by
    obtain⟨n,_,rfl⟩:=Av.mp hx;simp⟩
   rw [Bx,ih];by_cases c:a=k
   ·subst c;simp
   ·have c1:(((a:Nat):Int)==(k:Int))=false:=by simp;omega
    have c2:¬k=a:=λz=>c z.symm;simp [c1,c2]
 unfold qB;rw [nn h1,h2]
def bb (ds:List Int):List PV:=ds.map PV.int
@[simp] theorem fB (ds:List Int):(bb ds).length=ds.length:=Af _
def Ox (ds:List Int) (y:Nat) (v:Int):(bb ds).set y (.int v)=bb (ds.set y v):=by unfold bb;rw [Ey]
def Mg (t:Tr) (left:List Nat) (j:Nat):Bool:=match en t 0 j with
 | .pair a b=>!decide (a∈left)&&!decide (b∈left)
 | _=>false
theorem J2 (h:k < n):uB n (k:Int)=am k:=by
 unfold uB;rw [if_pos ∅,if_pos ∅];simp
def nj (h:k < l.length):kd l (.int (k:Int)) v=.ret (l.set k v):=by
 unfold kd;simp [J2 h]
def VT (t:Tr) (h:j < t.size):dq ((t.nd 0).map Ent.pv) (j:Int)=am (en t 0 j).pv:=eK (by rw [Ak,gm t 0 j h];rfl)
theorem Dt.YO (D:Dt t ds left d) (he:left≠[]):aP (left.filter (Mg t left))≠[]:=by
 obtain⟨l0,l1,rfl⟩:∃l0 l1,left=l0::l1:=by cases left with | nil=>exact absurd rfl he | cons a l=>exact⟨a,l,rfl⟩
 have hr2:Mg t (l0::l1) l0=true:=by
  obtain⟨h1,h2⟩:=D.XB l0 (.head _);unfold Mg;cases e:en t 0 l0 with
  | word w=>rw [e] at h2;cases h2
  | pair a b=>
   obtain⟨g1,g2⟩:=dh t h1 e;have Ô:∀y∈l0::l1,l0<=y:=λy hy=>by
    rcases Aw.mp hy with rfl | hy
    ·exact An _
    ·exact DL ((D1.mp D.ris).1 y hy)
   have na:a∉l0::l1:=λz=>by have:=Ô a z;omega
   have nb:b∉l0::l1:=λz=>by have:=Ô b z;omega
   show (!decide _&&!decide _)=true;rw [decide_eq_false na,decide_eq_false nb];rfl
 intro z;have:=congrArg BN z;rw [dz] at this;have m:=A8.mpr ⟨show l0∈l0::l1 from .head _,hr2⟩;rw [List.length_eq_zero_iff.mp this] at m;cases m
theorem vM.size (g:vM t):t.size<=15:=by have:=t.size_eq;have:=g.few;omega
theorem vM.depth (g:vM t):t.depth < 8:=by have:=t.oA;have:=g.few;omega
def Zf (t:Tr) (ds:List Int) (j:Nat):Bool:=match en t 0 j with
 | .word _=>ds.getD j 0==0
 | .pair a b=>decide (ds.getD a 0 < ds.getD j 0)&&decide (ds.getD b 0 < ds.getD j 0)&&decide (1<=ds.getD j 0)&&decide (ds.getD j 0<=99)
def KP (t:Tr) (ds:List Int):List Int:=(splits t).map (ds.getD · 0)
def R4 (t:Tr) (ds:List Int):Bool:=decide (ds.length=t.size)&&(decide (KP t ds).Nodup&&(Az t.size).all (Zf t ds))
def int_at (h:j < ds.length):dq (bb ds) (j:Int)=am (.int (ds.getD j 0)):=eK (by
 unfold bb;rw [Ak,Ad h,Ah,Ad h];rfl)
theorem Ux (t:Tr) (ds:List Int) (h:ds.length=t.size):oZ ((t.nd 0).map Ent.pv) (bb ds)=(Az t.size).map λj=>PV.tup [(en t 0 j).pv,.int (ds.getD j 0)]:=by
 refine B3 λj=>?_;by_cases hj:j < t.size
 ·have hl:j < (oZ ((t.nd 0).map Ent.pv) (bb ds)).length:=by rw [m4];simp [t.ba,h];exact hj
  obtain⟨x,y,hx,hy,e⟩:=rz (Ad hl);rw [Ak,gm t 0 j hj] at hx;have vk:=Option.some.inj hx;have XH:j < ds.length:=by omega
  unfold bb at hy;rw [Ak,Ad XH] at hy;have Wr:=Option.some.inj hy;rw [Ad hl,e,<- vk,<- Wr,Ak,Bv hj];show _=am (PV.tup [_,.int (ds.getD j 0)]);rw [Ah,Ad XH];rfl
 ·rw [AI (by rw [m4];simp [t.ba,h];omega),AI (by simp;omega)]
theorem split_le (t:Tr) (ds:List Int) (h:ds.length=t.size) (hz:t.size<=900):dA (.tup ((t.nd 0).map Ent.pv)) (.tup (bb ds))=.ret (bb (KP t ds)):=by
 unfold dA;have c:((t.nd 0).map Ent.pv).length<=sizeLine:=cv (by rw [Af,t.ba];omega);simp only [ga,aF,Kx,nn c,Ux t ds h];rw [wM (g:=λx=>match x with | .tup [.str _,_]=>bm | .tup [_,y]=>am y | _=>bm) λx hx=>?_]
 ·congr 1;unfold KP splits bb;generalize Az t.size=l
  induction l with
  | nil=>rfl
  | cons j l ih=>
   rw [Aq,A6,Dm,ih];cases e:en t 0 j with
   | word w=>rfl
   | pair a b=>rfl
 ·obtain⟨j,hj,rfl⟩:=Av.mp hx;cases en t 0 j with
  | word w=>simp [Ent.pv]
  | pair a b=>simp [Ent.pv]
end My
variable {e:My.Ent}{es:List My.Ent}{bs:List Int}
namespace My
open PySem PySem.Spec PyProof.Rows L2 PL FL
section
variable {α β:Type}
theorem NY {c:α->PV}{f:PV->W PV}{g:α->PV}:∀{l:List α},(∀x∈l,(f (c x)).le (.ret (g x)))->(bI (l.map c) f).le (.ret (l.map g))
 | [],_=>W.le.refl _
 | x::r,h=>W.le.ret (h x (.head _)) (W.le.ret (NY λy hy=>h y (.tail _ hy)) (W.le.refl _))
theorem TH {c:α->PV}{g:α->Option PV}:∀{l:List α},(∀x∈l,(f (c x)).le (.ret (g x)))->(lP (l.map c) f).le (.ret (l.filterMap g))
 | [],_=>W.le.refl _
 | x::r,h=>W.le.ret (h x (.head _)) (W.le.ret (TH λy hy=>h y (.tail _ hy)) (W.le.of_eq (by rw [A6];cases g x <;> rfl)))
def e7 {c:α->PV}{f:PV->W PV} (g:α->PV) {l:List α} (h:∀x∈l,(f (c x)).le (.ret (g x))) (q:Q (l.map g)):(bI (l.map c) f).run Q:=NY h Q q
def V3 {c:α->PV} (g:α->Option PV) {l:List α} (h:∀x∈l,(f (c x)).le (.ret (g x))) (q:Q (l.filterMap g)):(lP (l.map c) f).run Q:=TH h Q q
theorem Uh {p:α->Bool}{g:α->β}:∀l:List α,l.filterMap (λx=>if p x=true then am (g x) else bm)=(l.filter p).map g
 | []=>rfl
 | x::l=>by
  rw [A6,Dm,Uh l];cases p x <;> rfl
end
def Pf (c:α->PV) (l:List α) (k:Nat):dD k (l.map c)=(l.zipIdx k).map λp=>PV.tup [.int ((p.2:Nat):Int),c p.1]:=by
 induction l generalizing k with
 | nil=>rfl
 | cons a l ih=>rw [Aq,dD,ih,List.zipIdx_cons,Aq]
def vp:V->PV
 | .int i=>.int i
 | .str x=>.str x
 | .bl b=>.bl b
 | _=>.aG
def X0 (t:Tr):List PV:=(ah (t.nd 0) 0 (Am t.size V.aG)).map vp
@[simp] theorem Kt (t:Tr):(X0 t).length=t.size:=by unfold X0;rw [Af,IJ,Bm]
def Ku (t:Tr) (h:j < t.size):(X0 t)[j]?=am (vp (ke t 0 j .aG)):=by unfold X0;rw [Ak,Xi t h];rfl
def dX (t:Tr):((t.nd 0).map Ent.pv).length=t.size:=by rw [Af,t.ba]
theorem Gn (t:Tr) (hz:t.size<=900):(eU t.pv).le (.ret (.tup (X0 t))):=λQ q=>by
 unfold eU;have c:((t.nd 0).map Ent.pv).length<=sizeLine:=cv (by rw [dX];omega);simp only [ga,cr];refine W.le.use (nK t hz) ?_;simp only [aF,gl];refine NZ (λ_=>.aG) (λx hx=>rfl) ?_;simp only [nn c,gl];have e0:((t.nd 0).map Ent.pv).map (λ_=>PV.aG)=(ah ((t.nd 0).take 0) 0 (Am t.size V.aG)).map vp:=by
  rw [List.take_zero,ah,List.map_replicate,List.map_const',dX];rfl
 rw [e0];refine fV (λi s=>s=(ah ((t.nd 0).take i) 0 (Am t.size V.aG)).map vp) rfl (λi x s hx hs=>?_) (λs hs=>?_)
 ·subst hs;have hi:i < t.size:=by have:=(Al.mp hx).1;rw [cg,dX] at this;exact this
  obtain⟨y,hy,rfl⟩:=f7 hx;have e:=gm t 0 i hi;rw [Ak,e] at hy;have hy:=Option.some.inj hy;subst hy;have et:(t.nd 0).take (i+1)=(t.nd 0).take i++[en t 0 i]:=by rw [C7,e];rfl
  have ea:ah ((t.nd 0).take (i+1)) 0 (Am t.size V.aG)=PZ (ah ((t.nd 0).take i) 0 (Am t.size V.aG)) (0+i) (en t 0 i):=by
   rw [et,yu,En,t.ba];congr 1;omega
  have hal:(ah ((t.nd 0).take i) 0 (Am t.size V.aG)).length=t.size:=by rw [IJ,Bm]
  rw [ea];generalize hA:ah ((t.nd 0).take i) 0 (Am t.size V.aG)=A at hal ⊢;unfold cy;cases en':en t 0 i with
  | word w=>simp [Ent.pv,cB,PZ]
  | pair a b=>
   obtain⟨ha,hb⟩:=dh t hi en';have s1:kd (A.map vp) (.int (a:Int)) (.int ((0+i:Nat):Int))=.ret ((A.map vp).set a (.int ((0+i:Nat):Int))):=nj (by rw [Af];omega);have s2:kd ((A.map vp).set a (.int ((0+i:Nat):Int))) (.int (b:Int)) (.int ((0+i:Nat):Int))=.ret (((A.map vp).set a (.int ((0+i:Nat):Int))).set b (.int ((0+i:Nat):Int))):=nj (by rw [BM,Af];omega);simp only [Ent.pv,mK,gl,lH,lG,dc,cr,Au,if_false,aF,cB,ga,s1,s2];show _=E4 vp ((A.set a _).set b _);rw [Ey,Ey];rfl
 ·subst hs;simp only [cg,Af];rw [Dl];exact q
def JN (e:Ent) (j:Nat):PV:=match e with | .word x=>.str x | .pair _ _=>.int (j:Int)
def GG (t:Tr) (ds:List Int) (b:Int) (j:Nat):Bool:=decide (ds.getD j 0<=b)&&(match ke t 0 j .aG with | .int a=>decide (b < ds.getD a.toNat 0) | _=>true)
def zc (t:Tr) (ds:List Int) (b:Int) (n j:Nat):List (Nat×Nat):=((Az j).filter (GG t ds b)).map λk=>(k,n)
def aH (t:Tr) (ds bs:List Int):Nat->List (Nat×Nat)
 | 0=>[]
 | i+1=>aH t ds bs i++zc t ds (bs.getD i 0) i t.size
def Mh (l:List (Nat×Nat)):List PV:=l.map λp=>.tup [.int (p.1:Int),.int (p.2:Int)]
def vW (t:Tr) (ds:List Int) (b:Int) (n j:Nat):(zc t ds b n j).length<=j:=by
 unfold zc;rw [Af];refine BB (Bw _ _) ?_;rw [CI];exact An _
theorem jb (t:Tr) (ds bs:List Int):∀i,(aH t ds bs i).length<=i*t.size
 | 0=>A9 _
 | i+1=>by
  rw [aH,Ai];have h1:=jb t ds bs i;have h2:=vW t ds (bs.getD i 0) i t.size;rw [Ew];omega
def MU (t:Tr) (ds:List Int) (b:Int) (n j:Nat):zc t ds b n (j+1)=zc t ds b n j++(if GG t ds b j then [(j,n)] else []):=by
 unfold zc;rw [List.range_succ,D4,AN];congr 1;by_cases c:GG t ds b j <;> simp [c]
def sN (p:Nat×Nat):List Key:=[.inl (p.1:Int),.inl (p.2:Int)]
theorem zY {p q:Nat×Nat} (h:sN p=sN q):p=q:=by
 obtain⟨a,b⟩:=p;obtain⟨c,d⟩:=q;simp [sN] at h;obtain⟨h1,h2⟩:=h;exact Prod.ext (by show a=c;omega) (by show b=d;omega)
def mF:Nat->List (Nat×Nat)->List (List Key×PV)
 | _,[]=>[]
 | k,p::l=>(sN p,.int (k:Int))::mF (k+1) l
theorem lj:∀(k:Nat) (l:List (Nat×Nat)),(mF k l).map (·.1)=l.map sN
 | _,[]=>rfl
 | k,p::l=>by rw [mF,Aq,Aq,lj (k+1) l]
def zE (k:Nat) (l:List (Nat×Nat)):(mF k l).length=l.length:=by have:=congrArg BN (lj k l);simpa using this
theorem sd:∀(k:Nat) (l:List (Nat×Nat)) (p:Nat×Nat),p∈l->cI (mF k l) (sN p)=am (.int ((k+l.idxOf p:Nat):Int))
 | k,q::l,p,h=>by
  rw [List.idxOf_cons];by_cases c:q=p
  ·subst c;simp [mF,cI]
  ·have hp:p∈l:=(Aw.mp h).elim (λz=>absurd z.symm c) id;have ih:=sd (k+1) l p hp;have c2:sN q≠sN p:=λz=>c (zY z);have c3:(q==p)=false:=by simpa using c
   have e:cI (mF k (q::l)) (sN p)=cI (mF (k+1) l) (sN p):=by simp [mF,cI,c2]
   rw [e,ih,c3];congr 2;show ((k+1+l.idxOf p:Nat):Int)=((k+(l.idxOf p+1):Nat):Int);omega
def GJ (e:Ent) (j:Nat) (d b:Int):List Nat:=if d < b then [j] else match e with | .word _=>[] | .pair x y=>[x,y]
def Xd (l:List (Nat×Nat)) (j n:Nat):List Nat:=(l.filter λp=>decide (p.2=n)&&!decide (p.1=j)).map λp=>l.idxOf p
def Kk (e:Ent) (l:List (Nat×Nat)) (j n:Nat) (d b:Int):PV:=.tup [JN e j,.int (n:Int),.tup (aP ((GJ e j d b).map λx=>l.idxOf (x,n-1))),.tup (aP (Xd l j n))]
def JQ {f:α->β} (hf:∀x y,f x=f y->x=y) {l:List α} (h:l.Nodup):(l.map f).Nodup:=List.Pairwise.map f (λa b n z=>n (hf a b z)) h
def KN (t:Tr) (ds:List Int) (b:Int) (n j:Nat):(zc t ds b n j).Nodup:=by
 exact JQ (λx y h=>(Prod.mk.inj h).1) (List.Pairwise.filter _ List.nodup_range)
theorem gc:∀{i:Nat}{p:Nat×Nat},p∈aH t ds bs i->p.2 < i/\p.1 < t.size
 | 0,_,h=>by simp [aH] at h
 | i+1,p,h=>by
  rw [aH] at h;rcases A2.mp h with h | h
  ·have:=gc h;omega
  ·obtain⟨k,hk,rfl⟩:=Av.mp h;have:=AY.mp (A8.mp hk).1;exact⟨Ek _,this⟩
theorem i9 (t:Tr) (ds bs:List Int):∀i,(aH t ds bs i).Nodup
 | 0=>D2
 | i+1=>by
  rw [aH];refine List.nodup_append.mpr ⟨i9 t ds bs i,KN _ _ _ _ _,λa ha b hb z=>?_⟩;subst z;have h1:=(gc ha).1;obtain⟨k,_,rfl⟩:=Av.mp hb;exact AU _ h1
def kD (h:l[k]?=am v):T4 l (.int (k:Int))=.ret v:=by
 rw [cf,eK h];rfl
def F2 (ds:List Int) (h:(dD 0 (bb ds))[i]?=am x):i < ds.length/\x=.tup [.int (i:Int),.int (ds.getD i 0)]:=by
 have hi:i < ds.length:=by have:=(Al.mp h).1;rw [cg,fB] at this;exact this
 obtain⟨y,hy,rfl⟩:=f7 h;unfold bb at hy;rw [Ak,Ad hi] at hy;have hy:=Option.some.inj hy;subst hy;refine⟨hi,?_⟩;rw [AG,Ah,Ad hi];rfl
theorem zb (t:Tr) (ds bs:List Int) (hd:ds.length=t.size) (hz:t.size<=100) (hb:bs.length*t.size<=900) (hb2:bs.length<=900):(gp t.pv (.tup (bb ds)) (.cl (bb bs))).le (.ret (Mh (aH t ds bs bs.length))):=λQ q=>by
 unfold gp;have c1:(bb bs).length<=sizeLine:=cv (by rw [fB];omega);have c2:(bb ds).length<=sizeLine:=cv (by rw [fB];omega);simp only [ga,cr];refine W.le.use (Gn t ∅) ?_;simp only [bG,gl,nn c1];refine fV (λi s=>s=Mh (aH t ds bs i)) rfl (λi x s hx hs=>?_) (λs hs=>?_)
 ·subst hs;obtain⟨hi,rfl⟩:=F2 bs hx;simp only [mK,gl,cr,aF,nn c2];have hl:=jb t ds bs i;have hm:i*t.size+t.size<=900:=by
   have:(i+1)*t.size<=bs.length*t.size:=E3 _ hi;rw [Ew] at this;omega
  refine fV (λj s=>s=Mh (aH t ds bs i++zc t ds (bs.getD i 0) i j)) (by simp [zc]) (λj x s hx hs=>?_) (λs hs=>?_)
  ·subst hs;obtain⟨hj,rfl⟩:=F2 ds hx;have Qf:=vW t ds (bs.getD i 0) i j;simp only [mK,gl,cr];rw [MU];have XG:j < t.size:=by omega
   have Ć:GG t ds (bs.getD i 0) j=true->(iw (Mh (aH t ds bs i++zc t ds (bs.getD i 0) i j)) (PV.tup [.int (j:Int),.int (i:Int)])).run λs=>s=Mh (aH t ds bs i++(zc t ds (bs.getD i 0) i j++if GG t ds (bs.getD i 0) j=true then [(j,i)] else [])):=λc=>by
    rw [dU (by unfold Mh;rw [Af,Ai];omega),if_pos c];unfold Mh;rw [<- Ay,AN (l₂:=[(j,i)])];rfl
   have no:GG t ds (bs.getD i 0) j=false->Mh (aH t ds bs i++zc t ds (bs.getD i 0) i j)=Mh (aH t ds bs i++(zc t ds (bs.getD i 0) i j++if GG t ds (bs.getD i 0) j=true then [(j,i)] else [])):=λc=>by rw [c];simp
   generalize eb:bs.getD i 0=b at Ć no ⊢;generalize ed:ds.getD j 0=d at *;simp only [ga,cr,aat,gl,bC,aF,kD (Ku t XG)];by_cases c:d<=b
   ·simp only [c,decide_true,if_true,cr,gl];rcases rG t 0 j .aG [] XG with⟨_,e,_⟩ | ⟨a,_,ha,e,_⟩
    ·have sb:GG t ds b j=true:=by unfold GG;rw [e,ed];simp [c]
     rw [e];simp only [vp,kL,gl,bC,PV.gA,if_true];exact Ć sb
    ·rw [AG] at e;have sb:GG t ds b j=decide (b < ds.getD a 0):=by unfold GG;rw [e,ed];simp [c]
     rw [e];have i2:dq (bb ds) (a:Int)=am (.int (ds.getD a 0)):=int_at ∅;simp only [vp,kL,gl,bC,PV.gA,Au,if_false,cf,i2,wS,Ke,ga];by_cases c2:b < ds.getD a 0
     ·rw [decide_eq_true c2] at sb ⊢;exact Ć sb
     ·rw [decide_eq_false c2] at sb ⊢;exact no sb
   ·have sb:GG t ds b j=false:=by unfold GG;rw [ed];simp [c]
    simp only [c,decide_false,Au,if_false,gl];exact no sb
  ·subst hs;rw [cg,fB,hd];rfl
 ·subst hs;rw [cg,fB];exact q
def Rx {l:List (Nat×Nat)} (h:l≠[]) (k:Nat):mF k l≠[]:=by cases l with | nil=>exact absurd rfl h | cons a l=>simp [mF]
def Hg (k:Nat) (l:List (Nat×Nat)):((mF k l).map λkv=>PV.tup (kv.1.map kP))=l.map λp=>PV.tup [.int (p.1:Int),.int (p.2:Int)]:=by
 have:=congrArg (E4 λx:List Key=>PV.tup (x.map kP)) (lj k l);rw [AB,AB] at this;exact this
theorem QD {l:List (Nat×Nat)} (h1:es[j]?=am e) (h2:j < ds.length) (h3:n < bs.length) (hl:l.length<=1000) (h0:l≠[])
  (hb:∀x∈GJ e j (ds.getD j 0) (bs.getD n 0),1<=n/\(x,n-1)∈l) :
  (iO (.tup (es.map Ent.pv)) (.tup (bb ds)) (.cl (bb bs)) (yQ (mF 0 l)) (.tup [.int (j:Int),.int (n:Int)])).le (.ret (Kk e l j n (ds.getD j 0) (bs.getD n 0))):=λQ q=>by
 unfold iO;have i0:dq [PV.int (j:Int),PV.int (n:Int)] 0=am (.int j):=rfl;have i1:dq [PV.int (j:Int),PV.int (n:Int)] 1=am (.int n):=rfl;have i2:dq (bb ds) (j:Int)=am (.int (ds.getD j 0)):=int_at h2;have i3:dq (bb bs) (n:Int)=am (.int (bs.getD n 0)):=int_at h3;have i4:dq (es.map Ent.pv) (j:Int)=am e.pv:=eK (by rw [Ak,h1];rfl);simp only [ga,cr,aF,bG,cf,i0,i1,i2,i3,i4,wS,gl,Ke,dc];generalize hdj:ds.getD j 0=d at *;generalize hbn:bs.getD n 0=b at *;have below:∀{R:PV->Prop},R (.tup (aP (GJ e j d b)))->(if decide (d < b)=true then bd (PV.tup [PV.int (j:Int)]) else cy e.pv).run R:=λ{R} r=>by
  unfold GJ at r;unfold cy;by_cases c:d < b
  ·rw [if_pos c] at r;simpa [c] using r
  ·cases e with
   | word w=>simpa [c,Ent.pv] using r
   | pair a b=>simpa [c,Ent.pv] using r
 refine below ?_;refine e7 (λx=>.int ((l.idxOf (x,n-1):Nat):Int)) (λk hk=>?_) ?_
 ·obtain⟨g1,g2⟩:=hb k hk;intro R r;have en1:(n:Int)-1=((n-1:Nat):Int):=by omega
  simp only [Qi,ga,cr,tu,gl,en1];rw [show PV.tup [.int (k:Int),.int ((n-1:Nat):Int)]=.tup ((sN (k,n-1)).map kP) from rfl];refine rf (sd 0 l (k,n-1) g2) ?_;rw [AG];exact r
 simp only [cr,O6,gl];refine Lm (Rx h0 0) (by rw [zE];exact hl) ?_;rw [Hg];refine V3 (λp=>if (decide (p.2=n)&&!decide (p.1=j))=true then am (.int ((l.idxOf p:Nat):Int)) else bm) (λp hp=>?_) ?_
 ·intro R r;obtain⟨u,v⟩:=p;have j0:dq [PV.int (u:Int),PV.int (v:Int)] 0=am (.int u):=rfl;have j1:dq [PV.int (u:Int),PV.int (v:Int)] 1=am (.int v):=rfl;simp only [Qi,ga,cr,aF,cf,j0,j1,wS,gl,gF,O8,bC];have get:∀{R:PV->Prop},R (.int ((l.idxOf (u,v):Nat):Int))->(dgW (yQ (mF 0 l)) (PV.tup [.int (u:Int),.int (v:Int)])).run R:=λ{R} r=>by
   refine rf (sd 0 l (u,v) hp) ?_;rw [AG];exact r
  by_cases c1:v=n
  ·subst c1;by_cases c2:u=j
   ·subst c2;simp only [beq_self_eq_true,CB,if_true,gl,Au,if_false];simpa using r
   ·have c3:((u:Int)==(j:Int))=false:=by simp;omega
    simp only [beq_self_eq_true,c3,E6,if_true,gl,cr];refine get ?_;simpa [c2] using r
  ·have c3:((v:Int)==(n:Int))=false:=by simp;omega
   simp only [c3,Au,if_false,gl];simpa [c1] using r
 rw [Uh];have nm:∀{R:PV->Prop},R (JN e j)->(dY (.tup (es.map Ent.pv)) (.int (j:Int))).run R:=λ{R} r=>by
  unfold dY;simp only [ga,cr,aF,cf,i4,wS,gl];cases e with
  | word w=>simpa [Ent.pv,JN] using r
  | pair a b=>simpa [Ent.pv,JN] using r
 refine nm ?_;have e1:(l.filter λp=>decide (p.2=n)&&!decide (p.1=j)).map (λp=>PV.int ((l.idxOf p:Nat):Int))=aP (Xd l j n):=by
  unfold aP Xd;rw [AB];rfl
 have e2:(GJ e j d b).map (λx=>PV.int ((l.idxOf (x,n-1):Nat):Int))=aP ((GJ e j d b).map λx=>l.idxOf (x,n-1)):=by
  unfold aP;rw [AB];rfl
 rw [e1,e2];exact q
def XY (t:Tr) (ds bs:List Int):List PV:=(aH t ds bs bs.length).map λp=>Kk (en t 0 p.1) (aH t ds bs bs.length) p.1 p.2 (ds.getD p.1 0) (bs.getD p.2 0)
def okD (t:Tr) (ds bs:List Int):Prop:=∀p∈aH t ds bs bs.length,∀x∈GJ (en t 0 p.1) p.1 (ds.getD p.1 0) (bs.getD p.2 0),1<=p.2/\(x,p.2-1)∈aH t ds bs bs.length
theorem se:∀(k:Nat) (l:List (Nat×Nat)),(l.zipIdx k).map (λp=>PV.tup [PV.tup [.int (p.1.1:Int),.int (p.1.2:Int)],.int ((p.2:Nat):Int)])=(mF k l).map JG
 | _,[]=>rfl
 | k,p::l=>by rw [List.zipIdx_cons,Aq,se (k+1) l];rfl
def aQ (t:Tr) (ds:List Int):List Int:=0::sortI (KP t ds)
def Jq (t:Tr) (ds:List Int):(KP t ds).length<=t.size:=by
 unfold KP splits;rw [Af];have:=Bw (λj=>uC (en t 0 j)) (Az t.size);rw [CI] at this;exact this
def u5 {x:Int}{l:List Int}:x∈sortI l↔x∈l:=(CS l _).mem_iff
def o8 (l:List Int):(sortI l).length=l.length:=(CS l _).length_eq
theorem Px (t:Tr) (ds:List Int) (hd:ds.length=t.size) (hz:t.size<=25) (h0:aH t ds (aQ t ds) (aQ t ds).length≠[]) (ok:okD t ds (aQ t ds)):(lu t.pv (.tup (bb ds))).le (.ret (.tup (XY t ds (aQ t ds)))):=λQ q=>by
 unfold lu;simp only [ga,cr];refine W.le.use (nK t ∅) ?_;have hs:=Jq t ds;have hl:(aQ t ds).length<=t.size+1:=by unfold aQ;rw [Ao,o8];omega
 have e2:vY (bb (KP t ds))=.ret (bb (sortI (KP t ds))):=by
  unfold vY bb;rw [eW];show W.fh _ _=_;rw [nn ∅]
 have e3:mT [PV.int 0] (bb (sortI (KP t ds)))=.ret (bb (aQ t ds)):=by
  rw [gH (by rw [fB,o8];simp;omega)];rfl
 simp only [split_le t ds hd ∅,gl,e2,e3];have hb:(aQ t ds).length*t.size<=900:=by
  have:(aQ t ds).length*t.size<=26*25:=Nat.mul_le_mul ∅ hz;omega
 refine W.le.use (zb t ds (aQ t ds) hd ∅ hb ∅) ?_;generalize hL:aH t ds (aQ t ds) (aQ t ds).length=L at *;have hLl:L.length<=900:=by rw [<- hL];exact BB (jb _ _ _ _) hb
 have hLm:∀p∈L,p.2 < (aQ t ds).length/\p.1 < t.size:=λp hp=>gc (hL▸hp);have c:(Mh L).length<=sizeLine:=cv (by unfold Mh;rw [Af];omega);simp only [bG,gl,nn c,ga];unfold Mh;rw [Pf];refine e7 (λp:(Nat×Nat)×Nat=>PV.tup [PV.tup [.int (p.1.1:Int),.int (p.1.2:Int)],.int ((p.2:Nat):Int)]) (λp _ R r=>by simpa using r) ?_;rw [se];refine LS ?_ (by rw [zE];omega) ?_
 ·rw [lj];exact JQ (λ_ _ h=>zY h) (hL▸i9 t ds _ _)
 refine e7 (λp:Nat×Nat=>Kk (en t 0 p.1) L p.1 p.2 (ds.getD p.1 0) ((aQ t ds).getD p.2 0)) (λp hp=>?_) ?_
 ·obtain⟨g1,g2⟩:=hLm p hp;refine QD (gm t 0 p.1 g2) ∅ g1 ∅ h0 λx hx=>?_;have:=ok p (by rw [hL];exact hp) x hx;rw [hL] at this;exact this
 ·have:XY t ds (aQ t ds)=L.map λp:Nat×Nat=>Kk (en t 0 p.1) L p.1 p.2 (ds.getD p.1 0) ((aQ t ds).getD p.2 0):=by unfold XY;rw [hL]
  rw [<- this];exact q
theorem jP:∀(t:Tr) (o x:Nat) (p:V),x < t.size->(x=t.size-1/\ke t o x p=p)\/∃a u v,x < a/\a < t.size/\ke t o x p=.int ((o+a:Nat):Int)/\en t o a=.pair u v/\(u=o+x\/v=o+x)
 | .leaf _,o,x,p,h=>.inl ⟨by have:x < 1:=h;show x=0;omega,rfl⟩
 | .node l r,o,x,p,h=>by
  have es:(Tr.node l r).size=l.size+r.size+1:=rfl;have top:en (.node l r) o (l.size+r.size)=.pair (o+l.size-1) (o+l.size+r.size-1):=by rw [en,if_neg ∅,if_neg ∅]
  by_cases c1:x < l.size
  ·rw [show ke (.node l r) o x p=ke l o x (.int (o+l.size+r.size:Nat)) by rw [ke,if_pos c1]];rcases jP l o x (.int (o+l.size+r.size:Nat)) c1 with⟨h1,h2⟩ | ⟨a,u,v,h1,h2,h3,h4,h5⟩
   ·exact .inr ⟨l.size+r.size,_,_,by omega,by omega,by rw [h2,Bg],top,.inl ∅⟩
   ·exact .inr ⟨a,u,v,h1,by omega,h3,by rw [en,if_pos h2];exact h4,h5⟩
  ·by_cases c2:x < l.size+r.size
   ·rw [show ke (.node l r) o x p=ke r (o+l.size) (x-l.size) (.int (o+l.size+r.size:Nat)) by rw [ke,if_neg c1,if_pos c2]];rcases jP r (o+l.size) (x-l.size) (.int (o+l.size+r.size:Nat)) ∅ with⟨h1,h2⟩ | ⟨a,u,v,h1,h2,h3,h4,h5⟩
    ·exact .inr ⟨l.size+r.size,_,_,by omega,by omega,by rw [h2,Bg],top,.inr ∅⟩
    ·refine .inr ⟨l.size+a,u,v,by omega,by omega,by rw [h3,Bg],?_,by omega⟩;rw [en,if_neg ∅,if_pos ∅,El];exact h4
   ·exact .inl ⟨by omega,by rw [ke,if_neg c1,if_neg c2]⟩
theorem tE:∀(t:Tr) (o j:Nat) (p:V) (a b:Nat),j < t.size->en t o j=.pair a b->o<=a/\o<=b/\a < o+j/\b < o+j/\a < b/\ke t o (a-o) p=.int ((o+j:Nat):Int)/\ke t o (b-o) p=.int ((o+j:Nat):Int)
 | .leaf _,o,j,p,a,b,h,e=>by rw [en] at e;cases e
 | .node l r,o,j,p,a,b,h,e=>by
  have es:(Tr.node l r).size=l.size+r.size+1:=rfl;have lp:=l.size_pos;have rp:=r.size_pos;by_cases c1:j < l.size
  ·rw [en,if_pos c1] at e;obtain⟨h1,h2,h3,h4,h5,h6,h7⟩:=tE l o j (.int (o+l.size+r.size:Nat)) a b c1 e;refine⟨h1,h2,h3,h4,h5,?_,?_⟩
   ·rw [ke,if_pos ∅];exact h6
   ·rw [ke,if_pos ∅];exact h7
  ·by_cases c2:j < l.size+r.size
   ·rw [en,if_neg c1,if_pos c2] at e;obtain⟨h1,h2,h3,h4,h5,h6,h7⟩:=tE r (o+l.size) (j-l.size) (.int (o+l.size+r.size:Nat)) a b ∅ e;refine⟨by omega,by omega,by omega,by omega,h5,?_,?_⟩
    ·rw [ke,if_neg ∅,if_pos ∅,E2,h6,show o+l.size+(j-l.size)=o+j by omega]
    ·rw [ke,if_neg ∅,if_pos ∅,E2,h7,show o+l.size+(j-l.size)=o+j by omega]
   ·rw [en,if_neg c1,if_neg c2] at e;injection e with e1 e2;subst e1;subst e2;have hj:j=l.size+r.size:=by omega
    subst hj;have á:∀(t:Tr) (o:Nat) (p:V),ke t o (t.size-1) p=p:=λt o p=>by
     have tp:=t.size_pos;rcases jP t o (t.size-1) p ∅ with⟨_,h⟩ | ⟨a,_,_,h1,h2,_⟩
     ·exact h
     ·omega
    refine⟨by omega,by omega,by omega,by omega,by omega,?_,?_⟩
    ·rw [ke,if_pos ∅,show o+l.size-1-o=l.size-1 by omega,á,Bg]
    ·rw [ke,if_neg ∅,if_pos ∅,show o+l.size+r.size-1-o-l.size=r.size-1 by omega,á,Bg]
structure DD (t:Tr) (ds:List Int):Prop where
 len:ds.length=t.size
 leaf:∀j w,j < t.size->en t 0 j=.word w->ds.getD j 0=0
 pair:∀j a b,j < t.size->en t 0 j=.pair a b->ds.getD a 0 < ds.getD j 0/\ds.getD b 0 < ds.getD j 0/\1<=ds.getD j 0
 nd:(KP t ds).Nodup
def DD.of (h:R4 t ds=true):DD t ds:=by
 unfold R4 at h;rw [AO,AO,decide_eq_true_iff,decide_eq_true_iff] at h;obtain⟨h1,h2,h3⟩:=h;have h4:∀j,j < t.size->Zf t ds j=true:=λj hj=>CN.mp h3 j (AY.mpr hj);refine⟨h1,λj w hj e=>?_,λj a b hj e=>?_,h2⟩
 ·have:=h4 j hj;unfold Zf at this;rw [e] at this;exact eq_of_beq this
 ·have:=h4 j hj;unfold Zf at this;rw [e] at this;rw [AO,AO,AO,decide_eq_true_iff,decide_eq_true_iff,decide_eq_true_iff,decide_eq_true_iff] at this;exact⟨this.1.1.1,this.1.1.2,this.1.2⟩
def DD.mem (D:DD t ds) (hj:j < t.size):ds.getD j 0∈aQ t ds:=by
 cases e:en t 0 j with
 | word w=>rw [D.leaf j w hj e];exact .head _
 | pair a b=>
  refine AV _ (u5.mpr ?_);exact Av.mpr ⟨j,A8.mpr ⟨AY.mpr hj,by rw [e];rfl⟩,rfl⟩
theorem MW (l:List Int):(sortI l).Pairwise (·<=·):=(Em (le:=λa b=>decide (a<=b)) (λa b c=>by simp;omega) (λa b=>by simp;omega) l).imp (by simp)
theorem DD.inc (D:DD t ds):(aQ t ds).Pairwise (· < ·):=by
 unfold aQ;refine D1.mpr ⟨λx hx=>?_,?_⟩
 ·have hx:=u5.mp hx;unfold KP splits at hx;obtain⟨j,hj,rfl⟩:=Av.mp hx;obtain⟨h1,h2⟩:=A8.mp hj;cases e:en t 0 j with
  | word w=>rw [e] at h2;cases h2
  | pair a b=>have:=(D.pair j a b (AY.mp h1) e).2.2;omega
 ·have nd:(sortI (KP t ds)).Nodup:=(CS _ _).nodup_iff.mpr D.nd;exact (List.Pairwise.and (MW _) nd).imp λ⟨h1,h2⟩=>Int.lt_iff_le_and_ne.mpr ⟨h1,h2⟩
theorem sR {l:List Int} (h:l.Pairwise (· < ·)) (hn:n < l.length) {x:Int} (hx:x∈l) (lt:x < l.getD n 0):1<=n/\x<=l.getD (n-1) 0:=by
 obtain⟨i,hi,rfl⟩:=DG hx;have gd:∀{k} (hk:k < l.length),l.getD k 0=l[k]:=λ{k} hk=>by rw [Ah,Ad hk];rfl
 rw [gd hn] at lt;have c:i < n:=by
  rcases C6 i n with c | c
  ·exact c
  ·rcases DZ c with c | c
   ·subst c;omega
   ·have:=BP.mp h _ _ hn hi c;omega
 refine⟨by omega,?_⟩;rw [gd ∅];rcases DZ (show i<=n-1 by omega) with c2 | c2
 ·subst c2;exact BF _
 ·have:=BP.mp h _ _ hi ∅ c2;omega
theorem xk {l:List Int} (h:l.Pairwise (· < ·)) (hn:n < l.length) (hi:i < n):l.getD i 0 < l.getD n 0:=by
 have gd:∀{k} (hk:k < l.length),l.getD k 0=l[k]:=λ{k} hk=>by rw [Ah,Ad hk];rfl
 rw [gd hn,gd ∅];exact BP.mp h _ _ ∅ hn hi
theorem bR {t:Tr}{ds bs:List Int}:∀{m:Nat}{j n:Nat},(j,n)∈aH t ds bs m↔n < m/\j < t.size/\GG t ds (bs.getD n 0) j=true
 | 0,j,n=>by simp [aH]
 | m+1,j,n=>by
  rw [aH,A2,bR];unfold zc;rw [Av]
  constructor
  ·rintro (⟨h1,h2,h3⟩ | ⟨k,hk,e⟩)
   ·exact⟨by omega,h2,h3⟩
   ·obtain⟨h1,h2⟩:=A8.mp hk;injection e with e1 e2;subst e1;subst e2;exact⟨by omega,AY.mp h1,h2⟩
  ·rintro⟨h1,h2,h3⟩;by_cases c:n=m
   ·subst c;exact .inr ⟨j,A8.mpr ⟨AY.mpr h2,h3⟩,rfl⟩
   ·exact .inl ⟨by omega,h2,h3⟩
theorem fN {b:Int} (hj:j < t.size):GG t ds b j=true↔ds.getD j 0<=b/\∀a,ke t 0 j .aG=.int ((a:Nat):Int)->b < ds.getD a 0:=by
 unfold GG;rw [AO,decide_eq_true_iff];rcases jP t 0 j .aG hj with⟨_,e⟩ | ⟨a,u,v,_,ha,e,_,_⟩
 ·rw [e];exact⟨λh=>⟨h.1,λa z=>by cases z⟩,λh=>⟨h.1,rfl⟩⟩
 ·rw [AG] at e;rw [e];refine⟨λh=>⟨h.1,λa' z=>?_⟩,λh=>⟨h.1,?_⟩⟩
  ·injection z with z;have:a=a':=by omega
   subst this;simpa using h.2
  ·simpa using h.2 a rfl
theorem DD.ok (D:DD t ds):okD t ds (aQ t ds):=by
 rintro⟨j,n⟩ hp x hx;obtain⟨hn,hj,hs⟩:=bR.mp hp;obtain⟨GH,qY⟩:=(fN hj).mp hs;have inc:=D.inc;show 1<=n/\(x,n-1)∈_;unfold GJ at hx;by_cases c:ds.getD j 0 < (aQ t ds).getD n 0
 ·rw [if_pos c] at hx;have:x=j:=by simpa using hx
  subst this;obtain⟨g1,g2⟩:=sR inc hn (D.mem hj) c;have lt:=xk inc hn (show n-1 < n by omega);exact⟨g1,bR.mpr ⟨by omega,hj,(fN hj).mpr ⟨g2,λa e=>by have:=qY a e;omega⟩⟩⟩
 ·rw [if_neg c] at hx;cases e:en t 0 j with
  | word w=>rw [e] at hx;cases hx
  | pair a b=>
   rw [e] at hx;obtain⟨p1,p2,p3⟩:=D.pair j a b hj e;obtain⟨_,_,a1,a2,_,a3,a4⟩:=tE t 0 j .aG a b hj e;rw [AG,Fp] at *;have hx:x=a\/x=b:=by simpa using hx
   have key:x < t.size/\ds.getD x 0 < ds.getD j 0/\ke t 0 x .aG=.int ((j:Nat):Int):=by
    rcases hx with rfl | rfl
    ·exact⟨by omega,p1,a3⟩
    ·exact⟨by omega,p2,a4⟩
   obtain⟨k1,k2,k3⟩:=key;obtain⟨g1,g2⟩:=sR inc hn (D.mem k1) ∅;have lt:=xk inc hn (show n-1 < n by omega);refine⟨g1,bR.mpr ⟨by omega,k1,(fN k1).mpr ⟨g2,λa' e'=>?_⟩⟩⟩;rw [k3] at e';injection e' with e';have:j=a':=by omega
   subst this;omega
theorem Kh:∀(t:Tr) (o:Nat),∃w,en t o 0=.word w
 | .leaf w,o=>⟨w,rfl⟩
 | .node l r,o=>by rw [en,if_pos (show 0 < l.size from l.size_pos)];exact Kh l o
theorem DD.ne (D:DD t ds):aH t ds (aQ t ds) (aQ t ds).length≠[]:=by
 intro z;have:(0,0)∈aH t ds (aQ t ds) (aQ t ds).length:=by
  obtain⟨w,e⟩:=Kh t 0;refine bR.mpr ⟨by simp [aQ],t.size_pos,(fN t.size_pos).mpr ⟨?_,λa ea=>?_⟩⟩
  ·rw [D.leaf 0 w t.size_pos e];exact BF _
  ·rcases jP t 0 0 .aG t.size_pos with⟨_,e⟩ | ⟨a',u,v,_,ha,e,ep,_⟩
   ·rw [e] at ea;cases ea
   ·rw [e,AG] at ea;injection ea with ea;have:a'=a:=by omega
    subst this;have:=(D.pair a' u v ha ep).2.2;show (0:Int) < _;omega
 rw [z] at this;cases this
def Pw (D:DD t ds) (hz:t.size<=25):(lu t.pv (.tup (bb ds))).le (.ret (.tup (XY t ds (aQ t ds)))):=Px t ds D.len hz D.ne D.ok
def UH (t:Tr):List PV:=(Az t.size).map λj=>.tup (aP (up t 0 j []))
@[simp] theorem Qt (t:Tr):(UH t).length=t.size:=by unfold UH;simp
def I0 (t:Tr) (h:j < t.size):(UH t)[j]?=am (.tup (aP (up t 0 j []))):=by unfold UH;simp [h]
theorem UG (t:Tr):∀(k j:Nat),j+k+1=t.size->(up t 0 j []).length<=k+1:=λk=>by
 induction k using Cy with
 | ind k ih=>
  intro j hj;rcases rG t 0 j .aG [] ∅ with⟨q1,q2,q3⟩ | ⟨a,q1,q2,q3,q4⟩
  ·rw [q3];show 1<=k+1;omega
  ·rw [q4,Ao];have:=ih (t.size-a-1) ∅ a ∅;omega
theorem Yf (t:Tr) (h:j < t.size):(up t 0 j []).length<=t.size:=by
 have:=UG t (t.size-j-1) j ∅;omega
def GS (t:Tr) (i:Nat):List PV:=(Az t.size).map λj=>if j+i < t.size then .tup [] else .tup (aP (up t 0 j []))
def qK (t:Tr) (i:Nat):(GS t i).length=t.size:=by unfold GS;simp
def IZ (t:Tr) (i:Nat) (h:j < t.size) (c:¬j+i < t.size):(GS t i)[j]?=am (.tup (aP (up t 0 j []))):=by unfold GS;simp [h,c]
theorem Qr (t:Tr) (i j:Nat) (h:j+i+1=t.size):(GS t i).set j (.tup (aP (up t 0 j [])))=GS t (i+1):=by
 apply B3;intro k;by_cases hk:k < t.size
 ·by_cases e:j=k
  ·subst e;rw [Cu (by rw [qK];exact hk),IZ t (i+1) hk ∅]
  ·rw [BW e];unfold GS;simp only [Ak,Bv hk,Cw];by_cases c:k+i < t.size
   ·rw [if_pos c,if_pos ∅]
   ·rw [if_neg c,if_neg ∅]
 ·rw [AI (by rw [BM,qK];omega),AI (by rw [qK];omega)]
def Yg (t:Tr):GS t 0=Am t.size (.tup []):=by
 apply B3;intro k;unfold GS;by_cases hk:k < t.size
 ·simp [hk]
 ·simp [hk]
theorem Qs (t:Tr):GS t t.size=UH t:=by
 apply BL;intro j _;rw [if_neg ∅]
theorem N3 (t:Tr) (hz:t.size<=900):(gr t.pv).le (.ret (UH t)):=λQ q=>by
 unfold gr;simp only [ga,cr];refine W.le.use (Gn t hz) ?_;simp only [aF,gl];refine NZ (λ_=>.tup []) (λx hx=>rfl) ?_;have e0:(X0 t).map (λ_=>PV.tup [])=GS t 0:=by rw [List.map_const',Kt,Yg]
 have en:(((t.size:Nat):Int)-1 - -1).toNat=t.size:=by omega
 rw [e0];simp only [gZ,Kt,ga,tu,gl,Ic,So,en];refine⟨⟨trivial,bp ∅ ∅⟩,?_⟩;show (cB _ _ _).run _;refine fV (λi s=>s=GS t i) rfl (λi x s hx hs=>?_) (λs hs=>?_)
 ·subst hs;obtain⟨hi,rfl⟩:=vB hx;obtain⟨j,hj⟩:∃j:Nat,j=t.size-1-i:=⟨_,rfl⟩;have ej:(((t.size:Nat):Int)-1-(i:Int))=(j:Int):=by omega
  rw [ej];have XG:j < t.size:=by omega
  have fin:∀l:List PV,l.length<=900->.int (j:Int)::l=aP (up t 0 j [])->(ap (addW (.tup [.int (j:Int)]) (.tup l)) λx=>kd (GS t i) (.int (j:Int)) x).run λs=>s=GS t (i+1):=λl hl he=>by
   rw [Ss,nn (cv (by simp;omega))];show (kd _ _ (.tup (.int (j:Int)::l))).run _;rw [he,nj (by rw [qK];exact XG),Qr t i j ∅];rfl
  simp only [ga,cr,kD (Ku t XG),gl];rcases rG t 0 j .aG [] XG with⟨_,e,e2⟩ | ⟨a,ha1,ha,e,e2⟩
  ·rw [e];simp only [vp,kL,PV.gA,bC,gl,if_true];have:=fin [] (by simp) (by rw [e2,AG];rfl);simpa using this
  ·rw [AG] at e;rw [e];have i2:T4 (GS t i) (.int (a:Int))=.ret (.tup (aP (up t 0 a []))):=kD (IZ t i ha ∅);simp only [vp,kL,PV.gA,bC,gl,Au,if_false,i2,ga];have ua:=Yf t ha;have:=fin (aP (up t 0 a [])) (by rw [dz];omega) (by rw [e2];simp);simpa using this
 ·subst hs;have el:(qk (((t.size:Nat):Int)-1) t.size).length=t.size:=by unfold qk;simp
  rw [el,Qs];exact q
def XZ (t:Tr) (j:Nat):List Nat:=(Az t.size).filter λk=>!decide (k∈up t 0 j [])&&!decide (j∈up t 0 k [])
theorem PX (t:Tr) (hz:t.size<=900) (hj:j < t.size):(eA (.cl (UH t)) (.int (j:Int))).le (.ret (.tup (aP (XZ t j)))):=λQ q=>by
 unfold eA;simp only [ga,cr,fe,Qt,df,nn (bp (i:=0) (j:=(t.size:Int)) ∅ ∅),gl,Ba,iR];refine N4 (λk=>!decide (k∈up t 0 j [])&&!decide (j∈up t 0 k [])) (λk hk=>?_) q;have hk:=AY.mp hk;simp only [ga,bG,kD (I0 t hj),kD (I0 t hk),aF,Oy,if_true];by_cases c1:k∈up t 0 j []
 ·simp [c1]
 ·by_cases c2:j∈up t 0 k []
  ·simp [c1,c2]
  ·simp [c1,c2]
def OC:Ent->List Nat
 | .word _=>[]
 | .pair a b=>[a,b]
def pN (e:Ent):cy e.pv=.ret (.tup (aP (OC e))):=by
 unfold cy;cases e with
 | word w=>simp [Ent.pv,OC]
 | pair a b=>simp [Ent.pv,OC]
def Ry (h:es[j]?=am e):dY (.tup (es.map Ent.pv)) (.int (j:Int))=.ret (JN e j):=by
 have i1:T4 (es.map Ent.pv) (.int (j:Int))=.ret e.pv:=kD (by rw [Ak,h];rfl);unfold dY;cases e with
 | word w=>simp only [ga,aF,i1];rfl
 | pair a b=>simp only [ga,aF,i1];rfl
def grS (t:Tr) (j:Nat):PV:=.tup [JN (en t 0 j) j,.int 0,.tup (aP (OC (en t 0 j))),.tup (aP (XZ t j))]
def grL (t:Tr):List PV:=(Az t.size).map (grS t)
theorem LG (t:Tr) (hz:t.size<=900):(kC t.pv).le (.ret (.tup (grL t))):=λQ q=>by
 unfold kC;simp only [ga,cr];refine W.le.use (nK t hz) ?_;refine W.le.use (N3 t hz) ?_;simp only [gZ,dX,gl,df,nn (bp (i:=0) (j:=(t.size:Int)) ∅ ∅),Ba,iR];unfold aP;refine e7 (grS t) (λj hj R r=>?_) q;have hj:=AY.mp hj;have i1:T4 ((t.nd 0).map Ent.pv) (.int (j:Int))=.ret (en t 0 j).pv:=kD (by rw [Ak,gm t 0 j hj];rfl);simp only [Ry (gm t 0 j hj),ga,aF,i1,pN,cr,gl];exact W.le.use (PX t hz hj) r
end My
variable {ws:List B1}
namespace My
open PySem PySem.Spec PyProof.Rows L2 PL FL
structure Sy where
 nm:PV
 lv:Nat
 un:List Nat
 be:List Nat
def Sy.pv (s:Sy):PV:=.tup [s.nm,.int (s.lv:Int),.tup (aP s.un),.tup (aP s.be)]
def lE (g:List Sy):PV:=.tup (g.map Sy.pv)
def sy (g:List Sy) (i:Nat):Sy:=g.getD i ⟨.aG,0,[],[]⟩
def UT {g:List Sy} (h:i < g.length):g[i]?=am (sy g i):=by
 unfold sy;rw [Ah,Ad h];rfl
def OT {g:List Sy} (h:i < g.length):T4 (g.map Sy.pv) (.int (i:Int))=.ret (sy g i).pv:=kD (by rw [Ak,UT h];rfl)
def HK (w:Str):PV->Bool
 | .str s=>s==w
 | _=>false
def hm (g:List Sy) (i:Nat) (w:Str):Bool:=(sy g i).un.isEmpty&&HK w (sy g i).nm
inductive Qj (g:List Sy):Nat->Nat->Prop
 | refl (i:Nat):Qj g i i
 | step {i u j:Nat}:u∈(sy g i).un->Qj g u j->Qj g i j
structure WG (g:List Sy) (ws:List Str):Prop where
 pos:0 < g.length
 len:g.length<=300
 dn:∀i,i < g.length->∀u∈(sy g i).un,u < i
 uP:∀i,i < g.length->(sy g i).un.length<=2
 be:∀i,i < g.length->∀u∈(sy g i).be,u < g.length
 Xf:∀i,i < g.length->(sy g i).be.length<=30
 nm:∀i,i < g.length->(∃s,(sy g i).nm=.str s)\/∃n,(sy g i).nm=.int n
 adQ:∀w∈ws,∃i,i < g.length/\Qj g (g.length-1) i/\hm g i w=true
def m6 {g:List Sy} (h:i < g.length):cT (lE g) (.int (i:Int))=.ret (.tup (aP (sy g i).un)):=by
 unfold cT lE;simp only [ga,aF,OT h];rfl
def L7 {g:List Sy} (h:i < g.length):fw (lE g) (.int (i:Int))=.ret (.tup (aP (sy g i).be)):=by
 unfold fw lE;simp only [ga,aF,OT h];rfl
theorem eq_nil (l:List Nat) (h:l.length<=1000):of2 iK (.tup (aP l)) (.tup [])=.ret (.bl l.isEmpty):=by
 have fk:eY (aP l)=true:=kJ.mpr λx hx=>by
  obtain⟨n,_,rfl⟩:=Av.mp hx;simp
 have fd:dC (aP l)<=1:=kK λx hx=>by
  obtain⟨n,_,rfl⟩:=Av.mp hx;simp
 rw [F0,nn ⟨by simp [fk],by simp,by simp;omega⟩];cases l with
 | nil=>simp
 | cons a l=>simp [fW]
def Um (h:(∃s,x=.str s)\/∃n,x=.int n) (w:Str):of2 iK x (.str w)=.ret (.bl (HK w x)):=by
 rcases h with⟨s,rfl⟩ | ⟨n,rfl⟩
 ·rw [F0,nn ⟨by simp,by simp,by simp⟩,Ui];rfl
 ·rw [F0,nn ⟨by simp,by simp,by simp⟩];simp [kg,HK]
theorem Sd {g:List Sy} (G:WG g ws) (h:i < g.length) (w:Str):iP (lE g) (.int (i:Int)) (.str w)=.ret (.bl (hm g i w)):=by
 unfold iP;have l2:=G.uP i h;have i0:dq [(sy g i).nm,PV.int ((sy g i).lv:Int),.tup (aP (sy g i).un),.tup (aP (sy g i).be)] 0=am (sy g i).nm:=rfl;simp only [ga,m6 h,eq_nil _ (show (sy g i).un.length<=1000 by omega)];unfold lE hm;cases e:(sy g i).un.isEmpty with
 | false=>simp
 | true=>simp only [Sr,aF,ga,OT h,Sy.pv,cf,i0,wS,Um (G.nm i h) w,Ff]
abbrev Dd:=Str×Nat×Nat
def d2 (d:Dd):PV:=.tup [.str d.1,.tup [.int (d.2.1:Int),.int (d.2.2:Int)]]
abbrev dbl (i:Nat):Dd:=("doubled",i,i)
abbrev Vy (i o:Nat):List Dd:=[("over",i,o),("over",o,i)]
def vX:List Nat->List Dd
 | [a,b]=>[("split",a,b),("split",b,a)]
 | _=>[]
def dds (g:List Sy) (i:Nat):List Dd:=dbl i::(vX (sy g i).un++(sy g i).be.flatMap (Vy i))
theorem oy (i:Nat):∀l:List Nat,(l.flatMap (Vy i)).length=2*l.length
 | []=>rfl
 | a::l=>by rw [CJ,Ai,oy i l];simp;omega
def QE (l:List Nat):(vX l).length<=2:=by unfold vX;split <;> simp
theorem W7 {g:List Sy} (G:WG g ws) (h:i < g.length) {d:Dd} (hd:d∈dds g i):d.2.1 < g.length/\d.2.2 < g.length:=by
 rcases Aw.mp hd with rfl | hd
 ·exact⟨h,h⟩
 rcases A2.mp hd with hd | hd
 ·have hu:=G.dn i h;revert hu hd;generalize (sy g i).un=l;intro hd hu
  match l with
  | [a,b]=>
   have h1:=hu a (by simp);have h2:=hu b (by simp);simp [vX] at hd;rcases hd with rfl | rfl
   ·exact⟨by show a < _;omega,by show b < _;omega⟩
   ·exact⟨by show b < _;omega,by show a < _;omega⟩
  | []=>simp [vX] at hd
  | [_]=>simp [vX] at hd
  | _::_::_::_=>simp [vX] at hd
 ·obtain⟨o,ho,hd⟩:=List.mem_flatMap.mp hd;have:=G.be i h o ho;simp at hd;rcases hd with rfl | rfl
  ·exact⟨h,this⟩
  ·exact⟨this,h⟩
def fa (F:List (List Bool)) (j i:Nat):Bool:=(F.getD j []).getD i false
def lD (g:List Sy) (F:List (List Bool)) (e:Ent) (i:Nat):List Dd:=match e with
 | .word w=>if hm g i w=true then [("found",i,i)] else []
 | .pair a b=>(dds g i).filter λd=>fa F a d.2.1&&fa F b d.2.2
def GC (n:Nat):Ent->Prop
 | .word _=>True
 | .pair a b=>a < n/\b < n
def iU {l m:List α}{d:α} (h:i < l.length):(l++m).getD i d=l.getD i d:=by
 rw [Ah,AL h,<- Ah]
def f6 {l m:List α}{d:α} (h:l.length<=i):(l++m).getD i d=m.getD (i-l.length) d:=by
 rw [Ah,AW h,<- Ah]
def Pb (es:List Ent) (j:Nat):Ent:=es.getD j (.word "")
def ht:Tr->Nat->Nat
 | .leaf _,_=>0
 | .node l r,j=>if j < l.size then ht l j else if j < l.size+r.size then ht r (j-l.size) else (Tr.node l r).depth
theorem J5 (t:Tr):ht t (t.size-1)=t.depth:=by
 cases t with
 | leaf _=>rfl
 | node l r=>
  have es:(Tr.node l r).size=l.size+r.size+1:=rfl;rw [ht,if_neg ∅,if_neg ∅]
theorem T8:∀(t:Tr) (o j a b:Nat),j < t.size->en t o j=.pair a b->ht t (a-o) < ht t j/\ht t (b-o) < ht t j
 | .leaf _,o,j,a,b,h,e=>by rw [en] at e;cases e
 | .node l r,o,j,a,b,h,e=>by
  have es:(Tr.node l r).size=l.size+r.size+1:=rfl;have lp:=l.size_pos;have rp:=r.size_pos;by_cases c1:j < l.size
  ·rw [en,if_pos c1] at e;obtain⟨h1,h2,h3,h4,_⟩:=tE l o j .aG a b c1 e;have:=T8 l o j a b c1 e;have q1:∀x,x < l.size->ht (.node l r) x=ht l x:=λx hx=>by rw [ht,if_pos hx]
   rw [q1 (a-o) ∅,q1 (b-o) ∅,q1 j c1];exact this
  ·by_cases c2:j < l.size+r.size
   ·rw [en,if_neg c1,if_pos c2] at e;obtain⟨h1,h2,h3,h4,_⟩:=tE r (o+l.size) (j-l.size) .aG a b ∅ e;have:=T8 r (o+l.size) (j-l.size) a b ∅ e;have q1:∀x,¬x < l.size->x < l.size+r.size->ht (.node l r) x=ht r (x-l.size):=λx h1 h2=>by rw [ht,if_neg h1,if_pos h2]
    rw [q1 (a-o) ∅ ∅,q1 (b-o) ∅ ∅,q1 j c1 c2,E2,E2];exact this
   ·rw [en,if_neg c1,if_neg c2] at e;injection e with e1 e2;subst e1;subst e2;have er:(Tr.node l r).depth=max l.depth r.depth+1:=rfl;have ej:ht (.node l r) j=(Tr.node l r).depth:=by rw [ht,if_neg c1,if_neg c2]
    have e3:ht (.node l r) (o+l.size-1-o)=l.depth:=by rw [ht,if_pos ∅,show o+l.size-1-o=l.size-1 by omega,J5]
    have e4:ht (.node l r) (o+l.size+r.size-1-o)=r.depth:=by rw [ht,if_neg ∅,if_pos ∅,show o+l.size+r.size-1-o-l.size=r.size-1 by omega,J5]
    omega
theorem xS:∀(t:Tr) (o j:Nat) (w:Str),j < t.size->en t o j=.word w->w∈t.ax
 | .leaf x,o,j,w,h,e=>by
  rw [en] at e;injection e with e;subst e;simp [Tr.ax]
 | .node l r,o,j,w,h,e=>by
  have es:(Tr.node l r).size=l.size+r.size+1:=rfl;by_cases c1:j < l.size
  ·rw [en,if_pos c1] at e;exact Ci _ (xS l o j w c1 e)
  ·by_cases c2:j < l.size+r.size
   ·rw [en,if_neg c1,if_pos c2] at e;exact AQ _ (xS r _ (j-l.size) w ∅ e)
   ·rw [en,if_neg c1,if_neg c2] at e;cases e
def Pg (t:Tr) (h:j < t.size):GC j (en t 0 j):=by
 cases e:en t 0 j with
 | word w=>trivial
 | pair a b=>exact dh t h e
end My
variable {g:List My.Sy}
namespace My
open PySem PySem.Spec PyProof.Rows L2 PL FL
def dl (g:List Sy) (i:Nat):List Dd:=dbl i::(vX (sy g i).un++((sy g i).be.map (λo=>(("over",i,o):Dd))++(sy g i).be.map (λo=>(("over",o,i):Dd))))
theorem Iu (G:WG g ws) (h:i < g.length):(dl g i).length<=63:=by
 unfold dl;simp only [Ao,Ai,Af];have:=QE (sy g i).un;have:=G.Xf i h;omega
theorem SG (d:Dd):pK (d2 d)=true:=rfl
def Ly (p:Nat×Nat):PV:=.tup [.int (p.1:Int),.int (p.2:Int)]
def MV (G:WG g ws) (h:i < g.length):fv (lE g) (.int (i:Int))=.ret ((vX (sy g i).un).map λd=>Ly (d.2.1,d.2.2)):=by
 unfold fv;simp only [ga,m6 h];have hu:=G.uP i h;revert hu;generalize (sy g i).un=l;intro hu
 match l,hu with
 | [],_=>simp only [gZ,lq,nM,Ao,Bj,gF,ga,bC];rfl
 | [a],_=>simp only [gZ,lq,nM,Ao,Bj,gF,ga,bC];rfl
 | [a,b],_=>
  have i0:dq [PV.int (a:Int),PV.int (b:Int)] 0=am (.int (a:Int)):=rfl;have i1:dq [PV.int (a:Int),PV.int (b:Int)] 1=am (.int (b:Int)):=rfl;simp only [gZ,lq,nM,Ao,Bj,gF,ga,bC,aF,cf,i0,i1,wS];rfl
theorem Rg (G:WG g ws) (h:i < g.length):gq (lE g) (.int (i:Int))=.ret ((sy g i).be.map (λo=>Ly (i,o))++(sy g i).be.map (λo=>Ly (o,i))):=by
 unfold gq;have l3:=G.Xf i h;simp only [ga,L7 h,aF];rw [jl (g:=λo=>Ly (i,o)) λk hk=>rfl];rw [jl (g:=λo=>Ly (o,i)) λk hk=>rfl];simp only [ga];rw [gH (by simp;omega)]
theorem LU (G:WG g ws) {a:Nat} (h:i < g.length) (q:∀m:List PV,m.Perm ((dl g i).map d2)->Q m):(eR (lE g) (Ent.pair a b).pv (.int (i:Int))).run Q:=by
 have l63:=Iu G h;unfold eR;simp only [Ent.pv,ga,cr,lH,lG,dc,gl,Au,if_false,MV G h,Rg G h];refine e7 (λd:Dd=>.tup [.str "split",Ly (d.2.1,d.2.2)]) (λd _ R r=>r) ?_;have em:(sy g i).be.map (λo=>Ly (i,o))++(sy g i).be.map (λo=>Ly (o,i))=((sy g i).be.map (λo=>((i,o):Nat×Nat))++(sy g i).be.map (λo=>(o,i))).map Ly:=by
  rw [AN,AB,AB];rfl
 rw [em];refine e7 (λp:Nat×Nat=>.tup [.str "over",Ly p]) (λp _ R r=>r) ?_;simp only [gl,jw,ga];have es:(vX (sy g i).un).map (λd=>PV.tup [.str "split",Ly (d.2.1,d.2.2)])=(vX (sy g i).un).map d2:=by
  refine BL λd hd=>?_;have:d.1=("split":Str):=by
   revert hd;generalize (sy g i).un=l;intro hd;unfold vX at hd
   split at hd
   ·simp at hd;rcases hd with rfl | rfl <;> rfl
   ·cases hd
  unfold d2 Ly;rw [this]
 have eo:((sy g i).be.map (λo=>((i,o):Nat×Nat))++(sy g i).be.map (λo=>(o,i))).map (λp=>PV.tup [.str "over",Ly p])=((sy g i).be.map (λo=>(("over",i,o):Dd))++(sy g i).be.map (λo=>(("over",o,i):Dd))).map d2:=by
  simp only [AN,AB];rfl
 rw [es,eo];have ll:(dl g i).length=1+(vX (sy g i).un).length+((sy g i).be.map (λo=>(("over",i,o):Dd))++(sy g i).be.map (λo=>(("over",o,i):Dd))).length:=by
  unfold dl;simp only [Ao,Ai];omega
 rw [gH (by simp only [Af,Ao,Bj];omega)];simp only [gl];rw [gH (by simp only [Af,Ai,Ao,Bj] at *;omega)];have e:([PV.tup [.str "doubled",.tup [.int (i:Int),.int (i:Int)]]]++(vX (sy g i).un).map d2)++((sy g i).be.map (λo=>(("over",i,o):Dd))++(sy g i).be.map (λo=>(("over",o,i):Dd))).map d2=(dl g i).map d2:=by
  unfold dl;simp only [Aq,AN,Ay];rfl
 simp only [gl];rw [e];refine⟨⟨by rw [Af];omega,CN.mpr λx hx=>?_⟩,λm hm=>q m hm⟩;obtain⟨d,_,rfl⟩:=Av.mp hx;exact SG d
theorem Dt.isD (D:Dt t ds [] d) (h:d<=99):R4 t ds=true:=by
 unfold R4;rw [AO,AO,decide_eq_true_iff,decide_eq_true_iff];refine⟨D.len,?_,CN.mpr λj hj=>?_⟩
 ·unfold KP;have hp:(splits t).Pairwise (· < ·):=by unfold splits;exact List.Pairwise.filter _ C8
  rw [List.nodup_iff_pairwise_ne,Ec];refine List.Pairwise.imp_of_mem (λ{x y} hx hy lt e=>?_) hp;obtain⟨x1,x2⟩:=A8.mp hx;obtain⟨y1,y2⟩:=A8.mp hy;have:=D.inj x y (AY.mp x1) (AY.mp y1) (by simp) (by simp) x2 y2 e;omega
 ·have hj':=AY.mp hj;unfold Zf;cases e:en t 0 j with
  | word w=>
   rw [D.zero j hj' (.inl (by rw [e];rfl))];rfl
  | pair a b=>
   obtain⟨_,_,h1,h2,h3,h4⟩:=D.up j hj' (by simp) a b e;show (decide (ds.getD a 0 < ds.getD j 0)&&decide (ds.getD b 0 < ds.getD j 0)&&decide (1<=ds.getD j 0)&&decide (ds.getD j 0<=99))=true;rw [decide_eq_true h1,decide_eq_true h2,decide_eq_true h3,decide_eq_true ∅];rfl
theorem tM:∀(t:Tr) (o:Nat),(t.nd o).countP uC+1=t.ax.length
 | .leaf _,_=>rfl
 | .node l r,o=>by
  have h1:=tM l o;have h2:=tM r (o+l.size);rw [Tr.nd,List.countP_append,List.countP_append];show _+(List.countP uC [Ent.pair _ _])+1=(l.ax++r.ax).length;simp [uC];omega
theorem VS (t:Tr):t.nd 0=(Az t.size).map (en t 0):=by
 refine B3 λj=>?_;by_cases h:j < t.size
 ·rw [gm t 0 j h,Ak,Bv h];rfl
 ·rw [AI (by rw [t.ba];omega),AI (by simp;omega)]
def G0 (t:Tr):(splits t).length+1=t.ax.length:=by
 rw [<- tM t 0,VS t,List.countP_map];unfold splits;rw [<- List.countP_eq_length_filter];rfl
end My
variable {u:Nat}
namespace My
open PySem PySem.Spec PyProof.Rows L2 PL FL
def Qj.snoc (r:Qj g i j) (hu:u∈(sy g j).un):Qj g i u:=by
 induction r with
 | refl i=>exact .step hu (.refl _)
 | step h _ ih=>exact .step h (ih hu)
def gS (t:Tr):List Sy:=(Az t.size).map λj=>⟨JN (en t 0 j) j,0,OC (en t 0 j),XZ t j⟩
def sX (t:Tr) (h:j < t.size):sy (gS t) j=⟨JN (en t 0 j) j,0,OC (en t 0 j),XZ t j⟩:=by
 unfold sy gS;rw [Ah,Ak,Bv h];rfl
@[simp] theorem jv (t:Tr):(gS t).length=t.size:=by unfold gS;simp
def aae (t:Tr):lE (gS t)=.tup (grL t):=by
 unfold lE gS grL;rw [AB];congr 1
def Tz (e:Ent) (j:Nat):(∃s,JN e j=.str s)\/∃n,JN e j=.int n:=by
 cases e with
 | word w=>exact .inl ⟨w,rfl⟩
 | pair a b=>exact .inr ⟨_,rfl⟩
def Wu (e:Ent):(OC e).length<=2:=by cases e <;> simp [OC]
theorem qU:∀(s:Tr) (t:Tr) (o:Nat) (w:Str),(∀k,k < s.size->en t 0 (o+k)=en s o k)->o+s.size<=t.size->w∈s.ax->∃i,i < t.size/\Qj (gS t) (o+s.size-1) i/\en t 0 i=.word w
 | .leaf x,t,o,w,hs,hz,hw=>by
  have e0:en t 0 o=.word x:=hs 0 (by show 0 < 1;decide);have hz:o+1<=t.size:=hz;have:w=x:=by simpa [Tr.ax] using hw
  subst this;exact⟨o,by omega,.refl _,e0⟩
 | .node l r,t,o,w,hs,hz,hw=>by
  have es:(Tr.node l r).size=l.size+r.size+1:=rfl;have er:en t 0 (o+(l.size+r.size))=.pair (o+l.size-1) (o+l.size+r.size-1):=by rw [hs _ ∅,en,if_neg ∅,if_neg ∅]
  have ei:o+(Tr.node l r).size-1=o+(l.size+r.size):=by omega
  have hl:∀k,k < l.size->en t 0 (o+k)=en l o k:=λk hk=>by rw [hs k ∅,en,if_pos hk]
  have hr:∀k,k < r.size->en t 0 (o+l.size+k)=en r (o+l.size) k:=λk hk=>by rw [Bg,hs _ ∅,en,if_neg ∅,if_pos ∅,El]
  have un:(sy (gS t) (o+(l.size+r.size))).un=[o+l.size-1,o+l.size+r.size-1]:=by rw [sX t ∅,er];rfl
  rw [ei];rcases A2.mp (show w∈l.ax++r.ax from hw) with hw | hw
  ·obtain⟨i,h1,h2,h3⟩:=qU l t o w hl ∅ hw;exact⟨i,h1,.step (by rw [un];simp) h2,h3⟩
  ·obtain⟨i,h1,h2,h3⟩:=qU r t (o+l.size) w hr ∅ hw;exact⟨i,h1,.step (by rw [un];simp) h2,h3⟩
theorem KA (hz:t.size<=30):WG (gS t) t.ax:=by
 have tp:=t.size_pos;refine⟨by rw [jv];omega,by rw [jv];omega,λi hi u hu=>?_,λi hi=>?_,λi hi u hu=>?_,λi hi=>?_,λi hi=>?_,λw hw=>?_⟩
 ·rw [jv] at hi;rw [sX t hi] at hu;cases e:en t 0 i with
  | word w=>rw [e] at hu;cases hu
  | pair a b=>
   rw [e] at hu;have:=dh t hi e;have hu:u=a\/u=b:=by simpa [OC] using hu
   omega
 ·rw [jv] at hi;rw [sX t hi];exact Wu _
 ·rw [jv] at hi ⊢;rw [sX t hi] at hu;exact AY.mp (A8.mp hu).1
 ·rw [jv] at hi;rw [sX t hi];have:=Bw (λk=>!decide (k∈up t 0 i [])&&!decide (i∈up t 0 k [])) (Az t.size);rw [CI] at this;show (XZ t i).length<=30;unfold XZ;omega
 ·rw [jv] at hi;rw [sX t hi];exact Tz _ _
 ·obtain⟨i,h1,h2,h3⟩:=qU t t 0 w (λk hk=>by rw [AG]) ∅ hw;rw [AG] at h2;refine⟨i,by rw [jv];exact h1,by rw [jv];exact h2,?_⟩;unfold hm;rw [sX t h1,h3];simp [OC,JN,HK]
def dS (t:Tr) (ds bs:List Int):List Sy:=(aH t ds bs bs.length).map λp=>⟨JN (en t 0 p.1) p.1,p.2,(GJ (en t 0 p.1) p.1 (ds.getD p.1 0) (bs.getD p.2 0)).map λx=>(aH t ds bs bs.length).idxOf (x,p.2-1),Xd (aH t ds bs bs.length) p.1 p.2⟩
def aaI (t:Tr) (ds bs:List Int):lE (dS t ds bs)=.tup (XY t ds bs):=by
 unfold lE dS XY;rw [AB];congr 1
@[simp] theorem W8 (t:Tr) (ds bs:List Int):(dS t ds bs).length=(aH t ds bs bs.length).length:=by unfold dS;rw [Af]
theorem pV (t:Tr) (ds bs:List Int):∀m,(aH t ds bs m).Pairwise λp q=>p.2<=q.2
 | 0=>.nil
 | m+1=>by
  rw [aH];have KO:∀p∈zc t ds (bs.getD m 0) m t.size,p.2=m:=λp hp=>by
   obtain⟨k,_,rfl⟩:=Av.mp hp;rfl
  refine List.pairwise_append.mpr ⟨pV t ds bs m,?_,λa ha b hb=>?_⟩
  ·exact BP.mpr λi j hi hj _=>by rw [KO _ (Cp hi),KO _ (Cp hj)];exact An _
  ·have h1:=(gc ha).1;rw [KO b hb];omega
theorem vc (t:Tr) (ds bs:List Int) (n:Nat):∀m,((aH t ds bs m).filter λp=>decide (p.2=n)).length<=t.size
 | 0=>A9 _
 | m+1=>by
  rw [aH,D4,Ai];have ih:=vc t ds bs n m;by_cases c:n=m
  ·subst c;have z:(aH t ds bs n).filter (λp=>decide (p.2=n))=[]:=by
    rw [EB];intro p hp;have:=(gc hp).1;simp;omega
   rw [z];have h1:=Bw (λp:Nat×Nat=>decide (p.2=n)) (zc t ds (bs.getD n 0) n t.size);have h2:=vW t ds (bs.getD n 0) n t.size;simp only [Bj];omega
  ·have z:(zc t ds (bs.getD m 0) m t.size).filter (λp=>decide (p.2=n))=[]:=by
    rw [EB];intro p hp;obtain⟨k,_,rfl⟩:=Av.mp hp;simp;omega
   rw [z];simpa using ih
section
theorem DD.above (D:DD t ds) (h:(j,n)∈aH t ds (aQ t ds) (aQ t ds).length) (hn:n+1 < (aQ t ds).length):∃a,(a,n+1)∈aH t ds (aQ t ds) (aQ t ds).length/\j∈GJ (en t 0 a) a (ds.getD a 0) ((aQ t ds).getD (n+1) 0):=by
 obtain⟨hnl,hj,hs⟩:=bR.mp h;obtain⟨s1,s2⟩:=(fN hj).mp hs;have inc:=D.inc;have lt:=xk inc hn (show n < n+1 by omega);have Ú:(∀a,ke t 0 j .aG=.int ((a:Nat):Int)->(aQ t ds).getD (n+1) 0 < ds.getD a 0)->∃a,(a,n+1)∈aH t ds (aQ t ds) (aQ t ds).length/\j∈GJ (en t 0 a) a (ds.getD a 0) ((aQ t ds).getD (n+1) 0):=λhx=>
  ⟨j,bR.mpr ⟨hn,hj,(fN hj).mpr ⟨by omega,hx⟩⟩,by unfold GJ;rw [if_pos ∅];exact .head _⟩
 rcases jP t 0 j .aG hj with⟨_,e⟩ | ⟨a,u,v,ja,ha,e,ep,T7⟩
 ·exact Ú λa z=>by rw [e] at z;cases z
 ·rw [AG] at e T7;by_cases c:(aQ t ds).getD (n+1) 0 < ds.getD a 0
  ·refine Ú λa' z=>?_;rw [e] at z;injection z with z;have:a=a':=by omega
   subst this;exact c
  ·have sa:=s2 a e;have eq:ds.getD a 0=(aQ t ds).getD (n+1) 0:=by
    rcases Int.lt_or_eq_of_le (show ds.getD a 0<=(aQ t ds).getD (n+1) 0 by omega) with c2 | c2
    ·have:=(sR inc hn (D.mem ha) c2).2;rw [Nat.add_sub_cancel] at this;omega
    ·exact c2
   refine⟨a,bR.mpr ⟨hn,ha,(fN ha).mpr ⟨by omega,λa2 e2=>?_⟩⟩,?_⟩
   ·rcases jP t 0 a .aG ha with⟨_,e3⟩ | ⟨a3,u3,v3,_,h3,e3,ep3,ZM⟩
    ·rw [e3] at e2;cases e2
    ·rw [e3] at e2;injection e2 with e2;rw [AG] at e2 ZM;have:a3=a2:=by omega
     subst this;have:=D.pair a3 u3 v3 h3 ep3;rcases ZM with rfl | rfl <;> omega
   ·unfold GJ;rw [if_neg ∅,ep];rcases T7 with rfl | rfl <;> simp
theorem DD.last (D:DD t ds) (h:(j,n)∈aH t ds (aQ t ds) (aQ t ds).length) (hn:n+1=(aQ t ds).length):j=t.size-1:=by
 obtain⟨hnl,hj,hs⟩:=bR.mp h;obtain⟨s1,s2⟩:=(fN hj).mp hs;rcases jP t 0 j .aG hj with⟨e,_⟩ | ⟨a,u,v,ja,ha,e,ep,T7⟩
 ·exact e
 ·exfalso;rw [AG] at e;have sa:=s2 a e;have inc:=D.inc;obtain⟨i,hi,ei⟩:=DG (D.mem ha);have gd:(aQ t ds).getD i 0=ds.getD a 0:=by rw [Ah,Ad hi];exact ei
  rcases C6 i n with c | c
  ·have:=xk inc hnl c;omega
  ·have:i=n:=by omega
   subst this;omega
def HN [BEq α] [LawfulBEq α] {l:List α} (nd:l.Nodup) {x:α} (h:l[i]?=am x):l.idxOf x=i:=by
 obtain⟨hi,e⟩:=Al.mp h;rw [<- e];exact nd.idxOf_getElem i hi
def II [BEq α] [LawfulBEq α] {l:List α}{x:α} (h:x∈l):l[l.idxOf x]?=am x:=by
 have:=BG h;rw [Ad this,List.getElem_idxOf this]
theorem Mw (D:DD t ds) (hz:t.size<=15) (hb:(aQ t ds).length<=16):WG (dS t ds (aQ t ds)) t.ax:=by
 have nd:=i9 t ds (aQ t ds) (aQ t ds).length;have ĉ:=pV t ds (aQ t ds) (aQ t ds).length;have lay:=λn=>vc t ds (aQ t ds) n (aQ t ds).length;have ok:=D.ok;have ne:=D.ne;have ll:=jb t ds (aQ t ds) (aQ t ds).length;have above:=λj n=>D.above (j:=j) (n:=n);have last:=λj n=>D.last (j:=j) (n:=n);have Ē:=@bR t ds (aQ t ds) (aQ t ds).length;unfold okD at ok;have hS:∀i p,(aH t ds (aQ t ds) (aQ t ds).length)[i]?=am p->sy (dS t ds (aQ t ds)) i=⟨JN (en t 0 p.1) p.1,p.2,(GJ (en t 0 p.1) p.1 (ds.getD p.1 0) ((aQ t ds).getD p.2 0)).map λx=>(aH t ds (aQ t ds) (aQ t ds).length).idxOf (x,p.2-1),Xd (aH t ds (aQ t ds) (aQ t ds).length) p.1 p.2⟩:=λi p hp=>by
  unfold sy dS;rw [Ah,Ak,hp];rfl
 have hL:(dS t ds (aQ t ds)).length=(aH t ds (aQ t ds) (aQ t ds).length).length:=W8 t ds _;have hmul:=Nat.mul_le_mul hb hz;generalize aH t ds (aQ t ds) (aQ t ds).length=L at *;have get:∀i,i < (dS t ds (aQ t ds)).length->∃p,L[i]?=am p/\p∈L:=λi hi=>by
  rw [hL] at hi;exact⟨L[i],Ad hi,Cp hi⟩
 have pos:=Cm.mpr ne;have Ô:∀(i a:Nat) (p r:Nat×Nat),L[i]?=am p->L[a]?=am r->r.2 < p.2->a < i:=λi a p r h1 h2 lt=>by
  rcases C6 a i with c | c
  ·exact c
  ·exfalso;obtain⟨g1,e1⟩:=Al.mp h1;obtain⟨g2,e2⟩:=Al.mp h2;rcases DZ c with c | c
   ·subst c;rw [h1] at h2;cases h2;omega
   ·have:=BP.mp ĉ i a g1 g2 c;rw [e1,e2] at this;omega
 refine⟨by rw [hL];exact pos,by rw [hL];omega,λi hi u hu=>?_,λi hi=>?_,λi hi u hu=>?_,λi hi=>?_,λi hi=>?_,λw hw=>?_⟩
 ·obtain⟨p,hp,hm⟩:=get i hi;rw [hS i p hp] at hu;obtain⟨x,hx,rfl⟩:=Av.mp hu;obtain⟨n1,xm⟩:=ok p hm x hx;exact Ô i _ p (x,p.2-1) hp (II xm) (by show p.2-1 < p.2;omega)
 ·obtain⟨p,hp,hm⟩:=get i hi;rw [hS i p hp];unfold GJ
  split
  ·simp
  ·cases en t 0 p.1 <;> simp
 ·obtain⟨p,hp,hm⟩:=get i hi;rw [hS i p hp] at hu;unfold Xd at hu;obtain⟨x,hx,rfl⟩:=Av.mp hu;rw [hL];exact BG (A8.mp hx).1
 ·obtain⟨p,hp,hm⟩:=get i hi;rw [hS i p hp];unfold Xd;rw [Af];have h1:=lay p.2;have h2:(L.filter λq=>decide (q.2=p.2)&&!decide (q.1=p.1)).length<=(L.filter λq=>decide (q.2=p.2)).length:=by
   have e:L.filter (λq=>decide (q.2=p.2)&&!decide (q.1=p.1))=(L.filter λq=>decide (q.2=p.2)).filter λq=>!decide (q.1=p.1):=by
    rw [List.filter_filter];refine congrArg (λf=>L.filter f) (funext λq=>Bool.and_comm _ _)
   rw [e];exact Bw _ _
  omega
 ·obtain⟨p,hp,hm⟩:=get i hi;rw [hS i p hp];exact Tz _ _
 ·
  have â:∀k i,i+k+1=L.length->Qj (dS t ds (aQ t ds)) (L.length-1) i:=λk=>by
   induction k using Cy with
   | ind k ih=>
    intro i hk;obtain⟨⟨j,n⟩,hp,hm⟩:=get i (by rw [hL];omega);have nl:=(Ē.mp hm).1;by_cases c:n+1 < (aQ t ds).length
    ·obtain⟨a,ha,hb⟩:=above j n hm c;have ia:=II ha;have lt:=Ô _ i (a,n+1) (j,n) ia hp (by show n < n+1;omega);have il:=BG ha;have r:=ih (L.length-L.idxOf (a,n+1)-1) ∅ (L.idxOf (a,n+1)) ∅;refine r.snoc ?_;rw [hS _ _ ia];refine Av.mpr ⟨j,hb,?_⟩;exact HN nd hp
    ·have hj:=last j n hm ∅;have:i=L.length-1:=by
      obtain⟨⟨j2,n2⟩,xn,XF⟩:=get (L.length-1) (by rw [hL];omega);have n2l:=(Ē.mp XF).1;rcases C6 n2 n with c2 | c2
      ·have:=Ô i (L.length-1) _ _ hp xn c2;omega
      ·have en2:n2=n:=by omega
       have WA:=last j2 n2 XF ∅;subst en2;rw [WA,<- hj] at xn;exact (HN nd hp).symm.trans (HN nd xn)
     rw [this];exact .refl _
  obtain⟨j,hj,_,ej⟩:=qU t t 0 w (λk hk=>by rw [AG]) ∅ hw;have b0:(aQ t ds).getD 0 0=0:=rfl;have mem:(j,0)∈L:=Ē.mpr ⟨by simp [aQ],hj,(fN hj).mpr ⟨by rw [D.leaf j w hj ej,b0];exact BF _,λa ea=>by
   rcases jP t 0 j .aG hj with⟨_,e⟩ | ⟨a',u,v,_,ha,e,ep,_⟩
   ·rw [e] at ea;cases ea
   ·rw [e,AG] at ea;injection ea with ea;have:a'=a:=by omega
    subst this;have:=(D.pair a' u v ha ep).2.2;rw [b0];omega⟩⟩
  have il:=BG mem;refine⟨L.idxOf (j,0),by rw [hL];exact il,by rw [hL];exact â (L.length-L.idxOf (j,0)-1) _ ∅,?_⟩;unfold hm;rw [hS _ _ (II mem)];unfold GJ;rw [b0,D.leaf j w hj ej,if_neg ∅,ej];simp [JN,HK]
end
theorem zN {f:PV->W PV}{S:PV->Prop}:∀{l:List PV},(∀x∈l,∀R:PV->Prop,(∀v,S v->R v)->(f x).run R)->∀{Q:List PV->Prop},(∀m,m.length=l.length->(∀v∈m,S v)->Q m)->(bI l f).run Q
 | [],_,Q,q=>q [] rfl (λ_ h=>nomatch h)
 | x::l,h,Q,q=>by
  show (ap (f x) λy=>ap (bI l f) λm=>bd (y::m)).run Q;simp only [cr];refine h x (.head _) _ λv hv=>?_;refine zN (λy hy=>h y (.tail _ hy)) λm hm hs=>?_;exact q (v::m) (by simp [hm]) λu hu=>by
   rcases Aw.mp hu with rfl | hu
   ·exact hv
   ·exact hs u hu
theorem Jk:∀{m:List PV}{ls:List Str},(∀v∈m,∃w∈ls,v=PV.str w)->∃ws:List Str,m=ws.map PV.str/\∀w∈ws,w∈ls
 | [],_,_=>⟨[],rfl,λ_ h=>nomatch h⟩
 | v::m,ls,h=>by
  obtain⟨w,hw,rfl⟩:=h v (.head _);obtain⟨ws,rfl,h2⟩:=Jk (m:=m) (ls:=ls) λu hu=>h u (.tail _ hu);exact⟨w::ws,rfl,λx hx=>by
   rcases Aw.mp hx with rfl | hx
   ·exact hw
   ·exact h2 x hx⟩
theorem MH:∀ns l Q,iI ns->((ck 1 bW) l).run Q->((λlo l=>ck 1 (dB lo) l) (ns.map PV.int) l).run λt=>Q t.1/\∃zF:List Int,t.2=zF.map PV.int/\iI zF:=by
 rintro ns l Q ⟨g,s,c,rfl,g0,s0,s1,c0⟩ q
 match l,q with
 | [],q=>exact q.elim
 | _::_::_,q=>exact q.elim
 | [x],q=>
  show (dB _ x).run _;have q:=q;cases x with
  | int m=>
   obtain⟨⟨m0,m1⟩,q⟩:=q;have q:∀d:Int,0<=d->d < m->Q (.int d):=λd h0 h1=>q _ ⟨d,rfl,h0,h1⟩;unfold dB;generalize hA:(2147483647:Int)=A;generalize hB:(2147483629:Int)=B;generalize hD:(40009:Int)=D;have A0:0 < A:=by omega
   have B0:0 < B:=by omega
   have D0:0 < D:=by omega
   have e1:ww s 48271:=mulR ∅;have nx:∀N,N=(s*48271+12345+(c+1)) % A->(ww N (N % D+3))/\((Q (PV.int (N*(N % D+3) % B / 7 % m))))/\∃zF:List Int,[PV.int g,PV.int N,PV.int (c+1)]=zF.map PV.int/\iI zF:=λN hN=>by
    have N0:0<=N:=by rw [hN];exact CA _ ∅
    have N1:N < A:=by rw [hN];exact Ce _ A0
    exact⟨TC ∅ ∅,q _ (CA _ ∅) (Ce _ m0),[g,N,c+1],rfl,_,_,_,rfl,g0,N0,by omega,by omega⟩
   obtain⟨k1,k2,k3⟩:=nx _ rfl;by_cases hg:0 < g
   ·by_cases hc:c+1<=60
    ·simp [dq,uB,hg,hc,m0,kd,Me];refine⟨by omega,q _ (CA _ ∅) (Ce _ m0),[g / m,s,c+1],rfl,_,_,_,rfl,Int.ediv_nonneg g0 ∅,s0,s1,by omega⟩
    ·simp [dq,uB,hg,hc,m0,kd,e1,A0,B0,D0,Me];exact⟨k1,k2,k3⟩
   ·simp [dq,uB,hg,m0,kd,e1,A0,B0,D0,Me];exact⟨k1,k2,k3⟩
  | _=>exact q.elim
theorem OM {k:Int} (k0:0<=k) (k1:k<=1000) (q:∀l,(∃ms:List Int,l=ms.map PV.int/\iI ms)->Q l):(fx (.cl (ns.map PV.int)) (.int k)).run Q:=by
 unfold fx;generalize hA:(2147483647:Int)=A;generalize hB:(2147483629:Int)=B;have A0:0 < A:=by omega
 have B0:0 < B:=by omega
 have fin:∀x:Int,((PV.int x)\λkT=>ap (b2 nG (c1 Gk (bd kT)) (c1 Gj (b2 oGe (c1 Gk (bd kT)) (b2 NR (bd (.int 10)) (bd (.int 18)))))) λfU=>
  (fU\λx3=>ap (b2 oMod (b2 nG (w2 addW (w2 addW (b2 oMod (bd kT) (bd (.int B))) (b2 nG (b2 nG (bd (.int 7919)) (bd (.int k))) (bd (.int k)))) (bd (.int 11))) (bd (.int 48271))) (bd (.int A))) λx4=>(.int 0)\λx5=>bd [x3,x4,x5])).run Q:=by
  intro x;have p2:P9 10 18:=⟨by decide,by decide,by decide⟩;simp only [ga,WY,O7,nn p2,Ie,O9,aav,Kf,ff,W.Py,W.Jv,gl,nn (mulL (show -1000000000<=(7919:Int)/\(7919:Int)<=1000000000 by decide)),nn A0,nn B0];refine⟨?_,mulR ∅,mulR ∅,?_⟩
  ·split
   ·exact mulR ∅
   ·exact mulR ∅
  ·refine q _ ⟨[_,_,_],rfl,_,_,_,rfl,Int.mul_nonneg (Xk _) ?_,CA _ ∅,by have:=Ce ((x % B+7919*k*k+11)*48271) A0;omega,BF _⟩
   split <;> split <;> decide
 by_cases iB:k < (ns.length:Int)
 ·obtain⟨v,e,e2⟩:=PU (xs:=ns.map PV.int) k0 (by rw [Af];exact iB);rw [Ak] at e2;obtain⟨c,rfl⟩:∃c,v=.int c:=by
   cases z:ns[k.toNat]? with
   | none=>rw [z] at e2;cases e2
   | some c=>rw [z] at e2;exact⟨c,(Option.some.inj e2).symm⟩
  simp only [ga,fe,Ke,Af,iB,decide_true,bC,if_true,bG,cf,e,wS];exact fin c
 ·simp only [ga,fe,Ke,Af,iB,decide_false,bC,Au,if_false];exact fin 0
def Zp (h:x∈[PV.str "",PV.str "",PV.str "a",PV.str "zq",PV.str "mnopqrs"]):∃y:Str,x=.str y/\Part y 7:=by
 simp at h;rcases h with rfl | rfl | rfl | rfl
 ·exact⟨"",rfl,by decide +kernel,by decide +kernel⟩
 ·exact⟨"a",rfl,by decide +kernel,by decide +kernel⟩
 ·exact⟨"zq",rfl,by decide +kernel,by decide +kernel⟩
 ·exact⟨"mnopqrs",rfl,by decide +kernel,by decide +kernel⟩
def Zq (h:x∈[PV.int 1,PV.int 3,PV.int 5,PV.int 7,PV.int 9,PV.int 11]):∃st:Int,x=.int st/\(st=1\/st=3\/st=5\/st=7\/st=9\/st=11):=by
 simp at h;rcases h with rfl | rfl | rfl | rfl | rfl | rfl <;> exact⟨_,rfl,by decide⟩
theorem Mv {c:Nat} (b:Part y 7) (h0:97<=c) (h1:c < 123):Wd ((⟨#[c]⟩:Str)++y):=by
 have hl:((⟨#[c]⟩:Str)++y).length=1+y.length:=by rw [Str.length_append];rfl
 have:=b.1;refine⟨by omega,by omega,λd hd=>?_⟩;have e:((⟨#[c]⟩:Str)++y).cps.toList=c::y.cps.toList:=by
  show ((⟨#[c]⟩:Str).cps++y.cps).toList=_;simp
 rw [e] at hd;rcases Aw.mp hd with rfl | hd
 ·exact⟨h0,h1⟩
 ·exact b.2 d hd
theorem GP (m1:m<=26) (q:∀ws:List Str,ws.length=m->(∀x∈ws,Wd x)->ws.Nodup->(ws.map λx=>x.cps[0]?).Nodup->Q (ws.map PV.str)):(cW (.int m)).run Q:=by
 unfold cW;simp only [ga,cr,de 26 ⋯ ⋯];refine bB λd a b=>?_;refine pick_run (by simp) (by simp) λx hx=>?_;obtain⟨st,rfl,qX⟩:=Zq hx;simp only [gl,mK];refine pick_run (by simp) (by simp) λy hy=>?_;obtain⟨tl,rfl,ht⟩:=Zp hy;simp only [df,nn (bp (i:=0) (j:=(m:Int)) ∅ ∅),gl,Ba];rw [iR]
 let w:Nat->Str:=λk=>⟨#[97+((d+st*(0+(k:Int))) % 26).toNat]⟩++tl
 refine Lg (λk=>.str (w k)) (λk hk=>?_) ?_
 ·have e0:0<=(d+st*(0+(k:Int))) % 26:=CA _ ⋯;have e1:(d+st*(0+(k:Int))) % 26 < 26:=Ce _ ⋯;have e2:(d+st*(k:Int))=d+st*(0+(k:Int)):=by rw [ED]
  have c1:ww st (k:Int):=mulL ∅;have c2:("abcdefghijklmnopqrstuvwxyz":Str).length<=sizeLine:=by decide +kernel
  have c3:(⟨#[97+((d+st*(0+(k:Int))) % 26).toNat]⟩:Str).length+tl.length<=sizeLine:=cv (by have:=ht.1;show 1+tl.length<=1000;omega);simp only [ga,Ie,nn c1,ff,O9,nn (show (0:Int) < 26 by decide),e2,WX _ _ (Ll e0 e1),nn c2,Su,nn c3];rfl
 ·have e:(Az m).map (λk=>PV.str (w k))=((Az m).map w).map PV.str:=by rw [AB];rfl
  have nd:(((Az m).map w).map λx=>x.cps[0]?).Nodup:=by
   have:=ux (d:=d) qX m1;rw [AB];have e2:((λx:Str=>x.cps[0]?)∘w)=λk:Nat=>am (97+((d+st*(0+(k:Int))) % 26).toNat):=by
    funext k;show ((⟨#[97+((d+st*(0+(k:Int))) % 26).toNat]⟩:Str).cps++tl.cps)[0]?=_;rw [Array.getElem?_append_left (by simp)];rfl
   rw [e2];exact this
  rw [e];refine q _ (by simp) (λx hx=>?_) (wD (g:=λx:Str=>x.cps[0]?) nd) nd;obtain⟨k,_,rfl⟩:=Av.mp hx;have e0:0<=(d+st*(0+(k:Int))) % 26:=CA _ ⋯;have e1:(d+st*(0+(k:Int))) % 26 < 26:=Ce _ ⋯;exact Mv ht ∅ ∅
def Nz (h:l[j]?=am v) (hl:l.length<=1000):wu l (.int (j:Int))=.ret (l.eraseIdx j,v):=by
 have hj:=(Al.mp h).1;unfold wu;simp only [J2 hj,wS,ga,h,nn (cv hl)]
def OY {l:List Tr}{x p y:Tr} (h:l[j]?=am y) (hp:p.ax.Perm (x.ax++y.ax)):((l.set j p).flatMap Tr.ax).Perm (x.ax++l.flatMap Tr.ax):=by
 induction l generalizing j with
 | nil=>simp at h
 | cons a l ih=>cases j with
  | zero=>
   simp at h;subst h;simp only [List.set_cons_zero,CJ];rw [<- Ay];exact hp.append_right _
  | succ j=>
   simp only [List.set_cons_succ,CJ];have:=(ih (j:=j) (by simpa using h)).append_left a.ax;refine this.trans ?_;rw [<- Ay,<- Ay];exact CF.append_right _
def Ia {l:List Tr}{x:Tr} (h:l[j]?=am x):(x.ax++(l.eraseIdx j).flatMap Tr.ax).Perm (l.flatMap Tr.ax):=by
 induction l generalizing j with
 | nil=>simp at h
 | cons a l ih=>cases j with
  | zero=>simp at h;subst h;simp
  | succ j=>
   simp only [Cq,CJ];have:=(ih (j:=j) (by simpa using h)).append_left a.ax;refine List.Perm.trans ?_ this;rw [<- Ay,<- Ay];exact CF.append_right _
def Lh {l:List Tr}:(l.map Tr.pv).eraseIdx j=(l.eraseIdx j).map Tr.pv:=by
 induction l generalizing j with
 | nil=>simp
 | cons a l ih=>cases j with
  | zero=>simp
  | succ j=>simp [ih]
theorem sP (hw:ws≠[]) (h8:ws.length<=100) {Q:PV->Prop} (q:∀t:Tr,t.ax.Perm ws->Q t.pv):(cF (.cl (ws.map PV.str))).run Q:=by
 have hp:0 < ws.length:=Cm.mpr hw;unfold cF;simp only [ga,cr,bG,gl,xO,tu,Af,df,nn (bp (i:=0) (j:=(ws.length:Int)-1) ∅ ∅)];refine iV (λi s=>∃ts:List Tr,s=ts.map Tr.pv/\ts.length+i=ws.length/\(ts.flatMap Tr.ax).Perm ws) ⟨ws.map Tr.leaf,by simp [Tr.pv],by simp,?_⟩ ?_ ?_
 ·rw [List.flatMap_map];have:ws.flatMap (λx=>(Tr.leaf x).ax)=ws:=by simp [Tr.ax,List.flatMap_singleton']
  rw [this]
 ·rintro i s hi ⟨ts,rfl,hl,hp⟩;have h2:2<=ts.length:=by omega
  simp only [ga,cr,xO,Af,de (ts.length:Int) ∅ ∅,gl];refine bB λd d0 d1=>?_;obtain⟨j,rfl⟩:∃j:Nat,d=(j:Int):=⟨d.toNat,by omega⟩;obtain⟨x,hx⟩:∃x,ts[j]?=am x:=⟨_,Ad ∅⟩;have Ġ:(ts.eraseIdx j).length=ts.length-1:=by rw [E5];simp;omega
  simp only [Nz (l:=ts.map Tr.pv) (v:=x.pv) (by rw [Ak,hx];rfl) (by rw [Af];omega),gl,Lh,xO,Af,Ġ,de ((ts.length-1:Nat):Int) ∅ ∅];refine bB λe e0 e1=>?_;obtain⟨m,rfl⟩:∃m:Nat,e=(m:Int):=⟨e.toNat,by omega⟩;obtain⟨y,hy⟩:∃y,(ts.eraseIdx j)[m]?=am y:=⟨_,Ad ∅⟩;have i0:dq ((ts.eraseIdx j).map Tr.pv) (m:Int)=am y.pv:=eK (by rw [Ak,hy];rfl);have hm:m < ((ts.eraseIdx j).map Tr.pv).length:=by rw [Af,Ġ];omega
  simp only [ga,cf,i0,wS,gl,de 2 ⋯ ⋯];refine bB λf _ _=>?_;have fin:∀p:Tr,p.ax.Perm (x.ax++y.ax)->(kd ((ts.eraseIdx j).map Tr.pv) (.int (m:Int)) p.pv).run λs=>∃ts:List Tr,s=ts.map Tr.pv/\ts.length+(i+1)=ws.length/\(ts.flatMap Tr.ax).Perm ws:=λp ę=>by
   rw [nj hm];exact⟨(ts.eraseIdx j).set m p,by rw [Ey],by rw [BM,Ġ];omega,(OY hy ę).trans ((Ia hx).trans hp)⟩
  simp only [gF,bC,gl];cases c:f==0 with
  | true=>exact fin (.node x y) (List.Perm.refl _)
  | false=>
   simp only [Au,if_false,ga,Ic,Sq,Sn,cr,gl];exact fin (.node y x) CF
 ·rintro s ⟨ts,rfl,hl,hp⟩
  match ts,hl,hp with
  | [],hl,_=>simp at hl;omega
  | [t],_,hp=>
   have:t.ax.Perm ws:=by simpa using hp
   exact q t this
  | _::_::_,hl,_=>simp at hl;omega
end My
variable {Q:PL.PV->Prop}{n:Int}
namespace My
open PySem PySem.Spec PyProof.Rows L2 PL FL
theorem HU (n0:0 < n) (n1:n<=8) (q:∀(t:Tr) (ws:List Str),vM t->t.ax.Perm ws->Q (.tup [t.pv,.cl (ws.map PV.str)])):(cY (.int n)).run Q:=by
 unfold cY;simp only [ga,cr,de n n0 ∅];refine bB λk k0 k1=>?_;obtain⟨m,hm⟩:∃m:Nat,1+k=(m:Int):=⟨(1+k).toNat,by omega⟩;simp only [ff,gl,hm];refine GP ∅ λws hl hw hd hb=>?_;refine sP (λz=>by rw [z] at hl;simp at hl;omega) ∅ λt ht=>?_;exact q t ws ⟨λx hx=>hw x (ht.mem_iff.mp hx),ht.nodup_iff.mpr hd,by rw [ht.length_eq,hl];omega,0,by decide,(ht.map _).nodup_iff.mpr hb⟩ ht
theorem G1 (hw:ws≠[]) (h8:ws.length<=100) (n0:0 < n) (n1:n<=10) (q:∀s:Tr,(∀w∈s.ax,w∈ws)->s.ax.length<=n->Q s.pv):(cX (.cl (ws.map PV.str)) (.int n)).run Q:=by
 unfold cX;simp only [ga,cr,de n n0 ∅];refine bB λk k0 k1=>?_;obtain⟨m,hm⟩:∃m:Nat,1+k=(m:Int):=⟨(1+k).toNat,by omega⟩;simp only [ff,gl,hm,df,nn (bp (i:=0) (j:=(m:Int)) ∅ ∅),Ba];refine zN (S:=λv=>∃w∈ws,v=PV.str w) (λx _ R r=>pick_run (by simpa using hw) (by rw [Af];omega) λv hv=>r v (let ⟨w,h1,h2⟩:=Av.mp hv;⟨w,h1,h2.symm⟩)) λms hl hs=>?_;obtain⟨us,rfl,hu⟩:=Jk hs;rw [iT,Af] at hl;exact sP (λz=>by rw [z] at hl;simp at hl;omega) ∅ λs hp=>q s (λw h=>hu w (hp.mem_iff.mp h)) (by rw [hp.length_eq];omega)
theorem jn:∀(n:Nat) (t:Tr),t.depth < n->t.size<=400->(aW n t.pv).le (.ret ((t.nd 0).map Ent.pv))
 | 0,_,h,_=>by omega
 | n+1,.leaf w,_,_=>λQ q=>by
  unfold aW;simp [Tr.pv];exact q
 | n+1,.node a b,h,hz=>λQ q=>by
  have hs:(Tr.node a b).size=a.size+b.size+1:=rfl;have hpa:=a.size_pos;have hpb:=b.size_pos;have hd:a.depth < n/\b.depth < n:=by simp [Tr.depth] at h;omega
  unfold aW;have i0:dq [a.pv,b.pv] 0=am a.pv:=rfl;have i1:dq [a.pv,b.pv] 1=am b.pv:=rfl;simp only [Tr.pv,ga,cr,lH,lG,dc,Au,if_false,aF,cf,i0,i1,wS];refine W.le.use (jn n a hd.1 ∅) ?_;simp only [gl];refine W.le.use (jn n b hd.2 ∅) ?_;simp only [gl,bG];refine fV (λi s=>s=(((b.nd 0).take i).map (UZ a.size)).map Ent.pv) (by simp) (λi x s hx hs=>?_) (λs hs=>?_)
  ·subst hs;rw [Ak] at hx;cases e:(b.nd 0)[i]? with
   | none=>rw [e] at hx;cases hx
   | some en=>
    rw [e] at hx;have ex:=Option.some.inj hx;subst ex;have hi:i < b.size:=by have:=(Al.mp e).1;rw [b.ba] at this;exact this
    have et:(b.nd 0).take (i+1)=(b.nd 0).take i++[en]:=by rw [C7,e];rfl
    have al:∀y,iw ((((b.nd 0).take i).map (UZ a.size)).map Ent.pv) y=.ret ((((b.nd 0).take i).map (UZ a.size)).map Ent.pv++[y]):=λy=>dU (by simp;omega);cases en with
    | word w=>
     simp only [Ent.pv,ga,cr,xQ,xP,dc,al,gl,et,CB,Au,if_false];simp [UZ,Ent.pv]
    | pair u v=>
     have j0:dq [PV.int (u:Int),PV.int (v:Int)] 0=am (.int u):=rfl;have j1:dq [PV.int (u:Int),PV.int (v:Int)] 1=am (.int v):=rfl;simp only [Ent.pv,ga,cr,lH,lG,dc,E6,if_true,aF,cf,j0,j1,wS,ff,fe,Af,a.ba,al,gl,et];simp [UZ,Ent.pv]
  ·subst hs;rw [Ex (by rw [Af];exact An _)];have es:(b.nd 0).map (UZ a.size)=b.nd a.size:=by rw [<- Hh b 0 a.size,AG]
   rw [es];simp only [ga,cr,jw,tu,fe,ff,Af,a.ba,b.ba,gl,gH (l:=(a.nd 0).map Ent.pv) (m:=(b.nd a.size).map Ent.pv) (by simp [a.ba,b.ba];omega)];rw [gH (by simp [a.ba,b.ba];omega)];have e:(Tr.node a b).nd 0=a.nd 0++b.nd a.size++[.pair (a.size-1) (a.size+b.size-1)]:=by rw [Tr.nd];simp
   rw [e] at q;have e1:((a.size:Int)-1)=((a.size-1:Nat):Int):=by omega
   have e2:((a.size:Int)+(b.size:Int)-1)=((a.size+b.size-1:Nat):Int):=by omega
   rw [e1,e2];simpa [Ent.pv] using q
end My
variable {l:List Nat}
namespace My
open PySem PySem.Spec PyProof.Rows L2 PL FL
def QP (h:j∈left):U9 (aP left) (.int (j:Int))=.ret (aP (left.erase j)):=by
 show ap (mn (aP left)) _=_;rw [u0,eW];show W.fh _ _=_;rw [nn (Av.mpr ⟨j,h,rfl⟩),tw,<- u0]
def zH (h:(aP l)[i]?=am x):∃k,l[i]?=am k/\x=.int (k:Int):=by
 unfold aP at h;rw [Ak] at h;cases e:l[i]? with
 | none=>rw [e] at h;cases h
 | some k=>rw [e] at h;exact⟨k,rfl,(Option.some.inj h).symm⟩
theorem Iy (t:Tr) (hz:t.size<=400) (hd:t.depth < 12) (q:∀ds d,Dt t ds [] d->d<=13*((splits t).length:Int)->Q (.tup (bb ds))):(c6 t.pv).run Q:=by
 unfold c6;have e1:QO [PV.int 0] (.int ((t.nd 0).map Ent.pv).length)=.ret (bb (Am t.size 0)):=by
  rw [WT,nn ⟨by omega,by rw [Af,t.ba];omega,cv (by simp [t.ba];omega)⟩];congr 1;rw [Af,t.ba,Ba]
  induction t.size with
  | zero=>rfl
  | succ n ih=>rw [Bu,B2,ih];rfl
 have e3:((t.nd 0).map Ent.pv).length<=sizeLine:=cv (by rw [Af,t.ba];omega);simp only [ga,cr];refine W.le.use (jn 12 t hd hz) ?_;simp only [ga,fe,e1,bG,nn e3,gl];refine Zs RF (λx hx=>?_) ?_
 ·rw [Kg] at hx;obtain⟨j,hj,rfl⟩:=Av.mp hx;cases en t 0 j with
  | word w=>simp [Ent.pv,RF]
  | pair u v=>simp [Ent.pv,RF]
 rw [V2 t];have hsl:(splits t).length<=t.size:=by
  have:=Jw (splits t) 0 t.size (Dt.first t).ris λx hx=>⟨A9 _,((Dt.first t).XB x hx).1⟩;omega
 simp only [gl,xO,dz,df,nn (bp (i:=0) (j:=((splits t).length:Int)) ∅ ∅),Ba];refine iV (λi s=>∃(ds:List Int) (left:List Nat) (d:Int),s=(bb ds,PV.int d,aP left)/\left.length+i=(splits t).length/\Dt t ds left d/\d+13*(left.length:Int)<=13*((splits t).length:Int)) ⟨_,_,0,rfl,rfl,Dt.first t,by omega⟩ ?_ ?_
 ·rintro i s hi ⟨ds,left,d,rfl,hl,D,hd⟩;have he:left≠[]:=λz=>by rw [z] at hl;simp at hl;omega
  have ZV:left.length<=t.size:=by omega
  simp only [ga,cr,gl];refine fV (λi s=>s=aP ((left.take i).filter (Mg t left))) (by simp [aP]) (λi x s hx hs=>?_) (λs hs=>?_)
  ·obtain⟨k,hk,rfl⟩:=zH hx;subst hs;have hkm:=Br hk;have et:left.take (i+1)=left.take i++[k]:=by rw [C7,hk];rfl
   have XI:=(Al.mp hk).1;have fl:((left.take i).filter (Mg t left)).length<=i:=by
    have:=Bw (Mg t left) (left.take i);have:=Fd i left;omega
   have al:iw (aP ((left.take i).filter (Mg t left))) (.int (k:Int))=.ret (aP ((left.take i).filter (Mg t left))++[.int (k:Int)]):=dU (by rw [dz];omega);obtain⟨h1,h2⟩:=D.XB k hkm;cases e:en t 0 k with
   | word w=>rw [e] at h2;cases h2
   | pair a b=>
    have j0:dq [PV.int (a:Int),PV.int (b:Int)] 0=am (.int a):=rfl;have j1:dq [PV.int (a:Int),PV.int (b:Int)] 1=am (.int b):=rfl;have hr:Mg t left k=(!decide (a∈left)&&!decide (b∈left)):=by unfold Mg;rw [e]
    rw [et,D4];simp only [ga,bG,cf,VT t h1,e,Ent.pv,wS,aF,j0,j1,Oy,if_true];by_cases ca:a∈left
    ·simp [ca,hr,aP]
    ·by_cases cb:b∈left
     ·simp [ca,cb,hr,aP]
     ·simp [ca,cb,hr,al]
  ·subst hs;rw [dz,Dl];have ne:=D.YO he;refine pick_run ne (by rw [dz];have:=Bw (Mg t left) left;omega) λx hx=>?_;obtain⟨j,hj,rfl⟩:=Av.mp hx;obtain⟨WB,WA⟩:=A8.mp hj;obtain⟨js,jp⟩:=D.XB j WB;cases ej:en t 0 j with
   | word w=>rw [ej] at jp;cases jp
   | pair a b=>
   unfold Mg at WA;rw [ej] at WA;simp at WA;simp only [ff,gl,de 12 ⋯ ⋯,ga];refine bB λy y0 y1=>?_;simp only [ff,gl,nj (l:=bb ds) (k:=j) (by rw [fB,D.len];exact js),QP WB,Ox,ga];refine⟨_,left.erase j,_,rfl,by rw [Eh WB];have:=EA WB;omega,D.next WB ej WA.1 WA.2 y0,?_⟩;rw [Eh WB];have:=EA WB;omega
 ·rintro s ⟨ds,left,d,rfl,hl,D,hd⟩;have:left=[]:=BX ∅;subst this;simp;exact q ds d D (by simpa using hd)
theorem KL (g:vM t) (q:∀s,WG s t.ax->Q (lE s)):(eF t.pv).run Q:=by
 have hz:=g.size;have hdp:=g.depth;unfold eF;simp only [ga,cr,de 2 ⋯ ⋯];refine bB λd _ _=>?_;simp only [gF,bC,gl];cases c:d==0 with
 | true=>
  simp only [if_true];refine LG t ∅ Q ?_;rw [<- aae];exact q _ (KA ∅)
 | false=>
  simp only [Au,if_false,cr];refine Iy t ∅ ∅ λds d D ahZ=>?_;have Sa:(splits t).length<=7:=by have:=G0 t;have:=g.few;omega
  have DDt:=DD.of (D.isD ∅);have hb:(aQ t ds).length<=16:=by unfold aQ;rw [Ao,o8];have:=Jq t ds;omega
  refine Pw DDt ∅ Q ?_;rw [<- aaI];exact q _ (Mw DDt hz hb)
theorem G9 (q:∀ps:List Int,ps.length=4->(∀p∈ps,0<=p)->Q (.tup (bb ps))):cz.run Q:=by
 unfold cz;have p2:P9 10 28:=⟨by decide,by decide,by decide⟩;simp only [ga,cr,gl,df,nn (bp (i:=0) (j:=4) ∅ ∅)];refine iV (n:=4) (λi s=>∃ps:List Int,s=bb ps/\ps.length=i/\∀p∈ps,0<=p) ⟨[],rfl,rfl,by simp⟩ ?_ ?_
 ·rintro i s hi ⟨ps,rfl,hl,hp⟩;simp only [ga,cr,gl,de 10 ⋯ ⋯];refine bB λa a0 a1=>?_;simp only [de 1001 ⋯ ⋯];refine bB λb b0 b1=>?_;simp only [jw,gl,O7,nn p2,de 1000 ⋯ ⋯];refine bB λc c0 c1=>?_;simp only [ff,gl];rw [gH (by simp)];refine pick_run (by simp) (by simp) λx hx=>?_;have ċ:(0:Int)<=10 ^ Int.toNat 28:=by decide +kernel
  obtain⟨v,rfl,hv⟩:∃v:Int,x=.int v/\0<=v:=by
   simp at hx;rcases hx with rfl | rfl | rfl | rfl | rfl | rfl | rfl | rfl | rfl
   all_goals first | exact⟨_,rfl,by omega⟩ | exact⟨_,rfl,by have:=ċ;simp at this;omega⟩
  rw [dU (by rw [fB];omega)];exact⟨ps++[v],by simp [bb],by simp [hl],λp h=>by rcases A2.mp h with h | h;exact hp p h;rw [AR.mp h];exact hv⟩
 ·rintro s ⟨ps,rfl,hl,hp⟩;exact q ps hl hp
theorem PC {m:Int} (n0:0 < n) (n1:n<=8) (m0:0 < m) (m1:m<=10) (q:∀(g:List Sy) (ws:List Str) (t:Tr) (ps:List Int),WG g ws->(∀w∈t.ax,w∈ws)->t.ax.length<=10->ps.length=4->(∀p∈ps,0<=p)->Q (.tup [lE g,t.pv,.cl ((t.nd 0).map Ent.pv),.tup (bb ps)])):(fy (.int n) (.int m)).run Q:=by
 unfold fy;simp only [ga,cr];refine HU n0 n1 λt ws G hp=>?_;simp only [mK,gl];refine KL G λg wg=>?_;have hl:=hp.length_eq;have:=G.few;have:=t.jo;refine G1 (λz=>by rw [z,Bj] at hl;omega) ∅ m0 m1 λs hs hn=>?_;have h1:=s.size_eq;have h2:=s.oA;refine W.le.use (jn 12 s ∅ ∅) ?_;refine G9 λps p4 p0=>?_;exact q g t.ax s ps wg (λw h=>hp.mem_iff.mpr (hs w h)) ∅ p4 p0
end My
variable {ps:List Int}{d:B1}
namespace My
open PySem PySem.Spec PyProof.Rows L2 PL FL
abbrev OI:=Option Int
def oP:OI->PV
 | none=>.aG
 | some i=>.int i
def qR (l:List OI):List Int:=l.filterMap id
def iE (l:List OI):OI:=if bm∈l then bm else am (qR l).sum
def eQ (l:List OI):OI:=if qR l=[] then bm else am (nQ (qR l))
theorem JK:∀{l:List OI},bm∉l->l.map oP=(qR l).map PV.int
 | [],_=>rfl
 | none::l,h=>absurd (.head _) h
 | some a::l,h=>by
  have:=JK (l:=l) λz=>h (.tail _ z);rw [Aq,this];rfl
def WQ (l:List OI):(l.map oP).filterMap (λx=>if x matches .aG then bm else am x)=(qR l).map PV.int:=by
 induction l with
 | nil=>rfl
 | cons a l ih=>cases a with
  | none=>rw [Aq,A6];exact ih
  | some i=>rw [Aq,A6];exact congrArg _ ih
def Wm (l:List OI):qB false .aG (l.map oP)=.ret (decide (bm∈l)):=by
 have h0:∀x∈l.map oP,PV.j7 x=true/\PV.iq x<=150:=λx hx=>by
  obtain⟨o,_,rfl⟩:=Av.mp hx;cases o <;> simp [oP]
 have h1:R7 .aG (l.map oP):=⟨by simp,kJ.mpr λx hx=>(h0 x hx).1,kK λx hx=>(h0 x hx).2⟩;have h2:sU .aG (l.map oP)=decide (bm∈l):=by
  unfold sU;rw [List.any_map];clear h0 h1
  induction l with
  | nil=>rfl
  | cons a l ih=>
   rw [Bx,ih];cases a <;> simp [oP,kg]
 unfold qB;rw [nn h1,h2];simp
def o7 (l:List OI):iM (.cl (l.map oP))=.ret (oP (iE l)):=by
 unfold iM iE;simp only [ga,bG,Wm];by_cases h:bm∈l
 ·simp [h,oP]
 ·rw [if_neg h];simp only [h,decide_false,Au,if_false,jw,ga,JK h,Ji,eW];rfl
def JR (l:List OI):JS ((qR l).map PV.int)=.ret (oP (eQ l)):=by
 unfold JS eQ;rw [eW,ga]
 split <;> rfl
def oD (l:List OI):(lP (l.map oP) λp2=>Mi (ap (of2 rY p2 .aG) asB) (bd p2))=.ret ((qR l).map PV.int):=by
 rw [<- WQ];refine wM λx hx=>?_;obtain⟨o,_,rfl⟩:=Av.mp hx;cases o <;> simp [oP,PV.gA]
def Gh (l:List OI):cV (.cl (l.map oP))=.ret (oP (eQ l)):=by
 unfold cV;simp only [ga,bG,oD,JR]
def yo (l:List OI):cV (.tup (l.map oP))=.ret (oP (eQ l)):=by
 unfold cV;simp only [ga,aF,oD,JR]
def Ld {a b:List Int} (h:a.Perm b):nQ a=nQ b:=by
 by_cases c:a=[]
 ·subst c;rw [List.nil_perm.mp h]
 ·have c2:b≠[]:=λz=>c (by subst z;exact List.perm_nil.mp h);exact EO (qT (h.mem_iff.mpr (nP c2))) (qT (h.mem_iff.mp (nP c)))
def u4 {a b:List OI} (h:a.Perm b):eQ a=eQ b:=by
 have h2:(qR a).Perm (qR b):=h.filterMap _;unfold eQ;rw [Ld h2];have:(qR a=[])=(qR b=[]):=propext ⟨λz=>List.nil_perm.mp (z▸h2),λz=>List.perm_nil.mp (z▸h2)⟩;simp only [this]
def IA (l:List OI):tJ (l.map oP)=true:=Ge.mpr λx hx=>by
 obtain⟨o,_,rfl⟩:=Av.mp hx;cases o <;> (rw [oP,PV.dat] <;> simp)
def Pu (d:Str):Nat:=if d="split" then 0 else if d="doubled" then 1 else 2
def Ny (ps:List Int) (d:Str):Int:=ps.getD (Pu d) 0
theorem Pt (d:Str):Pu d < 3:=by unfold Pu;split;omega;split <;> omega
theorem Kq (h:ps.length=4) (hk:k < 4):dq (bb ps) (k:Int)=am (.int (ps.getD k 0)):=eK (by
 unfold bb;rw [Ak,Ad ∅,Ah,Ad ∅];rfl)
def Wl (d:Str):Prop:=d="split"\/d="doubled"\/d="over"
def J3:qB false (.str d) ([("split":Str),("doubled":Str),("over":Str)].map PV.str)=.ret (decide (d∈[("split":Str),("doubled":Str),("over":Str)])):=by
 unfold qB;rw [nn ⟨by simp,by simp [eY],by simp [dC]⟩];congr 1;simp only [sU,Aq,Ez,Bx,List.any_nil,Ui,Bool.or_false,Au,if_false];have e:∀a:Str,(a==d)=decide (d=a):=λa=>by
  by_cases c:a=d
  ·subst c;simp
  ·have c2:¬d=a:=λz=>c z.symm;simp [c,c2]
 simp [e,Aw]
theorem Nx (h:ps.length=4) (hd:Wl d):dN (.tup (bb ps)) (.str d)=.ret (.int (Ny ps d)):=by
 unfold dN;have hm:d∈[("split":Str),("doubled":Str),("over":Str)]:=by rcases hd with rfl | rfl | rfl <;> simp
 have hi:OB ["split","doubled","over"] (.str d)=.ret (.int ((Pu d:Nat):Int)):=by
  show W.fh _ _=_;rw [nn hm];rcases hd with rfl | rfl | rfl <;> rfl
 have:=Pt d;simp only [ga,J3,hm,decide_true,if_true,aF,hi,cf,Kq h (k:=Pu d) ∅,wS];rfl
def zp:dN (.tup (bb ps)) (.str "found")=.ret (.int 0):=by
 unfold dN;have hm:("found":Str)∉[("split":Str),("doubled":Str),("over":Str)]:=by decide +kernel
 simp only [ga,J3,hm,decide_false,Au,if_false]
end My
variable {n:Nat}{T:List (List My.OI)}{d:My.Dd}
namespace My
open PySem PySem.Spec PyProof.Rows L2 PL FL
def rg (T:List (List OI)) (j i:Nat):OI:=(T.getD j []).getD i bm
def rP (T:List (List OI)):List PV:=T.map λr=>.tup (r.map oP)
def ql (ps:List Int) (R:Nat->Nat->OI) (a b:Nat) (d:Dd):OI:=iE [am (Ny ps d.1),R a d.2.1,R b d.2.2]
def Kn (g:List Sy) (ps:List Int) (R:Nat->Nat->OI) (e:Ent) (i:Nat):List OI:=match e with
 | .word w=>if hm g i w=true then [am 0] else []
 | .pair a b=>(dl g i).map (ql ps R a b)
def ku (g:List Sy) (ps:List Int) (i:Nat):Int:=if (sy g i).un.length=2 then ps.getD 3 0 else 0
def M9 (g:List Sy) (ps:List Int) (row:List OI) (i:Nat):List OI:=(sy g i).un.map λu=>iE [am (ku g ps i),row.getD u bm]
def bZ (g:List Sy) (ps:List Int) (R:Nat->Nat->OI) (e:Ent):Nat->List OI
 | 0=>[]
 | k+1=>bZ g ps R e k++[eQ (Kn g ps R e k++M9 g ps (bZ g ps R e k) k)]
def a9 (g:List Sy) (ps:List Int) (es:List Ent):Nat->List (List OI)
 | 0=>[]
 | j+1=>a9 g ps es j++[bZ g ps (rg (a9 g ps es j)) (Pb es j) g.length]
theorem gj (g:List Sy) (ps:List Int) (R:Nat->Nat->OI) (e:Ent):∀k,(bZ g ps R e k).length=k
 | 0=>rfl
 | k+1=>by rw [bZ,Ai,gj g ps R e k];rfl
theorem gb (g:List Sy) (ps:List Int) (es:List Ent):∀j,(a9 g ps es j).length=j
 | 0=>rfl
 | j+1=>by rw [a9,Ai,gb g ps es j];rfl
structure Wide (g:List Sy) (T:List (List OI)) (n:Nat):Prop where
 len:T.length=n
 row:∀j,j < n->(T.getD j []).length=g.length
theorem iD (g:List Sy) (ps:List Int) (es:List Ent):∀j,Wide g (a9 g ps es j) j
 | 0=>⟨rfl,λj h=>absurd h (Nat.not_lt_zero j)⟩
 | j+1=>⟨gb g ps es _,λk hk=>by
  have W:=iD g ps es j;rw [a9];by_cases c:k < j
  ·rw [iU (by rw [W.len];exact c)];exact W.row k c
  ·have:k=j:=by omega
   subst this;rw [f6 (by rw [W.len];exact An _),W.len,Ct];exact gj _ _ _ _ _⟩
def Tt (W':Wide g T n) (hj:j < n) (hi:i < g.length):(cA (ap (cA (bd (rP T)) (bd (.int (j:Int)))) aD) (bd (.int (i:Int))))=.ret (oP (rg T j i)):=by
 have hl:=W'.row j hj;have h1:dq (rP T) (j:Int)=am (.tup ((T.getD j []).map oP)):=eK (by
  unfold rP;rw [Ak,Ad (by rw [W'.len];exact hj),Ah,Ad (by rw [W'.len];exact hj)];rfl)
 have h2:dq ((T.getD j []).map oP) (i:Int)=am (oP (rg T j i)):=eK (by
  unfold rg;rw [Ak,Ad (by rw [hl];exact hi),Ah (l:=T.getD j []),Ad (by rw [hl];exact hi)];rfl)
 simp only [ga,cf,h1,wS,aF,h2]
def aaG (h:d∈dl g i):Wl d.1:=by
 unfold dl at h;rcases Aw.mp h with rfl | h
 ·exact .inr (.inl rfl)
 rcases A2.mp h with h | h
 ·unfold vX at h
  split at h
  ·simp at h;rcases h with rfl | rfl <;> exact .inl rfl
  ·cases h
 ·rcases A2.mp h with h | h <;> obtain⟨o,_,rfl⟩:=Av.mp h <;> exact .inr (.inr rfl)
def NG {f:α->β}{a b:List β} (h:a.Perm b):∀{l:List α},b=l.map f->∃ds:List α,a=ds.map f/\ds.Perm l:=by
 induction h with
 | nil=>intro l e;exact⟨[],rfl,by rw [List.map_eq_nil_iff.mp e.symm]⟩
 | cons x _ ih=>
  intro l e;cases l with
  | nil=>cases e
  | cons y l=>
   injection e with e1 e2;obtain⟨ds,h1,h2⟩:=ih e2;exact⟨y::ds,by rw [Aq,e1,h1],h2.cons y⟩
 | swap x y r=>
  intro l e
  match l,e with
  | u::v::l,e=>
   injection e with e1 e2;injection e2 with e2 e3;exact⟨v::u::l,by rw [Aq,Aq,e1,e2,e3],.swap u v l⟩
 | trans _ _ Mj R8=>
  intro l e;obtain⟨ds,h1,h2⟩:=R8 e;obtain⟨es,h3,h4⟩:=Mj h1;exact⟨es,h3,h4.trans h2⟩
theorem vn (f h:α->β):∀l:List α,(l.map f++l.map h).Perm (l.flatMap λo=>[f o,h o])
 | []=>.nil
 | a::l=>by
  rw [Aq,Aq,CJ,Ca];exact ((List.perm_middle).trans ((vn f h l).cons _)).cons _
def Kl (g:List Sy) (i:Nat):(dl g i).Perm (dds g i):=((vn (λo=>(("over",i,o):Dd)) (λo=>(("over",o,i):Dd)) (sy g i).be).append_left _).cons _
def Gb (G:WG g ws) (h:i < g.length) (hd:d∈dl g i):d.2.1 < g.length/\d.2.2 < g.length:=W7 G h ((Kl g i).mem_iff.mp hd)
theorem LY (p4:ps.length=4) {a:Nat} (W':Wide g T n) (ha:a < n) (hb:b < n) (hd:Wl d.1) (hx:d.2.1 < g.length) (hy:d.2.2 < g.length):cU (.tup (bb ps)) (.cl (rP T)) (Ent.pair a b).pv (d2 d)=.ret (oP (ql ps (rg T) a b d)):=by
 unfold cU;have i0:dq [PV.str d.1,PV.tup [.int (d.2.1:Int),.int (d.2.2:Int)]] 0=am (.str d.1):=rfl;have i1:dq [PV.str d.1,PV.tup [.int (d.2.1:Int),.int (d.2.2:Int)]] 1=am (.tup [.int (d.2.1:Int),.int (d.2.2:Int)]):=rfl;have ez:Kx [PV.int (a:Int),.int (b:Int)] [.int (d.2.1:Int),.int (d.2.2:Int)]=.ret [.tup [.int (a:Int),.int (d.2.1:Int)],.tup [.int (b:Int),.int (d.2.2:Int)]]:=nn (by simp;exact cv ∅);have ec:mT [PV.int (Ny ps d.1)] [oP (rg T a d.2.1),oP (rg T b d.2.2)]=.ret ([am (Ny ps d.1),rg T a d.2.1,rg T b d.2.2].map oP):=by rw [gH (by simp)];rfl
 have em:(bI [PV.tup [.int (a:Int),.int (d.2.1:Int)],.tup [.int (b:Int),.int (d.2.2:Int)]] λp6=>ap (uP p6) λt7=>(cA (ap (cA (bd (rP T)) (bd t7.1)) aD) (bd t7.2)))=.ret [oP (rg T a d.2.1),oP (rg T b d.2.2)]:=by
  simp only [bI,mK,ga];have h1:=Tt W' ha hx;have h2:=Tt W' hb hy;simp only [ga] at h1 h2;simp only [h1,h2,ga]
 simp only [ga] at em;simp only [d2,ga,pN,OC,aP,Aq,Ez,aF,cf,i0,i1,wS,ez,em,Nx p4 hd,bG,jw,ec];exact o7 [am (Ny ps d.1),rg T a d.2.1,rg T b d.2.2]
def Iw (G:WG g ws) (p4:ps.length=4) (W':Wide g T n) (he:GC n e) (hi:i < g.length) {Q:List PV->Prop} (q:∀L:List OI,L.Perm (Kn g ps (rg T) e i)->Q (L.map oP)):(eg (lE g) (.tup (bb ps)) (.cl (rP T)) e.pv (.int (i:Int))).run Q:=by
 unfold eg;simp only [ga,cr];cases e with
 | word w=>
  unfold eR;simp only [Ent.pv,ga,cr,xQ,xP,dc,gl,if_true,Sd G hi];unfold Kn at q;cases h:hm g i w with
  | false=>
   simp only [h,Au,if_false] at q ⊢;exact q [] (List.Perm.refl _)
  | true=>
   simp only [h,if_true] at q ⊢;have ef:cU (.tup (bb ps)) (.cl (rP T)) (.str w) (.tup [.str "found",.tup []])=.ret (.int 0):=by
    unfold cU;have i0:dq [PV.str "found",PV.tup []] 0=am (.str "found"):=rfl;have i1:dq [PV.str "found",PV.tup []] 1=am (.tup []):=rfl;have hv:cy (.str w)=.ret (.tup []):=pN (.word w);have ez:Kx [] []=.ret []:=nn (by simp);have ec:mT [PV.int 0] []=.ret ([am (0:Int)].map oP):=by rw [gH (by simp)];rfl
    simp only [ga,hv,aF,cf,i0,i1,wS,ez,bI,zp,jw,ec,o7];rfl
   simp only [gl,bI,ga,ef];exact q [am 0] (List.Perm.refl _)
 | pair a b=>
  refine LU G hi λm hm=>?_;obtain⟨ds,rfl,hp⟩:∃ds:List Dd,m=ds.map d2/\ds.Perm (dl g i):=NG hm rfl;refine e7 (λd=>oP (ql ps (rg T) a b d)) (λd hd=>?_) ?_
  ·have hdl:=hp.mem_iff.mp hd;obtain⟨h1,h2⟩:=Gb G hi hdl;rw [LY p4 W' he.1 he.2 (aaG hdl) h1 h2];exact λQ q=>q
  ·have e:ds.map (λd=>oP (ql ps (rg T) a b d))=(ds.map (ql ps (rg T) a b)).map oP:=by rw [AB];rfl
   rw [e];exact q _ (hp.map _)
theorem Vx (p4:ps.length=4) (hi:i < g.length):fu (lE g) (.tup (bb ps)) (.int (i:Int))=.ret (.int (ku g ps i)):=by
 unfold fu ku;simp only [ga,m6 hi,gZ,dz,gF,bC,aF,cf];by_cases c:(sy g i).un.length=2
 ·have h3:=Kq p4 (k:=3) ∅;have c2:(((sy g i).un.length:Int)==2)=true:=by simp [c]
  rw [if_pos c,c2];simp only [if_true];rw [show ((3:Nat):Int)=3 from rfl] at h3;rw [h3];rfl
 ·have c2:(((sy g i).un.length:Int)==2)=false:=by simp;omega
  rw [if_neg c,c2];rfl
theorem MR (G:WG g ws) (p4:ps.length=4) {row:List OI} (hi:i < g.length) (hr:row.length=i):d9 (lE g) (.tup (bb ps)) (.cl (row.map oP)) (.int (i:Int))=.ret ((M9 g ps row i).map oP):=by
 unfold d9 M9;simp only [ga,Vx p4 hi,m6 hi,aF];rw [AB];refine jl λu hu=>?_;have hu:=G.dn i hi u hu;have h1:dq (row.map oP) (u:Int)=am (oP (row.getD u bm)):=eK (by rw [Ak,Ad ∅,Ah,Ad ∅];rfl);have e:[PV.int (ku g ps i),oP (row.getD u bm)]=[am (ku g ps i),row.getD u bm].map oP:=rfl;simp only [ga,bG,cf,h1,wS,e,o7];rfl
theorem U5 (G:WG g ws) (p4:ps.length=4) (W':Wide g T n) (he:GC n e):(kB (lE g) (.tup (bb ps)) (.cl (rP T)) e.pv).le (.ret (.tup ((bZ g ps (rg T) e g.length).map oP))):=λQ q=>by
 unfold kB;have hg:=G.len;have el:qa dR [lE g]=.ret (.int (g.length:Int)):=by simp [lE]
 simp only [ga,cr,gl];simp only [el,gl,df,nn (bp (i:=0) (j:=(g.length:Int)) ∅ ∅),Ba];refine iV (λi s=>s=(bZ g ps (rg T) e i).map oP) rfl (λi s hi hs=>?_) (λs hs=>?_)
 ·subst hs;have ö:=gj g ps (rg T) e i;refine Iw G p4 W' he hi λL hL=>?_;rw [MR G p4 hi ö];have h1:L.length<=63:=by
   rw [hL.length_eq];cases e with
   | word w=>show (if hm g i w=true then [am 0] else []).length<=63;split <;> simp
   | pair a b=>show ((dl g i).map _).length<=63;rw [Af];exact Iu G hi
  have h2:(M9 g ps (bZ g ps (rg T) e i) i).length<=2:=by unfold M9;rw [Af];exact G.uP i hi
  simp only [ga,cr];rw [gH (by rw [Af,Af];omega),<- AN];have et:uR ((L++M9 g ps (bZ g ps (rg T) e i) i).map oP)=.ret ((L++M9 g ps (bZ g ps (rg T) e i) i).map oP):=nn (IA _);simp only [gl,et,Gh];rw [dU (by rw [Af];omega)];show _=_;rw [bZ,AN,u4 (hL.append_right _)];rfl
 ·subst hs;exact q
theorem MJ (G:WG g ws) (p4:ps.length=4) (hz:t.size<=400):(nS (lE g) t.pv (.tup (bb ps))).le (.ret (.tup (rP (a9 g ps (t.nd 0) t.size)))):=λQ q=>by
 unfold nS;simp only [ga,cr,gl];refine W.le.use (nK t ∅) ?_;simp only [aF,gl];refine fV (λi s=>s=rP (a9 g ps (t.nd 0) i)) rfl (λi x s hx hs=>?_) (λs hs=>?_)
 ·subst hs;have hi:i < t.size:=by have:=(Al.mp hx).1;rw [dX] at this;exact this
  rw [Ak,gm t 0 i hi] at hx;have ex:=(Option.some.inj hx).symm;subst ex;simp only [cr];refine W.le.use (U5 G p4 (iD g ps (t.nd 0) i) (Pg t hi)) ?_;have ed:Pb (t.nd 0) i=en t 0 i:=by unfold Pb;rw [Ah,gm t 0 i hi];rfl
  have et:MF (.tup ((bZ g ps (rg (a9 g ps (t.nd 0) i)) (en t 0 i) g.length).map oP))=.ret (.tup ((bZ g ps (rg (a9 g ps (t.nd 0) i)) (en t 0 i) g.length).map oP)):=nn (by rw [PV.dat];exact IA _);simp only [et,gl];rw [dU (by unfold rP;rw [Af,gb];omega)];show _=_;rw [a9,ed];unfold rP;rw [AN];rfl
 ·subst hs;rw [dX];exact q
end My
variable {R:Nat->Nat->My.OI}
namespace My
open PySem PySem.Spec PyProof.Rows L2 PL FL
abbrev kk (j i:Nat):List Key:=[.inl (j:Int),.inl (i:Int)]
def Hx (j:Nat):Nat->List OI->List (List Key×PV)
 | _,[]=>[]
 | i,v::r=>(kk j i,oP v)::Hx j (i+1) r
def ub:Nat->List (List OI)->List (List Key×PV)
 | _,[]=>[]
 | j,r::T=>Hx j 0 r++ub (j+1) T
theorem Hy {j' i':Nat} (h:kk j i=kk j' i'):j=j'/\i=i':=by
 injection h with h1 h2;injection h2 with h2 _;injection h1 with h1;injection h2 with h2;omega
def sV (a b:List (List Key×PV)) (k:List Key):cI (a++b) k=(cI a k).or (cI b k):=by
 unfold cI;rw [List.find?_append];cases a.find? λkv=>decide (kv.1=k) <;> rfl
theorem WI (j:Nat) (k:List Key):∀(r:List OI) (i:Nat),(∀n,n < r.length->k≠kk j (i+n))->cI (Hx j i r) k=bm
 | [],_,_=>rfl
 | v::r,i,h=>by
  have h0:¬kk j i=k:=λz=>h 0 (by simp) z.symm;have:=WI j k r (i+1) λn hn=>by have:=h (n+1) (by simpa using hn);rw [show i+1+n=i+(n+1) by omega];exact this
  unfold cI at this ⊢;rw [Hx,Be];simp only [h0,decide_false];exact this
theorem J7 (j:Nat):∀(r:List OI) (i n:Nat),n < r.length->cI (Hx j i r) (kk j (i+n))=am (oP (r.getD n bm))
 | v::r,i,0,_=>by
  unfold cI;rw [Hx,Be];simp
 | v::r,i,n+1,h=>by
  have h0:¬kk j i=kk j (i+(n+1)):=λz=>by have:=(Hy z).2;omega
  have:=J7 j r (i+1) n (by simpa using h);rw [show i+1+n=i+(n+1) by omega] at this;unfold cI at this ⊢;rw [Hx,Be];simp only [h0,decide_false];exact this
theorem aac (k:List Key):∀(T:List (List OI)) (j:Nat),(∀m n,m < T.length->n < (T.getD m []).length->k≠kk (j+m) n)->cI (ub j T) k=bm
 | [],_,_=>rfl
 | r::T,j,h=>by
  rw [ub,sV,WI j k r 0 λn hn=>by rw [AG];exact h 0 n (by simp) hn,aac k T (j+1) λm n hm hn=>by
   rw [show j+1+m=j+(m+1) by omega];exact h (m+1) n (by simpa using hm) (by simpa using hn)]
  rfl
theorem q8:∀(T:List (List OI)) (j m n:Nat),m < T.length->n < (T.getD m []).length->cI (ub j T) (kk (j+m) n)=am (oP (rg T m n))
 | r::T,j,0,n,_,hn=>by
  have:=J7 j r 0 n hn;rw [AG] at this;rw [ub,sV];show (cI (Hx j 0 r) (kk j n)).or _=_;rw [this];rfl
 | r::T,j,m+1,n,hm,hn=>by
  rw [ub,sV,WI j _ r 0 λn' _ z=>by have:=(Hy z).1;omega];have:=q8 T (j+1) m n (by simpa using hm) (by simpa using hn);rw [show j+1+m=j+(m+1) by omega] at this;rw [this];rfl
theorem zX (j:Nat) (v:OI):∀(r:List OI) (i:Nat),Hx j i (r++[v])=Hx j i r++[(kk j (i+r.length),oP v)]
 | [],i=>rfl
 | u::r,i=>by
  rw [Ca,Hx,zX j v r (i+1),Hx,Ca,Ao,show i+1+r.length=i+(r.length+1) by omega]
theorem nZ (r:List OI):∀(T:List (List OI)) (j:Nat),ub j (T++[r])=ub j T++Hx (j+T.length) 0 r
 | [],j=>by rw [EN,ub,ub,ub,Cz];rfl
 | u::T,j=>by
  rw [Ca,ub,nZ r T (j+1),ub,Ay,Ao,show j+1+T.length=j+(T.length+1) by omega]
def QW {k:List Key} (h:cI kvs k=bm):FL.zj kvs k v=kvs++[(k,v)]:=by
 unfold FL.zj;rw [if_neg];intro c;obtain⟨x,h1,h2⟩:=List.any_eq_true.mp c;unfold cI at h;rw [Eu,List.find?_eq_none] at h;exact h x h1 h2
theorem J0:∀(T:List (List OI)) (j:Nat),(ub j T).length=(T.map BN).sum
 | [],_=>rfl
 | r::T,j=>by
  have:∀(r:List OI) (i:Nat),(Hx j i r).length=r.length:=λr=>by
   induction r with
   | nil=>intro i;rfl
   | cons v r ih=>intro i;rw [Hx,Ao,ih,Ao]
  rw [ub,Ai,this,J0 T,Aq,Dp]
def ldl (g:List Sy) (i:Nat):List Dd:=dbl i::((sy g i).be.flatMap (Vy i)++vX (sy g i).un)
def zU (g:List Sy) (i:Nat):(ldl g i).Perm (dl g i):=(CF.cons _).trans (Kl g i).symm
def eP (e:Nat×Nat):PV:=.tup [.int (e.1:Int),.int (e.2:Int)]
def Zr (a b:Nat) (d:Dd):PV:=.tup [.int ((Pu d.1:Nat):Int),.cl ([(a,d.2.1),(b,d.2.2)].map eP)]
def ldO (g:List Sy) (e:Ent) (i:Nat):List PV:=match e with
 | .word w=>if hm g i w=true then [.tup [.aG,.cl []]] else []
 | .pair a b=>(ldl g i).map (Zr a b)
theorem Hw (G:WG g ws) (he:es[j]?=am e) (hi:i < g.length):(cZ (lE g) (.cl (es.map Ent.pv)) (.int (j:Int)) (.int (i:Int))).le (.ret (ldO g e i)):=λQ q=>by
 unfold cZ;have h1:dq (es.map Ent.pv) (j:Int)=am e.pv:=eK (by rw [Ak,he];rfl);have hu:=G.uP i hi;have hb:=G.Xf i hi;have gi:=OT hi;simp only [lE,ga,aF,gi,Sy.pv,O5,bG,cf,h1,wS,cr];cases e with
 | word w=>
  simp only [Ent.pv,ga,xQ,xP,dc,gl,if_true,eq_nil _ (show (sy g i).un.length<=1000 by omega),bC,Um (G.nm i hi) w];have e:hm g i w=((sy g i).un.isEmpty&&HK w (sy g i).nm):=rfl;have q:Q (if hm g i w=true then [.tup [.aG,.cl []]] else []):=q;cases h1:(sy g i).un.isEmpty with
  | false=>rw [e,h1] at q;simpa using q
  | true=>cases h2:HK w (sy g i).nm with
   | false=>rw [e,h1,h2] at q;simpa using q
   | true=>rw [e,h1,h2] at q;simpa using q
 | pair a b=>
  have j0:dq [PV.int (a:Int),PV.int (b:Int)] 0=am (.int a):=rfl;simp only [Ent.pv,ga,lH,lG,dc,gl,Au,if_false,mK,cr];refine fV (λk s=>s=(dbl i::((sy g i).be.take k).flatMap (Vy i)).map (Zr a b)) rfl (λk x s hx hs=>?_) (λs hs=>?_)
  ·obtain⟨o,ho,rfl⟩:=zH hx;subst hs;have hk:=(Al.mp ho).1;have hl:((sy g i).be.take k).length<=k:=Fd _ _;have et:(sy g i).be.take (k+1)=(sy g i).be.take k++[o]:=by rw [C7,ho];rfl
   simp only [ga,cr,gl];rw [dU (by rw [Af,Ao,oy];omega)];simp only [gl,ga];rw [dU (by rw [Ai,Af,Ao,oy];simp;omega)];show _=_;rw [et,List.flatMap_append,Ay,<- Ca,AN];rfl
  ·subst hs;rw [dz,Dl];simp only [ga,gZ,dz,gF,bC,gl];have q:Q ((dbl i::((sy g i).be.flatMap (Vy i)++vX (sy g i).un)).map (Zr a b)):=q;rw [<- Ca,AN] at q;have hfl:((dbl i::(sy g i).be.flatMap (Vy i)).map (Zr a b)).length<=61:=by rw [Af,Ao,oy];omega
   generalize (dbl i::(sy g i).be.flatMap (Vy i)).map (Zr a b)=M at q hfl;revert hu q;generalize (sy g i).un=l;intro hu q
   match l,hu,q with
   | [],_,q=>simpa [vX] using q
   | [u],_,q=>simpa [vX] using q
   | [u,v],_,q=>
    have k0:dq [PV.int (u:Int),PV.int (v:Int)] 0=am (.int u):=rfl;have k1:dq [PV.int (u:Int),PV.int (v:Int)] 1=am (.int v):=rfl;have c:((([u,v]:List Nat).length:Int)==2)=true:=rfl;simp only [c,if_true,lq,nM,aF,ga,cf,k0,k1,wS,cr,gl];rw [dU ∅];simp only [gl,ga];rw [dU (by rw [Ai];simp;omega)];rw [Ay];exact q
def stO (g:List Sy) (i j u:Nat):PV:=.tup [if (sy g i).un.length=2 then .int 3 else .aG,.cl ([(j,u)].map eP)]
theorem Li (hi:i < g.length) (j:Nat):eE (lE g) (.int (j:Int)) (.int (i:Int))=.ret ((sy g i).un.map (stO g i j)):=by
 unfold eE;have gi:=OT hi;have i2:dq [(sy g i).nm,PV.int (sy g i).lv,.tup (aP (sy g i).un),.tup (aP (sy g i).be)] 2=am (.tup (aP (sy g i).un)):=rfl;simp only [lE,ga,aF,gi,Sy.pv,cf,i2,wS,gZ,dz,gF,bC];by_cases c:(sy g i).un.length=2
 ·have c2:(((sy g i).un.length:Int)==2)=true:=by simp [c]
  rw [c2];simp only [if_true,ga];refine jl λu _=>?_;simp only [ga,stO,c,if_true];rfl
 ·have c2:(((sy g i).un.length:Int)==2)=false:=by simp;omega
  rw [c2];simp only [Au,if_false,ga];refine jl λu _=>?_;simp only [ga,stO,c,if_false];rfl
theorem JJ:∀{l:List OI},bm∉l->(qR l).sum=(l.map λo=>o.getD 0).sum
 | [],_=>rfl
 | none::l,h=>absurd (.head _) h
 | some a::l,h=>by
  have:=JJ (l:=l) λz=>h (.tail _ z);show (a::qR l).sum=_;rw [Dp,this,Aq,Dp];rfl
def Mu (p4:ps.length=4) {pl:PV}{Qa:Int}{es:List (Nat×Nat)} (dH:(pl=.aG/\Qa=0)\/∃p:Nat,p < 4/\pl=.int (p:Int)/\Qa=ps.getD p 0) (hk:∀e∈es,cI kvs (kk e.1 e.2)=am (oP (R e.1 e.2))) :
  (eB (.tup (bb ps)) (yQ kvs) (.tup [pl,.cl (es.map eP)])).le (.ret (oP (iE (am Qa::es.map λe=>R e.1 e.2)))):=λQ q=>by
 unfold eB;have i0:dq [pl,.cl (es.map eP)] 0=am pl:=rfl;have i1:dq [pl,.cl (es.map eP)] 1=am (.cl (es.map eP)):=rfl;have q:Q (oP (iE (am Qa::es.map λe=>R e.1 e.2))):=q;have main:((PV.int Qa)\λm7=>(es.map eP)\λl7=>ap (lQ l7 m7 λlI s2=>(
 dP (t2 zD (Qi (bd (yQ kvs)) (bd lI)) (bd .aG)) (
 .aG\λx4=>bd (Lp.out x4)) (
 ap (w2 addW (bd s2) (Qi (bd (yQ kvs)) (bd lI))) λqL=>
 bd (.go qL)))) (LH (λs2=>
 (bd s2)) id)).run Q:=by
  simp only [ga,cr];refine Kb (λk s=>s=.int (Qa+((es.take k).map λe=>(R e.1 e.2).getD 0).sum)/\∀e∈es.take k,R e.1 e.2≠bm) ⟨by simp,by simp⟩ (λk x s hx hs=>?_) (λs hs=>?_)
  ·obtain⟨rfl,hs⟩:=hs;rw [Ak] at hx;cases e:es[k]? with
   | none=>rw [e] at hx;cases hx
   | some en=>
    rw [e] at hx;have ex:=(Option.some.inj hx).symm;subst ex;have et:es.take (k+1)=es.take k++[en]:=by rw [C7,e];rfl
    have hm:=Br e;have dg:(dgW (yQ kvs) (eP en)).le (.ret (oP (R en.1 en.2))):=λQ q=>rf (k:=kk en.1 en.2) (hk en hm) q;simp only [ga,cr];refine W.le.use dg ?_;cases hr:R en.1 en.2 with
    | none=>
     simp only [oP,kL,bC,gl,ga,PV.gA,if_true];show (LH _ _ (Lp.out PV.aG)).run Q;have hn:iE (am Qa::es.map λe=>R e.1 e.2)=bm:=if_pos (.tail _ (Av.mpr ⟨en,hm,hr⟩));rw [hn] at q;exact q
    | some v=>
     simp only [oP,kL,bC,gl,ga,PV.gA,Au,if_false,cr];refine W.le.use dg ?_;simp only [hr,oP,ff,gl];refine⟨?_,λe he=>?_⟩
     ·rw [et,AN,List.sum_append];simp [hr,Int.add_assoc]
     ·rw [et] at he;rcases A2.mp he with he | he
      ·exact hs e he
      ·rw [AR.mp he,hr];simp
  ·obtain⟨rfl,hs⟩:=hs;rw [Af,Dl] at hs ⊢;have hn:bm∉(am Qa::es.map λe=>R e.1 e.2):=λz=>by
    rcases Aw.mp z with z | z
    ·cases z
    ·obtain⟨e,h1,h2⟩:=Av.mp z;exact hs e h1 h2
   unfold iE at q;rw [if_neg hn,JJ hn,Aq,Dp,AB] at q;exact q
 simp only [ga,aF,cf,i0,i1,wS,bG];simp only [ga] at main;rcases dH with⟨rfl,rfl⟩ | ⟨p,hp,rfl,rfl⟩
 ·simp only [kL,PV.gA,bC,ga,if_true];exact main
 ·simp only [kL,PV.gA,bC,ga,Au,if_false,cf,Kq p4 hp,wS];exact main
structure Op where
 pl:PV
 Qa:Int
 es:List (Nat×Nat)
def Op.pv (o:Op):PV:=.tup [o.pl,.cl (o.es.map eP)]
def Op.cost (R:Nat->Nat->OI) (o:Op):OI:=iE (am o.Qa::o.es.map λe=>R e.1 e.2)
def NN (g:List Sy) (ps:List Int) (e:Ent) (i:Nat):List Op:=match e with
 | .word w=>if hm g i w=true then [⟨.aG,0,[]⟩] else []
 | .pair a b=>(ldl g i).map λd=>⟨.int ((Pu d.1:Nat):Int),Ny ps d.1,[(a,d.2.1),(b,d.2.2)]⟩
def Qd (g:List Sy) (ps:List Int) (i j:Nat):List Op:=(sy g i).un.map λu=>⟨if (sy g i).un.length=2 then .int 3 else .aG,ku g ps i,[(j,u)]⟩
def VJ (g:List Sy) (ps:List Int) (e:Ent) (i:Nat):(NN g ps e i).map Op.pv=ldO g e i:=by
 cases e with
 | word w=>unfold NN ldO;simp only;split <;> rfl
 | pair a b=>unfold NN ldO;simp only;rw [AB];rfl
def VI (g:List Sy) (ps:List Int) (i j:Nat):(Qd g ps i j).map Op.pv=(sy g i).un.map (stO g i j):=by
 unfold Qd;rw [AB];rfl
def zB (g:List Sy) (ps:List Int) (R:Nat->Nat->OI) (e:Ent) (i:Nat):((NN g ps e i).map (Op.cost R)).Perm (Kn g ps R e i):=by
 cases e with
 | word w=>unfold NN Kn;simp only;split <;> exact List.Perm.refl _
 | pair a b=>unfold NN Kn;simp only;rw [AB];exact (zU g i).map _
def Wn (l:List OI):(dP (bd (!((qR l).map PV.int).isEmpty)) (sj ((qR l).map PV.int)) (bd .aG))=.ret (oP (eQ l)):=by
 unfold sj eQ;simp only [eW,ga];by_cases c:qR l=[]
 ·rw [if_pos c,c];rfl
 ·rw [if_neg c,nn c];have:(!((qR l).map PV.int).isEmpty)=true:=by cases h:qR l with | nil=>exact absurd h c | cons a r=>rfl
  rw [this,if_pos rfl];rfl
def Jx {r:List OI} (h:j < T.length):rg (T++[r]) j i=rg T j i:=by unfold rg;rw [iU h]
def QM {r:List OI}:rg (T++[r]) T.length i=r.getD i bm:=by unfold rg;rw [f6 (An _),Ct];rfl
theorem UU (h:∀x∈l,x<=m):l.sum<=l.length*m:=by
 induction l with
 | nil=>simp
 | cons a l ih=>
  rw [Dp,Ao,Ew];have:=h a (.head _);have:=ih λx hx=>h x (.tail _ hx);omega
theorem N9 (G:WG g ws) (p4:ps.length=4) (hz:t.size<=400):(eG (lE g) (.cl ((t.nd 0).map Ent.pv)) (.tup (bb ps))).le (.ret (yQ (ub 0 (a9 g ps (t.nd 0) t.size)))):=λQ q=>by
 unfold eG;have hg:=G.len;have el:qa dR [lE g]=.ret (.int (g.length:Int)):=by simp [lE]
 simp only [ga,cr,fe,dX,gl,df,nn (bp (i:=0) (j:=(t.size:Int)) ∅ ∅),Ba];refine iV (λj s=>s=ub 0 (a9 g ps (t.nd 0) j)) rfl (λj s hj hs=>?_) (λs hs=>by subst hs;exact q);subst hs;simp only [el,ga,cr,gl,df,nn (bp (i:=0) (j:=(g.length:Int)) ∅ ∅),Ba];have ed:Pb (t.nd 0) j=en t 0 j:=by unfold Pb;rw [Ah,gm t 0 j hj];rfl
 have Wd:=iD g ps (t.nd 0) j;have iB:=Pg t hj;have ht:a9 g ps (t.nd 0) (j+1)=a9 g ps (t.nd 0) j++[bZ g ps (rg (a9 g ps (t.nd 0) j)) (en t 0 j) g.length]:=by rw [a9,ed]
 rw [ht];generalize a9 g ps (t.nd 0) j=T at Wd ⊢;refine iV (λi s=>s=ub 0 (T++[bZ g ps (rg T) (en t 0 j) i])) (by rw [nZ];exact (Cz _).symm) (λi s hi hs=>?_) (λs hs=>hs);subst hs;have ö:=gj g ps (rg T) (en t 0 j) i;have eT:T.length=j:=Wd.len;simp only [cr];refine W.le.use (Hw G (gm t 0 j hj) hi) ?_;simp only [jw,ga,gl,cr,Li hi];rw [<- VJ g ps,<- VI g ps];have l1:(NN g ps (en t 0 j) i).length<=63:=by
  have:=(zB g ps (rg T) (en t 0 j) i).length_eq;rw [Af] at this;rw [this];cases en t 0 j with
  | word w=>show (if hm g i w=true then [am 0] else []).length<=63;split <;> simp
  | pair a b=>show ((dl g i).map _).length<=63;rw [Af];exact Iu G hi
 have l2:(Qd g ps i j).length<=2:=by unfold Qd;rw [Af];exact G.uP i hi
 rw [gH (by rw [Af,Af];omega),<- AN];simp only [gl,bG,ga];have gt:∀a x,a < j->x < g.length->cI (ub 0 (T++[bZ g ps (rg T) (en t 0 j) i])) (kk a x)=am (oP (rg (T++[bZ g ps (rg T) (en t 0 j) i]) a x)):=λa x ha hx=>by
  have:=q8 (T++[bZ g ps (rg T) (en t 0 j) i]) 0 a x (by simp;omega) (by rw [iU ∅,Wd.row a ha];exact hx);rw [AG] at this;exact this
 have gt2:∀u,u < i->cI (ub 0 (T++[bZ g ps (rg T) (en t 0 j) i])) (kk j u)=am (oP (rg (T++[bZ g ps (rg T) (en t 0 j) i]) j u)):=λu hu=>by
  have:=q8 (T++[bZ g ps (rg T) (en t 0 j) i]) 0 j u (by simp;omega) (by rw [f6 ∅,eT,Ct];show u < (bZ g ps (rg T) (en t 0 j) i).length;rw [ö];exact hu);rw [AG] at this;exact this
 refine e7 (λo=>oP (o.cost (rg (T++[bZ g ps (rg T) (en t 0 j) i])))) (λo ho=>?_) ?_
 ·refine Mu p4 ?_ ?_
  ·rcases A2.mp ho with ho | ho
   ·revert ho;cases en t 0 j with
    | word w=>
     intro ho;have ho:o∈(if hm g i w=true then [(⟨.aG,0,[]⟩:Op)] else []):=ho
     split at ho
     ·rw [AR.mp ho];exact .inl ⟨rfl,rfl⟩
     ·cases ho
    | pair a b=>
     intro ho;obtain⟨d,hd,rfl⟩:=Av.mp ho;exact .inr ⟨Pu d.1,by have:=Pt d.1;omega,rfl,rfl⟩
   ·obtain⟨u,hu,rfl⟩:=Av.mp ho;by_cases c:(sy g i).un.length=2
    ·exact .inr ⟨3,by omega,if_pos c,if_pos c⟩
    ·exact .inl ⟨if_neg c,if_neg c⟩
  ·intro e he;rcases A2.mp ho with ho | ho
   ·revert ho iB;cases h:en t 0 j with
    | word w=>
     intro _ ho;have ho:o∈(if hm g i w=true then [(⟨.aG,0,[]⟩:Op)] else []):=ho
     split at ho
     ·rw [AR.mp ho] at he;cases he
     ·cases ho
    | pair a b=>
     intro OO ho;obtain⟨d,hd,rfl⟩:=Av.mp ho;obtain⟨h1,h2⟩:=Gb G hi ((zU g i).mem_iff.mp hd);rw [h] at gt;have he:e∈[(a,d.2.1),(b,d.2.2)]:=he;simp at he;rcases he with rfl | rfl
     ·exact gt _ _ OO.1 h1
     ·exact gt _ _ OO.2 h2
   ·obtain⟨u,hu,rfl⟩:=Av.mp ho;have he:e∈[(j,u)]:=he;rw [AR.mp he];exact gt2 u (G.dn i hi u hu)
 ·have em:(NN g ps (en t 0 j) i++Qd g ps i j).map (λo=>oP (o.cost (rg (T++[bZ g ps (rg T) (en t 0 j) i]))))=((NN g ps (en t 0 j) i++Qd g ps i j).map (Op.cost (rg (T++[bZ g ps (rg T) (en t 0 j) i])))).map oP:=by rw [AB];rfl
  rw [em];have et:∀l:List OI,uR (l.map oP)=.ret (l.map oP):=λl=>nn (IA _);simp only [et,gl,oD];have eD:Kn g ps (rg (T++[bZ g ps (rg T) (en t 0 j) i])) (en t 0 j) i=Kn g ps (rg T) (en t 0 j) i:=by
   revert iB;cases en t 0 j with
   | word w=>intro _;rfl
   | pair a b=>
    intro OO;refine BL λd _=>?_;unfold ql;rw [Jx (by rw [eT];exact OO.1),Jx (by rw [eT];exact OO.2)]
  have eS:(Qd g ps i j).map (Op.cost (rg (T++[bZ g ps (rg T) (en t 0 j) i])))=M9 g ps (bZ g ps (rg T) (en t 0 j) i) i:=by
   unfold Qd M9;rw [AB];refine BL λu _=>?_;show iE [am (ku g ps i),rg (T++[_]) j u]=_;rw [<- eT,QM]
  have ī:eQ ((NN g ps (en t 0 j) i++Qd g ps i j).map (Op.cost (rg (T++[bZ g ps (rg T) (en t 0 j) i]))))=eQ (Kn g ps (rg T) (en t 0 j) i++M9 g ps (bZ g ps (rg T) (en t 0 j) i) i):=by
   rw [AN,eS];refine u4 (List.Perm.append_right _ ?_);rw [<- eD];exact zB g ps _ _ i
  have em2:=Wn ((NN g ps (en t 0 j) i++Qd g ps i j).map (Op.cost (rg (T++[bZ g ps (rg T) (en t 0 j) i]))));simp only [ga] at em2;simp only [em2,gl];rw [ī];have ek:J1 (.tup [.int (j:Int),.int (i:Int)])=.ret (kk j i):=rfl;have gn:cI (ub 0 (T++[bZ g ps (rg T) (en t 0 j) i])) (kk j i)=bm:=aac _ _ _ λm n hm hn z=>by
   obtain⟨z1,z2⟩:=Hy z;rw [AG] at z1;subst z1 z2;rw [f6 ∅,eT,Ct] at hn;have hn:i < (bZ g ps (rg T) (en t 0 j) i).length:=hn;omega
  have hkl:(ub 0 (T++[bZ g ps (rg T) (en t 0 j) i])).length < sizeLine:=by
   rw [J0];have h1:∀x∈(T++[bZ g ps (rg T) (en t 0 j) i]).map BN,x<=300:=λx hx=>by
    obtain⟨r,hr,rfl⟩:=Av.mp hx;rcases A2.mp hr with hr | hr
    ·obtain⟨m,hm⟩:=CM hr;have ý:=(Al.mp hm).1;have:=Wd.row m ∅;rw [Ah,hm] at this;have:r.length=g.length:=this;omega
    ·rw [AR.mp hr];omega
   have h2:=UU h1;rw [Af,Ai,De,eT] at h2;have h3:(j+1)*300<=401*300:=E3 _ ∅;have h4:(401*300:Nat) < sizeLine:=by decide
   omega
  unfold Nq;simp only [ek,ga,nn hkl,QW gn,gl];rw [bZ,nZ,nZ,zX,ö,AG,AG,eT,Ay]
end My
variable {o:My.OI}{b v:Int}{l:List My.OI}{qs:List Int}
namespace My
open PySem PySem.Spec PyProof.Rows L2 PL FL
section
theorem nv (R:Nat->Nat->OI) (e:Ent):∀{k:Nat},i < k->(bZ g ps R e k).getD i bm=eQ (Kn g ps R e i++M9 g ps (bZ g ps R e i) i)
 | k+1,h=>by
  rw [bZ];by_cases c:i < k
  ·rw [iU (by rw [gj];exact c)];exact nv R e c
  ·have:i=k:=by omega
   subst this;rw [f6 (by rw [gj];exact An _),gj,Ct];rfl
theorem m8:∀{k:Nat},j < k->(a9 g ps es k).getD j []=bZ g ps (rg (a9 g ps es j)) (Pb es j) g.length
 | k+1,h=>by
  rw [a9];by_cases c:j < k
  ·rw [iU (by rw [gb];exact c)];exact m8 c
  ·have:j=k:=by omega
   subst this;rw [f6 (by rw [gb];exact An _),gb,Ct];rfl
theorem U6 (h:j<=k) {a x:Nat} (ha:a < j):rg (a9 g ps es j) a x=rg (a9 g ps es k) a x:=by
 unfold rg;rw [m8 ha,m8 (show a < k by omega)]
def LV {R':Nat->Nat->OI} (he:GC n e) (h:∀a x,a < n->R a x=R' a x):Kn g ps R e i=Kn g ps R' e i:=by
 cases e with
 | word w=>rfl
 | pair a b=>exact BL λd _=>by unfold ql;rw [h a _ he.1,h b _ he.2]
def stC (g:List Sy) (ps:List Int) (f:Nat->OI) (i:Nat):List OI:=(sy g i).un.map λu=>iE [am (ku g ps i),f u]
theorem YM (G:WG g ws) (hj:j < n) (hi:i < g.length) (he:GC j (Pb es j)):rg (a9 g ps es n) j i=eQ (Kn g ps (rg (a9 g ps es n)) (Pb es j) i++stC g ps (rg (a9 g ps es n) j) i):=by
 have e0:∀x,rg (a9 g ps es n) j x=(bZ g ps (rg (a9 g ps es j)) (Pb es j) g.length).getD x bm:=λx=>by unfold rg;rw [m8 hj];rfl
 rw [e0,nv _ _ hi,LV he λa x ha=>U6 (k:=n) ∅ ha];congr 2;refine BL λu hu=>?_;have hu:=G.dn i hi u hu;rw [e0,nv _ _ hu,nv _ _ (show u < g.length by omega)]
end
theorem HJ {P:Nat->Nat->Prop} (h:∀j i,j < n->i < m->(∀a x,a < j->x < m->P a x)->(∀u,u < i->P j u)->P j i):∀j i,j < n->i < m->P j i:=by
 intro j
 induction j using Cy with
 | ind j ihj=>
  intro i
  induction i using Cy with
  | ind i ihi=>exact λhj hi=>h j i hj hi (λa x ha hx=>ihj a ha x ∅ hx) λu hu=>ihi u hu hj ∅
def JU:v∈qR l↔am v∈l:=by
 unfold qR;rw [D3];exact⟨λ⟨o,h1,h2⟩=>by rw [id] at h2;rw [<- h2];exact h1,λh=>⟨_,h,rfl⟩⟩
def nN (h:am v∈l):∃m,eQ l=am m/\m<=v:=by
 have h:=JU.mpr h;unfold eQ;rw [if_neg (λz=>by rw [z] at h;cases h)];exact⟨_,rfl,qT h⟩
def si {m:Int} (h:eQ l=am m):am m∈l:=by
 unfold eQ at h
 split at h
 ·cases h
 ·next c=>
  cases h;exact JU.mp (nP c)
def sum2:iE [am a,am b]=am (a+b):=by simp [iE,qR]
def YD {c:Int}:iE [am a,am b,am c]=am (a+(b+c)):=by simp [iE,qR]
def Qz (h:iE [am a,o]=am v):∃b,o=am b/\v=a+b:=by
 cases o with
 | none=>simp [iE] at h
 | some b=>rw [sum2] at h;exact⟨b,rfl,(Option.some.inj h).symm⟩
def Qy {p:OI} (h:iE [am a,o,p]=am v):∃b c,o=am b/\p=am c/\v=a+(b+c):=by
 cases o with
 | none=>simp [iE] at h
 | some b=>cases p with
  | none=>simp [iE] at h
  | some c=>rw [YD] at h;exact⟨b,c,rfl,rfl,(Option.some.inj h).symm⟩
section
def Pa (h:j < t.size):Pb (t.nd 0) j=en t 0 j:=by unfold Pb;rw [Ah,gm t 0 j h];rfl
def vT (G:WG g ws) (ps:List Int) (hj:j < t.size) (hi:i < g.length):rg (a9 g ps (t.nd 0) t.size) j i=eQ (Kn g ps (rg (a9 g ps (t.nd 0) t.size)) (en t 0 j) i++stC g ps (rg (a9 g ps (t.nd 0) t.size) j) i):=by
 have:=YM (es:=t.nd 0) (ps:=ps) G hj hi (by rw [Pa hj];exact Pg t hj);rw [Pa hj] at this;exact this
def tab_of (G:WG g ws) (hj:j < t.size) (hi:i < g.length) (h:rg (a9 g ps (t.nd 0) t.size) j i=am v) :
  (∃w,en t 0 j=.word w/\hm g i w=true/\v=0)\/(∃a b d x y,en t 0 j=.pair a b/\d∈dl g i/\rg (a9 g ps (t.nd 0) t.size) a d.2.1=am x/\rg (a9 g ps (t.nd 0) t.size) b d.2.2=am y/\v=Ny ps d.1+(x+y))\/∃u x,u∈(sy g i).un/\rg (a9 g ps (t.nd 0) t.size) j u=am x/\v=ku g ps i+x:=by
 rw [vT G ps hj hi] at h;rcases A2.mp (si h) with h | h
 ·cases e:en t 0 j with
  | word w=>
   rw [e] at h;have h:am v∈(if hm g i w=true then [am 0] else []):=h
   split at h
   ·next c=>exact .inl ⟨w,rfl,c,Option.some.inj (AR.mp h)⟩
   ·cases h
  | pair a b=>
   rw [e] at h;obtain⟨d,hd,h⟩:=Av.mp h;obtain⟨x,y,h1,h2,h3⟩:=Qy h;exact .inr (.inl ⟨a,b,d,x,y,rfl,hd,h1,h2,h3⟩)
 ·obtain⟨u,hu,h⟩:=Av.mp h;obtain⟨x,h1,h2⟩:=Qz h;exact .inr (.inr ⟨u,x,hu,h1,h2⟩)
def yZ (G:WG g ws) (ps:List Int) {w:Str} (hj:j < t.size) (hi:i < g.length) (e:en t 0 j=.word w) (h:hm g i w=true):∃m,rg (a9 g ps (t.nd 0) t.size) j i=am m/\m<=0:=by
 rw [vT G ps hj hi,e];refine nN (Ci _ ?_);show am 0∈(if hm g i w=true then [am 0] else []);rw [if_pos h];exact .head _
def y7 (G:WG g ws) (ps:List Int) {a b:Nat}{x y:Int} (hj:j < t.size) (hi:i < g.length) (e:en t 0 j=.pair a b) (hd:d∈dl g i) (h1:rg (a9 g ps (t.nd 0) t.size) a d.2.1=am x) (h2:rg (a9 g ps (t.nd 0) t.size) b d.2.2=am y):∃m,rg (a9 g ps (t.nd 0) t.size) j i=am m/\m<=Ny ps d.1+(x+y):=by
 rw [vT G ps hj hi,e];refine nN (Ci _ (Av.mpr ⟨d,hd,?_⟩));unfold ql;rw [h1,h2,YD]
def y6 (G:WG g ws) (ps:List Int) {x:Int} (hj:j < t.size) (hi:i < g.length) (hu:u∈(sy g i).un) (h1:rg (a9 g ps (t.nd 0) t.size) j u=am x):∃m,rg (a9 g ps (t.nd 0) t.size) j i=am m/\m<=ku g ps i+x:=by
 rw [vT G ps hj hi];refine nN (AQ _ (Av.mpr ⟨u,hu,?_⟩));rw [h1,sum2]
theorem Qw (G:WG g ws) (ps:List Int) (hj:j < t.size) (r:Qj g i k):i < g.length->∀{x},rg (a9 g ps (t.nd 0) t.size) j k=am x->∃m,rg (a9 g ps (t.nd 0) t.size) j i=am m:=by
 induction r with
 | refl=>intro _ x h;exact⟨x,h⟩
 | step hu r ih=>
  intro hi x h;obtain⟨y,hy⟩:=ih (by have:=G.dn _ hi _ hu;omega) h;obtain⟨m,hm,_⟩:=y6 G ps hj hi hu hy;exact⟨m,hm⟩
theorem Qv (G:WG g ws) (ps:List Int) (hw:∀w∈t.ax,w∈ws):∀j,j < t.size->∃m,rg (a9 g ps (t.nd 0) t.size) j (g.length-1)=am m:=by
 have hp:=G.pos;intro j
 induction j using Cy with
 | ind j ih=>
  intro hj;cases e:en t 0 j with
  | word w=>
   obtain⟨i,hi,hr,hh⟩:=G.adQ w (hw w (xS t 0 j w hj e));obtain⟨m,hm,_⟩:=yZ G ps hj hi e hh;exact Qw G ps hj hr ∅ hm
  | pair a b=>
   obtain⟨h1,h2⟩:=dh t hj e;obtain⟨x,hx⟩:=ih a h1 ∅;obtain⟨y,hy⟩:=ih b h2 ∅;obtain⟨m,hm,_⟩:=y7 G ps hj (show g.length-1 < g.length by omega) e (d:=dbl (g.length-1)) (.head _) hx hy;exact⟨m,hm⟩
def K6 (h:∀k,ps.getD k 0<=qs.getD k 0) (i:Nat):ku g ps i<=ku g qs i:=by
 unfold ku
 split
 ·exact h 3
 ·exact BF _
theorem MK (G:WG g ws) (h:∀k,ps.getD k 0<=qs.getD k 0):∀j i,j < t.size->i < g.length->∀v,rg (a9 g qs (t.nd 0) t.size) j i=am v->∃m,rg (a9 g ps (t.nd 0) t.size) j i=am m/\m<=v:=HJ λj i hj hi Mj R8 v hv=>by
 rcases tab_of G hj hi hv with⟨w,e,hh,rfl⟩ | ⟨a,b,d,x,y,e,hd,h1,h2,rfl⟩ | ⟨u,x,hu,h1,rfl⟩
 ·exact yZ G ps hj hi e hh
 ·obtain⟨k1,k2⟩:=dh t hj e;obtain⟨l1,l2⟩:=Gb G hi hd;obtain⟨x',hx,lx⟩:=Mj a _ k1 l1 x h1;obtain⟨y',hy,ly⟩:=Mj b _ k2 l2 y h2;obtain⟨m,hm,lm⟩:=y7 G ps hj hi e hd hx hy;exact⟨m,hm,by have:=h (Pu d.1);unfold Ny at *;omega⟩
 ·obtain⟨x',hx,lx⟩:=R8 u (G.dn i hi u hu) x h1;obtain⟨m,hm,lm⟩:=y6 G ps hj hi hu hx;exact⟨m,hm,by have:=K6 (g:=g) h i;omega⟩
theorem UN (G:WG g ws) (h:∀k,0<=ps.getD k 0):∀j i,j < t.size->i < g.length->∀v,rg (a9 g ps (t.nd 0) t.size) j i=am v->0<=v:=HJ λj i hj hi Mj R8 v hv=>by
 have h3:0<=ku g ps i:=by unfold ku;split;exact h 3;exact BF _
 rcases tab_of G hj hi hv with⟨w,e,hh,rfl⟩ | ⟨a,b,d,x,y,e,hd,h1,h2,rfl⟩ | ⟨u,x,hu,h1,rfl⟩
 ·exact BF _
 ·obtain⟨k1,k2⟩:=dh t hj e;obtain⟨l1,l2⟩:=Gb G hi hd;have:=Mj a _ k1 l1 x h1;have:=Mj b _ k2 l2 y h2;have:=h (Pu d.1);unfold Ny;omega
 ·have:=R8 u (G.dn i hi u hu) x h1;omega
theorem UM (G:WG g ws) (h:∀k,ps.getD k 0<=0):∀j i,j < t.size->i < g.length->∀v,rg (a9 g ps (t.nd 0) t.size) j i=am v->v<=0:=HJ λj i hj hi Mj R8 v hv=>by
 have h3:ku g ps i<=0:=by unfold ku;split;exact h 3;exact BF _
 rcases tab_of G hj hi hv with⟨w,e,hh,rfl⟩ | ⟨a,b,d,x,y,e,hd,h1,h2,rfl⟩ | ⟨u,x,hu,h1,rfl⟩
 ·exact BF _
 ·obtain⟨k1,k2⟩:=dh t hj e;obtain⟨l1,l2⟩:=Gb G hi hd;have:=Mj a _ k1 l1 x h1;have:=Mj b _ k2 l2 y h2;have:=h (Pu d.1);unfold Ny;omega
 ·have:=R8 u (G.dn i hi u hu) x h1;omega
end
def fK (g:List Sy) (ps:List Int) (t:Tr):List OI:=(a9 g ps (t.nd 0) t.size).getD (t.size-1) []
section
theorem lA:(fK g ps t).length=g.length:=(iD g ps (t.nd 0) t.size).row _ (by have:=t.size_pos;omega)
theorem zW (i:Nat):(fK g ps t).getD i bm=rg (a9 g ps (t.nd 0) t.size) (t.size-1) i:=rfl
def nY:am v∈fK g ps t↔∃i,i < g.length/\rg (a9 g ps (t.nd 0) t.size) (t.size-1) i=am v:=by
 constructor
 ·intro h;obtain⟨i,hi⟩:=CM h;refine⟨i,by have:=(Al.mp hi).1;rw [lA] at this;exact this,?_⟩;rw [<- zW,Ah,hi];rfl
 ·rintro⟨i,hi,h⟩;rw [<- zW,Ah,Ad (by rw [lA];exact hi)] at h;have h:(fK g ps t)[i]'(by rw [lA];exact hi)=am v:=h;rw [<- h];exact Cp _
theorem least_le (G:WG g ws) (p4:ps.length=4) (hz:t.size<=400):(gV (lE g) t.pv (.tup (bb ps))).le (.ret (oP (eQ (fK g ps t)))):=λQ q=>by
 unfold gV;simp only [ga,cr];refine W.le.use (MJ G p4 hz) ?_;have hp:=t.size_pos;have hl:=gb g ps (t.nd 0) t.size;have hx:dq (rP (a9 g ps (t.nd 0) t.size)) (-1)=am (.tup ((fK g ps t).map oP)):=by
  unfold dq uB;have e:(rP (a9 g ps (t.nd 0) t.size)).length=t.size:=by unfold rP;rw [Af,hl]
  rw [e,if_neg ∅,if_pos ∅];show (rP (a9 g ps (t.nd 0) t.size))[(-1+(t.size:Int)).toNat]?=_;rw [show (-1+(t.size:Int)).toNat=t.size-1 by omega];unfold rP fK;rw [Ak,Ad ∅,Ah,Ad ∅];rfl
 simp only [aF,gl,Ic,cf,hx,wS,yo];exact q
theorem jq (G:WG g ws) (hw:∀w∈t.ax,w∈ws):∃m,eQ (fK g ps t)=am m:=by
 have hp:=t.size_pos;have hg:=G.pos;obtain⟨v,hv⟩:=Qv G ps hw (t.size-1) ∅;obtain⟨m,hm,_⟩:=nN (nY.mpr ⟨g.length-1,by omega,hv⟩);exact⟨m,hm⟩
theorem Hv (G:WG g ws) (h:∀k,ps.getD k 0<=qs.getD k 0) (ha:eQ (fK g ps t)=am a) (hb:eQ (fK g qs t)=am b):a<=b:=by
 have hp:=t.size_pos;obtain⟨i,hi,hv⟩:=nY.mp (si hb);obtain⟨m,hm,lm⟩:=MK G h (t.size-1) i ∅ hi b hv;obtain⟨m',hm',lm'⟩:=nN (nY.mpr ⟨i,hi,hm⟩);rw [ha] at hm';cases hm';omega
theorem Hu (G:WG g ws) (h:∀k,ps.getD k 0=0) (ha:eQ (fK g ps t)=am a):a=0:=by
 have hp:=t.size_pos;obtain⟨i,hi,hv⟩:=nY.mp (si ha);have:=UN G (λk=>by rw [h k];exact BF _) (t.size-1) i ∅ hi a hv;have:=UM G (λk=>by rw [h k];exact BF _) (t.size-1) i ∅ hi a hv;omega
theorem W5 (G:WG g ws) (p4:ps.length=4) (hz:t.size<=400) {m:Int} (hm:eQ (fK g ps t)=am m):(gs (lE g) (.cl ((t.nd 0).map Ent.pv)) (.tup (bb ps))).le (.ret (.int m)):=λQ q=>by
 unfold gs;have hp:=t.size_pos;have hg:=G.len;have el:qa dR [lE g]=.ret (.int (g.length:Int)):=by simp [lE]
 have Wd:=iD g ps (t.nd 0) t.size;simp only [ga,cr];refine W.le.use (N9 G p4 hz) ?_;simp only [el,gl,df,nn (bp (i:=0) (j:=(g.length:Int)) ∅ ∅),Ba,fe,dX,tu,ga];rw [iR];refine e7 (λi=>oP (rg (a9 g ps (t.nd 0) t.size) (t.size-1) i)) (λi hi Q q=>?_) ?_
 ·have hi:=AY.mp hi;have:=q8 (a9 g ps (t.nd 0) t.size) 0 (t.size-1) i (by rw [Wd.len];omega) (by rw [Wd.row _ ∅];exact hi);rw [AG] at this;have e:((t.size:Int)-1)=((t.size-1:Nat):Int):=by omega
  rw [e];exact rf (k:=kk (t.size-1) i) this q
 ·have er:(Az g.length).map (λi=>oP (rg (a9 g ps (t.nd 0) t.size) (t.size-1) i))=(fK g ps t).map oP:=by
   apply B3;intro i;have hl:=lA (g:=g) (ps:=ps) (t:=t);by_cases hi:i < g.length
   ·rw [Ak,Bv hi,Ak,Ad ∅];show am (oP ((fK g ps t).getD i bm))=_;rw [Ah,Ad ∅];rfl
   ·rw [AI (by rw [Af,CI];omega),AI (by rw [Af,hl];omega)]
  rw [er];have c:qR (fK g ps t)≠[]:=λz=>by unfold eQ at hm;rw [if_pos z] at hm;cases hm
  have e2:nQ (qR (fK g ps t))=m:=by unfold eQ at hm;rw [if_neg c] at hm;exact Option.some.inj hm
  simp only [bG,gl,oD,sj,eW,ga,nn c,e2];exact q
def zi (G:WG g ws) (hw:∀w∈t.ax,w∈ws) (p4:ps.length=4) (hz:t.size<=400):(c9 (lE g) t.pv (.cl ((t.nd 0).map Ent.pv)) (.tup (bb ps))).le (.ret (.bl true)):=λQ q=>by
 unfold c9;obtain⟨m,hm⟩:=jq (ps:=ps) G hw;simp only [ga,cr];refine W.le.use (least_le G p4 hz) ?_;have b1:ig .bool (.int m)=.ret (.bl false):=rfl;have Ą:ig .int (.int m)=.ret (.bl true):=rfl;simp only [hm,oP,b1,Ą,ga,dc,CB,Au,if_false,gl,cr];refine W.le.use (W5 G p4 hz hm) ?_;simp only [gF,gl,beq_self_eq_true];exact q
end
theorem law27_ok:∀ns:List Int,ns.length<=63->(nT (.cl (ns.map PV.int))).run (·=.bl true):=by
 intro ns hn;unfold nT;obtain⟨m,hm,m0,m1⟩:∃m:Nat,(ap ((PV.int 1)\λx3=>ap ((PV.int 3)\λx1=>ap (c1 dR (bd (PV.cl (ns.map PV.int)))) λx2=>qa L8 [x1,x2]) λx4=>qa L9 [x3,x4]) fo)=.ret (gX 0 m)/\1<=m/\m<=3:=by
  simp only [ga,fe,Af,WV,WW];generalize hx:(if (if (ns.length:Int) < 3 then (ns.length:Int) else 3) > 1 then (if (ns.length:Int) < 3 then (ns.length:Int) else 3) else 1)=x;have h1:1<=x/\x<=3:=by rw [<- hx];split <;> split <;> omega
  refine⟨x.toNat,?_,by omega,by omega⟩;rw [df,nn (bp ∅ ∅)]
 rw [hm];simp only [ga,cr];refine FZ (λ_ s=>s=()) rfl (λk s hk hs=>?_) (λs hs=>rfl);refine OM ∅ ∅ λl hl=>?_;refine⟨hl,?_⟩;simp only [ga,cr,gl,de 4 ⋯ ⋯];refine bB λd d0 d1=>?_;obtain⟨n,m,hs,n0,n1,m0,m1⟩:∃n m:Int,dq [PV.tup [.int 5,.int 6],.tup [.int 5,.int 6],.tup [.int 8,.int 6],.tup [.int 8,.int 10]] d=am (.tup [.int n,.int m])/\0 < n/\n<=8/\0 < m/\m<=10:=by
  have:d=0\/d=1\/d=2\/d=3:=by omega
  rcases this with rfl | rfl | rfl | rfl
  ·exact⟨5,6,rfl,by decide⟩
  ·exact⟨5,6,rfl,by decide⟩
  ·exact⟨8,6,rfl,by decide⟩
  ·exact⟨8,10,rfl,by decide⟩
 have s0:dq [PV.int n,PV.int m] 0=am (.int n):=rfl;have s1:dq [PV.int n,PV.int m] 1=am (.int m):=rfl;simp only [cf,hs,wS,gl,aF,s0,s1];refine PC n0 n1 m0 m1 λg ws t ps G hw tl p4 p0=>?_;have hz:t.size<=400:=by have:=t.size_eq;omega
 simp only [O5,gl];refine W.le.use (zi G hw p4 hz) ?_;simp only [dc,gl,CB,Au,if_false,cr];obtain⟨z,hz0⟩:=jq (ps:=[0,0,0,0]) G hw;have z0:z=0:=Hu G (λk=>by
  match k with
  | 0=>rfl
  | 1=>rfl
  | 2=>rfl
  | 3=>rfl
  | k+4=>simp) hz0
 subst z0;have e4:PV.tup [.int 0,.int 0,.int 0,.int 0]=.tup (bb [0,0,0,0]):=rfl;rw [e4];refine W.le.use (least_le G rfl hz) ?_;simp only [hz0,oP,O8,gl,bC,beq_self_eq_true,CB,Au,if_false,cr,df,nn (bp (i:=0) (j:=4) ∅ ∅)];refine FZ (n:=4) (λ_ s=>s=()) rfl (λa s ha _=>?_) (λs _=>trivial);have hpa:=Kq p4 ha;have pa0:0<=ps.getD a 0:=by
  rw [Ah,Ad ∅];exact p0 _ (Cp _)
 let qs:List Int:=(Az 4).map λo=>ps.getD a 0*(if a=o then 1 else 0)
 have q4:qs.length=4:=rfl;have qle:∀k,qs.getD k 0<=ps.getD k 0:=λk=>by
  by_cases hk:k < 4
  ·have e:qs.getD k 0=ps.getD a 0*(if a=k then 1 else 0):=by
    show ((Az 4).map λo=>ps.getD a 0*(if a=o then 1 else 0)).getD k 0=_;rw [Ah,Ak,Bv hk];rfl
   rw [e];by_cases c:a=k
   ·subst c;rw [if_pos rfl];omega
   ·rw [if_neg c,Int.mul_zero,Ah,Ad ∅];exact p0 _ (Cp _)
  ·rw [Ah,AI ∅,Ah,AI ∅];exact BF _
 have i4:gX 0 (Int.toNat 4)=aP (Az 4):=iR 4;simp only [ga,cr,aF,i4];refine e7 (λo=>.int (ps.getD a 0*(if a=o then 1 else 0))) (λo ho Q q=>?_) ?_
 ·simp only [cf,hpa,wS,ga,gF,Kf,Ie,W.Jv,gl];by_cases c:a=o
  ·subst c;simp only [beq_self_eq_true,if_true] at q ⊢;exact⟨mulR ∅,q⟩
  ·have c2:(((a:Nat):Int)==(o:Int))=false:=by simp;omega
   simp only [c2,Au,if_false,c] at q ⊢;exact⟨mulR ∅,q⟩
 ·have eq:(Az 4).map (λo=>PV.int (ps.getD a 0*(if a=o then 1 else 0)))=bb qs:=by
   show _=E4 _ (E4 _ _);rw [AB];rfl
  rw [eq];simp only [O6,gl];refine W.le.use (zi G hw q4 hz) ?_;simp only [dc,gl,CB,Au,if_false,cr];refine W.le.use (least_le G q4 hz) ?_;refine W.le.use (least_le G p4 hz) ?_;obtain⟨x,hx⟩:=jq (ps:=qs) G hw;obtain⟨y,hy⟩:=jq (ps:=ps) G hw;have:=Hv G qle hx hy;have c:¬x > y:=by omega
  simp only [hx,hy,oP,aau,gl,c,decide_false,bC,Au,if_false]
end My
variable {Jf y8 MN Jh Jg MM uS MP:PySem.Tok}{rj:BC}
namespace My
section
open PySem PySem.Spec PyProof.Rows L2 PL FL
def top (i:Nat):ss:=PySem.Challenge.pw_treewithin_k27_least_costs.main.body.getD i (.Pass ⟨0,0,0,0⟩)
def gN:ao ["tree","backward","waiting","part"] ["tree"] (af (top 1)):=gE
def iG:ao ["tree","told","loose","part","other","one"] ["tree"] (af (top 2)):=gE
def KW:ao ["node"] ["node"] (af (top 3)):=gE
abbrev t6:List Str:=["tree","told","node","ahead","number","half"]
def dW:ao t6 ["tree"] (af (top 4)):=gE
abbrev sG:pr:=qb [("node",lo)]
def mh:aw (af (top 4)) t6 sG ["node"] [bm]:=lcs
def zd:ao ["stays","stay"] ["stays","stay"] (af (top 9)):=gE
def v8:ao ["stays","stay"] ["stays","stay"] (af (top 10)):=gE
def G5:ao ["stays","stay","word"] ["stays","stay","word"] (af (top 11)):=gE
def G4:ao ["houses","house"] ["houses","house"] (af (top 12)):=gE
abbrev tZ:List Str:=["great","ahead","house","lines","above"]
def fm:ao tZ ["great"] (af (top 13)):=gE
abbrev sC:pr:=qb [("house",lo)]
def ma:aw (af (top 13)) tZ sC ["house"] [bm]:=lcs
abbrev oU:List Str:=["lines","house"]
def uk:ao oU ["lines","house"] (af (top 14)):=gE
abbrev pD:pr:=qb [("far",lo),("house",fr),("lines",fr)]
def jW:aw (af (top 14)) oU pD ["far","house","lines"] [bm,am 1,am 0]:=lcs
abbrev GB:List Str:=["great","houses","lines"]
def ph:ao GB ["great"] (af (top 15)):=gE
abbrev wG:pr:=qb [("house",lo),("name_of",gi),("halves",gi),("apart_from",gi),("houses",fr),("lines",fr)]
def qd:aw (af (top 15)) GB wG ["house","houses","lines"] [bm,am 1,am 2]:=lcs
def nk:ao ["ground","stay","under"] ["ground","stay"] (af (top 22)):=gE
abbrev mW:List Str:=["ground","stay","beside"]
def pY:ao mW ["ground","stay"] (af (top 23)):=gE
abbrev sA:pr:=qb [("far",lo),("stay",fr)]
abbrev su:pr:=qb [("far",lo),("stay",fr)]
def lZ:aw (af (top 23)) mW sA ["far","stay"] [bm,am 1]:=lcs
def lY:aw (af (top 23)) mW su ["far","stay"] [bm,am 1]:=lcs
abbrev mX:List Str:=["ground","node","stay","split","over"]
def kn:ao mX ["ground","node","stay"] (af (top 24)):=gE
abbrev sE:pr:=qb [("ins",lo),("SPLIT",gi)]
abbrev sD:pr:=qb [("ins",lo),("OVER",gi)]
def me:aw (af (top 24)) mX sE ["ins"] [bm]:=lcs
def md:aw (af (top 24)) mX sD ["ins"] [bm]:=lcs
def KU:ao ["costs"] ["costs"] (af (top 27)):=gE
abbrev t4:List Str:=["costs"]
def zg:ao t4 ["costs"] (af (top 28)):=gE
abbrev sF:pr:=qb [("cost",lo)]
def mf:aw (af (top 28)) t4 sF ["cost"] [bm]:=lcs
def zf:ao ["prices","deed"] ["prices","deed"] (af (top 29)):=gE
abbrev qo:List Str:=["prices","rows","node","deed","onward"]
def nr:ao qo ["prices","rows","node","deed"] (af (top 30)):=gE
abbrev qw:pr:=qb [("half",lo),("stay",lo),("rows",fr)]
def gz:aw (af (top 30)) qo qw ["half","stay","rows"] [bm,bm,am 1]:=lcs
abbrev oT:List Str:=["ground","prices","rows","node","stay"]
def uj:ao oT ["ground","prices","rows","node","stay"] (af (top 31)):=gE
abbrev pC:pr:=qb [("deed",lo),("deed_cost",gi),("node",fr),("prices",fr),("rows",fr)]
def jV:aw (af (top 31)) oT pC ["deed","node","prices","rows"] [bm,am 3,am 1,am 2]:=lcs
def v5:ao ["ground","prices","stay"] ["ground","prices","stay"] (af (top 32)):=gE
abbrev oS:List Str:=["ground","prices","row","stay","own"]
def lU:ao oS ["ground","prices","row","stay"] (af (top 33)):=gE
abbrev pB:pr:=qb [("below",lo),("summed",gi),("own",fr),("row",fr)]
def jU:aw (af (top 33)) oS pB ["below","own","row"] [bm,am 4,am 2]:=lcs
def lg:ao ["ground","prices","rows","node","row","stay","costs"] ["ground","prices","rows","node"] (af (top 34)):=gE
def rN:ao ["ground","small","prices","rows","node"] ["ground","small","prices"] (af (top 35)):=gE
def M8:ao ["ground","small","prices"] ["ground","small","prices"] (af (top 36)):=gE
abbrev mx:List Str:=["houses","dates"]
def rO:ao mx ["houses","dates"] (af (top 38)):=gE
abbrev nU:pr:=qb [("house",lo),("date",lo),("isinstance",gi),("str",gi)]
def eV:aw (af (top 38)) mx nU ["house","date"] [bm,bm]:=lcs
def cR:ao ["great","dates","begins","ahead","pairs","number","begin","house","date"] ["great","dates","begins"] (af (top 39)):=gE
abbrev pT:List Str:=["houses","dates","begins","numbers","pair","house","layer","goes_on","below","under","beside"]
def dM:ao pT ["houses","dates","begins","numbers","pair"] (af (top 40)):=gE
abbrev uv:pr:=qb [("each",lo),("layer",fr),("numbers",fr)]
abbrev ur:pr:=qb [("far",lo),("house",fr),("layer",fr),("numbers",fr)]
def nW:aw (af (top 40)) pT uv ["each","layer","numbers"] [bm,am 6,am 3]:=lcs
def nV:aw (af (top 40)) pT ur ["far","house","layer","numbers"] [bm,am 5,am 6,am 3]:=lcs
abbrev yO:List Str:=["great","dates","houses","begins","pairs","numbers"]
def ko:ao yO ["great","dates"] (af (top 41)):=gE
abbrev zP:pr:=qb [("number",lo),("pair",lo)]
abbrev zO:pr:=qb [("pair",lo),("stay_of",gi),("begins",fr),("dates",fr),("houses",fr),("numbers",fr)]
def mG:aw (af (top 41)) yO zP ["number","pair"] [bm,bm]:=lcs
def sJ:aw (af (top 41)) yO zO ["pair","begins","dates","houses","numbers"] [bm,am 3,am 1,am 2,am 5]:=lcs
def jd:ao ["_law_script","_law_k","_law_cell","_law_great_here"] ["_law_script","_law_k"] (af (top 43)):=gE
def nt:ao ["_law_hand_here","_law_many","_law_digit"] ["_law_hand_here","_law_many"] (af (top 44)):=gE
def v9:ao ["_law_hand_here","_law_some"] ["_law_hand_here","_law_some"] (af (top 45)):=gE
abbrev oV:List Str:=["_law_hand_here","_law_many","_law_letters","_law_first","_law_turn","_law_tail"]
def du:ao oV ["_law_hand_here","_law_many"] (af (top 46)):=gE
abbrev pE:pr:=qb [("_law_k",lo),("_law_first",fr),("_law_letters",fr),("_law_tail",fr),("_law_turn",fr)]
def jX:aw (af (top 46)) oV pE ["_law_k","_law_first","_law_letters","_law_tail","_law_turn"] [bm,am 3,am 2,am 5,am 4]:=lcs
def bX:ao ["_law_hand_here","_law_some","_law_turn","_law_one","_law_at","_law_pair"] ["_law_hand_here","_law_some"] (af (top 47)):=gE
def lX:ao ["_law_hand_here","_law_most","_law_words_here"] ["_law_hand_here","_law_most"] (af (top 48)):=gE
abbrev oX:List Str:=["_law_hand_here","_law_words_here","_law_most","_law_some"]
def lV:ao oX ["_law_hand_here","_law_words_here","_law_most"] (af (top 49)):=gE
abbrev pG:pr:=qb [("_law_k",lo),("_law_pick",gi),("_law_hand_here",fr),("_law_words_here",fr)]
def jZ:aw (af (top 49)) oX pG ["_law_k","_law_hand_here","_law_words_here"] [bm,am 0,am 1]:=lcs
def dw:ao ["_law_tree","_law_one","_law_other","_law_shifted","_law_node"] ["_law_tree"] (af (top 50)):=gE
abbrev oY:List Str:=["_law_hand_here","_law_great_here","_law_houses","_law_found","_law_date","_law_at","_law_waiting","_law_turn","_law_free"]
def a8:ao oY ["_law_hand_here","_law_great_here"] (af (top 51)):=gE
abbrev pJ:pr:=qb [("_law_at",lo),("_law_house",lo),("isinstance",gi),("str",gi)]
def fH:aw (af (top 51)) oY pJ ["_law_at","_law_house"] [bm,bm]:=lcs
def um:ao ["_law_hand_here","_law_great_here"] ["_law_hand_here","_law_great_here"] (af (top 52)):=gE
def cS:ao ["_law_hand_here","_law_found","_law_k","_law_some"] ["_law_hand_here"] (af (top 53)):=gE
def bf:ao ["_law_stays_here","_law_told","_law_node","_law_at","_law_name","_law_piece","_law_under","_law_beside","_law_one","_law_other","_law_found","_law_to"] ["_law_stays_here","_law_told","_law_node","_law_at"] (af (top 54)):=gE
abbrev oW:List Str:=["_law_stays_here","_law_node","_law_at","_law_under","_law_place"]
def hZ:ao oW ["_law_stays_here","_law_node","_law_at"] (af (top 55)):=gE
abbrev pF:pr:=qb [("_law_below",lo),("_law_node",fr),("_law_place",fr)]
def jY:aw (af (top 55)) oW pF ["_law_below","_law_node","_law_place"] [bm,am 1,am 4]:=lcs
def e6:ao ["_law_prices_here","_law_known_here","_law_option","_law_total","_law_entry"] ["_law_prices_here","_law_known_here","_law_option"] (af (top 56)):=gE
abbrev jS:List Str:=["_law_stays_here","_law_told","_law_prices_here","_law_known_here","_law_node","_law_at","_law_some","_law_costs"]
def bz:ao jS ["_law_stays_here","_law_told","_law_prices_here"] (af (top 57)):=gE
abbrev pI:pr:=qb [("_law_option",lo),("_law_worth",gi),("_law_known_here",fr),("_law_prices_here",fr)]
abbrev pH:pr:=qb [("_law_cost",lo)]
def j5:aw (af (top 57)) jS pI ["_law_option","_law_known_here","_law_prices_here"] [bm,am 3,am 2]:=lcs
def j3:aw (af (top 57)) jS pH ["_law_cost"] [bm]:=lcs
def d7:ao ["_law_hand_here","_law_great_most","_law_small_most","_law_great_here","_law_words_here","_law_stays_here","_law_small_here"] ["_law_hand_here","_law_great_most","_law_small_most"] (af (top 58)):=gE
abbrev mY:List Str:=["_law_stays_here","_law_told","_law_prices_here","_law_known_here","_law_costs"]
def kq:ao mY ["_law_stays_here","_law_told","_law_prices_here"] (af (top 59)):=gE
abbrev sI:pr:=qb [("_law_at",lo),("len",gi),("_law_known_here",fr),("_law_told",fr)]
abbrev sH:pr:=qb [("_law_cost",lo)]
def mj:aw (af (top 59)) mY sI ["_law_at","_law_known_here","_law_told"] [bm,am 3,am 1]:=lcs
def mi:aw (af (top 59)) mY sH ["_law_cost"] [bm]:=lcs
def lW:ao ["_law_stays_here","_law_small_here","_law_told","_law_prices_here","_law_found"] ["_law_stays_here","_law_small_here","_law_told","_law_prices_here"] (af (top 60)):=gE
abbrev Uv:List Str:=["_law_script","_law_k","_law_hand_here","_law_sizes","_law_stays_here","_law_small_here","_law_told","_law_prices_here","_law_at","_law_alone"]
def hX:ao Uv ["_law_script"] (af (top 61)):=gE
abbrev Lj:pr:=qb [("_law_one",lo),("int",gi),("_law_at",fr),("_law_prices_here",fr)]
def zV:aw (af (top 61)) Uv Lj ["_law_one","_law_at","_law_prices_here"] [bm,am 8,am 7]:=lcs
structure NB (v:EV):Prop where
 isinstance:v.mg "isinstance"=bm
 str:v.mg "str"=bm
 list:v.mg "list"=bm
 reversed:v.mg "reversed"=bm
 len:v.mg "len"=bm
 tuple:v.mg "tuple"=bm
 enumerate:v.mg "enumerate"=bm
 range:v.mg "range"=bm
 sorted:v.mg "sorted"=bm
 sum:v.mg "sum"=bm
 min:v.mg "min"=bm
 zip:v.mg "zip"=bm
 dict:v.mg "dict"=bm
 abs:v.mg "abs"=bm
 int:v.mg "int"=bm
 bool:v.mg "bool"=bm
 max:v.mg "max"=bm
variable {v:EV}
abbrev mN:DF:=⟨"parts_of",top 1,["tree"],1,λK=>fj K [.v] (ck 1 jm)⟩
def HC (D:DI v mN) (q:NB v):D.O:=
 VX (m:=jm) D gN λcK _ _ _ _ _ _ hr=>
 (sl 1 gN.nd (aU (n:=0) ai rfl) λmV=>
 (sl 2 gN.nd (aU (n:=1) (aa (ae 0) ai) rfl) λo4=>
 (SF.Yd (hd:=(λ(s4:List PV×List PV)=>([am (.val cK),am (.ol bm s4.1),am (.ol bm s4.2),bm]:bg))) (s0:=(mV,o4)) AJ (.refl _) (λs4=>(Yj rfl (cm 2) (λ_=>rfl))) (λs4=>
 (SF.Ha 2 3 rfl ⋯ rfl rfl (.inl rfl) gN.nd rfl (C0 rfl) λt7=>
 (SF.append 1 rfl rfl rfl (.inl rfl) (ae 3) λmU=>
 (SF.ifT (rJ (fJ rfl (j8 rfl .str rfl q.isinstance (ae 3) rfl q.str xz) (λ_=>rfl)))
 (SF.extend 2 rfl rfl rfl (.inl rfl) (aA (ae 3)) λrE=>
 (SF.gk rfl (.keep (.keep (.keep (.drop (.refl _)))))))
 (SF.gk rfl (.keep (.keep (.keep (.drop (.refl _)))))))))) λs4=>
 (SF.gP (Zt rfl rfl rfl q.list rfl q.reversed (Np 1)) λ_=>rfl))))
abbrev lJ:DF:=⟨"nodes",top 2,["tree"],2,λK=>gh K [.v] (ck 1 gU)⟩
def RT (D:DI v lJ) (q:NB v) (HX:mN.C v):D.O:=
 qt (m:=gU) D iG λcK _ _ _ _ _ _ hr=>
 (sl 1 iG.nd (aU (n:=0) ai rfl) λi7=>
 (sl 2 iG.nd (aU (n:=0) ai rfl) λwH=>
 (SF.qD (hd:=(λ(s4:List PV×List PV)=>([am (.val cK),am (.ol bm s4.1),am (.ol bm s4.2),bm,bm,bm]:bg))) (s0:=(i7,wH)) AJ rfl (bS rfl (J4 (lC HX hr (aa (ae 0) ai)))) (.refl _) (dr 3 iG.nd) (λs4 wx=>
 (SF.ifS (out1:=λ(U2:List PV×List PV)=>.nx ([am (.val cK),am (.ol bm U2.1),am (.ol bm U2.2),am (.val wx),bm,bm]:bg)) (fJ rfl (j8 rfl .str rfl q.isinstance (ae 3) rfl q.str xz) (λ_=>rfl))
 (SF.append 1 rfl rfl rfl (.inl rfl) (ae 3) λJd=>
 (SF.nil rfl (.refl _)))
 (SF.Ha 2 4 rfl ⋯ rfl rfl (.inl rfl) iG.nd rfl (C0 rfl) λt20=>
 (SF.Ha 2 5 rfl ⋯ rfl rfl (.inl rfl) iG.nd rfl (C0 rfl) λt22=>
 (SF.append 1 rfl rfl rfl (.inl rfl) (ay (n:=2) (aa (ae 5) (aa (ae 4) ai)) rfl) λJc=>
 (SF.nil rfl (.keep (.keep (.keep (.keep (.drop (.drop (.refl _)))))))))))
 λU2=>(SF.append 2 rfl rfl rfl (.inl rfl) (tF (tG rfl rfl q.len (cm 1)) ak) λzQ=>
 (SF.gk rfl (.keep (.keep (.keep (.drop (.refl _))))))))) λs4=>
 (SF.c8 (dI rfl rfl q.tuple (cm 1)) λ_=>rfl))))
abbrev iW:DF:=⟨"halves",top 3,["node"],1,λK=>gh K [.v] (ck 1 cy)⟩
def Oi (D:DI v iW) (q:NB v):D.O:=
 qt (m:=cy) D KW λbT _ _ _ _ _ _ hr=>
 (SF.c8 (qF (fJ rfl (j8 rfl .str rfl q.isinstance (ae 0) rfl q.str xz) (λ_=>rfl)) (ay (n:=0) ai rfl) (ae 0)) λ_=>rfl)
abbrev jC:DF:=⟨"ahead_of",top 4,["tree"],3,λK=>gh K [.v] (ck 1 eU)⟩
def HH (D:DI v jC) (q:NB v) (ju:lJ.C v) (gD:iW.C v):D.O:=
 qt (m:=eU) D dW λcK _ _ _ _ _ _ hr=>
 (sv 1 dW.nd (eC ju hr (aa (ae 0) ai)) λi7=>
 (SF.k8 (i:=3) rfl dW.nd rfl rfl mh (bS rfl (bU (ae 1))) (λ_ _ _ _ _=>(dr 0 mh.nd)) (λ_ _ _ _ _ p5=>g9) rfl λyt=>
 (SF.WO (hd:=(λ(s7:List PV)=>([am (.val cK),am (.val i7),bm,am (.ol bm s7),bm,bm]:bg))) (s0:=yt) AJ rfl (n9 rfl rfl q.enumerate (bU (ae 1))) (.refl _) (λ_=>(Qh rfl (fF rfl (aJ (dr 4 dW.nd) (aJ (dr 2 dW.nd) dG))))) (λs7 t9=>
 (SF.qD (hd:=(λ(U3:List PV)=>([am (.val cK),am (.val i7),am (.val t9.2),am (.ol bm U3),am (.val t9.1),bm]:bg))) (s0:=s7) AJ rfl (bS rfl (bU (eC gD hr (aa (ae 2) ai)))) (.refl _) (dr 5 dW.nd) (λU3 J6=>
 (SF.G3 3 rfl rfl (.inl rfl) (ae 4) (ae 5) λGp=>
 (SF.gk rfl (.keep (.keep (.keep (.keep (.keep (.drop (.refl _)))))))))) λU3=>
 (SF.gk rfl (.keep (.keep (.drop (.keep (.drop (.refl _))))))))) λs7=>
 (SF.c8 (dI rfl rfl q.tuple (cm 3)) λ_=>rfl))))
abbrev eZ:DF:=⟨"under_at",top 9,["stays","stay"],1,λK=>gh K [.v,.v] (ck 2 cT)⟩
def Hz (D:DI v eZ) (oE:v.mg "UNDER"=am (.int 2 Jf)):D.O:=
 zK (m:=cT) D zd λi8 bo _ _ _ _ _ _ hr=>
 (SF.c8 (aV rfl (aA (aV rfl (aA (ae 0)) (ae 1))) (xV oE rfl)) λ_=>rfl)
abbrev kQ:DF:=⟨"beside_at",top 10,["stays","stay"],1,λK=>gh K [.v,.v] (ck 2 fw)⟩
def FD (D:DI v kQ) (kU:v.mg "BESIDE"=am (.int 3 y8)):D.O:=
 zK (m:=fw) D v8 λi8 bo _ _ _ _ _ _ hr=>
 (SF.c8 (aV rfl (aA (aV rfl (aA (ae 0)) (ae 1))) (xV kU rfl)) λ_=>rfl)
abbrev pR:DF:=⟨"is_home",top 11,["stays","stay","word"],2,λK=>gh K [.v,.v,.v] (ck 3 iP)⟩
def Ls (D:DI v pR) (tQ:v.mg "NAME"=am (.int 0 MN)) (dQ:eZ.C v):D.O:=
 Hl (m:=iP) D G5 λi8 bo Tf _ _ _ _ _ _ hr=>
 (SF.c8 (aaE (vv (iQ rfl (a6 hr)) (eC dQ hr (aa (ae 0) (aa (ae 1) ai))) (ay (n:=0) ai rfl)) (aay (vv (iQ rfl (a6 hr)) (aV rfl (aA (aV rfl (aA (ae 0)) (ae 1))) (xV tQ rfl)) (ae 2)))) λ_=>rfl)
abbrev lK:DF:=⟨"name_of",top 12,["houses","house"],1,λK=>gh K [.v,.v] (ck 2 dY)⟩
def Lr (D:DI v lK) (q:NB v):D.O:=
 zK (m:=dY) D G4 λfc kG _ _ _ _ _ _ hr=>
 (SF.c8 (qF (fJ rfl (j8 rfl .str rfl q.isinstance (aV rfl (aA (ae 0)) (ae 1)) rfl q.str xz) (λ_=>rfl)) (aV rfl (aA (ae 0)) (ae 1)) (ae 1)) λ_=>rfl)
abbrev mP:DF:=⟨"lines_up",top 13,["great"],4,λK=>fj K [.v] (ck 1 gr)⟩
def HE (D:DI v mP) (q:NB v) (mJ:jC.C v):D.O:=
 VX (m:=gr) D fm λdj _ _ _ _ _ _ hr=>
 (sv 1 fm.nd (eC mJ hr (aa (ae 0) ai)) λdJ=>
 (SF.k8 (i:=3) rfl fm.nd rfl rfl ma (bS rfl (bU (ae 1))) (λ_ _ _ _ _=>(dr 0 ma.nd)) (λ_ _ _ _ _ p5=>(ay (n:=0) ai rfl)) rfl λlz=>
 (SF.qD (hd:=(λ(s9:List PV)=>([am (.val dj),am (.val dJ),bm,am (.ol bm s9),bm]:bg))) (s0:=lz) AJ rfl (R1 rfl q.range (tF (dE rfl rfl q.len (ae 1)) ak) (Kj ak) (Kj ak)) (.refl _) (dr 2 fm.nd) (λs9 kF=>
 (sv 4 fm.nd (qF (cL xg (aV rfl (aA (ae 1)) (ae 2)) g9) (ay (n:=0) ai rfl) (aV rfl (cm 3) (aV rfl (aA (ae 1)) (ae 2)))) λGq=>
 (SF.G3 3 rfl rfl (.inl rfl) (cJ rfl (ay (n:=1) (aa (ae 2) ai) rfl) (ae 4)) (ae 2) λzS=>
 (SF.gk rfl (.keep (.keep (.drop (.keep (.drop (.refl _)))))))))) λs9=>
 (SF.U7 3 rfl rfl))))
abbrev jB:DF:=⟨"apart_from",top 14,["lines","house"],1,λK=>gh K [.v,.v] (ck 2 eA)⟩
def wV (D:DI v jB) (q:NB v):D.O:=
 zK (m:=eA) D uk λwJ kG _ _ _ _ _ _ hr=>
 (SF.c8 (dI rfl rfl q.tuple (rS (JZ rfl jW (cP rfl q.range (dE rfl rfl q.len (ae 0))) (λ_ _ _ _ _=>(dr 0 jW.nd)) (λ_ _ _ _ _ p3=>(GK.t (o6 (vU rfl (a6 hr) (ae 0) (aA (aV rfl (aA (ae 2)) (ae 1)))) (kZ (vU rfl (a6 hr) (ae 1) (aA (aV rfl (aA (ae 2)) (ae 0)))))))) (λ_ _ _ _ _ p3=>(ae 0)) rfl))) λ_=>rfl)
abbrev tL:DF:=⟨"ground",top 15,["great"],5,λK=>gh K [.v] (ck 1 kC)⟩
def Oj (D:DI v tL) (q:NB v) (ju:lJ.C v) (HZ:mP.C v) (pO:lK.C v) (gD:iW.C v) (xw:jB.C v):D.O:=
 qt (m:=kC) D ph λdj _ _ _ _ _ _ hr=>
 (sv 1 ph.nd (eC ju hr (aa (ae 0) ai)) λbx=>
 (sl 2 ph.nd (lC HZ hr (aa (ae 0) ai)) λlz=>
 SF.cu 2 rfl (SF.c8 (dI rfl rfl q.tuple (rS (ic rfl qd (cP rfl q.range (dE rfl rfl q.len (ae 1))) (λ_ _ _ _ _=>(dr 0 qd.nd)) (λ_ _ _ _ _ p7=>(ay (n:=4) (aa (eC pO hr (aa (ae 1) (aa (ae 0) ai))) (aa ak (aa (eC gD hr (aa (aV rfl (aA (ae 1)) (ae 0)) ai)) (aa (eC xw hr (aa (ae 2) (aa (ae 0) ai))) ai)))) rfl)) rfl))) λ_=>rfl)))
abbrev kN:DF:=⟨"split_ins",top 22,["ground","stay"],2,λK=>fj K [.v,.v] (ck 2 fv)⟩
def z9 (D:DI v kN) (q:NB v) (dQ:eZ.C v):D.O:=
 RC (m:=fv) D nk λaL bo _ _ _ _ _ _ hr=>
 (sv 2 nk.nd (eC dQ hr (aa (ae 0) (aa (ae 1) ai))) λfM=>
 (SF.gP (V7 (cL (iQ rfl (a6 hr)) (dE rfl rfl q.len (ae 2)) ak) (aU (n:=2) (aa (ae 2) (aa (ay (n:=2) (aa (aV rfl (aA (ae 2)) ak) (aa (aV rfl (aA (ae 2)) ak) ai)) rfl) ai)) rfl) (aU (n:=0) ai rfl)) λ_=>rfl))
abbrev mO:DF:=⟨"over_ins",top 23,["ground","stay"],2,λK=>fj K [.v,.v] (ck 2 gq)⟩
def HD (D:DI v mO) (FQ:kQ.C v):D.O:=
 RC (m:=gq) D pY λaL bo _ _ _ _ _ _ hr=>
 (sv 2 pY.nd (eC FQ hr (aa (ae 0) (aa (ae 1) ai))) λtS=>
 (SF.gP (ml rfl (cG (ic rfl lZ (bS rfl (bU (ae 2))) (λ_ _ _ _ _=>(dr 0 lZ.nd)) (λ_ _ _ _ _ p5=>(ay (n:=2) (aa (ae 1) (aa (ae 0) ai)) rfl)) rfl)) (cG (ic rfl lY (bS rfl (bU (ae 2))) (λ_ _ _ _ _=>(dr 0 lY.nd)) (λ_ _ _ _ _ p9=>(ay (n:=2) (aa (ae 0) (aa (ae 1) ai)) rfl)) rfl))) λ_=>rfl))
abbrev mQ:DF:=⟨"deeds_at",top 24,["ground","node","stay"],3,λK=>fj K [.v,.v,.v] (ck 3 eR)⟩
def HF (D:DI v mQ) (q:NB v) (oH:v.mg "FOUND"=am (.str "found" Jh)) (oG:v.mg "SPLIT"=am (.str "split" Jg)) (tP:v.mg "OVER"=am (.str "over" MM)) (iX:v.mg "DOUBLED"=am (.str "doubled" uS)) (LK:pR.C v) (FO:kN.C v) (HY:mO.C v):D.O:=
 VW (m:=eR) D kn λaL bT bo _ _ _ _ _ _ hr=>
 (SF.Qe (fJ rfl (j8 rfl .str rfl q.isinstance (ae 1) rfl q.str xz) (λ_=>rfl))
 (SF.gP (V7 (fJ rfl (eC LK hr (aa (ae 0) (aa (ae 2) (aa (ae 1) ai)))) (λ_=>rfl)) (aU (n:=1) (aa (ay (n:=2) (aa (xU oH rfl) (aa (ay (n:=0) ai rfl) ai)) rfl) ai) rfl) (aU (n:=0) ai rfl)) λ_=>rfl)
 (SF.k8 (i:=3) rfl kn.nd rfl rfl me (bS rfl (J4 (lC FO hr (aa (ae 0) (aa (ae 2) ai))))) (λ_ _ _ _ _=>(dr 0 me.nd)) (λ_ _ _ _ _ ï=>(ay (n:=2) (aa (xU oG rfl) (aa (ae 0) ai)) rfl)) rfl λJo=>
 SF.cu 3 rfl (SF.k8 (i:=4) rfl kn.nd rfl rfl md (bS rfl (J4 (lC HY hr (aa (ae 0) (aa (ae 2) ai))))) (λ_ _ _ _ _=>(dr 0 md.nd)) (λ_ _ _ _ _ p18=>(ay (n:=2) (aa (xU tP rfl) (aa (ae 0) ai)) rfl)) rfl λJH=>
 SF.cu 4 rfl (SF.gP (RJ rfl (a6 hr) rfl q.sorted (cG (ml rfl (cG (ml rfl (cG (aU (n:=1) (aa (ay (n:=2) (aa (xU iX rfl) (aa (ay (n:=2) (aa (ae 2) (aa (ae 2) ai)) rfl) ai)) rfl) ai) rfl)) (je (ae 3)))) (je (ae 4))))) λ_=>rfl))))
abbrev oB:DF:=⟨"summed",top 27,["costs"],1,λK=>gh K [.v] (ck 1 iM)⟩
def Oe (D:DI v oB) (q:NB v):D.O:=
 qt (m:=iM) D KU λpS _ _ _ _ _ _ hr=>
 (SF.c8 (qF (Ym rfl (a6 hr) g9 (aA (ae 0))) g9 (WZ rfl rfl rfl q.sum (je (ae 0)))) λ_=>rfl)
abbrev jA:DF:=⟨"cheapest",top 28,["costs"],1,λK=>gh K [.v] (ck 1 cV)⟩
def HG (D:DI v jA) (q:NB v):D.O:=
 qt (m:=cV) D zg λpS _ _ _ _ _ _ hr=>
 (SF.c8 (W2 rfl rfl rfl q.min (cG (JZ rfl mf (bS rfl (bU (ae 0))) (λ_ _ _ _ _=>(dr 0 mf.nd)) (λ_ _ _ _ _ p2=>(cL xf (ae 0) g9)) (λ_ _ _ _ _ p2=>(ae 0)) rfl))) λ_=>rfl)
abbrev mM:DF:=⟨"price_of",top 29,["prices","deed"],1,λK=>gh K [.v,.v] (ck 2 dN)⟩
def HB (D:DI v mM) (lL:v.mg "DEEDS"=am (.ref rj)) (qW:P1 v.K rj ["split","doubled","over"]):D.O:=
 zK (m:=dN) D zf λaX tI _ _ _ _ _ _ hr=>
 (SF.c8 (qF (Yl rfl (a6 hr) (ae 1) lL qW) (aV rfl (aA (ae 0)) (W3 rfl (ae 1) lL qW)) ak) λ_=>rfl)
abbrev kO:DF:=⟨"deed_cost",top 30,["prices","rows","node","deed"],2,λK=>gh K [.v,.v,.v,.v] (ck 4 cU)⟩
def Fl (D:DI v kO) (q:NB v) (gD:iW.C v) (sW:oB.C v) (HW:mM.C v):D.O:=
 VV (m:=cU) D nr λaX nu bT tI _ _ _ _ _ _ hr=>
 (SF.Ju (i:=4) rfl nr.nd rfl rfl gz (Ov rfl rfl q.zip (bU (eC gD hr (aa (ae 2) ai))) (bU (aV rfl (aA (ae 3)) ak))) (λ_ _ _ _ _=>(Qh rfl (fF rfl (aJ (dr 0 gz.nd) (aJ (dr 1 gz.nd) dG))))) (λ_ _ _ _ _ t7=>(aV rfl (aA (aV rfl (aA (ae 2)) (ae 0))) (ae 1))) (RH rfl rfl ⋯) ⋯ λzC=>
 SF.cu 4 rfl (SF.c8 (eC sW hr (aa (gG (ml rfl (cG (aU (n:=1) (aa (eC HW hr (aa (ae 0) (aa (aV rfl (aA (ae 3)) ak) ai))) ai) rfl)) (je (ae 4)))) ai)) λ_=>rfl))
abbrev jz:DF:=⟨"deed_costs",top 31,["ground","prices","rows","node","stay"],4,λK=>fj K [.v,.v,.v,.v,.v] (ck 5 eg)⟩
def wU (D:DI v jz) (H0:mQ.C v) (FP:kO.C v):D.O:=
 adg (m:=eg) D uj λaL aX nu bT bo _ _ _ _ _ _ hr=>
 (SF.gP (ic rfl jV (bS rfl (J4 (lC H0 hr (aa (ae 0) (aa (ae 3) (aa (ae 4) ai)))))) (λ_ _ _ _ _=>(dr 0 jV.nd)) (λ_ _ _ _ _ p5=>(eC FP hr (aa (ae 2) (aa (ae 3) (aa (ae 1) (aa (ae 0) ai)))))) rfl) λ_=>rfl)
abbrev kM:DF:=⟨"step_cost",top 32,["ground","prices","stay"],2,λK=>gh K [.v,.v,.v] (ck 3 fu)⟩
def zZ (D:DI v kM) (q:NB v) (tR:v.mg "LOST"=am (.int 3 MP)) (dQ:eZ.C v):D.O:=
 Hl (m:=fu) D v5 λaL aX bo _ _ _ _ _ _ hr=>
 (SF.c8 (qF (cL (iQ rfl (a6 hr)) (dE rfl rfl q.len (eC dQ hr (aa (ae 0) (aa (ae 2) ai)))) ak) (aV rfl (aA (ae 1)) (xV tR rfl)) ak) λ_=>rfl)
abbrev jy:DF:=⟨"step_costs",top 33,["ground","prices","row","stay"],3,λK=>fj K [.v,.v,.v,.v] (ck 4 d9)⟩
def wO (D:DI v jy) (FN:kM.C v) (dQ:eZ.C v) (sW:oB.C v):D.O:=
 Zn (m:=d9) D lU λaL aX YL bo _ _ _ _ _ _ hr=>
 (sv 4 lU.nd (eC FN hr (aa (ae 0) (aa (ae 1) (aa (ae 3) ai)))) λTx=>
 (SF.gP (ic rfl jU (bS rfl (bU (eC dQ hr (aa (ae 0) (aa (ae 3) ai))))) (λ_ _ _ _ _=>(dr 0 jU.nd)) (λ_ _ _ _ _ p8=>(eC sW hr (aa (gG (aU (n:=2) (aa (ae 1) (aa (aV rfl (aA (ae 2)) (ae 0)) ai)) rfl)) ai))) rfl) λ_=>rfl))
abbrev tK:DF:=⟨"row_of",top 34,["ground","prices","rows","node"],5,λK=>gh K [.v,.v,.v,.v] (ck 4 kB)⟩
def Og (D:DI v tK) (q:NB v) (xv:jz.C v) (xu:jy.C v) (mI:jA.C v):D.O:=
 VV (m:=kB) D lg λaL aX nu bT _ _ _ _ _ _ hr=>
 (sl 4 lg.nd (aU (n:=0) ai rfl) λNc=>
 (SF.qD (hd:=(λ(s3:List PV)=>([am (.val aL),am (.val aX),am (.val nu),am (.val bT),am (.ol bm s3),bm,bm]:bg))) (s0:=Nc) AJ rfl (cP rfl q.range (dE rfl rfl q.len (ae 0))) (.refl _) (dr 5 lg.nd) (λs3 GZ=>
 (sl 6 lg.nd (Zw 4 rfl (ml rfl (cG (lC xv hr (aa (ae 0) (aa (ae 1) (aa (ae 2) (aa (ae 3) (aa (ae 5) ai))))))) (cG (lC xu hr (aa (ae 0) (aa (ae 1) (aa (ae 4) (aa (ae 5) ai)))))))) λoC=>
 SF.cu 6 rfl (SF.append 4 rfl rfl rfl (.inl rfl) (eC mI hr (aa (ae 6) ai)) λNb=>
 (SF.gk rfl (.keep (.keep (.keep (.keep (.keep (.drop (.drop (.refl _)))))))))))) λs3=>
 (SF.c8 (dI rfl rfl q.tuple (cm 4)) λ_=>rfl)))
abbrev ym:DF:=⟨"table",top 35,["ground","small","prices"],6,λK=>gh K [.v,.v,.v] (ck 3 nS)⟩
def RS (D:DI v ym) (q:NB v) (ju:lJ.C v) (OS:tK.C v):D.O:=
 Hl (m:=nS) D rN λaL o9 aX _ _ _ _ _ _ hr=>
 (sl 3 rN.nd (aU (n:=0) ai rfl) λG7=>
 (SF.qD (hd:=(λ(s3:List PV)=>([am (.val aL),am (.val o9),am (.val aX),am (.ol bm s3),bm]:bg))) (s0:=G7) AJ rfl (bS rfl (bU (eC ju hr (aa (ae 1) ai)))) (.refl _) (dr 4 rN.nd) (λs3 kz=>
 (SF.append 3 rfl rfl rfl (.inl rfl) (aaD 3 rfl (eC OS hr (aa (ae 0) (aa (ae 2) (aa (ae 3) (aa (ae 4) ai)))))) λNa=>
 (SF.gk rfl (.keep (.keep (.keep (.keep (.drop (.refl _))))))))) λs3=>
 (SF.c8 (dI rfl rfl q.tuple (cm 3)) λ_=>rfl)))
abbrev rh:DF:=⟨"least",top 36,["ground","small","prices"],7,λK=>gh K [.v,.v,.v] (ck 3 gV)⟩
def RU (D:DI v rh) (mI:jA.C v) (Sj:ym.C v):D.O:=
 Hl (m:=gV) D M8 λaL o9 aX _ _ _ _ _ _ hr=>
 (SF.c8 (eC mI hr (aa (aV rfl (aA (eC Sj hr (aa (ae 0) (aa (ae 1) (aa (ae 2) ai))))) (Kj ak)) ai)) λ_=>rfl)
abbrev ir:DF:=⟨"split_dates",top 38,["houses","dates"],1,λK=>fj K [.v,.v] (ck 2 dA)⟩
def uy (D:DI v ir) (q:NB v):D.O:=
 RC (m:=dA) D rO λfc dm _ _ _ _ _ _ hr=>
 (SF.gP (Zv rfl eV (Ov rfl rfl q.zip (bU (ae 0)) (bU (ae 1))) (λ_ _ _ _ _=>(Qh rfl (fF rfl (aJ (dr 0 eV.nd) (aJ (dr 1 eV.nd) dG))))) (λ_ _ _ _ _ t5=>(rJ (fJ rfl (j8 rfl .str rfl q.isinstance (ae 0) rfl q.str xz) (λ_=>rfl)))) (λ_ _ _ _ _ t5=>(ae 1)) (RH rfl rfl ⋯) ⋯) λ_=>rfl)
abbrev mL:DF:=⟨"standing",top 39,["great","dates","begins"],4,λK=>fj K [.v,.v,.v] (ck 3 gp)⟩
def HA (D:DI v mL) (q:NB v) (mJ:jC.C v):D.O:=
 VW (m:=gp) D cR λdj dm jN _ _ _ _ _ _ hr=>
 (sv 3 cR.nd (eC mJ hr (aa (ae 0) ai)) λdJ=>
 (sl 4 cR.nd (aU (n:=0) ai rfl) λwz=>
 (SF.WO (hd:=(λ(s5:List PV)=>([am (.val dj),am (.val dm),am (.val jN),am (.val dJ),am (.ol bm s5),bm,bm,bm,bm]:bg))) (s0:=wz) AJ rfl (n9 rfl rfl q.enumerate (bU (ae 2))) (.refl _) (λ_=>(Qh rfl (fF rfl (aJ (dr 5 cR.nd) (aJ (dr 6 cR.nd) dG))))) (λs5 t7=>
 (SF.WO (hd:=(λ(s9:List PV)=>([am (.val dj),am (.val dm),am (.val jN),am (.val dJ),am (.ol bm s9),am (.val t7.1),am (.val t7.2),bm,bm]:bg))) (s0:=s5) AJ rfl (n9 rfl rfl q.enumerate (bU (ae 1))) (.refl _) (λ_=>(Qh rfl (fF rfl (aJ (dr 7 cR.nd) (aJ (dr 8 cR.nd) dG))))) (λs9 YB=>
 (SF.ifT (GK.t (o6 (cL TZ (ae 8) (ae 6)) (kZ (GK.t (Tg (cL xg (aV rfl (aA (ae 3)) (ae 7)) g9) (MC (cL Oq (ae 6) (aV rfl (aA (ae 1)) (aV rfl (aA (ae 3)) (ae 7))))))))))
 (SF.append 4 rfl rfl rfl (.inl rfl) (ay (n:=2) (aa (ae 7) (aa (ae 5) ai)) rfl) λzx=>
 (SF.gk rfl (.keep (.keep (.keep (.keep (.keep (.keep (.keep (.drop (.drop (.refl _))))))))))))
 (SF.gk rfl (.keep (.keep (.keep (.keep (.keep (.keep (.keep (.drop (.drop (.refl _))))))))))))) λs9=>
 (SF.gk rfl (.keep (.keep (.keep (.keep (.keep (.drop (.drop (.refl _))))))))))) λs5=>
 (SF.U7 4 rfl rfl))))
abbrev pP:DF:=⟨"stay_of",top 40,["houses","dates","begins","numbers","pair"],2,λK=>gh K [.v,.v,.v,.v,.v] (ck 5 iO)⟩
def Lq (D:DI v pP) (q:NB v) (gD:iW.C v) (pO:lK.C v):D.O:=
 ade (m:=iO) D dM λfc dm jN nH NL _ _ _ _ _ _ hr=>
 (sv 5 dM.nd (aV rfl (aA (ae 4)) ak) λlB=>
 (sv 6 dM.nd (aV rfl (aA (ae 4)) ak) λnX=>
 (sv 7 dM.nd (vv Oq (aV rfl (aA (ae 1)) (ae 5)) (aV rfl (aA (ae 2)) (ae 6))) λvm=>
 (sv 8 dM.nd (qF (fJ rfl (ae 7) (λ_=>rfl)) (ay (n:=1) (aa (ae 5) ai) rfl) (eC gD hr (aa (aV rfl (aA (ae 0)) (ae 5)) ai))) λbelow_4=>
 (sv 9 dM.nd (dI rfl rfl q.tuple (rS (ic rfl nW (bS rfl (bU (ae 8))) (λ_ _ _ _ _=>(dr 0 nW.nd)) (λ_ _ _ _ _ p9=>(tH (a6 hr) (ae 2) (ay (n:=2) (aa (ae 0) (aa (tF (ae 1) ak) ai)) rfl) (λ_ _=>rfl))) rfl))) λJa=>
 (sv 10 dM.nd (dI rfl rfl q.tuple (rS (JZ rfl nV (R3 (ae 3)) (λ_ _ _ _ _=>(dr 0 nV.nd)) (λ_ _ _ _ _ Y9=>(GK.t (o6 (cL (iQ rfl (a6 hr)) (aV rfl (aA (ae 0)) ak) (ae 2)) (kZ (cL (TY rfl (a6 hr)) (aV rfl (aA (ae 0)) ak) (ae 1)))))) (λ_ _ _ _ _ Y9=>(tH (a6 hr) (ae 3) (ae 0) (λ_ _=>rfl))) rfl))) λvJ=>
 (SF.c8 (ay (n:=4) (aa (eC pO hr (aa (ae 0) (aa (ae 5) ai))) (aa (ae 6) (aa (ae 9) (aa (ae 10) ai)))) rfl) λ_=>rfl)))))))
abbrev yn:DF:=⟨"dated",top 41,["great","dates"],5,λK=>gh K [.v,.v] (ck 2 lu)⟩
def RV (D:DI v yn) (q:NB v) (ju:lJ.C v) (uF:ir.C v) (HV:mL.C v) (LJ:pP.C v):D.O:=
 zK (m:=lu) D ko λdj dm _ _ _ _ _ _ hr=>
 (sv 2 ko.nd (eC ju hr (aa (ae 0) ai)) λbx=>
 (sl 3 ko.nd (ml rfl (cG (aU (n:=1) (aa ak ai) rfl)) (cG (RK rfl rfl q.sorted (cG (lC uF hr (aa (ae 2) (aa (ae 1) ai))))))) λtT=>
 SF.cu 3 rfl (sl 4 ko.nd (lC HV hr (aa (ae 0) (aa (ae 1) (aa (ae 3) ai)))) λwy=>
 SF.cu 4 rfl (sv 5 ko.nd (aeA (SJ rfl rfl (a6 hr) rfl q.dict (cG (V4 rfl mG (n9 rfl rfl q.enumerate (bU (ae 4))) (λ_ _ _ _ _=>(Qh rfl (fF rfl (aJ (dr 0 mG.nd) (aJ (dr 1 mG.nd) dG))))) (λ_ _ _ _ _ ć=>(ay (n:=2) (aa (ae 1) (aa (ae 0) ai)) rfl)) (RH rfl rfl ⋯) ⋯)))) λrZ=>
 (SF.c8 (dI rfl rfl q.tuple (rS (ic rfl sJ (bS rfl (bU (ae 4))) (λ_ _ _ _ _=>(dr 0 sJ.nd)) (λ_ _ _ _ _ Y8=>(eC LJ hr (aa (ae 3) (aa (ae 2) (aa (ae 1) (aa (ae 4) (aa (ae 0) ai))))))) rfl))) λ_=>rfl)))))
abbrev kR:DF:=⟨"_law_hand",top 43,["_law_script","_law_k"],1,λK=>fj K [.v,.v] (ck 2 fx)⟩
def FH (D:DI v kR) (q:NB v):D.O:=
 RC (m:=fx) D jd λfR k_ _ _ _ _ _ _ hr=>
 (sv 2 jd.nd (qF (cL Oq (ae 1) (dE rfl rfl q.len (ae 0))) (aV rfl (aA (ae 0)) (ae 1)) ak) λkT=>
 (sv 3 jd.nd (qi (Uq rfl q.abs (ae 2)) (Ki rfl q.int (vv ZE (Uq rfl q.abs (ae 2)) (Uo ak ak)))) λfU=>
 (SF.gP (aU (n:=3) (aa (ae 3) (aa (qj (qi (cJ rfl (cJ rfl (qj (ae 2) ak) (qi (qi ak (ae 1)) (ae 1))) ak) ak) ak) (aa ak ai))) rfl) λ_=>rfl)))
abbrev bh:DF:=⟨"_law_take",top 44,["_law_hand_here","_law_many"],1,λK=>gh K [.p (kf iI),.v] (ck 1 bW)⟩
def FE (D:DI v bh):D.O:=
 Vq (n:=1) (fnO (n:=1) (m:=dB) D.fn nt rfl λad gB l hl=>match l,hl with | [nR],_=>λ_ _ _ _ _ _ hr=>show SF _ _ _ [am (.ol (am ad) gB),am (.val nR),bm] _ (dB gB nR) _ from
 (SF.G3 0 rfl rfl (.inl rfl) (cJ rfl (aV rfl (cm 0) ak) ak) ak λbM=>
 (SF.Qe (GK.t (o6 (cL T3 (aV rfl (cm 0) ak) ak) (kZ (cL TZ (aV rfl (cm 0) ak) ak))))
 (sv 2 nt.nd (qj (aV rfl (cm 0) ak) (ae 1)) λKm=>
 (SF.G3 0 rfl rfl (.inl rfl) (Up (aV rfl (cm 0) ak) (ae 1)) ak λkH=>
 (SF.YN 0 (k:=λx8=>(x8,kH)) rfl (ae 2) λ_=>rfl)))
 (SF.G3 0 rfl rfl (.inl rfl) (qj (cJ rfl (cJ rfl (qi (aV rfl (cm 0) ak) ak) ak) (aV rfl (cm 0) ak)) ak) ak λfC=>
 (SF.YN 0 (k:=λqp=>(qp,fC)) rfl (qj (Up (qj (qi (aV rfl (cm 0) ak) (cJ rfl (qj (aV rfl (cm 0) ak) ak) ak)) ak) ak) (ae 1)) λ_=>rfl))))) MH
abbrev d3:DF:=⟨"_law_pick",top 45,["_law_hand_here","_law_some"],2,λK=>gh K [.p (kf iI),.v] (ck 1 bK)⟩
def FG (D:DI v d3) (q:NB v) (aB:bh.C v):D.O:=
 qt (m:=bK) D v9 λuW _ _ _ _ _ _ hr=>
 (SF.c8 (aV rfl (aA (ae 1)) (eC aB hr (cj 0 (aa (dE rfl rfl q.len (ae 1)) ai)))) λ_=>rfl)
abbrev jE:DF:=⟨"_law_words",top 46,["_law_hand_here","_law_many"],3,λK=>fj K [.p (kf iI),.v] (ck 1 cW)⟩
def wX (D:DI v jE) (q:NB v) (aB:bh.C v) (cn:d3.C v):D.O:=
 VX (m:=cW) D du λnR _ _ _ _ _ _ hr=>
 (sv 2 du.nd vt λu7=>
 (SF.M7 (ay (n:=2) (aa (eC aB hr (cj 0 (aa ak ai))) (aa (eC cn hr (cj 0 (aa (gG (aU (n:=6) (aa ak (aa ak (aa ak (aa ak (aa ak (aa ak ai)))))) rfl)) ai))) ai)) rfl) (Qh rfl (fF rfl (aJ (dr 3 du.nd) (aJ (dr 4 du.nd) dG)))) λt13=>
 (sv 5 du.nd (eC cn hr (cj 0 (aa (gG (aU (n:=5) (aa vt (aa vt (aa vt (aa vt (aa vt ai))))) rfl)) ai))) λJe=>
 (SF.gP (ic rfl jX (cP rfl q.range (ae 1)) (λ_ _ _ _ _=>(dr 0 jX.nd)) (λ_ _ _ _ _ p23=>(cJ rfl (aaC (ae 2) (qj (cJ rfl (ae 1) (qi (ae 4) (ae 0))) ak) (λ_ _=>rfl)) (ae 3))) rfl) λ_=>rfl))))
abbrev fg:DF:=⟨"_law_joined",top 47,["_law_hand_here","_law_some"],2,λK=>gh K [.p (kf iI),.v] (ck 1 cF)⟩
def uA (D:DI v fg) (q:NB v) (aB:bh.C v):D.O:=
 qt (m:=cF) D bX λuW _ _ _ _ _ _ hr=>
 (sl 1 bX.nd (V5 rfl rfl q.list (aA (ae 1))) λmC=>
 (SF.qD (hd:=(λ(s3:List PV)=>([am (.mE (kf iI)),am (.ol bm s3),bm,bm,bm,bm]:bg))) (s0:=mC) AJ rfl (cP rfl q.range (tF (tG rfl rfl q.len (cm 1)) ak)) (.refl _) (dr 2 bX.nd) (λs3 UJ=>
 (SF.ac3 1 3 rfl ⋯ rfl rfl (.inl rfl) bX.nd rfl (C0 rfl) (eC aB hr (cj 0 (aa (tG rfl rfl q.len (cm 1)) ai))) λt8=>
 (sv 4 bX.nd (eC aB hr (cj 0 (aa (tG rfl rfl q.len (cm 1)) ai))) λXg=>
 (sv 5 bX.nd (ay (n:=2) (aa (ae 3) (aa (aV rfl (cm 1) (ae 4)) ai)) rfl) λwA=>
 (SF.G3 1 rfl rfl (.inl rfl) (qF (cL (iQ rfl (a6 hr)) (eC aB hr (cj 0 (aa ak ai))) ak) (ae 5) (W0 rfl (ae 5) NQ NQ (VM (Kj ak)))) (ae 4) λJs=>
 (SF.gk rfl (.keep (.keep (.drop (.drop (.drop (.drop (.refl _))))))))))))) λs3=>
 (SF.c8 (aV rfl (cm 1) ak) λ_=>rfl)))
abbrev jK:DF:=⟨"_law_great",top 48,["_law_hand_here","_law_most"],4,λK=>gh K [.p (kf iI),.v] (ck 1 cY)⟩
def w9 (D:DI v jK) (xy:jE.C v) (aB:bh.C v) (ip:fg.C v):D.O:=
 qt (m:=cY) D lX λzJ _ _ _ _ _ _ hr=>
 (sl 2 lX.nd (lC xy hr (cj 0 (aa (cJ rfl ak (eC aB hr (cj 0 (aa (ae 1) ai)))) ai))) λi6=>
 SF.cu 2 rfl (SF.c8 (ay (n:=2) (aa (eC ip hr (cj 0 (aa (ae 2) ai))) (aa (ae 2) ai)) rfl) λ_=>rfl))
abbrev jH:DF:=⟨"_law_small",top 49,["_law_hand_here","_law_words_here","_law_most"],3,λK=>gh K [.p (kf iI),.v,.v] (ck 2 cX)⟩
def w4 (D:DI v jH) (q:NB v) (aB:bh.C v) (cn:d3.C v) (ip:fg.C v):D.O:=
 zK (m:=cX) D lV λpU zJ _ _ _ _ _ _ hr=>
 (SF.k8 (i:=3) rfl lV.nd rfl rfl jZ (cP rfl q.range (cJ rfl ak (eC aB hr (cj 0 (aa (ae 2) ai))))) (λ_ _ _ _ _=>(dr 0 jZ.nd)) (λ_ _ _ _ _ p5=>(eC cn hr (cj 1 (aa (ae 2) ai)))) rfl λmC=>
 SF.cu 3 rfl (SF.c8 (eC ip hr (cj 0 (aa (ae 3) ai))) λ_=>rfl))
abbrev fY:DF:=⟨"_law_nodes",top 50,["_law_tree"],12,λK=>fj K [.v] (ck 1 (aW 12))⟩
theorem n8 (D:DI v fY) (q:NB v):∀n,iZ v.P v.w v.K v.mg v.base my (n+0) D.f D.fd ["_law_tree"] (fj v.K [.v] (ck 1 (aW n)))
 | 0=>aam (QH λl Q hl=>match l,hl with | [cK],_=>λh=>h.elim)
 | n+1=>have da:=D.cN (n8 D q n)
  fnL (k:=n+0) (n:=1) (m:=aW (n+1)) D.fn dw rfl (gR cO) λl hl=>match l,hl with | [cK],_=>λ_ _ _ _ _ _ hr=>show SF _ _ _ [am (.val cK),bm,bm,bm,bm] _ (aW (n+1) cK) _ from
 (SF.Qe (fJ rfl (j8 rfl .str rfl q.isinstance (ae 0) rfl q.str xz) (λ_=>rfl))
 (SF.gP (aU (n:=1) (aa (ae 0) ai) rfl) λ_=>rfl)
 (SF.par (i:=1) (j:=2) rfl dw.nd rfl rfl ⋯ rfl rfl (gG (lC da hr (aa (aV rfl (aA (ae 0)) ak) ai))) (gG (lC da hr (aa (aV rfl (aA (ae 0)) ak) ai))) λpZ nC=>
 (sl 3 dw.nd (aU (n:=0) ai rfl) λpe=>
 (SF.qD (hd:=(λ(s7:List PV)=>([am (.val cK),am (.val pZ),am (.val nC),am (.ol bm s7),bm]:bg))) (s0:=pe) AJ rfl (bS rfl (bU (ae 2))) (.refl _) (dr 4 dw.nd) (λs7 sf=>
 (SF.ifS (out1:=λ(ì:PV)=>.nx ([am (.val cK),am (.val pZ),am (.val nC),am (.ol bm s7),am (.val ì)]:bg)) (rJ (fJ rfl (j8 rfl .str rfl q.isinstance (ae 4) rfl q.str xz) (λ_=>rfl)))
 (sv 4 dw.nd (ay (n:=2) (aa (cJ rfl (aV rfl (aA (ae 4)) ak) (dE rfl rfl q.len (ae 1))) (aa (cJ rfl (aV rfl (aA (ae 4)) ak) (dE rfl rfl q.len (ae 1))) ai)) rfl) λJM=>
 (SF.nil rfl (.refl _)))
 (SF.nil rfl (.refl _))
 λì=>(SF.append 3 rfl rfl rfl (.inl rfl) (ae 4) λrK=>
 (SF.gk rfl (.keep (.keep (.keep (.keep (.drop (.refl _)))))))))) λs7=>
 (SF.gP (ml rfl (cG (ml rfl (je (ae 1)) (Np 3))) (cG (aU (n:=1) (aa (ay (n:=2) (aa (tF (dE rfl rfl q.len (ae 1)) ak) (aa (tF (cJ rfl (dE rfl rfl q.len (ae 1)) (dE rfl rfl q.len (ae 2))) ak) ai)) rfl) ai) rfl))) λ_=>rfl)))))
abbrev jM:DF:=⟨"_law_dates",top 51,["_law_hand_here","_law_great_here"],13,λK=>gh K [.p (kf iI),.v] (ck 1 c6)⟩
def xb (D:DI v jM) (q:NB v) (da:fY.C v) (cn:d3.C v) (aB:bh.C v):D.O:=
 qt (m:=c6) D a8 λbN _ _ _ _ _ _ hr=>
 (sl 2 a8.nd (lC da hr (aa (ae 1) ai)) λbx=>
 SF.cu 2 rfl (sl 3 a8.nd (Zu (aU (n:=1) (aa ak ai) rfl) (dE rfl rfl q.len (ae 2))) λxK=>
 (sv 4 a8.nd ak λIz=>
 (SF.U0 (i:=6) rfl a8.nd rfl rfl fH (n9 rfl rfl q.enumerate (bU (ae 2))) (λ_ _ _ _ _=>(Qh rfl (fF rfl (aJ (dr 0 fH.nd) (aJ (dr 1 fH.nd) dG))))) (λ_ _ _ _ _ é=>(rJ (fJ rfl (j8 rfl .str rfl q.isinstance (ae 1) rfl q.str xz) (λ_=>rfl)))) (λ_ _ _ _ _ é=>(ae 0)) (RH rfl rfl ⋯) ⋯ λkX=>
 (SF.qD (hd:=(λ(zh:List PV×PV×List PV)=>([am (.mE (kf iI)),am (.val bN),am (.val (.cl bx)),am (.ol bm zh.1),am (.val zh.2.1),bm,am (.ol bm zh.2.2),bm,bm]:bg))) (s0:=(xK,Iz,kX)) AJ rfl (cP rfl q.range (tG rfl rfl q.len (cm 6))) (.refl _) (dr 7 a8.nd) (λzh Jb=>
 (sl 8 a8.nd (aU (n:=0) ai rfl) λxH=>
 (SF.aaj 6 (hd:=(λXj (Tp:List PV)=>([am (.mE (kf iI)),am (.val bN),am (.val (.cl bx)),am (.ol bm zh.1),am (.val zh.2.1),bm,am (.ol (am Xj) zh.2.2),am (.val Jb),am (.ol bm Tp)]:bg))) (s0:=xH) rfl rfl rfl (.inl rfl) AJ rfl (λ_=>(.refl _)) (λ_ _=>rfl) (dr 5 a8.nd) (λXj Tp Kr=>
 (SF.ifT (GK.t (o6 (vU rfl (a6 hr) (aV rfl (aA (aV rfl (aA (ae 2)) (ae 5))) ak) (cm 6)) (kZ (vU rfl (a6 hr) (aV rfl (aA (aV rfl (aA (ae 2)) (ae 5))) ak) (cm 6)))))
 (SF.append 8 rfl rfl rfl (.inl rfl) (ae 5) λKa=>
 (SF.gk rfl (.keep (.keep (.keep (.keep (.keep (.drop (.refl _)))))))))
 (SF.gk rfl (.keep (.keep (.keep (.keep (.keep (.drop (.refl _)))))))))) λXj Tp=>
 (SF.cu 8 rfl (sv 5 a8.nd (eC cn hr (cj 0 (aa (ae 8) ai))) λPR=>
 (sv 4 a8.nd (cJ rfl (cJ rfl (ae 4) ak) (eC aB hr (cj 0 (aa ak ai)))) λyk=>
 (SF.G3 3 rfl rfl (.inl rfl) (ae 4) (ae 5) λFX=>
 (SF.remove 6 rfl rfl rfl (.inl rfl) (ae 5) λrD=>
 (SF.gk rfl (.keep (.keep (.keep (.keep (.keep (.drop (.keep (.drop (.drop (.refl _))))))))))))))))))) λzh=>
 (SF.c8 (dI rfl rfl q.tuple (cm 3)) λ_=>rfl))))))
abbrev jG:DF:=⟨"_law_stays",top 52,["_law_hand_here","_law_great_here"],14,λK=>gh K [.p (kf iI),.v] (ck 1 eF)⟩
def wZ (D:DI v jG) (aB:bh.C v) (OU:tL.C v) (Sk:yn.C v) (xG:jM.C v):D.O:=
 qt (m:=eF) D um λbN _ _ _ _ _ _ hr=>
 (SF.Qe (cL (iQ rfl (a6 hr)) (eC aB hr (cj 0 (aa ak ai))) ak)
 (SF.c8 (eC OU hr (aa (ae 1) ai)) λ_=>rfl)
 (SF.c8 (eC Sk hr (aa (ae 1) (aa (eC xG hr (cj 0 (aa (ae 1) ai))) ai))) λ_=>rfl))
abbrev iu:DF:=⟨"_law_prices",top 53,["_law_hand_here"],3,λK=>gh K [.p (kf iI)] (ck 0 cz)⟩
def uz (D:DI v iu) (q:NB v) (aB:bh.C v) (cn:d3.C v):D.O:=
 adf (m:=cz) D cS λ_ _ _ _ _ _ hr=>
 (sl 1 cS.nd (aU (n:=0) ai rfl) λgY=>
 (SF.qD (hd:=(λ(s3:List PV)=>([am (.mE (kf iI)),am (.ol bm s3),bm,bm]:bg))) (s0:=gY) AJ rfl (cP rfl q.range ak) (.refl _) (dr 2 cS.nd) (λs3 k_4=>
 (sl 3 cS.nd (aU (n:=7) (aa ak (aa ak (aa ak (aa ak (aa ak (aa (eC aB hr (cj 0 (aa ak ai))) (aa (eC aB hr (cj 0 (aa ak ai))) ai))))))) rfl) λM0=>
 SF.cu 3 rfl (sl 3 cS.nd (ml rfl (je (ae 3)) (cG (aU (n:=2) (aa ak (aa (cJ rfl (Uo ak ak) (eC aB hr (cj 0 (aa ak ai)))) ai)) rfl))) λJr=>
 SF.cu 3 rfl (SF.append 1 rfl rfl rfl (.inl rfl) (eC cn hr (cj 0 (aa (ae 3) ai))) λkI=>
 (SF.gk rfl (.keep (.keep (.drop (.drop (.refl _)))))))))) λs3=>
 (SF.c8 (dI rfl rfl q.tuple (cm 1)) λ_=>rfl)))
abbrev jL:DF:=⟨"_law_deeds",top 54,["_law_stays_here","_law_told","_law_node","_law_at"],1,λK=>fj K [.v,.v,.v,.v] (ck 4 cZ)⟩
def xa (D:DI v jL) (q:NB v):D.O:=
 Zn (m:=cZ) D bf λaz d6 bT Ö _ _ _ _ _ _ hr=>
 (SF.M7 (aV rfl (aA (ae 0)) (ae 3)) (g_4 rfl (fF rfl (aJ (dr 4 bf.nd) (aJ (dr 5 bf.nd) (aJ (dr 6 bf.nd) (aJ (dr 7 bf.nd) dG)))))) λt3=>
 (SF.Qe (fJ rfl (j8 rfl .str rfl q.isinstance (aV rfl (aA (ae 1)) (ae 2)) rfl q.str xz) (λ_=>rfl))
 (SF.gP (V7 (GK.t (o6 (cL (iQ rfl (a6 hr)) (ae 6) (ay (n:=0) ai rfl)) (kZ (cL (iQ rfl (a6 hr)) (ae 4) (aV rfl (aA (ae 1)) (ae 2)))))) (aU (n:=1) (aa (ay (n:=2) (aa g9 (aa (gG (aU (n:=0) ai rfl)) ai)) rfl) ai) rfl) (aU (n:=0) ai rfl)) λ_=>rfl)
 (SF.M7 (aV rfl (aA (ae 1)) (ae 2)) (Qh rfl (fF rfl (aJ (dr 8 bf.nd) (aJ (dr 9 bf.nd) dG)))) λt8=>
 (sl 10 bf.nd (aU (n:=1) (aa (ay (n:=2) (aa ak (aa (gG (aU (n:=2) (aa (ay (n:=2) (aa (ae 8) (aa (ae 3) ai)) rfl) (aa (ay (n:=2) (aa (ae 9) (aa (ae 3) ai)) rfl) ai)) rfl)) ai)) rfl) ai) rfl) λxJ=>
 (SF.qD (hd:=(λ(Tn:List PV)=>([am (.val az),am (.val d6),am (.val bT),am (.val Ö),am (.val t3.1),am (.val t3.2.1),am (.val t3.2.2.1),am (.val t3.2.2.2),am (.val t8.1),am (.val t8.2),am (.ol bm Tn),bm]:bg))) (s0:=xJ) AJ rfl (bS rfl (bU (ae 7))) (.refl _) (dr 11 bf.nd) (λTn MD=>
 (SF.append 10 rfl rfl rfl (.inl rfl) (ay (n:=2) (aa ak (aa (gG (aU (n:=2) (aa (ay (n:=2) (aa (ae 8) (aa (ae 3) ai)) rfl) (aa (ay (n:=2) (aa (ae 9) (aa (ae 11) ai)) rfl) ai)) rfl)) ai)) rfl) λkI=>
 (SF.append 10 rfl rfl rfl (.inl rfl) (ay (n:=2) (aa ak (aa (gG (aU (n:=2) (aa (ay (n:=2) (aa (ae 8) (aa (ae 11) ai)) rfl) (aa (ay (n:=2) (aa (ae 9) (aa (ae 3) ai)) rfl) ai)) rfl)) ai)) rfl) λFW=>
 (SF.gk rfl (.keep (.keep (.keep (.keep (.keep (.keep (.keep (.keep (.keep (.keep (.keep (.drop (.refl _))))))))))))))))) λTn=>
 (SF.ifS (out1:=λ(ê:List PV)=>.nx ([am (.val az),am (.val d6),am (.val bT),am (.val Ö),am (.val t3.1),am (.val t3.2.1),am (.val t3.2.2.1),am (.val t3.2.2.2),am (.val t8.1),am (.val t8.2),am (.ol bm ê),bm]:bg)) (cL (iQ rfl (a6 hr)) (dE rfl rfl q.len (ae 6)) ak)
 (SF.append 10 rfl rfl rfl (.inl rfl) (ay (n:=2) (aa ak (aa (gG (aU (n:=2) (aa (ay (n:=2) (aa (ae 8) (aa (aV rfl (aA (ae 6)) ak) ai)) rfl) (aa (ay (n:=2) (aa (ae 9) (aa (aV rfl (aA (ae 6)) ak) ai)) rfl) ai)) rfl)) ai)) rfl) λFV=>
 (SF.append 10 rfl rfl rfl (.inl rfl) (ay (n:=2) (aa ak (aa (gG (aU (n:=2) (aa (ay (n:=2) (aa (ae 8) (aa (aV rfl (aA (ae 6)) ak) ai)) rfl) (aa (ay (n:=2) (aa (ae 9) (aa (aV rfl (aA (ae 6)) ak) ai)) rfl) ai)) rfl)) ai)) rfl) λFU=>
 (SF.nil rfl (.refl _))))
 (SF.nil rfl (.refl _))
 λê=>(SF.U7 10 rfl rfl)))))))
abbrev jF:DF:=⟨"_law_steps",top 55,["_law_stays_here","_law_node","_law_at"],1,λK=>fj K [.v,.v,.v] (ck 3 eE)⟩
def wY (D:DI v jF) (q:NB v):D.O:=
 VW (m:=eE) D hZ λaz bT Ö _ _ _ _ _ _ hr=>
 (sv 3 hZ.nd (aV rfl (aA (aV rfl (aA (ae 0)) (ae 2))) ak) λfM=>
 (sv 4 hZ.nd (qF (cL (iQ rfl (a6 hr)) (dE rfl rfl q.len (ae 3)) ak) ak g9) λJz=>
 (SF.gP (ic rfl jY (bS rfl (bU (ae 3))) (λ_ _ _ _ _=>(dr 0 jY.nd)) (λ_ _ _ _ _ p4=>(ay (n:=2) (aa (ae 2) (aa (gG (aU (n:=1) (aa (ay (n:=2) (aa (ae 1) (aa (ae 0) ai)) rfl) ai) rfl)) ai)) rfl)) rfl) λ_=>rfl)))
abbrev jD:DF:=⟨"_law_worth",top 56,["_law_prices_here","_law_known_here","_law_option"],1,λK=>gh K [.v,.v,.v] (ck 3 eB)⟩
def wW (D:DI v jD):D.O:=
 Hl (m:=eB) D e6 λaO gW nF _ _ _ _ _ _ hr=>
 (sv 3 e6.nd (qF (cL xg (aV rfl (aA (ae 2)) ak) g9) ak (aV rfl (aA (ae 0)) (aV rfl (aA (ae 2)) ak))) λm7=>
 (SF.OW (hd:=(λ(s2:PV)=>([am (.val aO),am (.val gW),am (.val nF),am (.val s2),bm]:bg))) (s0:=m7) (inj:=id) AJ rfl (bS rfl (bU (aV rfl (aA (ae 2)) ak))) (.refl _) (dr 4 e6.nd) (λ_=>trivial) (λs2 lI=>
 (SF.Qe (cL xg (tH (a6 hr) (ae 1) (ae 4) (λ_ _=>rfl)) g9)
 (SF.ret (k:=λx4=>(Lp.out x4)) g9 λ_=>rfl)
 (sv 3 e6.nd (cJ rfl (ae 3) (tH (a6 hr) (ae 1) (ae 4) (λ_ _=>rfl))) λqL=>
 (SF.gk rfl (.keep (.keep (.keep (.keep (.drop (.refl _)))))))))) λs2=>
 (SF.c8 (ae 3) λ_=>rfl)))
abbrev jJ:DF:=⟨"_law_known",top 57,["_law_stays_here","_law_told","_law_prices_here"],2,λK=>gh K [.v,.v,.v] (ck 3 eG)⟩
def w6 (D:DI v jJ) (q:NB v) (xF:jL.C v) (xA:jF.C v) (xx:jD.C v):D.O:=
 Hl (m:=eG) D bz λaz d6 aO _ _ _ _ _ _ hr=>
 (SF.YH (i:=3) bz.nd rfl (CD rfl)
 (SF.qD (hd:=(λ(s3:List (List Key×PV))=>([am (.val az),am (.val d6),am (.val aO),am (.ot s3),bm,bm,bm,bm]:bg))) (s0:=[]) AJ rfl (cP rfl q.range (dE rfl rfl q.len (ae 1))) (.refl _) (dr 4 bz.nd) (λs3 kz=>
 (SF.qD (hd:=(λ(s6:List (List Key×PV))=>([am (.val az),am (.val d6),am (.val aO),am (.ot s6),am (.val kz),bm,bm,bm]:bg))) (s0:=s3) AJ rfl (cP rfl q.range (dE rfl rfl q.len (ae 0))) (.refl _) (dr 5 bz.nd) (λs6 SU=>
 (sl 6 bz.nd (lC xF hr (aa (ae 0) (aa (ae 1) (aa (ae 4) (aa (ae 5) ai))))) λMZ=>
 SF.cu 6 rfl (sl 6 bz.nd (ml rfl (je (ae 6)) (cG (lC xA hr (aa (ae 0) (aa (ae 4) (aa (ae 5) ai)))))) λJt=>
 SF.cu 6 rfl (SF.as (Xh 3 rfl (SW (i:=7) rfl bz.nd rfl rfl j5 (bS rfl (bU (ae 6))) (λ_ _ _ _ _=>(dr 0 j5.nd)) (λ_ _ _ _ _ Y8=>(eC xx hr (aa (ae 2) (aa (ae 1) (aa (ae 0) ai))))) rfl)) λGg=>
 SF.cu 7 rfl (SF.U1 (i:=7) rfl bz.nd rfl rfl j3 (bS rfl (bU (ae 7))) (λ_ _ _ _ _=>(dr 0 j3.nd)) (λ_ _ _ _ _ í=>(cL xf (ae 0) g9)) (λ_ _ _ _ _ í=>(ae 0)) rfl λtN=>
 SF.cu 7 rfl (SF.zj 3 rfl (a6 hr) rfl (.inr (.inl rfl)) (qF (Yk rfl (a6 hr) (je (ae 7))) (Pm rfl rfl rfl q.min (je (ae 7))) g9) (ay (n:=2) (aa (ae 4) (aa (ae 5) ai)) rfl) λmm=>
 (SF.gk rfl (.keep (.keep (.keep (.keep (.keep (.drop (.drop (.drop (.refl _)))))))))))))))) λs6=>
 (SF.gk rfl (.keep (.keep (.keep (.keep (.drop (.refl _))))))))) λs3=>
 (SF.cu 3 rfl (SF.c8 (ae 3) λ_=>rfl))))
abbrev kS:DF:=⟨"_law_case",top 58,["_law_hand_here","_law_great_most","_law_small_most"],15,λK=>gh K [.p (kf iI),.v,.v] (ck 2 fy)⟩
def FI (D:DI v kS) (xE:jK.C v) (xB:jG.C v) (xC:jH.C v) (da:fY.C v) (uG:iu.C v):D.O:=
 zK (m:=fy) D d7 λqf pW _ _ _ _ _ _ hr=>
 (SF.M7 (eC xE hr (cj 0 (aa (ae 1) ai))) (Qh rfl (fF rfl (aJ (dr 3 d7.nd) (aJ (dr 4 d7.nd) dG)))) λt3=>
 (sv 5 d7.nd (eC xB hr (cj 0 (aa (ae 3) ai))) λng=>
 (sv 6 d7.nd (eC xC hr (cj 0 (aa (ae 4) (aa (ae 2) ai)))) λjc=>
 (SF.c8 (ay (n:=4) (aa (ae 5) (aa (ae 6) (aa (gG (lC da hr (aa (ae 6) ai))) (aa (eC uG hr (cj 0 ai)) ai)))) rfl) λ_=>rfl))))
abbrev mR:DF:=⟨"_law_due",top 59,["_law_stays_here","_law_told","_law_prices_here"],3,λK=>gh K [.v,.v,.v] (ck 3 gs)⟩
def HI (D:DI v mR) (q:NB v) (xD:jJ.C v):D.O:=
 Hl (m:=gs) D kq λaz d6 aO _ _ _ _ _ _ hr=>
 (sv 3 kq.nd (eC xD hr (aa (ae 0) (aa (ae 1) (aa (ae 2) ai)))) λn6=>
 (SF.k8 (i:=4) rfl kq.nd rfl rfl mj (cP rfl q.range (dE rfl rfl q.len (ae 0))) (λ_ _ _ _ _=>(dr 0 mj.nd)) (λ_ _ _ _ _ p8=>(tH (a6 hr) (ae 1) (ay (n:=2) (aa (tF (dE rfl rfl q.len (ae 2)) ak) (aa (ae 0) ai)) rfl) (λ_ _=>rfl))) rfl λoC=>
 SF.cu 4 rfl (SF.c8 (Pm rfl rfl rfl q.min (cG (JZ rfl mi (bS rfl (bU (ae 4))) (λ_ _ _ _ _=>(dr 0 mi.nd)) (λ_ _ _ _ _ î=>(cL xf (ae 0) g9)) (λ_ _ _ _ _ î=>(ae 0)) rfl))) λ_=>rfl)))
abbrev jI:DF:=⟨"_law_right",top 60,["_law_stays_here","_law_small_here","_law_told","_law_prices_here"],8,λK=>gh K [.v,.v,.v,.v] (ck 4 c9)⟩
def w5 (D:DI v jI) (q:NB v) (oq:rh.C v) (H9:mR.C v):D.O:=
 VV (m:=c9) D lW λaz pX d6 aO _ _ _ _ _ _ hr=>
 (sv 4 lW.nd (eC oq hr (aa (ae 0) (aa (ae 1) (aa (ae 3) ai)))) λgY=>
 (SF.Qe (GK.t (Tg (fJ rfl (j8 rfl .bool rfl q.isinstance (ae 4) rfl q.bool boot_bool) (λ_=>rfl)) (MC (rJ (fJ rfl (j8 rfl .int rfl q.isinstance (ae 4) rfl q.int boot_int) (λ_=>rfl))))))
 (SF.c8 LR λ_=>rfl)
 (SF.c8 (vv (iQ rfl (a6 hr)) (ae 4) (eC H9 hr (aa (ae 0) (aa (ae 2) (aa (ae 3) ai))))) λ_=>rfl)))
abbrev Ur:DF:=⟨"law",top 61,["_law_script"],16,λK=>gh K [.v] (ck 1 nT)⟩
def ZD (D:DI v Ur) (q:NB v) (FR:kR.C v) (aB:bh.C v) (FT:kS.C v) (ou:jI.C v) (oq:rh.C v):D.O:=
 qt (m:=nT) D hX λfR _ _ _ _ _ _ hr=>
 (SF.OW (hd:=(λ(s6:Unit)=>([am (.val fR),bm,bm,bm,bm,bm,bm,bm,bm,bm]:bg))) (s0:=()) (inj:=id) AJ rfl (cP rfl q.range (aaA rfl rfl q.max ak (aaz rfl rfl q.min ak (dE rfl rfl q.len (ae 0))))) (.refl _) (dr 1 hX.nd) (λ_=>trivial) (λs6 Ď=>
 (sl 2 hX.nd (lC FR hr (aa (ae 0) (aa (ae 1) ai))) λqe=>SF.mE 2 rfl
 (sv 3 hX.nd (aV rfl (rS (aU (n:=4) (aa (ay (n:=2) (aa ak (aa ak ai)) rfl) (aa (ay (n:=2) (aa ak (aa ak ai)) rfl) (aa (ay (n:=2) (aa ak (aa ak ai)) rfl) (aa (ay (n:=2) (aa ak (aa ak ai)) rfl) ai)))) rfl)) (eC aB hr (cj 2 (aa ak ai)))) λnh=>
 (SF.M7 (eC FT hr (cj 2 (aa (aV rfl (aA (ae 3)) ak) (aa (aV rfl (aA (ae 3)) ak) ai)))) (g_4 rfl (fF rfl (aJ (dr 4 hX.nd) (aJ (dr 5 hX.nd) (aJ (dr 6 hX.nd) (aJ (dr 7 hX.nd) dG)))))) λuT=>
 (SF.Qe (rJ (fJ rfl (eC ou hr (aa (ae 4) (aa (ae 5) (aa (ae 6) (aa (ae 7) ai))))) (λ_=>rfl)))
 (SF.ret (k:=λUB=>(Lp.out UB)) LR λ_=>rfl)
 (SF.Qe (cL (TY rfl (a6 hr)) (eC oq hr (aa (ae 4) (aa (ae 5) (aa (ay (n:=4) (aa ak (aa ak (aa ak (aa ak ai)))) rfl) ai)))) ak)
 (SF.ret (k:=λx41=>(Lp.out x41)) LR λ_=>rfl)
 (SF.OW (hd:=(λ(ë:Unit)=>([am (.val fR),am (.val Ď),am (.mE (kf iI)),am (.val nh),am (.val uT.1),am (.val uT.2.1),am (.val uT.2.2.1),am (.val uT.2.2.2),bm,bm]:bg))) (s0:=()) (inj:=Lp.out) AJ rfl (cP rfl q.range ak) (.refl _) (dr 8 hX.nd) (λ_=>trivial) (λë PQ=>
 (sv 9 hX.nd (dI rfl rfl q.tuple (rS (ic rfl zV (cP rfl q.range ak) (λ_ _ _ _ _=>(dr 0 zV.nd)) (λ_ _ _ _ _ p48=>(qi (aV rfl (aA (ae 2)) (ae 1)) (Ki rfl q.int (vv (iQ rfl (a6 hr)) (ae 1) (ae 0))))) rfl))) λtU=>
 (SF.Qe (rJ (fJ rfl (eC ou hr (aa (ae 4) (aa (ae 5) (aa (ae 6) (aa (ae 9) ai))))) (λ_=>rfl)))
 (SF.ret (k:=λx53=>(Lp.out x53)) LR λ_=>rfl)
 (SF.ifT (cL T3 (eC oq hr (aa (ae 4) (aa (ae 5) (aa (ae 9) ai)))) (eC oq hr (aa (ae 4) (aa (ae 5) (aa (ae 7) ai)))))
 (SF.ret (k:=λx60=>(Lp.out x60)) LR λ_=>rfl)
 (SF.gk rfl (.keep (.keep (.keep (.keep (.keep (.keep (.keep (.keep (.drop (.drop (.refl _)))))))))))))))) λë=>
 (SF.gk rfl (.keep (.drop (.drop (.drop (.drop (.drop (.drop (.drop (.refl _))))))))))))))))) λs6=>
 (SF.c8 LR λ_=>rfl))
end
open PySem PySem.Spec PyProof.Rows L2 PL FL
def all_d {K:Ab} (X:K.In h) (G:h.Ns ev mg) (Ik:DX K "parts_of" (top 1)) (Sx:DX K "nodes" (top 2)) (Pn:DX K "halves" (top 3)) (Iq:DX K "ahead_of" (top 4)) (Ih:DX K "under_at" (top 9)) (F6:DX K "beside_at" (top 10)) (LP:DX K "is_home" (top 11)) (LO:DX K "name_of" (top 12)) (Im:DX K "lines_up" (top 13)) (xX:DX K "apart_from" (top 14)) (Po:DX K "ground" (top 15)) (F4:DX K "split_ins" (top 22)) (Il:DX K "over_ins" (top 23)) (Io:DX K "deeds_at" (top 24)) (Pj:DX K "summed" (top 27)) (Ip:DX K "cheapest" (top 28)) (Ij:DX K "price_of" (top 29)) (F5:DX K "deed_cost" (top 30)) (xW:DX K "deed_costs" (top 31)) (F3:DX K "step_cost" (top 32)) (xT:DX K "step_costs" (top 33)) (Pk:DX K "row_of" (top 34)) (Sw:DX K "table" (top 35)) (Sz:DX K "least" (top 36)) (uH:DX K "split_dates" (top 38)) (Ii:DX K "standing" (top 39)) (LN:DX K "stay_of" (top 40)) (SA:DX K "dated" (top 41)) (F9:DX K "_law_hand" (top 43)) (F7:DX K "_law_take" (top 44)) (F8:DX K "_law_pick" (top 45)) (xZ:DX K "_law_words" (top 46)) (uJ:DX K "_law_joined" (top 47)) (yg:DX K "_law_great" (top 48)) (yc:DX K "_law_small" (top 49)) (ye:DX K "_law_nodes" (top 50)) (yi:DX K "_law_dates" (top 51)) (yb:DX K "_law_stays" (top 52)) (uI:DX K "_law_prices" (top 53)) (yh:DX K "_law_deeds" (top 54)) (ya:DX K "_law_steps" (top 55)) (xY:DX K "_law_worth" (top 56)) (yf:DX K "_law_known" (top 57)) (Ga:DX K "_law_case" (top 58)) (Ir:DX K "_law_due" (top 59)) (yd:DX K "_law_right" (top 60)) (oE:AE K ev "UNDER"=am (am (.int 2 Jf))) (kU:AE K ev "BESIDE"=am (am (.int 3 y8))) (tQ:AE K ev "NAME"=am (am (.int 0 MN))) (oH:AE K ev "FOUND"=am (am (.str "found" Jh))) (oG:AE K ev "SPLIT"=am (am (.str "split" Jg))) (tP:AE K ev "OVER"=am (am (.str "over" MM))) (iX:AE K ev "DOUBLED"=am (am (.str "doubled" uS))) (lL:AE K ev "DEEDS"=am (am (.ref rj))) (qW:P1 K rj ["split","doubled","over"]) (tR:AE K ev "LOST"=am (am (.int 3 MP))) (vN:AE K ev "isinstance"=am bm) (X4:AE K ev "str"=am bm) (Uy:AE K ev "list"=am bm) (GN:AE K ev "reversed"=am bm) (X7:AE K ev "len"=am bm) (Qn:AE K ev "tuple"=am bm) (yT:AE K ev "enumerate"=am bm) (Qo:AE K ev "range"=am bm) (Mo:AE K ev "sorted"=am bm) (X3:AE K ev "sum"=am bm) (X5:AE K ev "min"=am bm) (X2:AE K ev "zip"=am bm) (Uz:AE K ev "dict"=am bm) (X9:AE K ev "abs"=am bm) (X8:AE K ev "int"=am bm) (UA:AE K ev "bool"=am bm) (X6:AE K ev "max"=am bm):aaY K mg Ur:=by
 constructor
 rintro v rfl rfl D;have q:NB v:=⟨AH X G vN,AH X G X4,AH X G Uy,AH X G GN,AH X G X7,AH X G Qn,AH X G yT,AH X G Qo,AH X G Mo,AH X G X3,AH X G X5,AH X G X2,AH X G Uz,AH X G X9,AH X G X8,AH X G UA,AH X G X6⟩;replace oE:=BH X G oE;replace kU:=BH X G kU;replace tQ:=BH X G tQ;replace oH:=BH X G oH;replace oG:=BH X G oG;replace tP:=BH X G tP;replace iX:=BH X G iX;replace lL:=BH X G lL;replace tR:=BH X G tR;refine Ik.go (d:=mN) X G (λD=>HC D q) λIP=>?_;refine Sx.go (d:=lJ) X G (λD=>RT D q IP) λrk=>?_;refine Pn.go (d:=iW) X G (λD=>Oi D q) λoM=>?_;refine Iq.go (d:=jC) X G (λD=>HH D q rk oM) λtW=>?_;refine Ih.go (d:=eZ) X G (λD=>Hz D oE) λjR=>?_;refine F6.go (d:=kQ) X G (λD=>FD D kU) λGy=>?_;refine LP.go (d:=pR) X G (λD=>Ls D tQ jR) λMc=>?_;refine LO.go (d:=lK) X G (λD=>Lr D q) λvK=>?_;refine Im.go (d:=mP) X G (λD=>HE D q tW) λIT=>?_;refine xX.go (d:=jB) X G (λD=>wV D q) λyA=>?_;refine Po.go (d:=tL) X G (λD=>Oj D q rk IT vK oM yA) λP5=>?_;refine F4.go (d:=kN) X G (λD=>z9 D q jR) λGw=>?_;refine Il.go (d:=mO) X G (λD=>HD D Gy) λIQ=>?_;refine Io.go (d:=mQ) X G (λD=>HF D q oH oG tP iX Mc Gw IQ) λIU=>?_;refine Pj.go (d:=oB) X G (λD=>Oe D q) λGu=>?_;refine Ip.go (d:=jA) X G (λD=>HG D q) λtV=>?_;refine Ij.go (d:=mM) X G (λD=>HB D lL qW) λIM=>?_;refine F5.go (d:=kO) X G (λD=>Fl D q oM Gu IM) λGx=>?_;refine xW.go (d:=jz) X G (λD=>wU D IU Gx) λyz=>?_;refine F3.go (d:=kM) X G (λD=>zZ D q tR jR) λGv=>?_;refine xT.go (d:=jy) X G (λD=>wO D Gv jR Gu) λyx=>?_;refine Pk.go (d:=tK) X G (λD=>Og D q yz yx tV) λP4=>?_;refine Sw.go (d:=ym) X G (λD=>RS D q rk P4) λS1=>?_;refine Sz.go (d:=rh) X G (λD=>RU D tV S1) λKv=>?_;refine uH.go (d:=ir) X G (λD=>uy D q) λuM=>?_;refine Ii.go (d:=mL) X G (λD=>HA D q tW) λIL=>?_;refine LN.go (d:=pP) X G (λD=>Lq D q oM vK) λMb=>?_;refine SA.go (d:=yn) X G (λD=>RV D q rk uM IL Mb) λS2=>?_;refine F9.go (d:=kR) X G (λD=>FH D q) λGz=>?_;refine F7.go (d:=bh) X G (λD=>FE D) λbO=>?_;refine F8.go (d:=d3) X G (λD=>FG D q bO) λhE=>?_;refine xZ.go (d:=jE) X G (λD=>wX D q bO hE) λyC=>?_;refine uJ.go (d:=fg) X G (λD=>uA D q bO) λmw=>?_;refine yg.go (d:=jK) X G (λD=>w9 D yC bO mw) λyI=>?_;refine yc.go (d:=jH) X G (λD=>w4 D q bO hE mw) λyF=>?_;refine ye.go (d:=fY) X G (λD=>n8 D q 12) λoO=>?_;refine yi.go (d:=jM) X G (λD=>xb D q oO hE bO) λyK=>?_;refine yb.go (d:=jG) X G (λD=>wZ D bO P5 S2 yK) λyE=>?_;refine uI.go (d:=iu) X G (λD=>uz D q bO hE) λuN=>?_;refine yh.go (d:=jL) X G (λD=>xa D q) λyJ=>?_;refine ya.go (d:=jF) X G (λD=>wY D q) λyD=>?_;refine xY.go (d:=jD) X G (λD=>wW D) λyB=>?_;refine yf.go (d:=jJ) X G (λD=>w6 D q yJ yD yB) λyH=>?_;refine Ga.go (d:=kS) X G (λD=>FI D yI yE yF oO uN) λGA=>?_;refine Ir.go (d:=mR) X G (λD=>HI D q yH) λIV=>?_;refine yd.go (d:=jI) X G (λD=>w5 D q Kv IV) λyG=>?_;exact ZD D q Gz bO GA yG Kv
def walk {l:EI}{q:tt}{d:DefRec}{K:Params->Ab} (hn:l.most=am 63) (Z4:d.params.defaults=[])
  (hY:∀(w:t0) (h:lf),YP w h->(K w.params).In h)
  (F:∀(w:t0) (mg:Str->Option bn) (fa:ce) (h:lf),(K w.params).In h->h.Ns ev mg->mg d.name=am (.ref fa)->
   ∃fd:Ev,(∀(s:ci) (u:bn),BindsTo s fd ⟨[u],[]⟩ [("_law_script",u)])/\∀base:lf,(K w.params).In base->base.Ns ev mg->iZ l.prog w (K w.params) mg base my 16 fa fd ["_law_script"] (Jp (K w.params))) :
  PySem.W.WalkO q Ð XP YP l.row.toRowW d [] (λf vs=>FA f vs):=
 L2.Qq (n:=63) (k:=16) (x:="_law_script") (CX:=λ_=>my) (sp:=λw=>Jp (K w.params)) hn ⋯ Z4 ⟨rfl,by decide,by decide,rfl⟩ hY F (λ_ _ a ns hl hO hS=>⟨a,ns,rfl,hO,hS,hl,λ_=>rfl⟩) λ_ _ _ _ _ z=>z
end My
end
open PySem PySem.W PyProof.Rows
inductive PySem.W.Fast:Prop|tw10110022755182870271|tw12930365211284656523|tw3892987294394165850|tw657263036081021493|tw4252958317247918574|tw13174779114608903763|tw10479074538360102807|tw8221271801156803965|tw5690352728636743614|tw3732210682544493246|tw14277405902807970847|tw17283102223464997808|tw16584869269961182011|tw9430901495829079395|tw8810546599338411236|tw17337809428266933833|tw3187731576480792675|tw10306590799587484158|tw15908295541527663545|tw8067197187589879422|tw12306211672675602084|tw4291170305163297272|tw3984456996411861875|tw14662414582435909018|tw18014018317439227125|tw11932409000377107933|tw12936060737736684325|tw12710980390612633833|tw12296932993035240555|tw1534097152863655971|tw6421061905410911493|tw4804322726853731881|tw4129670252822891442|tw18191621852855078980|tw1241087685869732734|tw17737213701206444365|tw14513677250493994858|tw6207864960581680569|tw2207291398209124900|tw9478230465805433265|tw9938209292328997352|tw607768099358782730|tw13561622303339044843|tw10011497728952947336|tw17238286778727867809|tw5618271582381502404|tw11153716178950884923|tw6570479522453882333|tw2686804074034490894|tw9846859299409626227|tw17091406520646807864|tw5682589201514400917|tw4756127855641792429|tw11103735599039857005|tw13360291873942628075|tw8213524961558284450|tw8461893036817509314|tw5302428626327685994|tw13495407194963197366|tw4439737098089677419|tw2067489208587010476|tw18402736114475547045|tw10854717192647218860|tw4908728571835800959|tw2854608929407587875|tw8963135856260712807|tw1587103769609424538|tw15643889028500445650|tw10855415684181991071|tw12042642276382955331|tw10276567187035791900|tw17042625006843616623|tw4379079849118116554|tw13549305723213375356|tw8510001855185758098|tw13900711545603595625|tw13131782072196025617|tw3531720362694698047|tw10313019128991295466|tw8753806430705756918|tw10971209127681229582|tw18255622091921642831|tw6519192709954021060|tw348177552084954550|tw7424682131612671849|tw14558141971076755490|tw12633699571506703349|tw14408176432860009183|tw7414506128501122650|tw2412172748342212256|tw7595265909875735180|tw587242448516006866|tw12227652269870249200|tw1474042760623526372|tw9651919278266074423|tw6449402918476443867|tw4237160965535821165|tw7379144293265738489|tw5115138053452658530|tw4683231552493889026
def PySem.W.Fast.tw14313407521534498279:=PySem.Challenge.pw_treewithin_k27_least_costs
theorem PySem.W.Fast.te14313407521534498279:PySem.Challenge.pw_treewithin_k27_least_costs=PySem.W.Fast.tw14313407521534498279:=rfl
set_option maxRecDepth 100000 in
set_option maxHeartbeats 0 in
theorem PySem.Challenge.cw_treewithin_k27_least_costs_holds : PySem.Challenge.rw_treewithin_k27_least_costs.Holds := by
 w_on;o_law;k_head;(case hw=>w_witness2)
 k_fill
 refine My.walk (l:=PySem.Challenge.rw_treewithin_k27_least_costs) rfl rfl (fun w h Y=>PySem.W.kIn_of Y) ?F
 case F=>
  intro w mg fa h KX G hmg;refine' FL.mkAll (st:=My.top 61) (k:=16) My.law27_ok KX G hmg ?e (fun _ _ _ _ _ _=>FL.us1 fun _=>rfl) (My.all_d KX G ..)
  all_goals try first | (refine' FL.dx ?a ?l ?c ?k;(case a=>k_is);(case l=>k_is);(case c=>k_is);(case k=>k_is)) | (refine' FL.tup3K ?a;(case a=>k_is)) | k_is
#print axioms PySem.Challenge.cw_treewithin_k27_least_costs_holds
