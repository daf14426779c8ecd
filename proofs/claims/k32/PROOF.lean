import PyProof.Rows.All
import Wide.All
import OpenK.AllK
import Wide.FinOn
import Lean
import PyProof.EqAt
import PyProof.EqKinds
import PyProof.TupleCall
import PyProof.NeKinds
import PyProof.FactsAll.tuple_2
import PyProof.FactsAll.str_0
import PyProof.FactsAll.str_1
import PyProof.FactsAll.str_2
import PyProof.FactsAll.str_3
import PyProof.Rows.MinMaxN
import PyProof.Rows.SumAny
import PyProof.Rows.SetFrom
import PyProof.ReprRoads
import PyProof.Rows.StrKeys3
import PyProof.CallFns
import KE.KSortTup
import KE.KDictSum
import PyProof.Rows.CallKwBuiltin
import KE.KMinBuiltin
import PySem.Challenge.RW_treewithin_k32_tables_shown
local macro_rules | `(tactic| omega) => `(tactic| lia)
open PySem renaming wpAny_bind -> Aa, wpAny_pure -> Ae, wpAny_newObj_type -> AO, wpAny_callSpecial?_slot -> AU, wpAny_field -> AY, wpAny_setField_rec -> A3, Value -> A5, wpAny_call_entry -> Bb, wpAny_holding -> Bf, wpAny_seqItems -> Bs, Addr -> BC, wpAny_Call_Name_kw -> BD, wpAny_mono -> BJ, mem_of_lookup -> BK, wpAny_typeNameOfWhole_keyiter -> BX, Str -> B3, wpAny_truthy_bool -> B4, Expr -> B7, Pos -> Ca, wpAny_passesOwn -> Ci, wpAny_typeNameOf_keyiter -> Ck, wpAny_of_eq -> Cs, wpAny_letGo -> Ct, wpAny_typeOf -> Cu, wpAny_updateSeq -> Cw, wpAny_pyIter_list -> CG, wpAny_rule -> CM, wpAny_newTuple -> CN, wpAny_attempt -> CZ, wpAny_pyIter_enum -> C5, wpAny_isInstance -> Dk, wpAny_eqBool_str -> Dl, wpAny_updateSeq_pair -> Dv, wpAny_execs_nil -> DC, Shared -> DM, wpAny_tryCatch -> DY, wpAny_setField -> DZ, wpAny_pyIter_tuple -> D1, wpAny_letOwnedTupleGo_enum -> D2, wpAny_sequenceKey -> Ed, wpAny_dictEntries -> Ee, wpAny_standAt -> Eh, wpAny_onRaise -> Ei, wpAny_comprehension_free -> Ej, wpAny_specialOf -> EL, wpAny_dictEpoch -> EM, Heap -> Ft, Obj -> FC, call -> FH
open PySem.W renaming Frag -> Ab, nsIn -> AD, mg_none_of -> AE, kia_one -> Ba, kitOne -> Br, mg_of -> BG, fnOf -> BW, KasT -> DK, keepIn -> DR, codeIn -> DS, methodObj -> D9, kitx_list -> Ea, kitx_dict -> Eb, cellsFrom_some -> Et, kas_rev -> EH, instObj -> EI, OpenLaw -> EJ, lookIn -> EZ, kitx_tuple -> Fp, plainGet -> Fx, kat_cons -> Fy, kas_sort -> Fz
open List renaming getElem?_eq_getElem -> Ad, length_map -> Af, length_append -> Ah, size_toArray -> Ai, getElem?_map -> Aj, getElem?_eq_some_iff -> Ak, getD_eq_getElem?_getD -> Al, replicate -> Am, map_cons -> Ao, length_cons -> Aq, mem_map -> Av, map_append -> Aw, mem_cons -> Ax, append_assoc -> Az, map_map -> AB, range -> AJ, mem_singleton -> AN, getElem?_append_left -> AQ, getElem?_eq_none -> AV, mem_append -> AW, mem_cons_of_mem -> AZ, getElem?_append_right -> A1, mem_range -> A6, mem_of_getElem? -> A7, mem_append_right -> A8, filterMap_cons -> A9, mem_filter -> Bc, find?_cons -> Bi, lookup_cons -> Bj, drop_eq_getElem_cons -> Bl, length_nil -> Bn, length_replicate -> Bo, getElem?_replicate -> Bq, mem_cons_self -> Bt, not_mem_nil -> Bv, replicate_succ -> Bw, length_filter_le -> Bx, any_cons -> Bz, idxOf_lt_length_of_mem -> BF, length_reverse -> BL, getElem?_range -> BM, length_set -> BO, length -> BP, forIn_cons -> BQ, pairwise_iff_getElem -> BR, getElem?_set_ne -> BZ, eq_nil_of_length_eq_zero -> B1, flatten_cons -> B5, ext_getElem? -> B6, length_pos_iff -> B8, cons_append -> Cb, all_eq_true -> Cc, map_congr_left -> Cm, length_take -> Cp, eraseIdx_cons_succ -> Cq, getElem?_set_self -> Cv, append_nil -> Cz, perm_append_comm -> CD, reverse_cons -> CH, length_range -> CI, flatMap_cons -> CJ, take_succ -> CO, getElem?_of_mem -> CP, take_length -> CS, length_drop -> CT, mergeSort_perm -> CV, foldl_cons -> C0, take_of_length_le -> C8, pairwise_lt_range -> C9, replicate_append_replicate -> Dc, eraseIdxIfInBounds_toArray -> De, length_singleton -> Df, filter_cons -> Dm, drop_length -> Dn, sum_cons -> Dp, getElem_toArray -> Dx, nodup_cons -> DE, length_take_le -> DH, getElem_of_mem -> DJ, map_nil -> DP, pairwise_cons -> D4, nodup_nil -> D5, filter_append -> D6, pairwise_map -> Ef, length_erase_of_mem -> Ek, pairwise_mergeSort -> Er, getElem_mem -> Es, map_set -> EA, length_pos_of_mem -> EB, filter_eq_nil_iff -> EC, drop_eq_nil_of_le -> ED, of_mem_zip -> EO, nil_append -> ER, getElem?_toArray -> EY, mem_of_mem_take -> E6, mem_of_mem_drop -> E7, mem_append_left -> E8, length_eraseIdx -> E9, reverse_append -> Fh, map_take -> Fj, map_drop -> Fm, all_map -> Fw, map -> FJ
open PySem.Heap renaming get?_push_of_some -> Ag, get?_push_size -> Ap, lt_size -> Ar, get?_update_other -> BI, get?_update_self -> BS, SameBut -> B9, size_push -> Cn, size_update -> Em, IsSliceOf -> E1, get?_update_ne -> Fg, ExtBut -> FD
open Nat renaming le_refl -> An, ne_of_lt -> AA, lt_of_lt_of_le -> AG, zero_add -> AI, lt_irrefl -> AX, zero_le -> Bd, add_assoc -> Bk, le_trans -> Bu, le_add_right -> BE, sub_self -> C6, lt_or_ge -> C7, le_succ -> Dw, le_of_lt -> DN, eq_or_lt_of_le -> D3, lt_succ_self -> Eo, add_sub_cancel_left -> Ep, succ_mul -> Ez, strongRecOn -> EN, le_of_ble_eq_true -> EX, mul_le_mul_right -> E5, sub_zero -> Fv, succ -> FI
open Bool renaming false_eq_true -> Au, and_eq_true -> AL, false_ne_true -> A4, and_false -> D7, not_true -> El, not_false -> Fb, false_and -> Fc, true_and -> Fo
open PySem.Value renaming ref -> Ay, none -> AR, str -> Bg, type -> BU, bool -> CK, int -> DQ
open PySem.PassesOwn renaming never -> AH
open PyProof.Rows renaming slot_tuple_getitem -> AM, callWith_type1 -> Bh
open Int renaming toNat_natCast -> A2, emod_lt_of_pos -> Cg, emod_nonneg -> CA, le_refl -> Dy, zero_add -> EE, le_antisymm -> ES
open PySem.NameKind renaming free -> Be, cell -> Fi
open PySem.Obj renaming mapSeq -> Bm, data_mapFields -> C1, isFreed_of_fields -> ET
open False renaming elim -> Bp
open PySem.F renaming slot_dict_keyiterator_next -> BA, plainAttrs_list -> B2, slot_tuple_iterator_next -> Ce, plain_min_loop -> Co, slot_enumerate_next -> CB, args_tuple_add_2 -> CW, slot_list_getattribute -> CY, entry_tuple_add -> C3, slot_tuple_add -> C4, args_dict_keyiterator_next_1 -> Di, entry_dict_keyiterator_next -> Dq, args_list_extend_2 -> Dr, slot_zip_next -> Dz, args_tuple_iterator_next_1 -> DA, entry_list_extend -> DG, entry_tuple_iterator_next -> DL, slot_list_extend -> DV, args_enumerate_next_1 -> En, entry_enumerate_next -> Eu, type_list_pop -> EU, slot_list_pop -> EW
open Ne renaming symm -> BB
open PySem.Str renaming ofString -> BH
open Array renaming length_toList -> BN, getElem?_eq_getElem -> CU, getElem?_toList -> Dg, perm_iff_toList_perm -> D8, getElem?_eq_none -> EG
open PySem.AutoSeq1 renaming wpAny_loadPart' -> BV, sub_tuple_tuple -> Dj, sub_tuple_list -> Ds, sub_list_tuple -> Du, sub_list_list -> DB, idx_int -> Ex
open True renaming intro -> Cd
open PySem.Calls renaming spliced_cons -> Cf, spliced_nil -> CF, Name_function_global -> DW, callWith_builtin -> Ew
open ForInStep renaming yield -> Cj
open And renaming right -> Cr
open Option renaming map_some -> Cy, map_eq_none_iff -> Ey
open Or renaming inr -> CC, inl -> C2
open PySem.SeqAt renaming EqAt -> Dh
open PySem.SeqAt.RcNeAt renaming lists_lengths -> DT, lists -> Fq
open PySem.SeqAt.EqAt renaming int_int -> DU, of_refs -> Fs, same -> FE
open PySem.EqBoolInt renaming of_rcne -> Ec, of_rc -> EK
open PySem.SeqAt.RcAt renaming lists_lengths -> Eg, tuples -> Fu, lists -> FA
open PySem.Fin renaming done -> E2
open PySem.Data renaming seq -> E3
open PySem.Around renaming under_plainId -> E4
open Sum renaming inr -> Fd, inl -> Fe
open PyProof.Rows.IsTup renaming new -> Ff
open PySem.Flow renaming ret -> FG
set_option compiler.extract_closed false
set_option Elab.async false
set_option linter.all false
set_option maxRecDepth 100000
set_option maxHeartbeats 1000000
open Option renaming some→ap,none→bm
open PyProof.Rows renaming envOfC→re,seqObj→sw,IntsAre→tt,boot_str→xL,AllBare→FB
open PySem renaming Value→bn,Addr→ce,Shared→cr,wpAny→db,model→dL,mainGlobals→ev,starEach→f8,Expr→ii,swapsWith→im,eval→kw,bootBuiltins→lc,Heap→lf,tupleKind→lm,compareOp→lw,Around→nn,attributeBase→nw,cLine→o0,Scope→pc,behindInMarks→pr,binaryOp→r9,Stmt→sn,sysModules→ss,call_meets→sB,Program→sK,World→tz,rawInt→t0,plainId_quiet→ut,Builtin→v4,backTo→wf,PassesOwn→wn,setField→ww,NameKind→wE,IntMulOk→wP,assignEach→wS,sliceBounds→xz,storedH→zn,holding→BT,getItem→Ch,codeAny→Da,swapsWithSole→Db,swappedStores→Ev,assign→EQ,FuncData→Fa,typeLookup→Fk,letOwnedTupleGo→FM,codeAny_builtin→FS
local macro_rules | `(∅)=>`(by omega)
local macro_rules | `(⋯)=>`(by decide)
namespace L2
open PySem PySem.Spec PyProof.Rows
abbrev Key:=Sum Int Str
def v9:Key->bn->Bool
 | .inl k,v=>Value.isInt k v
 | .inr x,v=>Value.isStrOf x v
def ae5 (w:tz):Key->Int
 | .inl k=>hashInt k
 | .inr x=>hashStr w x
def bW:∀{k:Key}{v:bn},v9 k v=true->(∃i t,k=Fe i/\v=DQ i t)\/(∃x t,k=Fd x/\v=Bg x t)
 | .inl i,v,h=>by
  obtain⟨t,e⟩:=Value.isInt_shape (k:=i) (v:=v) h;exact .inl ⟨i,t,rfl,e⟩
 | .inr x,v,h=>by
  obtain⟨t,e⟩:=Value.isStrOf_shape (x:=x) (v:=v) h;exact .inr ⟨x,t,rfl,e⟩
def MN (i:Int) (t:Tok):v9 (.inl i) (.int i t)=true:=by simp [v9,Value.isInt]
def MM (x:Str) (t:Tok):v9 (.inr x) (.str x t)=true:=by simp [v9,Value.isStrOf]
def XT (a b:Int):decide ((Fe a:Key)=Fe b)=(a==b):=by
 by_cases e:a=b
 ·subst e;simp
 ·have h:¬(Fe a:Key)=Fe b:=λq=>e (Fe.inj q);rw [decide_eq_false h];exact (beq_eq_false_iff_ne.mpr e).symm
def XQ (a b:Str):decide ((Fd a:Key)=Fd b)=decide (a=b):=by
 by_cases e:a=b
 ·subst e;simp
 ·have h:¬(Fd a:Key)=Fd b:=λq=>e (Fd.inj q);rw [decide_eq_false h,decide_eq_false e]
def XS (a:Int) (b:Str):decide ((Fe a:Key)=Fd b)=false:=decide_eq_false (λq=>nomatch q)
def XR (a:Str) (b:Int):decide ((Fd a:Key)=Fe b)=false:=decide_eq_false (λq=>nomatch q)
def bN (prog:sK) (w:tz):PySem.KeyKind prog w Key where
 is:=v9
 hash:=ae5 w
 inj:=λv a b ha hb=>by
  rcases bW ha with⟨i,t,rfl,rfl⟩ | ⟨x,t,rfl,rfl⟩
  ·rcases bW hb with⟨j,u,rfl,e⟩ | ⟨y,u,rfl,e⟩
   ·injection e with e1 _;rw [e1]
   ·exact nomatch e
  ·rcases bW hb with⟨j,u,rfl,e⟩ | ⟨y,u,rfl,e⟩
   ·exact nomatch e
   ·injection e with e1 _;rw [e1]
 byValue:=λk v h=>by
  rcases bW h with⟨i,t,rfl,rfl⟩ | ⟨x,t,rfl,rfl⟩ <;> rfl
 pyHash:=λhv h=>by
  rcases bW hv with⟨i,t,rfl,rfl⟩ | ⟨x,t,rfl,rfl⟩
  ·exact wpAny_pyHash_int h
  ·exact wpAny_pyHash_str h
 eqBool:=λhu hv h=>by
  rcases bW hu with⟨i,t,rfl,rfl⟩ | ⟨x,t,rfl,rfl⟩
  ·rcases bW hv with⟨j,u,rfl,rfl⟩ | ⟨y,u,rfl,rfl⟩
   ·rw [XT] at h;exact wpAny_eqBool_int h
   ·rw [XS] at h;exact Dh.int_str i t y u _ _ _ _ h
  ·rcases bW hv with⟨j,u,rfl,rfl⟩ | ⟨y,u,rfl,rfl⟩
   ·rw [XR] at h;exact Dh.str_int x t j u _ _ _ _ h
   ·rw [XQ] at h;exact Dl h
 «strs»:=λk x t v h=>by
  rcases bW h with⟨i,u,rfl,e⟩ | ⟨y,u,rfl,e⟩
  ·exact nomatch e
  ·injection e with e1 _;subst e1;cases v <;> rfl
def Gq (prog:sK) (w:tz) (i:Int) (t:Tok):(bN prog w).is (.inl i) (.int i t)=true:=MN i t
def Gp (prog:sK) (w:tz) (x:Str) (t:Tok):(bN prog w).is (.inr x) (.str x t)=true:=MM x t
end L2
variable {us:List A5}{u:A5}{κ α β:Type}{a b e:BC}{P:PySem.Program}{w:PySem.World}{h h':Ft}{ob:FC}
namespace L2
open PySem PySem.Spec PyProof.Rows
inductive V where
 | aG | bl (b:Bool) | int (i:Int) | str (x:Str) | YJ (b:Array UInt8) | Zn (b:UInt64) | ref (a:ce) | ty (n:String)
 deriving DecidableEq
def RelV:V->bn->Prop
 | .aG,u=>u=AR
 | .bl b,u=>u=CK b
 | .int i,u=>∃t,u=DQ i t
 | .str x,u=>∃t,u=Bg x t
 | .YJ b,u=>∃t,u=Value.bytes b t
 | .Zn b,u=>∃t,u=Value.float b t
 | .ref a,u=>u=Ay a
 | .ty n,u=>u=BU n
abbrev Vals:List V->List bn->Prop:=Paired RelV
def Vals.length {xs:List V} (r:Vals xs us):xs.length=us.length:=Paired.length r
theorem Vals.get:∀{xs:List V}{us:List bn}{i:Nat}{x:V},Vals xs us->xs[i]?=ap x->∃u,us[i]?=ap u/\RelV x u
 | _,_,_,_,.nil,e=>by simp at e
 | _,_,0,_,.cons r _,e=>by simp at e;subst e;exact⟨_,rfl,r⟩
 | _,_,i+1,x,.cons _ t,e=>by
  obtain⟨u,h1,h2⟩:=Vals.get (i:=i) (x:=x) t (by simpa using e);exact⟨u,by simpa using h1,h2⟩
theorem Vals.set {x:V} (r:RelV x u):∀{xs:List V}{us:List bn} (i:Nat),Vals xs us->Vals (xs.set i x) (us.set i u)
 | _,_,_,.nil=>.nil
 | _,_,0,.cons _ t=>.cons r t
 | _,_,i+1,.cons q t=>.cons q (Vals.set r i t)
theorem Vals.append:∀{xs ys:List V}{us ws:List bn},Vals xs us->Vals ys ws->Vals (xs++ys) (us++ws)
 | _,_,_,_,.nil,s=>s
 | _,_,_,_,.cons r t,s=>.cons r (Vals.append t s)
theorem Vals.take:∀{xs:List V}{us:List bn} (n:Nat),Vals xs us->Vals (xs.take n) (us.take n)
 | _,_,0,_=>.nil
 | _,_,_+1,.nil=>.nil
 | _,_,n+1,.cons r t=>.cons r (Vals.take n t)
theorem Vals.drop:∀{xs:List V}{us:List bn} (n:Nat),Vals xs us->Vals (xs.drop n) (us.drop n)
 | _,_,0,r=>r
 | _,_,_+1,.nil=>.nil
 | _,_,n+1,.cons _ t=>Vals.drop n t
def uJ:Option V->Option bn->Prop
 | some v,ap u=>RelV v u
 | none,bm=>True
 | _,_=>False
def KV:List (κ×V)->List (κ×bn)->Prop:=Paired λ(p:κ×V) (q:κ×bn)=>p.1=q.1/\RelV p.2 q.2
def kV:Key->V
 | .inl i=>.int i
 | .inr x=>.str x
inductive HO where
 | lst (xs:List V)
 | tup (xs:List V)
 | dK (kvs:List (Key×V)) | dT (kvs:List (List Key×V))
 | set (S:Int->Bool) (n:Nat)
 | ins (C dx:ce) (fs:List (Str×V))
 | own (x:ce)
 | xd (fs:List (Str×V))
 | met (f x:ce)
 | rng (lo hi:Int)
 | cE (o:Obj) (u:HO)
 | Wi (ps:Array bn)
 | ext (φ:lf->Prop)
abbrev Hp:=ce->Option HO
def upd (H:Hp) (a:ce) (o:HO):Hp:=λb=>if b=a then ap o else H b
def aM {H:Hp}{o:HO}:upd H a o a=ap o:=by unfold upd;rw [if_pos rfl]
def av {H:Hp}{o:HO} (h:b≠a):upd H a o b=H b:=by unfold upd;rw [if_neg h]
def K8 {H:Hp}{o u:HO} (h:H a=ap o) (h':H b=ap u) (d:o≠u):a≠b:=by
 intro e;subst e;rw [h] at h';exact d (Option.some.inj h')
def bz {H:Hp}{o:HO} (h:H a=ap o) (h':H b=bm):a≠b:=by
 intro e;subst e;rw [h] at h';cases h'
section
variable (P:sK) (w:tz)
def a9 (H:Hp) (h:lf) (a:ce):HO->Prop
 | .lst xs=>xs.length<=sizeLine/\∃(ar:List bn) (n:Nat),Vals xs ar/\h.get? a=ap {cls:=.type "list",data:=.seq ar.toArray n}
 | .tup xs=>xs.length<=sizeLine/\∃ar:List bn,Vals xs ar/\IsTup h a ar.toArray
 | .dK kvs=>kvs.length<=sizeLine/\(a==ss)=false/\∃vs,KV kvs vs/\h.DictOf (bN P w) a vs
 | .dT kvs=>kvs.length<=sizeLine/\(a==ss)=false/\∃xs:List (List Key×ce×bn),
   Paired (λ(p:List Key×V) (q:List Key×ce×bn)=>p.1=q.1/\H q.2.1=ap (.tup (p.1.map kV))/\RelV p.2 q.2.2) kvs xs/\
   ∃o es ep,h.get? a=ap o/\o.ExactDict/\o.data=.dict es ep/\es.toList=xs.map (entryOfKey (lm (bN P w)))/\(xs.map (·.1)).Nodup
 | .set S n=>h.SetOf (intKind P w) a S n
 | .ins C dx fs=>H dx=ap (.own a)/\fs.length<=1000/\dx≠a/\h.get? a=ap (EI C dx)/\
   ∃mA,h.Ns1 dx mA/\(∀f,uJ (fs.lookup f) (mA f))/\PySem.Within mA (fs.map (·.1))
 | .own _=>∃o,h.get? a=ap o
 | .xd fs=>∃mA,h.Ns1 a mA/\∀f,uJ (fs.lookup f) (mA f)
 | .rng lo hi=>∃t u v,h.get? a=ap {cls:=.type "range",data:=.fields #[.int lo t,.int hi u,.int 1 v]}
 | .cE o u=>h.get? a=ap o/\a9 H h a u
 | .Wi ps=>h.get? a=ap {cls:=.none,data:=.fields ps}
 | .met f x=>h.get? a=ap (D9 (.ref f) (.ref x))
 | .ext φ=>φ h/\(∃o,h.get? a=ap o)/\∀h1 h2:lf,φ h1->(∀o,h1.get? a=ap o->h2.get? a=ap o)->φ h2
def mi (H:Hp) (h:lf):Prop:=∀a o,H a=ap o->a9 P w H h a o
end
section
variable {H H':Hp}{o:HO}
def a9.lt (x:a9 P w H h a o):a < h.objs.size:=by
 cases o with
 | lst xs=>obtain⟨_,_,_,_,e⟩:=x;exact Ar e
 | tup xs=>obtain⟨_,_,_,p⟩:=x;exact p.lt
 | dK kvs=>obtain⟨_,_,_,_,o,_,_,e,_⟩:=x;exact Ar e
 | dT kvs=>obtain⟨_,_,_,_,o,_,_,e,_⟩:=x;exact Ar e
 | set S n=>obtain⟨o,_,_,_,e,_⟩:=x;exact Ar e
 | ins C dx fs=>obtain⟨_,_,_,e,_⟩:=x;exact Ar e
 | own y=>obtain⟨_,e⟩:=x;exact Ar e
 | xd fs=>obtain⟨_,⟨_,_,_,e,_⟩,_⟩:=x;exact Ar e
 | rng lo hi=>obtain⟨_,_,_,e⟩:=x;exact Ar e
 | cE ob u=>obtain⟨e,_⟩:=x;exact Ar e
 | Wi ps=>exact Ar (show h.get? a=ap _ from x)
 | met f y=>exact Ar (show h.get? a=ap _ from x)
 | ext φ=>obtain⟨_,⟨_,e⟩,_⟩:=x;exact Ar e
theorem Paired.Xz {F G:α->β->Prop}:∀{l₁:List α}{l₂:List β},Paired F l₁ l₂->(∀a b,F a b->G a b)->Paired G l₁ l₂
 | _,_,.nil,_=>.nil
 | _,_,.cons r t,f=>.cons (f _ _ r) (Paired.Xz t f)
def a9.xk (x:a9 P w H h a o) (k:∀b u,(b=a\/H b=ap (.own a))->h.get? b=ap u->h'.get? b=ap u)
  (ho:∀b,H b=ap (.own a)->H' b=ap (.own a)) (ht:∀b xs,H b=ap (.tup xs)->H' b=ap (.tup xs)):a9 P w H' h' a o:=by
 induction o with
 | lst xs=>obtain⟨z,ar,n,r,e⟩:=x;exact⟨z,ar,n,r,k _ _ (.inl rfl) e⟩
 | tup xs=>obtain⟨z,ar,r,ob,e,c⟩:=x;exact⟨z,ar,r,ob,k _ _ (.inl rfl) e,c⟩
 | dK kvs=>obtain⟨z,y,vs,r,ob,es,ep,e,c⟩:=x;exact⟨z,y,vs,r,ob,es,ep,k _ _ (.inl rfl) e,c⟩
 | dT kvs=>
  obtain⟨z,y,xs,r,ob,es,ep,e,c⟩:=x;exact⟨z,y,xs,Paired.Xz r λp q z=>⟨z.1,ht _ _ z.2.1,z.2.2⟩,ob,es,ep,k _ _ (.inl rfl) e,c⟩
 | set S n=>obtain⟨ob,es,ep,t,e,c⟩:=x;exact⟨ob,es,ep,t,k _ _ (.inl rfl) e,c⟩
 | ins C dx fs=>
  obtain⟨d,z,ne,e,mA,⟨od,es,ep,e2,c⟩,r⟩:=x;exact⟨ho _ d,z,ne,k _ _ (.inl rfl) e,mA,⟨od,es,ep,k _ _ (.inr d) e2,c⟩,r⟩
 | own y=>obtain⟨ob,e⟩:=x;exact⟨ob,k _ _ (.inl rfl) e⟩
 | xd fs=>obtain⟨mA,⟨od,es,ep,e,c⟩,r⟩:=x;exact⟨mA,⟨od,es,ep,k _ _ (.inl rfl) e,c⟩,r⟩
 | rng lo hi=>obtain⟨t,u,v,e⟩:=x;exact⟨t,u,v,k _ _ (.inl rfl) e⟩
 | cE ob u ih=>obtain⟨e,q⟩:=x;exact⟨k _ _ (.inl rfl) e,ih q⟩
 | Wi ps=>
  have e:h.get? a=ap {cls:=.none,data:=.fields ps}:=x;show h'.get? a=ap {cls:=.none,data:=.fields ps};exact k a _ (.inl rfl) e
 | met f y=>
  have e:h.get? a=ap (D9 (.ref f) (.ref y)):=x;show h'.get? a=ap (D9 (.ref f) (.ref y));exact k a _ (.inl rfl) e
 | ext φ=>obtain⟨p,⟨o,e⟩,st⟩:=x;exact⟨st _ _ p λo q=>k _ _ (.inl rfl) q,⟨o,k _ _ (.inl rfl) e⟩,st⟩
def mi.lt (x:mi P w H h) (e:H a=ap o):a < h.objs.size:=(x a o e).lt
def mi.fresh (x:mi P w H h) (e:h.objs.size<=a):H a=bm:=by
 cases q:H a with
 | none=>rfl
 | some u=>exact absurd (AG (x.lt q) e) (AX _)
def mi.kept (x:mi P w H h) (k:∀b u,h.get? b=ap u->h'.get? b=ap u):mi P w H h':=λa o e=>
 (x a o e).xk (λb u _ q=>k b u q) (λ_ q=>q) λ_ _ q=>q
def mi.laid (x:mi P w H h) (k:∀b u,h.get? b=ap u->h'.get? b=ap u) (hp:h.objs.size<=a) (new:a9 P w (upd H a o) h' a o):mi P w (upd H a o) h':=λb u e=>by
 have hn:=x.fresh hp;by_cases hb:b=a
 ·subst hb;rw [aM] at e;cases e;exact new
 ·rw [av hb] at e;exact (x b u e).xk (λc v _ q=>k c v q) (λc q=>by rw [av (bz q hn)];exact q) λc xs q=>by rw [av (bz q hn)];exact q
end
def Rd (H:Hp) (a:ce) (u:HO):Prop:=H a=ap u\/∃o,H a=ap (.cE o u)
def Rd.ok {H:Hp}{u:HO} (r:Rd H a u) (x:mi P w H h):a9 P w H h a u:=by
 rcases r with r | ⟨o,r⟩
 ·exact x a u r
 ·obtain⟨_,q⟩:=x a _ r;exact q
def Mut:Option HO->Prop
 | some (.lst _)=>True
 | some (.dK _)=>True
 | some (.dT _)=>True
 | some (.set _ _)=>True
 | some (.ins _ _ _)=>True
 | some (.ext _)=>True
 | _=>False
section
variable {H:Hp}{x:ce}{o':HO}
def mi.write (ok:mi P w H h) (mu:Mut (H x)) (he:e=x\/H e=ap (.own x)) (k:∀b u,b≠e->h.get? b=ap u->h'.get? b=ap u) (Zh:∃u,h'.get? e=ap u)
  (new:a9 P w (upd H x o') h' x o'):mi P w (upd H x o') h':=λb u q=>by
 have aaS:∀c y,H c=ap (.own y)->c≠x:=λc y r z=>by subst z;rw [r] at mu;exact mu
 have aeM:∀c xs,H c=ap (.tup xs)->c≠x:=λc xs r z=>by subst z;rw [r] at mu;exact mu
 by_cases hb:b=x
 ·subst hb;rw [aM] at q;cases q;exact new
 ·rw [av hb] at q;by_cases Ye:b=e
  ·have q':H b=ap (.own x):=by
    rcases he with z | z
    ·exact absurd (Ye.trans z) hb
    ·rw [Ye];exact z
   rw [q] at q';cases q';obtain⟨v,hv⟩:=Zh;exact⟨v,by rw [Ye];exact hv⟩
  ·refine (ok b u q).xk (λc v hc r=>k c v ?_ r) (λc r=>by rw [av (aaS c b r)];exact r) λc xs r=>by rw [av (aeM c xs r)];exact r
   rcases hc with rfl | hc
   ·exact Ye
   ·rintro rfl;rcases he with z | z
    ·exact aaS c b hc z
    ·rw [hc] at z;cases z;exact hb rfl
end
structure Un (fs ex:List ce) (H H':Hp) (h h':lf):Prop where
 keep:∀b o,h.get? b=ap o->H b=bm->b∉fs->b∉ex->h'.get? b=ap o
 slot:∀b o,h.get? b=ap o->H b=bm->b∈fs->b∉ex->∃sl,h'.get? b=ap {o with slots:=sl}
 free:∀b o,h.get? b=ap o->H b=bm->b∉ex->H' b=bm
 there:∀b o,h.get? b=ap o->b∉ex->∃o',h'.get? b=ap o'
 eI:∀b xs,H b=ap (.tup xs)->H' b=ap (.tup xs)
 uc:∀b o u,H b=ap (.cE o u)->H' b=ap (.cE o u)
 xi:∀b ps,H b=ap (.Wi ps)->∃more,H' b=ap (.Wi (ps++more))
section
variable {fs ex:List ce}{H H1:Hp}{h1:lf}{x:ce}{o:HO}
def Un.any (u:Un fs ex H H1 h h1) (q:h.get? b=ap ob) (n:H b=bm) (hx:b∉ex):∃sl,h1.get? b=ap {ob with slots:=sl}:=by
 by_cases hb:b∈fs
 ·exact u.slot b ob q n hb hx
 ·exact⟨ob.slots,u.keep b ob q n hb hx⟩
def Un.kept (k:∀b u,h.get? b=ap u->h'.get? b=ap u):Un fs ex H H h h':=
 ⟨λb ob q _ _ _=>k b ob q,λb ob q _ _ _=>⟨ob.slots,k b ob q⟩,λ_ _ _ n _=>n,λb ob q _=>⟨ob,k b ob q⟩,λ_ _ q=>q,λ_ _ _ q=>q,λ_ ps q=>⟨#[],by rw [q];simp⟩⟩
def Un.refl:Un fs ex H H h h:=Un.kept λ_ _ q=>q
def Un.laid (k:∀b u,h.get? b=ap u->h'.get? b=ap u) (hp:h.objs.size<=a) (hn:H a=bm):Un fs ex H (upd H a o) h h' where
 keep:=λb u q _ _ _=>k b u q
 slot:=λb u q _ _ _=>⟨u.slots,k b u q⟩
 free:=λb u q n _=>by rw [av (AA (AG (Ar q) hp))];exact n
 there:=λb u q _=>⟨u,k b u q⟩
 eI:=λb xs q=>by rw [av (bz q hn)];exact q
 uc:=λb u xs q=>by rw [av (bz q hn)];exact q
 xi:=λb ps q=>⟨#[],by rw [av (bz q hn),q];simp⟩
def Un.write (mu:Mut (H x)) (he:e=x\/H e=ap (.own x)) (k:∀b u,b≠e->h.get? b=ap u->h'.get? b=ap u) (Zh:∃u,h'.get? e=ap u):Un fs ex H (upd H x o) h h':=by
 have hx:∀b,H b=bm->b≠x:=λb n z=>by subst z;rw [n] at mu;exact mu
 have hb:∀b,H b=bm->b≠e:=λb n z=>by
  subst z;rcases he with r | r
  ·exact hx b n r
  ·rw [n] at r;cases r
 have hm:∀b u,H b=ap u->¬Mut (ap u)->b≠x:=λb u q nm z=>by subst z;rw [q] at mu;exact nm mu
 refine⟨λb u q n _ _=>k b u (hb b n) q,λb u q n _ _=>⟨u.slots,k b u (hb b n) q⟩,λb u q n _=>by rw [av (hx b n)];exact n,λb u q _=>?_,
  λb xs q=>by rw [av (hm b _ q λz=>z)];exact q,λb u xs q=>by rw [av (hm b _ q λz=>z)];exact q,λb ps q=>⟨#[],by rw [av (hm b _ q λz=>z),q];simp⟩⟩
 by_cases Ye:b=e
 ·subst Ye;exact Zh
 ·exact⟨u,k b u Ye q⟩
end
def trk (h:lf) (H:Hp):List ce:=(AJ h.objs.size).filter λa=>(H a).isSome
def yt (h:lf) (H:Hp):lf:=PySem.W.hideAll h (trk h H)
def M7 (h:lf) (H:Hp):(yt h H).objs.size=h.objs.size:=PySem.W.hideAll_size _ _
def Ql {H:Hp}{o:Obj} (e:h.get? b=ap o) (n:H b=bm):(yt h H).get? b=ap o:=
 PySem.W.hideAll_get _ e λhm=>by
  have q:=(Bc.mp hm).2;rw [n] at q;simp at q
def S5 {H:Hp}{o:Obj} (e:(yt h H).get? b=ap o):h.get? b=ap o/\H b=bm:=by
 have e':=PySem.W.of_hideAll (trk h H) e;refine⟨e',?_⟩;cases q:H b with
 | none=>rfl
 | some x=>
  have hm:b∈trk h H:=Bc.mpr ⟨A6.mpr (Ar e'),by simp [q]⟩;have z:(yt h H).get? b=bm:=PySem.W.hideAll_none (trk h H) hm;rw [z] at e;cases e
def UL (g h:lf) (L:ce):List (ce×Obj):=(AJ h.objs.size).filterMap λa=>if a=L\/(g.get? a).isSome=true then bm else (h.get? a).map λo=>(a,o)
def rest (g h:lf) (L d:ce):List (ce×Obj):=(UL g h L).filter λp=>decide (p.1≠d)
end L2
variable {H H':L2.Hp}{o:FC}{À:List (BC×FC)}{s s':DM}{g':Array PySem.GenState}{ch:List BC}{it:BC}{i j:Nat}{M:PySem.Model}{A:PySem.Around}{E:A5->DM->Prop}{v:L2.V}{Q:Unit->DM->Prop}
namespace L2
open PySem PySem.Spec PyProof.Rows
structure Mod (K:Ab) (mg:Str->Option bn) (base:lf):Prop where
 kin:K.In base
 glob:base.Ns ev mg
 blt:∃mb,base.Ns builtinsNs mb/\∀x:Str,x≠"__name__"->mb x=lc x
 nolimit:base.NoLimit
structure Cx where
 prog:sK
 w:tz
 K:Ab
 mg:Str->Option bn
 base:lf
 A:nn
 N:List Str
 s₀:cr
 H₀:Hp
 env:Env
 outer:List Env
 stack:List Env
 ex:List ce
 fn:Str->Bool
 calm:Bool
 pn:List (ce×Obj)
 xe:bn->cr->Prop
abbrev jr (x:Str):Prop:=(x==("__debug__":Str))=false
abbrev HN (x:Str):Prop:=(x==("__classdict__":Str))=false
abbrev ic (X:Cx) (e:ii) (es:List ii):Prop:=f8 (e::es) X.env=(false,kw e X.env)::f8 es X.env
abbrev mj (X:Cx) (p:Pos) (es:List ii):Prop:=(wf p (f8 es X.env)).any (·.1)=false
abbrev uN (X:Cx) (e:ii):Prop:=∀x,foldedSetIterable e X.env x=pure x
abbrev Y0 (X:Cx) (p:Pos) (l:List ii):Prop:=((wf p (f8 l X.env)).all (λx=>!x.1)&&(backToKw p (keywordEach [] X.env)).all (λx=>x.1.isSome)&&decide (l.length+([]:List Keyword).length+(if ([]:List Keyword).isEmpty then 0 else 1) < 30))=true
abbrev RP (p q:Pos):Prop:=(p.endLine==q.line)=true
abbrev NX (X:Cx) (y:Str):Prop:=X.fn y=true\/X.env.scope.names.lookup y=ap .local
def NV (l:List Env):List ce:=l.filterMap (·.frame)
abbrev Cx.fs (X:Cx):List ce:=NV X.outer
def Hv (sc:pc) (x:Str):Prop:=sc.names.lookup x=ap .local\/sc.names.lookup x=ap .cell\/sc.names.lookup x=ap .free
def Loc (sc:pc) (x:Str):Prop:=sc.names.lookup x=ap .local\/sc.names.lookup x=ap .cell
def Look (env:Env) (h:lf) (m:Str->Option bn) (x:Str) (u:bn):Prop:=
 (env.kindOf x=ap .local/\m x=ap u)\/((env.kindOf x=ap .cell\/env.kindOf x=ap .free)/\∃c,env.cells.lookup x=ap c/\h.IsCell c (ap u))
structure Cx.Ok (X:Cx):Prop where
 mod:Mod X.K X.mg X.base
 kind:X.env.scope.kind=.function
 glob:X.env.globals=ev
 blt:X.env.builtins=builtinsNs
 above:X.s₀.heap.objs.size<=X.env.locals
 inj:∀x y c,X.env.cells.lookup x=ap c->X.env.cells.lookup y=ap c->x=y
 has:∀x,(X.env.kindOf x=ap .cell\/X.env.kindOf x=ap .free)->∃c,X.env.cells.lookup x=ap c
 cab:∀x c,X.fn x=true->X.env.cells.lookup x=ap c->X.s₀.heap.objs.size<=c
 hd:X.calm=true->X.A.handled=bm
 frames:X.A.frames=ap X.stack
 stk:X.stack=X.outer\/(X.stack=X.env::X.outer/\X.env.frame=ap X.env.locals)
 exf:∀b∈X.ex,b≠X.env.locals/\∀x c,X.env.cells.lookup x=ap c->c≠b
 bs:∀b o,X.base.get? b=ap o->X.s₀.heap.get? b=ap o/\X.H₀ b=bm
 V0:X.base.objs.size<=X.s₀.heap.objs.size
 Pp:∀b o,X.base.get? b=ap o->b∉X.ex
 QK:∀b∈X.ex,b∉X.fs
 ub:X.s₀.heap.FunFrames X.base X.outer
 Zk:∀b∈X.fs,X.H₀ b=bm
structure Inv (X:Cx) (À:List (ce×Obj)) (σ:List (Option V)) (H:Hp) (s:cr):Prop where
 ok:X.Ok
 os:s.os=X.s₀.os
 bare:FB s.gens
 base:Un X.fs X.ex X.H₀ H X.s₀.heap s.heap
 loc:∃m,s.heap.Ns X.env.locals m/\∀(i:Nat) (x:Str) (v:V),X.N[i]?=ap x->σ[i]?=ap (ap v)->Hv X.env.scope x->∃u,RelV v u/\Look X.env s.heap m x u
 cell:∀x c,X.env.cells.lookup x=ap c->∃v,s.heap.IsCell c v
 free:H X.env.locals=bm
 kD:∀x c,X.env.cells.lookup x=ap c->H c=bm
 pin:∀p∈X.pn++À,s.heap.get? p.1=ap p.2/\H p.1=bm/\p.1≠X.env.locals/\p.1∉X.fs/\∀v,p.2.data≠.cell v
 bA:mi X.prog X.w H s.heap
 len:σ.length=X.N.length
section
variable {X:Cx}{σ:List (Option V)}
def Cx.Ok.aeO (ok:X.Ok) (e:X.base.get? b=ap o):b∉X.fs:=λhb=>by
 have:=(ok.ub.mem hb).1;rw [e] at this;cases this
def Inv.bs (I:Inv X À σ H s):∀b o,X.base.get? b=ap o->s.heap.get? b=ap o/\H b=bm:=λb o e=>
 ⟨I.base.keep b o (I.ok.bs b o e).1 (I.ok.bs b o e).2 (I.ok.aeO e) (I.ok.Pp b o e),I.base.free b o (I.ok.bs b o e).1 (I.ok.bs b o e).2 (I.ok.Pp b o e)⟩
def Inv.bk (I:Inv X À σ H s):∀b o,X.base.get? b=ap o->s.heap.get? b=ap o:=λb o e=>(I.bs b o e).1
def Inv.mod (I:Inv X À σ H s):Mod X.K X.mg X.base:=I.ok.mod
def Inv.wo (I:Inv X À σ H s):X.K.In s.heap:=I.ok.mod.kin.keeps I.bk
def Inv.lt (I:Inv X À σ H s):X.env.locals < s.heap.objs.size:=let ⟨_,hn,_⟩:=I.loc;hn.lt
def Inv.sz (I:Inv X À σ H s):X.s₀.heap.objs.size<=s.heap.objs.size:=Bu I.ok.above (DN I.lt)
def Inv.aeN (I:Inv X À σ H s) (h:s.heap.objs.size<=a):a∉X.fs:=λhb=>by
 obtain⟨_,o,ho,_⟩:=I.ok.ub.mem hb;exact absurd (AG (Ar ho) (Bu I.sz h)) (AX _)
def Inv.YG (I:Inv X À σ H s):∀x c,X.env.cells.lookup x=ap c->c≠X.env.locals:=λx c e z=>by
 obtain⟨v,o,ho,hd⟩:=I.cell x c e;obtain⟨m,⟨o',es,ep,X9,Ļ,_⟩,_⟩:=I.loc;rw [z,X9] at ho;cases ho;rw [Ļ] at hd;cases hd
def Inv.ub (I:Inv X À σ H s):s.heap.FunFrames X.base X.outer:=by
 have all:∀(l:List Env),(∀b∈NV l,b∈X.fs)->X.s₀.heap.FunFrames X.base l->s.heap.FunFrames X.base l:=by
  intro l
  induction l with
  | nil=>intro _ _;trivial
  | cons env r ih=>
   intro hs hl;obtain⟨hk,⟨L,o,hf,hn,ho,hd⟩,hr⟩:=hl;have hL:=hs L (by unfold NV;rw [A9,hf];exact Bt);obtain⟨sl,e⟩:=I.base.slot L o ho (I.ok.Zk L hL) hL λz=>I.ok.QK L z hL;exact⟨hk,⟨L,_,hf,hn,e,hd⟩,ih (λb hb=>hs b (by unfold NV;rw [A9,hf];exact AZ _ hb)) hr⟩
 exact all X.outer (λ_ hb=>hb) I.ok.ub
def Inv.stack (I:Inv X À σ H s):s.heap.FunFrames X.base X.stack:=by
 rcases I.ok.stk with e | ⟨e,hf⟩
 ·rw [e];exact I.ub
 ·rw [e];obtain⟨m,hn,_⟩:=I.loc;refine .cons (by rw [I.ok.kind];decide) hf hn ?_ I.ub;exact Heap.get?_none_of_le (Bu I.ok.V0 I.ok.above)
def Inv.H9 (I:Inv X À σ H s):∀b∈NV X.stack,b∈X.env.locals::X.fs:=λb hb=>by
 rcases I.ok.stk with e | ⟨e,hf⟩
 ·rw [e] at hb;exact AZ _ hb
 ·rw [e] at hb;unfold NV at hb;rw [A9,hf] at hb;exact hb
def Inv.Kw (I:Inv X À σ H s):∀b∈NV X.stack,H b=bm:=λb hb=>by
 rcases Ax.mp (I.H9 b hb) with e | hb
 ·rw [e];exact I.free
 ·obtain⟨_,o,ho,_⟩:=I.ok.ub.mem hb;exact I.base.free b o ho (I.ok.Zk b hb) λz=>I.ok.QK b z hb
def Inv.step {t':Nat}{d':Drawn} (I:Inv X À σ H s)
  (RK:∀b∈ch,(b∈X.ex\/X.s₀.heap.objs.size<=b)/\b≠X.env.locals/\(∀x c,X.env.cells.lookup x=ap c->c≠b)/\∀p∈X.pn++À,p.1≠b)
  (keep:∀b o,b≠X.env.locals->b∉X.fs->b∉ch->s.heap.get? b=ap o->H b=bm->h'.get? b=ap o)
  (slot:∀b o,b≠X.env.locals->b∈X.fs->b∉ch->s.heap.get? b=ap o->H b=bm->∃sl,h'.get? b=ap {o with slots:=sl}) (free:∀b o,b∉ch->s.heap.get? b=ap o->H b=bm->H' b=bm)
  (there:∀b o,b∉ch->s.heap.get? b=ap o->∃o',h'.get? b=ap o')
  (eI:∀b xs,H b=ap (.tup xs)->H' b=ap (.tup xs)) (uc:∀b o u,H b=ap (.cE o u)->H' b=ap (.cE o u)) (xi:∀b ps,H b=ap (.Wi ps)->∃more,H' b=ap (.Wi (ps++more)))
  (ns:∀m,s.heap.Ns X.env.locals m->h'.Ns X.env.locals m) (bA:mi X.prog X.w H' h') (hg:FB g') :
  Inv X À σ H' {s with heap:=h',gens:=g',drawn:=d',toks:=t'}:=by
 have neL:∀b o,X.s₀.heap.get? b=ap o->b≠X.env.locals:=λb o e=>AA (AG (Ar e) I.ok.above);have Ċ:∀b o,X.s₀.heap.get? b=ap o->b∉X.ex->b∉ch:=λb o e hx hb=>by
  rcases (RK b hb).1 with z | z
  ·exact hx z
  ·exact absurd (AG (Ar e) z) (AX _)
 have Ý:∀x c,X.env.cells.lookup x=ap c->∀v,s.heap.IsCell c v->h'.IsCell c v:=λx c e v ⟨o,ho,hd⟩=>by
  have í:c∉ch:=λz=>(RK c z).2.2.1 x c e rfl;by_cases hc:c∈X.fs
  ·obtain⟨sl,q⟩:=slot c o (I.YG x c e) hc í ho (I.kD x c e);exact⟨_,q,hd⟩
  ·exact⟨o,keep c o (I.YG x c e) hc í ho (I.kD x c e),hd⟩
 refine⟨I.ok,I.os,hg,⟨λb o e n hb hx=>?_,λb o e n hb hx=>?_,λb o e n hx=>?_,λb o e hx=>?_,λb xs e=>eI b xs (I.base.eI b xs e),λb o xs e=>uc b o xs (I.base.uc b o xs e),λb ps e=>?_⟩,?_,λx c e=>?_,?_,λx c e=>?_,λp hp=>?_,bA,I.len⟩
 ·exact keep b o (neL b o e) hb (Ċ b o e hx) (I.base.keep b o e n hb hx) (I.base.free b o e n hx)
 ·obtain⟨sl,e1⟩:=I.base.slot b o e n hb hx;obtain⟨sl',e2⟩:=slot b _ (neL b o e) hb (Ċ b o e hx) e1 (I.base.free b o e n hx);exact⟨sl',e2⟩
 ·obtain⟨o',e1⟩:=I.base.there b o e hx;exact free b o' (Ċ b o e hx) e1 (I.base.free b o e n hx)
 ·obtain⟨o',e1⟩:=I.base.there b o e hx;exact there b o' (Ċ b o e hx) e1
 ·obtain⟨m1,e1⟩:=I.base.xi b ps e;obtain⟨m2,e2⟩:=xi b _ e1;exact⟨m1++m2,by rw [e2,Array.append_assoc]⟩
 ·obtain⟨m,hn,hl⟩:=I.loc;refine⟨m,ns m hn,λi x v e1 e2 e3=>?_⟩;obtain⟨u,r,l⟩:=hl i x v e1 e2 e3;refine⟨u,r,?_⟩;rcases l with l | ⟨k,c,e,z⟩
  ·exact .inl l
  ·exact .inr ⟨k,c,e,Ý x c e _ z⟩
 ·obtain⟨v,z⟩:=I.cell x c e;exact⟨v,Ý x c e v z⟩
 ·obtain⟨m,⟨o,_,_,ho,_⟩,_⟩:=I.loc;exact free _ o (λz=>(RK _ z).2.1 rfl) ho I.free
 ·obtain⟨v,o,ho,hd⟩:=I.cell x c e;exact free c o (λz=>(RK c z).2.2.1 x c e rfl) ho (I.kD x c e)
 ·obtain⟨e,n,ne,nf,d⟩:=I.pin p hp;have í:p.1∉ch:=λz=>(RK p.1 z).2.2.2 p hp rfl;exact⟨keep p.1 p.2 ne nf í e n,free p.1 p.2 í e n,ne,nf,d⟩
def Inv.un {t':Nat} (I:Inv X À σ H s) (u:Un X.fs [] H H' s.heap h') (bA:mi X.prog X.w H' h'):Inv X À σ H' {s with heap:=h',toks:=t'}:=by
 obtain⟨m,⟨o,es,ep,ho,r⟩,_⟩:=id I.loc;obtain⟨sl,hL⟩:=u.any ho I.free (by simp);exact I.step (g':=s.gens) (d':=s.drawn) (ch:=[]) (λ_ z=>nomatch z) (λb o _ hb _ e n=>u.keep b o e n hb (by simp)) (λb o _ hb _ e n=>u.slot b o e n hb (by simp)) (λb o _ e n=>u.free b o e n (by simp)) (λb o _ e=>u.there b o e (by simp)) u.eI u.uc u.xi (λm' hm=>by
  obtain⟨o',ė,ę,X9,r'⟩:=hm;rw [ho] at X9;cases X9;exact⟨_,ė,ę,hL,r'⟩) bA I.bare
def Inv.call {t':Nat}{d':Drawn} (I:Inv X À σ H s) (u:Un (NV X.stack) ch H H' s.heap h') (bA:mi X.prog X.w H' h') (hg:FB g')
  (RK:∀b∈ch,(b∈X.ex\/X.s₀.heap.objs.size<=b)/\b≠X.env.locals/\(∀x c,X.env.cells.lookup x=ap c->c≠b)/\∀p∈X.pn++À,p.1≠b) :
  Inv X À σ H' {s with heap:=h',gens:=g',drawn:=d',toks:=t'}:=by
 obtain⟨m,⟨o,es,ep,ho,r⟩,_⟩:=id I.loc;obtain⟨sl,hL⟩:=u.any ho I.free λz=>(RK _ z).2.1 rfl;exact I.step (ch:=ch) RK (λb o hL hb hc e n=>u.keep b o e n (λz=>(Ax.mp (I.H9 b z)).elim hL hb) hc) (λb o _ _ hc e n=>u.any e n hc) (λb o hc e n=>u.free b o e n hc) (λb o hc e=>u.there b o e hc) u.eI u.uc u.xi (λm' hm=>by
  obtain⟨o',ė,ę,X9,r'⟩:=hm;rw [ho] at X9;cases X9;exact⟨_,ė,ę,hL,r'⟩) bA hg
def Inv.turned {t':Nat} (I:Inv X À σ H s) (k:∀b o,b≠it->s.heap.get? b=ap o->h'.get? b=ap o) (hn:H it=bm) (hL:it≠X.env.locals)
  (h1:it∈X.ex\/X.s₀.heap.objs.size<=it) (h2:∀x c,X.env.cells.lookup x=ap c->c≠it) (h3:∀p∈X.pn++À,p.1≠it):Inv X À σ H {s with heap:=h',toks:=t'}:=by
 have Vi:∀b u,H b=ap u->b≠it:=λb u e z=>by rw [z,hn] at e;cases e
 refine I.step (g':=s.gens) (d':=s.drawn) (ch:=[it]) (λb hb=>?_) (λb o _ _ hc e _=>k b o (λz=>hc (by simp [z])) e) (λb o _ _ hc e _=>⟨o.slots,k b o (λz=>hc (by simp [z])) e⟩) (λ_ _ _ _ n=>n)
  (λb o hc e=>⟨o,k b o (λz=>hc (by simp [z])) e⟩) (λ_ _ e=>e) (λ_ _ _ e=>e) (λb ps e=>⟨#[],by rw [e];simp⟩) (λm hm=>?_) (λb u e=>?_) I.bare
 ·have e:b=it:=by simpa using hb
  subst e;exact⟨h1,hL,h2,h3⟩
 ·obtain⟨o,es,ep,ho,r⟩:=hm;exact⟨o,es,ep,k _ o (BB hL) ho,r⟩
 ·refine (I.bA b u e).xk (λc v hc q=>k c v ?_ q) (λ_ q=>q) λ_ _ q=>q;rcases hc with z | z
  ·rw [z];exact Vi b u e
  ·exact Vi c _ z
def Inv.tok (I:Inv X À σ H s) (t:Nat):Inv X À σ H {s with toks:=t}:=I.un (h':=s.heap) (t':=t) Un.refl I.bA
def Inv.kept {t':Nat} (I:Inv X À σ H s) (k:∀b u,s.heap.get? b=ap u->h'.get? b=ap u):Inv X À σ H {s with heap:=h',toks:=t'}:=I.un (Un.kept k) (I.bA.kept k)
def Inv.laid {o:HO}{t':Nat} (I:Inv X À σ H s) (k:∀b u,s.heap.get? b=ap u->h'.get? b=ap u) (hp:s.heap.objs.size<=a) (new:a9 X.prog X.w (upd H a o) h' a o) :
  Inv X À σ (upd H a o) {s with heap:=h',toks:=t'}:=I.un (Un.laid k hp (I.bA.fresh hp)) (I.bA.laid k hp new)
def Inv.write {x:ce}{o:HO}{t':Nat} (I:Inv X À σ H s) (mu:Mut (H x)) (he:e=x\/H e=ap (.own x)) (k:∀b u,b≠e->s.heap.get? b=ap u->h'.get? b=ap u) (Zh:∃u,h'.get? e=ap u)
  (new:a9 X.prog X.w (upd H x o) h' x o):Inv X À σ (upd H x o) {s with heap:=h',toks:=t'}:=I.un (Un.write mu he k Zh) (I.bA.write mu he k Zh new)
def Inv.KR {F6:List (ce×Obj)} (I:Inv X À σ H s) (h:∀p∈F6,s.heap.get? p.1=ap p.2/\H p.1=bm/\p.1≠X.env.locals/\p.1∉X.fs/\∀v,p.2.data≠.cell v):Inv X F6 σ H s:=
 ⟨I.ok,I.os,I.bare,I.base,I.loc,I.cell,I.free,I.kD,λp hp=>(AW.mp hp).elim (λz=>I.pin p (E8 _ z)) (h p),I.bA,I.len⟩
def Gj {N:List Str} (hN:N.Nodup) {x:Str} (a:N[i]?=ap x) (b:N[j]?=ap x):i=j:=by
 obtain⟨h1,e1⟩:=Ak.mp a;obtain⟨h2,e2⟩:=Ak.mp b;exact (List.getElem_inj hN).mp (e1.trans e2.symm)
def vN {x:Str} (I:Inv X À σ H s) (hN:X.N.Nodup) (hi:X.N[i]?=ap x) (hx:Loc X.env.scope x) (r:RelV v u)
  (h:∀s',Inv X À (σ.set i (ap v)) H s'->(∃a,B9 a s.heap s'.heap/\(a=X.env.locals\/X.env.cells.lookup x=ap a))->Q () s') (hf:NX X x:=by first | exact .inl rfl | exact .inr rfl | assumption):db M A (storeName X.env x u) Q E s:=by
 obtain⟨m,hn,hl⟩:=id I.loc;have afJ:(X.env.scope.kind==.class||(X.env.scope.kind==.module&&X.env.locals != X.env.globals))=false:=by rw [I.ok.kind];rfl
 have abz:i < σ.length:=by rw [I.len];exact (Ak.mp hi).1
 have YG:=I.YG;have Ð:∀{a:ce}{h':lf},(∃o,s.heap.get? a=ap o/\H a=bm)->B9 a s.heap h'->mi X.prog X.w H h':=λ{a h'} ha hs b ob e=>by
  obtain⟨_,_,VC⟩:=ha;refine (I.bA b ob e).xk (λc w' hc q=>(hs.2 c ?_).trans q) (λ_ q=>q) λ_ _ q=>q;rintro rfl;rcases hc with rfl | hc
  ·rw [VC] at e;cases e
  ·rw [VC] at hc;cases hc
 rcases hx with hk | hk
 ·refine wpAny_storeName_local hk hn (λh' hn' hs=>?_) afJ;obtain⟨oL,_,_,Ē,_⟩:=id hn;refine h _ ⟨I.ok,I.os,I.bare,⟨λb o e n hb hx=>?_,λb o e n hb hx=>?_,I.base.free,λb o e hx=>?_,I.base.eI,I.base.uc,I.base.xi⟩,⟨_,hn',λj y v' e1 e2 e3=>?_⟩,λy c e=>?_,I.free,I.kD,λp hp=>?_,Ð ⟨oL,Ē,I.free⟩ hs,by simpa using I.len⟩ ⟨_,hs,.inl rfl⟩
  ·exact (hs.2 b (AA (AG (Ar e) I.ok.above))).trans (I.base.keep b o e n hb hx)
  ·obtain⟨sl,e1⟩:=I.base.slot b o e n hb hx;exact⟨sl,(hs.2 b (AA (AG (Ar e) I.ok.above))).trans e1⟩
  ·obtain⟨o',e1⟩:=I.base.there b o e hx;exact⟨o',(hs.2 b (AA (AG (Ar e) I.ok.above))).trans e1⟩
  ·by_cases hj:j=i
   ·subst hj;rw [hi] at e1;cases e1;rw [Cv abz] at e2;cases e2;exact⟨u,r,.inl ⟨hk,by simp⟩⟩
   ·rw [BZ (BB hj)] at e2;obtain⟨u',r',q⟩:=hl j y v' e1 e2 e3;refine⟨u',r',?_⟩;rcases q with⟨k,e⟩ | ⟨k,c,e,z⟩
    ·refine .inl ⟨k,?_⟩;have:y≠x:=λe=>hj (Gj hN e1 (e▸hi));simp [this,e]
    ·exact .inr ⟨k,c,e,z.sameBut hs (YG y c e)⟩
  ·obtain⟨w',z⟩:=I.cell y c e;exact⟨w',z.sameBut hs (YG y c e)⟩
  ·obtain⟨e,n,ne,nf,d⟩:=I.pin p hp;exact⟨(hs.2 p.1 ne).trans e,n,ne,nf,d⟩
 ·have ù:X.fn x=true:=by
   rcases hf with z | z
   ·exact z
   ·rw [z] at hk;cases hk
  obtain⟨c,hc⟩:=I.ok.has x (.inl hk);obtain⟨w',z⟩:=I.cell x c hc;refine wpAny_storeName_cell I.ok.kind hk hc z (λh' Zj hs=>?_);obtain⟨oc,hoc,afu⟩:=id z;refine h {s with heap:=h'} ⟨I.ok,I.os,I.bare,⟨λb o e n hb hx=>?_,λb o e n hb hx=>?_,I.base.free,λb o e hx=>?_,I.base.eI,I.base.uc,I.base.xi⟩,⟨m,hn.sameBut hs (BB (YG x c hc)),λj y v' e1 e2 e3=>?_⟩,λy c' e=>?_,I.free,I.kD,λp hp=>?_,Ð ⟨oc,hoc,I.kD x c hc⟩ hs,by simpa using I.len⟩ ⟨c,hs,.inr hc⟩
  ·exact (hs.2 b (AA (AG (Ar e) (I.ok.cab x c ù hc)))).trans (I.base.keep b o e n hb hx)
  ·obtain⟨sl,e1⟩:=I.base.slot b o e n hb hx;exact⟨sl,(hs.2 b (AA (AG (Ar e) (I.ok.cab x c ù hc)))).trans e1⟩
  ·obtain⟨o',e1⟩:=I.base.there b o e hx;exact⟨o',(hs.2 b (AA (AG (Ar e) (I.ok.cab x c ù hc)))).trans e1⟩
  ·by_cases hj:j=i
   ·subst hj;rw [hi] at e1;cases e1;rw [Cv abz] at e2;cases e2;exact⟨u,r,.inr ⟨.inl hk,c,hc,Zj⟩⟩
   ·rw [BZ (BB hj)] at e2;obtain⟨u',r',q⟩:=hl j y v' e1 e2 e3;refine⟨u',r',?_⟩;rcases q with q | ⟨k,c',e,z'⟩
    ·exact .inl q
    ·refine .inr ⟨k,c',e,z'.sameBut hs ?_⟩;rintro rfl;exact hj (Gj hN e1 (I.ok.inj _ _ _ e hc▸hi))
  ·by_cases hcc:c'=c
   ·subst hcc;exact⟨_,Zj⟩
   ·obtain⟨w2,z2⟩:=I.cell y c' e;exact⟨w2,z2.sameBut hs hcc⟩
  ·obtain⟨e,n,ne,nf,d⟩:=I.pin p hp;refine⟨(hs.2 p.1 ?_).trans e,n,ne,nf,d⟩;intro q;rw [q,hoc] at e;have q':oc=p.2:=Option.some.inj e;exact d w' (by rw [<- q'];exact afu)
def nJ {x:Str} (I:Inv X À σ H s) (hN:X.N.Nodup) (hi:X.N[i]?=ap x) (hx:Loc X.env.scope x) (r:RelV v u)
  (h:∀s',Inv X À (σ.set i (ap v)) H s'->Q () s') (hf:NX X x:=by first | exact .inl rfl | exact .inr rfl | assumption):db M A (storeName X.env x u) Q E s:=
 vN I hN hi hx r (λs' I' _=>h s' I') hf
def Inv.acp (I:Inv X À σ H s) (ho:s'.os=s.os) (u:Un (NV X.stack) ch H H' s.heap s'.heap) (bA:mi X.prog X.w H' s'.heap) (hg:FB s'.gens)
  (RK:∀b∈ch,(b∈X.ex\/X.s₀.heap.objs.size<=b)/\b≠X.env.locals/\(∀x c,X.env.cells.lookup x=ap c->c≠b)/\∀p∈X.pn++À,p.1≠b):Inv X À σ H' s':=by
 obtain⟨h',g',d',t',o'⟩:=s';have e:o'=s.os:=ho;subst e;exact I.call (g':=g') (t':=t') (d':=d') u bA hg RK
end
abbrev XK:=bn->Option ce->Hp->Prop
abbrev St:=List (Option V)
abbrev VK:=V->Hp->Prop
abbrev TE:=St->Hp->VK->Prop
abbrev TT:=St->Hp->(Bool->Hp->Prop)->Prop
abbrev TA:=St->Hp->(List V->Hp->Prop)->Prop
structure Ends where
 nx:St->Hp->Prop
 rt:VK
 bk:St->Hp->Prop:=λ_ _=>False
 ct:St->Hp->Prop:=λ_ _=>False
abbrev TS:=Ends->St->Hp->Prop
def EP (X:Cx) (À:List (ce×Obj)) (σ:St) (Q:VK) (u:bn) (s':cr):Prop:=∃v H',Inv X À σ H' s'/\RelV v u/\Q v H'
def TP (X:Cx) (À:List (ce×Obj)) (σ:St) (Q:Bool->Hp->Prop) (b:Bool) (s':cr):Prop:=∃H',Inv X À σ H' s'/\Q b H'
def AP (X:Cx) (À:List (ce×Obj)) (σ:St) (Q:List V->Hp->Prop) (us:List bn) (s':cr):Prop:=∃vs H',Inv X À σ H' s'/\Vals vs us/\Q vs H'
def SP (X:Cx) (À:List (ce×Obj)) (D:Ends) (f:Flow) (s':cr):Prop:=
 match f with
 | .next=>∃σ' H',Inv X À σ' H' s'/\D.nx σ' H'
 | .brk=>∃σ' H',Inv X À σ' H' s'/\D.bk σ' H'
 | .cont=>∃σ' H',Inv X À σ' H' s'/\D.ct σ' H'
 | .ret u=>∃v σ' H',Inv X À σ' H' s'/\RelV v u/\D.rt v H'
def PE (X:Cx) (e:ii) (t:TE):Prop:=
 ∀(À:List (ce×Obj)) (s:cr) (σ:St) (H:Hp) (Q:VK),Inv X À σ H s->t σ H Q->db (dL X.prog X.w) X.A (kw e X.env) (EP X À σ Q) X.xe s
def PT (X:Cx) (e:ii) (t:TT):Prop:=
 ∀(À:List (ce×Obj)) (s:cr) (σ:St) (H:Hp) (Q:Bool->Hp->Prop),Inv X À σ H s->t σ H Q->db (dL X.prog X.w) X.A (isTrue e X.env (kw e X.env)) (TP X À σ Q) X.xe s
def PW (X:Cx) (e:ii) (t:TT):Prop:=
 ∀(Ç:Sem bn) (À:List (ce×Obj)) (s:cr) (σ:St) (H:Hp) (Q:Bool->Hp->Prop),Inv X À σ H s->t σ H Q->db (dL X.prog X.w) X.A (isTrue e X.env Ç) (TP X À σ Q) X.xe s
def PW.pt {X:Cx}{e:ii}{t:TT} (h:PW X e t):PT X e t:=h _
def PA (X:Cx) (es:List ii) (t:TA):Prop:=
 ∀(pos:Pos) (À:List (ce×Obj)) (s:cr) (σ:St) (H:Hp) (Q:List V->Hp->Prop),Inv X À σ H s->t σ H Q->db (dL X.prog X.w) X.A (spliced (wf pos (f8 es X.env))) (AP X À σ Q) X.xe s
def PS (X:Cx) (st:sn) (t:TS):Prop:=
 ∀(À:List (ce×Obj)) (s:cr) (σ:St) (H:Hp) (D:Ends),Inv X À σ H s->t D σ H->db (dL X.prog X.w) X.A (exec st X.env) (SP X À D) X.xe s
def sd (X:Cx) (st:List sn) (t:TS):Prop:=
 ∀(À:List (ce×Obj)) (s:cr) (σ:St) (H:Hp) (D:Ends),Inv X À σ H s->t D σ H->db (dL X.prog X.w) X.A (execs st X.env) (SP X À D) X.xe s
def bT {t:Sem α}{Q Q':α->cr->Prop} (h:db M A t Q E s) (hQ:∀a s,Q a s->Q' a s):db M A t Q' E s:=BJ h hQ λ_ _ x=>x
end L2
variable {x:B3}{a:B7}{X:L2.Cx}{σ:L2.St}{Q:A5->DM->Prop}{ta tb:L2.TE}{R:L2.V->L2.V->L2.Hp->Prop}{pos:Ca}
namespace L2
open PySem PySem.Spec PyProof.Rows
section
def bin {b:ii} (ha:PE X a ta) (hb:PE X b tb) (I:Inv X À σ H s) (h:ta σ H λx H1=>tb σ H1 λy H2=>R x y H2) {Q:α->cr->Prop}{f:bn->bn->Sem α}
  (hf:∀v u s2 x y H2,Inv X À σ H2 s2->RelV x v->RelV y u->R x y H2->db (dL X.prog X.w) X.A (f v u) Q X.xe s2) :
  db (dL X.prog X.w) X.A (kw a X.env) (λv s₁=>db (dL X.prog X.w) X.A (kw b X.env) (λu s₂=>db (dL X.prog X.w) X.A (f v u) Q X.xe s₂) X.xe s₁) X.xe s:=by
 refine bT (ha À s σ H _ I h) λv s1 ⟨x,H1,I1,r1,q1⟩=>?_;refine bT (hb À s1 σ H1 _ I1 q1) λu s2 ⟨y,H2,I2,r2,q2⟩=>?_;exact hf v u s2 x y H2 I2 r1 r2 q2
def aeh (i:Nat):TE:=λσ H Q=>∃v,σ[i]?=ap (ap v)/\Q v H
def tC (v:V):TE:=λ_ H Q=>Q v H
def eL (hN:X.N[i]?=ap x) (hv:Hv X.env.scope x) (hd:jr x:=by decide) (jM:HN x:=by decide):PE X (.Name x pos) (aeh i):=by
 intro À s σ H Q I h;obtain⟨v,e,h⟩:=h;obtain⟨m,hn,hl⟩:=I.loc;obtain⟨u,r,l⟩:=hl i x v hN e hv;have fin:EP X À σ Q u s:=⟨v,H,I,r,h⟩;rcases l with⟨hk,hm⟩ | ⟨hk,c,hc,VF⟩
 ·exact wpAny_Name (wpAny_loadName_local I.ok.kind hk hn hm fin) hd
 ·rcases hk with hk | hk
  ·exact wpAny_Name (wpAny_loadName_cell I.ok.kind hk hc VF fin) hd
  ·exact wpAny_Name (wpAny_loadName_free I.ok.kind hk hc VF fin jM) hd
def W6 {i j pos}:PE X (.Constant (.int i) j pos) (tC (.int i)):=λ_ _ _ H _ I h=>wpAny_Constant_int ⟨.int i,H,I.tok _,⟨_,rfl⟩,h⟩
def aaF {b j pos}:PE X (.Constant (.bool b) j pos) (tC (.bl b)):=λ_ _ _ H _ I h=>Constant_bool ⟨.bl b,H,I,rfl,h⟩
def Pd {j pos}:PE X (.Constant .none j pos) (tC .aG):=λ_ _ _ H _ I h=>Constant_none ⟨.aG,H,I,rfl,h⟩
def W3 {x j pos}:PE X (.Constant (.str x) j pos) (tC (.str x)):=λ_ _ _ H _ I h=>Calls.Constant_str ⟨.str x,H,I.tok _,⟨_,rfl⟩,h⟩
def Gl (X:Cx) (x:Str):Prop:=X.env.kindOf x=ap .globalImplicit
def Lf (I:Inv X À σ H s) (hg:Gl X x) (hm:X.mg x=ap u) (h:Q u s)
  (hd:jr x:=by decide):db (dL X.prog X.w) X.A (kw (.Name x pos) X.env) Q E s:=
 DW I.ok.kind hg (Calls.loadGlobal_global (by rw [I.ok.glob];exact I.mod.glob.keeps I.bk) hm h) hd
def iL (I:Inv X À σ H s) (hg:Gl X x) (hm:X.mg x=bm) (hv:lc x=ap u) (h:Q u s)
  (hn:x≠"__name__":=by decide) (hd:jr x:=by decide):db (dL X.prog X.w) X.A (kw (.Name x pos) X.env) Q E s:=by
 obtain⟨mb,h1,h2⟩:=I.mod.blt;exact DW I.ok.kind hg (Calls.loadGlobal_builtin (by rw [I.ok.glob];exact I.mod.glob.keeps I.bk) hm (by rw [I.ok.blt];exact h1.keeps I.bk) ((h2 x hn).trans hv) h) hd
def rH (hg:Gl X x) (hm:X.mg x=ap u) (r:RelV v u) (hd:jr x:=by decide):PE X (.Name x pos) (tC v):=
 λ_ _ _ H _ I h=>Lf I hg hm ⟨v,H,I,r,h⟩ hd
def SQ (hg:Gl X x) (hm:X.mg x=bm) (hv:lc x=ap u) (r:RelV v u) (hn:x≠"__name__":=by decide) (hd:jr x:=by decide):PE X (.Name x pos) (tC v):=
 λ_ _ _ H _ I h=>iL I hg hm hv ⟨v,H,I,r,h⟩ hn hd
variable {b:ii}
variable {tA Ă:TT}{rest:List ii}
def aes (t u:TT):TT:=λσ H Q=>t σ H λc H1=>if c=true then u σ H1 Q else Q false H1
def tOr (t u:TT):TT:=λσ H Q=>t σ H λc H1=>if c=true then Q true H1 else u σ H1 Q
def aen (t:TT):TT:=λσ H Q=>t σ H λc H1=>Q (!c) H1
def Su (ha:PT X a tA):PW X (.BoolOp .And [a] pos) tA:=by
 intro wh À s σ H Q I h;refine isTrue_and (bT (ha À s σ H Q I h) λc s1 e=>?_);cases c with
 | true=>exact isTrue_and_nil e
 | false=>exact e
def WU (ha:PT X a tA):PW X (.BoolOp .Or [a] pos) tA:=by
 intro wh À s σ H Q I h;refine isTrue_or (bT (ha À s σ H Q I h) λc s1 e=>?_);cases c with
 | false=>exact isTrue_or_nil e
 | true=>exact e
def WV (ha:PT X a tA) (hb:PW X (.BoolOp .And (b::rest) pos) Ă):PW X (.BoolOp .And (a::b::rest) pos) (aes tA Ă):=by
 intro wh À s σ H Q I h;refine isTrue_and (bT (ha À s σ H _ I h) λc s1 ⟨H1,I1,q1⟩=>?_);cases c with
 | true=>exact hb wh À s1 σ H1 Q I1 q1
 | false=>exact⟨H1,I1,q1⟩
def aay (ha:PT X a tA) (hb:PW X (.BoolOp .Or (b::rest) pos) Ă):PW X (.BoolOp .Or (a::b::rest) pos) (tOr tA Ă):=by
 intro wh À s σ H Q I h;refine isTrue_or (bT (ha À s σ H _ I h) λc s1 ⟨H1,I1,q1⟩=>?_);cases c with
 | true=>exact⟨H1,I1,q1⟩
 | false=>exact hb wh À s1 σ H1 Q I1 q1
def WW (ha:PT X a tA):PT X (.UnaryOp .Not a pos) (aen tA):=by
 intro À s σ H Q I h;exact isTrue_not (ha À s σ H (λc H1=>Q (!c) H1) I h)
def Z6 (ta tb:TE):TE:=λσ H Q=>ta σ H λx H1=>∃c,x=.bl c/\if c=true then tb σ H1 Q else Q (.bl false) H1
def aem (ta tb:TE):TE:=λσ H Q=>ta σ H λx H1=>∃c,x=.bl c/\if c=true then Q (.bl true) H1 else tb σ H1 Q
def ZX (ta:TE):TE:=λσ H Q=>ta σ H λx H1=>∃c,x=.bl c/\Q (.bl (!c)) H1
def W4 {op}{t:TE} (h:PE X a t):PE X (.BoolOp op [a] pos) t:=λÀ s σ H Q I hw=>BoolOp_one (h À s σ H Q I hw)
def W8 (ha:PE X a ta) (hb:PE X (.BoolOp .And (b::rest) pos) tb):PE X (.BoolOp .And (a::b::rest) pos) (Z6 ta tb):=by
 intro À s σ H Q I h;refine BoolOp_and (bT (ha À s σ H _ I h) λv s1 ⟨x,H1,I1,r1,q1⟩=>?_);obtain⟨c,rfl,q1⟩:=q1;cases r1;refine B4 ?_;cases c with
 | true=>exact hb À s1 σ H1 Q I1 q1
 | false=>exact⟨.bl false,H1,I1,rfl,q1⟩
def aaC (ha:PE X a ta) (hb:PE X (.BoolOp .Or (b::rest) pos) tb):PE X (.BoolOp .Or (a::b::rest) pos) (aem ta tb):=by
 intro À s σ H Q I h;refine BoolOp_or (bT (ha À s σ H _ I h) λv s1 ⟨x,H1,I1,r1,q1⟩=>?_);obtain⟨c,rfl,q1⟩:=q1;cases r1;refine B4 ?_;cases c with
 | false=>exact hb À s1 σ H1 Q I1 q1
 | true=>exact⟨.bl true,H1,I1,rfl,q1⟩
def W5 (ha:PE X a ta):PE X (.UnaryOp .Not a pos) (ZX ta):=by
 intro À s σ H Q I h;refine UnaryOp_ (bT (ha À s σ H _ I h) λv s1 ⟨x,H1,I1,r1,q1⟩=>?_);obtain⟨c,rfl,q1⟩:=q1;cases r1;exact not_of (B4 ⟨.bl (!c),H1,I1,rfl,q1⟩)
def tIf (t:TT) (ta tb:TE):TE:=λσ H Q=>t σ H λc H1=>if c=true then ta σ H1 Q else tb σ H1 Q
def F8 {c:ii} (hc:PT X c tA) (ha:PE X a ta) (hb:PE X b tb):PE X (.IfExp c a b pos) (tIf tA ta tb):=by
 intro À s σ H Q I h;refine wpAny_IfExp (bT (hc À s σ H _ I h) λd s1 ⟨H1,I1,q1⟩=>?_);cases d with
 | true=>exact ha À s1 σ H1 Q I1 q1
 | false=>exact hb À s1 σ H1 Q I1 q1
end
end L2
variable {xs ys:List L2.V}{e tg:B7}{y:L2.V}{D:L2.Ends}{te:L2.TE}{es:List B7}{k n:Nat}{Ù px py pt:Ca}{body:List PySem.Stmt}
namespace L2
open PySem PySem.Spec PyProof.Rows
def c9 (K:Ab) (H:Hp) (a:ce) (xs:List V):Prop:=
 Rd H a (.lst xs)\/
  ∃(o:Obj) (ar:Array bn) (n:Nat),K.lookup a=ap o/\o.cls=.type "list"/\o.dict=bm/\o.data=.seq ar n/\ar.size<=sizeLine/\Vals xs ar.toList
def dX (K:Ab) (H:Hp) (a:ce) (xs:List V):Prop:=
 Rd H a (.tup xs)\/
  ∃(o:Obj) (ar:Array bn) (n:Nat),K.lookup a=ap o/\o.cls=.type "tuple"/\o.data=.seq ar n/\ar.size<=sizeLine/\Vals xs ar.toList
def agi:bn->Option V
 | .none=>ap .aG
 | .bool b=>ap (.bl b)
 | .int i _=>ap (.int i)
 | .str x _=>ap (.str x)
 | .bytes b _=>ap (.YJ b)
 | .float b _=>ap (.Zn b)
 | .ref a=>ap (.ref a)
 | .type n=>ap (.ty n)
 | _=>bm
def RelV.abs {x:V} (r:RelV x u):agi u=ap x:=by
 cases x with
 | aG=>cases r;rfl
 | bl _=>cases r;rfl
 | int _=>obtain⟨t,rfl⟩:=r;rfl
 | str _=>obtain⟨t,rfl⟩:=r;rfl
 | YJ _=>obtain⟨t,rfl⟩:=r;rfl
 | Zn _=>obtain⟨t,rfl⟩:=r;rfl
 | ref _=>cases r;rfl
 | ty _=>cases r;rfl
def RelV.inj {x:V} (r:RelV x u) (q:RelV y u):x=y:=Option.some.inj (r.abs.symm.trans q.abs)
theorem Vals.inj:∀{xs ys:List V}{us:List bn},Vals xs us->Vals ys us->xs=ys
 | _,_,_,.nil,.nil=>rfl
 | _,_,_,.cons r t,.cons r' t'=>by rw [r.inj r',Vals.inj t t']
section
variable {a:ce}
def c9.of {K:Ab} (h:H a=ap (.lst xs)):c9 K H a xs:=.inl (.inl h)
def dX.of {K:Ab} (h:H a=ap (.tup xs)):dX K H a xs:=.inl (.inl h)
theorem Inv.list (I:Inv X À σ H s) (h:c9 X.K H a xs):∃ar:List bn,Vals xs ar/\PlainL s.heap a ar.toArray/\xs.length<=sizeLine:=by
 rcases h with h | ⟨o,ar,n,hk,hc,hd,hs,hz,r⟩
 ·obtain⟨z,ar,n,r,e⟩:=h.ok I.bA;exact⟨ar,r,⟨_,n,e,rfl,rfl,rfl⟩,z⟩
 ·refine⟨ar.toList,r,⟨o,n,I.wo a o hk,hc,hd,by simpa using hs⟩,?_⟩;have e:=r.length;simp only [BN] at e;omega
theorem Inv.tuple (I:Inv X À σ H s) (h:dX X.K H a xs):∃ar:List bn,Vals xs ar/\IsTup s.heap a ar.toArray/\xs.length<=sizeLine:=by
 rcases h with h | ⟨o,ar,n,hk,hc,hs,hz,r⟩
 ·obtain⟨z,ar,r,p⟩:=h.ok I.bA;exact⟨ar,r,p,z⟩
 ·refine⟨ar.toList,r,⟨o,I.wo a o hk,hc,n,by simpa using hs⟩,?_⟩;have e:=r.length;simp only [BN] at e;omega
def Inv.Gx (I:Inv X À σ H s) (h:c9 X.K H a xs) (h':c9 X.K H a ys):xs=ys:=by
 obtain⟨ar,r,⟨o,n,e,_,_,d⟩,_⟩:=I.list h;obtain⟨its',r',⟨o',n',e',_,_,d'⟩,_⟩:=I.list h';rw [e] at e';cases e';rw [d] at d';injection d' with d1 _;have:ar=its':=by simpa using congrArg Array.toList d1
 subst this;exact r.inj r'
def Inv.lN (I:Inv X À σ H s) (h:dX X.K H a xs) (h':dX X.K H a ys):xs=ys:=by
 obtain⟨ar,r,⟨o,e,_,n,d⟩,_⟩:=I.tuple h;obtain⟨its',r',⟨o',e',_,n',d'⟩,_⟩:=I.tuple h';rw [e] at e';cases e';rw [d] at d';injection d' with d1 _;have:ar=its':=by simpa using congrArg Array.toList d1
 subst this;exact r.inj r'
end
abbrev Cx.uQ (X:Cx) (E:bn->cr->Prop):Cx:={X with xe:=E}
abbrev Cx.vT (X:Cx):Cx:=X.uQ λ_ _=>False
def Cx.Ok.uQ (ok:X.Ok) (E:bn->cr->Prop):(X.uQ E).Ok:=
 ⟨ok.mod,ok.kind,ok.glob,ok.blt,ok.above,ok.inj,ok.has,ok.cab,ok.hd,ok.frames,ok.stk,ok.exf,ok.bs,ok.V0,ok.Pp,ok.QK,ok.ub,ok.Zk⟩
def Cx.Ok.kM (ok:(X.uQ E).Ok):X.Ok:=
 ⟨ok.mod,ok.kind,ok.glob,ok.blt,ok.above,ok.inj,ok.has,ok.cab,ok.hd,ok.frames,ok.stk,ok.exf,ok.bs,ok.V0,ok.Pp,ok.QK,ok.ub,ok.Zk⟩
section
def Inv.uQ (I:Inv X À σ H s) (E:bn->cr->Prop):Inv (X.uQ E) À σ H s:=⟨I.ok.uQ E,I.os,I.bare,I.base,I.loc,I.cell,I.free,I.kD,I.pin,I.bA,I.len⟩
def Inv.kM (I:Inv (X.uQ E) À σ H s):Inv X À σ H s:=⟨I.ok.kM,I.os,I.bare,I.base,I.loc,I.cell,I.free,I.kD,I.pin,I.bA,I.len⟩
def SP.kM {f:Flow} (h:SP (X.uQ E) À D f s'):SP X À D f s':=by
 cases f with
 | next=>obtain⟨σ',H',I,q⟩:=h;exact⟨σ',H',I.kM,q⟩
 | brk=>obtain⟨σ',H',I,q⟩:=h;exact⟨σ',H',I.kM,q⟩
 | cont=>obtain⟨σ',H',I,q⟩:=h;exact⟨σ',H',I.kM,q⟩
 | ret u=>obtain⟨v,σ',H',I,r,q⟩:=h;exact⟨v,σ',H',I.kM,r,q⟩
def sd.vT {st:List sn}{t:TS} (h:sd X.vT st t):sd X st t:=λÀ s σ H D I hw=>
 BJ (h À s σ H D (I.uQ _) hw) (λ_ _ q=>q.kM) λ_ _ z=>Bp z
end
section
variable {st:sn}{rest:List sn}{t u:TS}
def ZZ:TS:=λD σ H=>D.nx σ H
def aej (t u:TS):TS:=λD σ H=>t {D with nx:=u D} σ H
def xy:sd X [] ZZ:=λ_ _ σ H _ I h=>DC ⟨σ,H,I,h⟩
def F1 (h1:PS X st t) (h2:sd X rest u):sd X (st::rest) (aej t u):=by
 intro À s σ H D I h;refine wpAny_execs_cons (bT (h1 À s σ H {D with nx:=u D} I h) λf s1 q=>?_);cases f with
 | next=>
  obtain⟨σ',H',I',q⟩:=q;exact h2 À s1 σ' H' D I' q
 | ret v=>exact q
 | brk=>exact q
 | cont=>exact q
def Sw (h1:PS X st t):sd X [st] t:=by
 intro À s σ H D I h;refine wpAny_execs_cons (bT (h1 À s σ H D I h) λf s1 q=>?_);cases f with
 | next=>exact DC q
 | ret v=>exact q
 | brk=>exact q
 | cont=>exact q
def Z3:TS:=λD σ H=>D.ct σ H
def F3:PS X (.Continue pos) Z3:=λ_ _ σ H _ I h=>wpAny_Continue ⟨σ,H,I,h⟩
def Inv.quiet (I:Inv X À σ H s):interactive X.env=false:=by simp [interactive,I.ok.kind]
def Z1 (te:TE):TS:=λD σ H=>te σ H λ_ H1=>D.nx σ H1
def rG (he:PE X e te) (hs:im e bm pos.line X.env=pure false:=by rfl):PS X (.Expr e pos) (Z1 te):=by
 intro À s σ H D I h;exact wpAny_Expr_any (bT (he À s σ H _ I h) λv s1 ⟨x,H1,I1,r1,q1⟩=>⟨σ,H1,I1,q1⟩) I.quiet hs
def aek (te:TE):TS:=λD σ H=>te σ H D.rt
def xA (he:PE X e te):PS X (.Return (ap e) pos) (aek te):=by
 intro À s σ H D I h;exact wpAny_Return_some (bT (he À s σ H _ I h) λv s1 ⟨x,H1,I1,r1,q1⟩=>⟨x,σ,H1,I1,r1,q1⟩)
def aep (c:TT) (t u:TS):TS:=λD σ H=>c σ H λb H1=>if b=true then t D σ H1 else u D σ H1
def O2 {c:ii}{a b:List sn}{tc:TT} (hc:PT X c tc) (ha:sd X a t) (hb:sd X b u):PS X (.If c a b pos) (aep tc t u):=by
 intro À s σ H D I h;refine wpAny_If (bT (hc À s σ H _ I h) λd s1 ⟨H1,I1,q1⟩=>?_);cases d with
 | true=>exact ha À s1 σ H1 D I1 q1
 | false=>exact hb À s1 σ H1 D I1 q1
def Wl:TS:=λ_ _ _=>False
end
abbrev TG:=V->St->Hp->(St->Hp->Prop)->Prop
abbrev YV:=List V->St->Hp->(St->Hp->Prop)->Prop
def PG (X:Cx) (Ê:ii) (t:TG):Prop:=
 ∀(À:List (ce×Obj)) (s:cr) (σ:St) (H:Hp) (v:V) (u:bn) (Q:St->Hp->Prop),Inv X À σ H s->RelV v u->t v σ H Q->
  db (dL X.prog X.w) X.A (EQ Ê X.env u) (λ_ s'=>∃σ' H',Inv X À σ' H' s'/\Q σ' H') X.xe s
def PGs (X:Cx) (ts:List ii) (t:YV):Prop:=
 ∀(À:List (ce×Obj)) (s:cr) (σ:St) (H:Hp) (vs:List V) (us:List bn) (Q:St->Hp->Prop),Inv X À σ H s->Vals vs us->t vs σ H Q->
  db (dL X.prog X.w) X.A (assignInOrder ((wS ts X.env).map (·.2)) us) (λ_ s'=>∃σ' H',Inv X À σ' H' s'/\Q σ' H') X.xe s
abbrev Rx:=V->V->V->Hp->(Hp->Prop)->Prop
def NN (X:Cx) (t:Rx):Prop:=
 ∀(À:List (ce×Obj)) (s:cr) (σ:St) (H:Hp) (o i v:V) (ov iv u:bn) (Q:Hp->Prop),Inv X À σ H s->RelV o ov->RelV i iv->RelV v u->t o i v H Q->
  db (dL X.prog X.w) X.A (setItem ov iv u) (λ_ s'=>∃H',Inv X À σ H' s'/\Q H') X.xe s
section
def eB (i:Nat):TG:=λv σ H Q=>Q (σ.set i (ap v)) H
def SG (hN:X.N.Nodup) (hi:X.N[i]?=ap x) (hx:Loc X.env.scope x) (hf:NX X x:=by first | exact .inl rfl | exact .inr rfl | assumption):PG X (.Name x pos) (eB i):=by
 intro À s σ H v u Q I r h;exact wpAny_assign_Name (nJ I hN hi hx r (λs' I'=>⟨_,H,I',h⟩) hf)
def Yk:YV:=λvs σ H Q=>vs=[]/\Q σ H
def t6 (t:TG) (u:YV):YV:=λvs σ H Q=>∃v r,vs=v::r/\t v σ H λσ' H'=>u r σ' H' Q
def dZ:PGs X [] Yk:=by
 intro À s σ H vs us Q I r h;obtain⟨e,h⟩:=h;subst e;cases r;exact assignInOrder_nil ⟨σ,H,I,h⟩
def aK {t:TG}{u:YV} (h1:PG X e t) (h2:PGs X es u)
  (hs:(wS (e::es) X.env).map (·.2)=EQ e X.env::(wS es X.env).map (·.2):=by rfl):PGs X (e::es) (t6 t u):=by
 intro À s σ H vs us Q I r h;obtain⟨v,vr,e1,h⟩:=h;subst e1;cases r with
 | cons r rr=>
  rw [hs];refine assignInOrder_cons (bT (h1 À s σ H _ _ _ I r h) λ_ s1 ⟨σ1,H1,I1,q1⟩=>?_);exact h2 À s1 σ1 H1 _ _ Q I1 rr q1
def Yj (K:Ab) (n:Nat) (t:YV):TG:=λv σ H Q=>∃a xs,v=.ref a/\dX K H a xs/\xs.length=n/\t xs σ H Q
def f7 {t:YV} (hc:X.calm=true) (h:PGs X es t)
  (hn:(wS es X.env).length=n:=by rfl) (rQ:(wS es X.env).findIdx? (·.1)=bm:=by rfl):PG X (.Tuple es k pos) (Yj X.K n t):=by
 intro À s σ H v u Q I r hw;obtain⟨a,xs,e1,hq,hl,hw⟩:=hw;subst e1;cases r;obtain⟨ar,rv,ht,hz⟩:=I.tuple hq;refine assign_Tuple_tuple (I.ok.hd hc) ht (by simp [hn,<- hl,rv.length]) rQ λh' hx=>?_;have I1:Inv X À σ H {s with heap:=h'}:=I.kept (t':=s.toks) λb o e=>hx b o (AA (Ar e)) e;exact h À _ σ H xs _ Q I1 (by simpa using rv) hw
def afV (to ti:TE) (t:Rx):TG:=λv σ H Q=>to σ H λo H1=>ti σ H1 λi H2=>t o i v H2 λH3=>Q σ H3
def W2 {o i:ii}{to ti:TE}{t:Rx} (ho:PE X o to) (hi:PE X i ti) (hs:NN X t)
  (ha:∀v,EQ (.Subscript o i pos) X.env v=(do
   let ov <- BT [v] (kw o X.env)
   let iv <- BT [v,ov] (kw i X.env)
   standAt pos
   BT [v,ov,iv] (setItem ov iv v)
   release [v,ov,iv] []):=by intro _;rfl):PG X (.Subscript o i pos) (afV to ti t):=by
 intro À s σ H v u Q I r h;refine Aa (Bf (bT (ho À s σ H _ I h) λov s1 ⟨x,H1,I1,r1,q1⟩=>?_));refine Aa (Bf (bT (hi À s1 σ H1 _ I1 q1) λiv s2 ⟨y,H2,I2,r2,q2⟩=>?_));refine Aa (Eh (Aa (Bf (bT (hs À s2 σ H2 x y v ov iv u _ I2 r1 r2 r q2) λ_ s3 ⟨H3,I3,q3⟩=>?_))));exact wpAny_release ⟨σ,H3,I3,q3⟩
def Wn (te:TE) (g:TG):TS:=λD σ H=>te σ H λx H1=>g x σ H1 D.nx
def O3 {g:TG} (he:PE X e te) (hg:PG X tg g) (hs:Db [tg] e pos.line X.env=pure false:=by rfl) (hw:Ev [tg] e X.env=pure bm:=by rfl)
  (h1:(wS [tg] X.env).map (·.2)=[EQ tg X.env]:=by rfl):PS X (.Assign [tg] e pos) (Wn te g):=by
 intro À s σ H D I h;refine wpAny_Assign_stores (bT (he À s σ H _ I h) λv s1 ⟨x,H1,I1,r1,q1⟩=>?_) hs hw;rw [h1];exact bT (hg À s1 σ H1 x v _ I1 r1 q1) λ_ s2 q=>q
def sR (hN:X.N.Nodup) (hi:X.N[i]?=ap x) (hx:Loc X.env.scope x) (he:PE X e te) (hs:im e (ap (.Name x Ù)) pos.line X.env=pure false:=by rfl) (hf:NX X x:=by first | exact .inl rfl | exact .inr rfl | assumption) :
  PS X (.Assign [.Name x Ù] e pos) (Wn te (eB i)):=by
 intro À s σ H D I h;refine wpAny_Assign_Name (bT (he À s σ H _ I h) λv s1 ⟨y,H1,I1,r1,q1⟩=>?_) hs;exact nJ I1 hN hi hx r1 (λs2 I2=>⟨_,H1,I2,q1⟩) hf
def ael (i j:Nat) (ta:TA):TS:=λD σ H=>ta σ H λvs H1=>∃v w,vs=[v,w]/\D.nx ((σ.set i (ap v)).set j (ap w)) H1
def WY {y:Str}{b:ii}{ta:TA}{kt k2 WX} (hc:X.calm=true) (hN:X.N.Nodup) (hi:X.N[i]?=ap x) (hj:X.N[j]?=ap y) (õ:i≠j)
  (hx:X.env.scope.names.lookup x=ap .local) (hy:X.env.scope.names.lookup y=ap .local) (ha:PA X [a,b] ta)
  (hw:Ev [.Tuple [.Name x px,.Name y py] kt pt] (.Tuple [a,b] k2 WX) X.env=pure (ap [x,y]))
  (hs:Db [.Tuple [.Name x px,.Name y py] kt pt] (.Tuple [a,b] k2 WX) pos.line X.env=pure false:=by rfl) :
  PS X (.Assign [.Tuple [.Name x px,.Name y py] kt pt] (.Tuple [a,b] k2 WX) pos) (ael i j ta):=by
 intro À s σ H D I h;refine Aa (Eh ?_);refine Aa (Ae ?_);rw [if_neg ⋯];refine Aa (Tuple_ (bT (ha _ À s σ H _ I h) λus s1 ⟨vs,H1,I1,r1,q1⟩=>?_));obtain⟨v,w,e1,q1⟩:=q1;subst e1;obtain⟨u1,u2,rfl,rv,xw⟩:∃u1 u2,us=[u1,u2]/\RelV v u1/\RelV w u2:=by
  cases r1 with
  | cons p q=>
   cases q with
   | cons p' q'=>
    cases q';exact⟨_,_,rfl,p,p'⟩
 refine AO ?_ (by show 2<=sizeLine;decide);have I2:Inv X À σ H1 {s1 with heap:=s1.heap.push {cls:=.type "tuple",data:=.seq [u1,u2].toArray}}:=I1.kept (t':=s1.toks) λb o e=>Ag _ e;rw [hw];refine Aa (Ae ?_);refine Aa (CM (Aa (unpackItems_tuple (items:=#[u1,u2]) (I.ok.hd hc) (Ff s1.heap _) λh' wz=>?_)));have I3:=I2.kept (h':=h') (t':=s1.toks) λb o e=>wz b o (AA (Ar e)) e;show db _ _ (assignInOrder [λv=>bindName X.env y v,λv=>bindName X.env x v] [u2,u1] >>= λ_=>pure Flow.next) _ _ _;refine Aa (assignInOrder_cons (wpAny_bindName (nJ I3 hN hj (.inl hy) xw (λs2 I4=>?_) (.inr hy))));refine assignInOrder_cons (wpAny_bindName (nJ I4 hN hi (.inl hx) rv (λs3 I5=>assignInOrder_nil (Ae ?_)) (.inr hx)));rw [List.set_comm _ _ (BB õ)] at I5;exact⟨_,H1,I5,q1⟩
end
section
def Wj (c:TT) (tb:TS):TS:=λD σ H=>∃W:Nat->St->Hp->Prop,(∃m,W m σ H)/\∀m σ H,W m σ H->
 c σ H λb H1=>if b=true then ∃N:St->Hp->Prop,(∀σ' H',N σ' H'->∃m',m' < m/\W m' σ' H')/\tb {D with nx:=N,ct:=N,bk:=D.nx} σ H1 else D.nx σ H1
def O1 {c:ii}{tc:TT}{tb:TS} (hp:wn (dL X.prog X.w) X.A X.env X.xe) (hc:PT X c tc) (hb:sd X body tb):PS X (.While c body [] pos) (Wj tc tb):=by
 intro À s σ H D I h;obtain⟨W,⟨m0,w0⟩,turn⟩:=h;refine wpAny_While (codeAny_whileLoop (λn s'=>∃σ' H',Inv X À σ' H' s'/\W n σ' H') ?_ m0 ⟨σ,H,I,w0⟩);rintro n s1 ⟨σ1,H1,I1,w1⟩;refine Ci hp (bT (hc À s1 σ1 H1 _ I1 (turn n σ1 H1 w1)) λb s2 ⟨H2,I2,q2⟩=>?_);cases b with
 | true=>
  obtain⟨N,hN,q2⟩:=q2;refine Ci hp (bT (hb À s2 σ1 H2 _ I2 q2) λf s3 q3=>?_);cases f with
  | next=>
   obtain⟨σ3,H3,I3,n3⟩:=q3;obtain⟨m',hm,w3⟩:=hN σ3 H3 n3;exact⟨m',hm,σ3,H3,I3,w3⟩
  | cont=>
   obtain⟨σ3,H3,I3,n3⟩:=q3;obtain⟨m',hm,w3⟩:=hN σ3 H3 n3;exact⟨m',hm,σ3,H3,I3,w3⟩
  | brk=>exact q3
  | ret v=>exact q3
 | false=>
  exact DC ⟨σ1,H2,I2,q2⟩
end
structure It where
 go:Nat->Hp->Prop
 U2:Nat->Hp->V->Hp->Prop
 stop:Nat->Hp->Prop
def vG (X:Cx) (À:List (ce×Obj)) (H:Hp) (b:ce):Prop:=
 H b=bm/\b≠X.env.locals/\b∉X.fs/\(b∈X.ex\/X.s₀.heap.objs.size<=b)/\(∀x c,X.env.cells.lookup x=ap c->c≠b)/\∀p∈X.pn++À,p.1≠b
def Inv.yL (I:Inv X À σ H s) (hb:s.heap.objs.size<=b) (hn:H' b=bm):vG X À H' b:=by
 refine⟨hn,Nat.ne_of_gt (AG I.lt hb),I.aeN hb,.inr (Bu I.sz hb),λx c e z=>?_,λp hp z=>?_⟩
 ·obtain⟨v,q⟩:=I.cell x c e;exact absurd (AG q.lt (by rw [z];exact hb)) (AX _)
 ·exact absurd (AG (Ar (I.pin p hp).1) (by rw [z];exact hb)) (AX _)
structure Turn (P:sK) (w:tz) (K:Ab) (tg:ii) (J:It) (fp:List ce) (it:ce) (tn:Nat->lf->Prop):Prop where
 mem:it∈fp
 obj:∀i h,tn i h->∀b∈fp,∃o,h.get? b=ap o/\∀v,o.data≠.cell v
 keep:∀i h h',tn i h->(∀b∈fp,∀o,h.get? b=ap o->h'.get? b=ap o)->tn i h'
 item:∀(X:Cx),X.prog=P->X.w=w->X.K=K->X.calm=true->∀(i:Nat) (À:List (ce×Obj)) (s:cr) (σ:St) (H:Hp) (E:bn->cr->Prop),Inv X À σ H s->(∀b∈fp,vG X À H b)->tn i s.heap->J.go i H->
  db (dL P w) X.A (pyNext (.ref it)) (λr s1=>∃u,r=ap u/\
   db (dL P w) X.A (FM tg (.ref it) u) (λ_ s2=>∃x H',Inv X À σ H' s2/\RelV x u/\J.U2 i H x H'/\tn (i+1) s2.heap/\∀b∈fp,H' b=bm) E s1) E s
 done:∀(X:Cx),X.prog=P->X.w=w->X.K=K->X.calm=true->∀(i:Nat) (À:List (ce×Obj)) (s:cr) (σ:St) (H:Hp) (E:bn->cr->Prop),Inv X À σ H s->(∀b∈fp,vG X À H b)->tn i s.heap->J.stop i H->
  db (dL P w) X.A (pyNext (.ref it)) (λr s1=>r=bm/\Inv X À σ H s1) E s
 self:∀(A:nn) (i:Nat) (s:cr) (Q:bn->cr->Prop) (E:bn->cr->Prop),tn i s.heap->Q (.ref it) s->db (dL P w) A (pyIter (.ref it)) Q E s
abbrev TI:=St->Hp->(It->Hp->Prop)->Prop
def PIE (X:Cx) (À:List (ce×Obj)) (σ:St) (tg:ii) (R:It->Hp->Prop) (Č:bn) (s2:cr):Prop:=
 ∃(it:ce) (fp:List ce) (tn:Nat->lf->Prop) (J:It) (H':Hp),Č=.ref it/\Inv X À σ H' s2/\Turn X.prog X.w X.K tg J fp it tn/\tn 0 s2.heap/\(∀b∈fp,vG X À H' b)/\R J H'
def PI (X:Cx) (tg iter:ii) (wi:TI):Prop:=
 ∀(À:List (ce×Obj)) (s:cr) (σ:St) (H:Hp) (R:It->Hp->Prop),Inv X À σ H s->wi σ H R->
  db (dL X.prog X.w) X.A (kw iter X.env) (λv s1=>db (dL X.prog X.w) X.A (pyIter v) (PIE X À σ tg R) X.xe s1) X.xe s
def GR {n:String}{vs:Array bn}{Q:Unit->cr->Prop} (ho:s.heap.get? it=ap o) (hc:o.cls=.type n) (hd:o.data=.fields vs)
  (hn:["enumerate","zip","dict_itemiterator","dict_reverseitemiterator","odict_iterator","itertools.zip_longest","itertools.pairwise"].contains n=false) (hQ:Q () s):db M A (FM tg (.ref it) u) Q E s:=by
 unfold FM;cases tg <;> first
  | exact Ae hQ
  | (cases u <;> first
    | exact Ae hQ
    | (
      refine Aa (wpAny_load ho ?_);rw [hc,hd];show db M A (if (["enumerate","zip","dict_itemiterator","dict_reverseitemiterator","odict_iterator","itertools.zip_longest","itertools.pairwise"].contains n&&vs[0]?==ap (t0 _))=true then _ else _) Q E s;rw [if_neg (by intro h;rw [hn,Fc] at h;cases h)];exact Ae hQ))
def Itl (K:Ab) (a:ce):It:=
 ⟨λi H=>∃xs x,c9 K H a xs/\xs[i]?=ap x,λi H x H'=>H'=H/\∀xs,c9 K H a xs->xs[i]?=ap x,λi H=>∃xs,c9 K H a xs/\xs.length<=i⟩
def Itt (K:Ab) (a:ce):It:=
 ⟨λi H=>∃xs x,dX K H a xs/\xs[i]?=ap x,λi H x H'=>H'=H/\∀xs,dX K H a xs->xs[i]?=ap x,λi H=>∃xs,dX K H a xs/\xs.length<=i⟩
def Itr (lo:Int) (n:Nat):It:=⟨λi _=>i < n,λi H x H'=>H'=H/\x=.int (lo+i),λi _=>n<=i⟩
theorem vI {K:Ab} (a it:ce):Turn P w K tg (Itl K a) [it] it (λi h=>h.IsListIter it a i) where
 mem:=by simp
 obj:=λi h st b hb=>by
  have e:b=it:=by simpa using hb
  subst e;obtain⟨o,e,c,d⟩:=st;exact⟨o,e,λv z=>by rw [d] at z;cases z⟩
 keep:=λi h h' st k=>st.at λo e=>k it (by simp) o e
 item:=by
  intro X hP hw hK hc i À s σ H E I hf st hg;subst hP hw hK;obtain⟨xs,x,hq,hx⟩:=hg;obtain⟨ar,rv,p,hz⟩:=I.list hq;obtain⟨u,hu,ru⟩:=rv.get hx;obtain⟨f0,f1,f2,f3,f4,f5⟩:=hf it (by simp);refine wpAny_pyNext_list_item st p.isList (x:=u) (by simpa using hu) λh' rF sb=>?_;have I1:Inv X À σ H {s with heap:=h'}:=I.turned (t':=s.toks) (λb o hb e=>(sb.2 b hb).trans e) f0 f1 f3 f4 f5;obtain⟨o,e,c,d⟩:=id rF;exact⟨u,rfl,GR (s:={s with heap:=h'}) e c d ⋯ ⟨x,H,I1,ru,⟨rfl,λys hy=>by rw [I.Gx hy hq];exact hx⟩,rF,λb hb=>(hf b hb).1⟩⟩
 done:=by
  intro X hP hw hK hc i À s σ H E I hf st hg;subst hP hw hK;obtain⟨xs,hq,hx⟩:=hg;obtain⟨ar,rv,p,hz⟩:=I.list hq;obtain⟨f0,f1,f2,f3,f4,f5⟩:=hf it (by simp);have hl:=rv.length;exact wpAny_pyNext_list_end (I.ok.hd hc) st p.isList (by simp;omega) λh' eb=>⟨rfl,I.turned (t':=s.toks) (λb o hb e=>eb b o hb e) f0 f1 f3 f4 f5⟩
 self:=λ_ _ _ _ _ st h=>wpAny_pyIter_listiter st h
theorem HY {K:Ab} (a it:ce):Turn P w K tg (Itt K a) [it] it (λi h=>h.IsTupleIter it a i) where
 mem:=by simp
 obj:=λi h st b hb=>by
  have e:b=it:=by simpa using hb
  subst e;obtain⟨o,e,c,d⟩:=st;exact⟨o,e,λv z=>by rw [d] at z;cases z⟩
 keep:=λi h h' st k=>st.at λo e=>k it (by simp) o e
 item:=by
  intro X hP hw hK hc i À s σ H E I hf st hg;subst hP hw hK;obtain⟨xs,x,hq,hx⟩:=hg;obtain⟨ar,rv,p,hz⟩:=I.tuple hq;obtain⟨u,hu,ru⟩:=rv.get hx;obtain⟨f0,f1,f2,f3,f4,f5⟩:=hf it (by simp);refine wpAny_pyNext_tuple_item st (show s.heap.IsTuple a ar.toArray from p) (x:=u) (by simpa using hu) λh' rF sb=>?_;have I1:Inv X À σ H {s with heap:=h'}:=I.turned (t':=s.toks) (λb o hb e=>(sb.2 b hb).trans e) f0 f1 f3 f4 f5;obtain⟨o,e,c,d⟩:=id rF;exact⟨u,rfl,GR (s:={s with heap:=h'}) e c d ⋯ ⟨x,H,I1,ru,⟨rfl,λys hy=>by rw [I.lN hy hq];exact hx⟩,rF,λb hb=>(hf b hb).1⟩⟩
 done:=by
  intro X hP hw hK hc i À s σ H E I hf st hg;subst hP hw hK;obtain⟨xs,hq,hx⟩:=hg;obtain⟨ar,rv,p,hz⟩:=I.tuple hq;obtain⟨f0,f1,f2,f3,f4,f5⟩:=hf it (by simp);have hl:=rv.length;exact wpAny_pyNext_tuple_end (I.ok.hd hc) st (show s.heap.IsTuple a ar.toArray from p) (by simp;omega) λh' eb=>⟨rfl,I.turned (t':=s.toks) (λb o hb e=>eb b o hb e) f0 f1 f3 f4 f5⟩
 self:=λ_ _ _ _ _ st h=>wpAny_pyIter_tupleiter st h
theorem HZ {K:Ab} (it:ce) (lo:Int) (n:Nat):Turn P w K tg (Itr lo n) [it] it (λi h=>IsRangeIter h it (lo+(i:Nat)*1) ((n:Int)-(i:Nat)) 1) where
 mem:=by simp
 obj:=λi h st b hb=>by
  have e:b=it:=by simpa using hb
  subst e;exact⟨_,st,λv z=>by
   have z':=z;cases z'⟩
 keep:=λi h h' st k=>k it (by simp) _ st
 item:=by
  intro X hP hw hK hc i À s σ H E I hf st hg;subst hP hw hK;obtain⟨f0,f1,f2,f3,f4,f5⟩:=hf it (by simp);have W:=Walks.range (prog:=X.prog) (w:=X.w) (I.ok.hd hc) it lo 1 n;refine W.item i s _ _ hg st λv h' tk hv rF kk=>?_;obtain⟨t,rfl⟩:=hv;have I1:Inv X À σ H {s with heap:=h',toks:=tk}:=I.turned (λb o hb e=>kk b o (by simpa using hb) e) f0 f1 f3 f4 f5;refine⟨_,rfl,GR (s:={s with heap:=h',toks:=tk}) (n:="range_iterator") rF rfl rfl ⋯ ⟨.int (lo+i),H,I1,⟨t,?_⟩,⟨rfl,rfl⟩,rF,λb hb=>(hf b hb).1⟩⟩;rw [Int.mul_one]
 done:=by
  intro X hP hw hK hc i À s σ H E I hf st hg;obtain⟨f0,f1,f2,f3,f4,f5⟩:=hf it (by simp);exact wpAny_pyNext_range_end (I.ok.hd hc) st (by have:n<=i:=hg;omega) λh' eb=>⟨rfl,I.turned (t':=s.toks) (λb o hb e=>eb b o hb e) f0 f1 f3 f4 f5⟩
 self:=λ_ _ _ _ _ st h=>wpAny_pyIter_rangeiter st h
end L2
variable {tl:L2.TE}{p:Ca}{fp:List BC}{iter:B7}{wi:L2.TI}
namespace L2
open PySem PySem.Spec PyProof.Rows
section
def Vy (K:Ab) (tl:TE):TI:=λσ H R=>tl σ H λx H1=>∃a,x=.ref a/\(∃xs,c9 K H1 a xs)/\R (Itl K a) H1
def SE {l:ii} (hl:PE X l tl):PI X tg l (Vy X.K tl):=by
 intro À s σ H R I h;refine bT (hl À s σ H _ I h) λv s1 ⟨x,H1,I1,r1,q1⟩=>?_;obtain⟨a,e,⟨xs,hq⟩,q⟩:=q1;subst e;cases r1;obtain⟨ar,rv,p,hz⟩:=I1.list hq;refine CG p.isList ?_;refine⟨s1.heap.objs.size,[s1.heap.objs.size],_,_,H1,rfl,I1.kept (t':=s1.toks) λb o e=>Ag _ e,vI a _,⟨_,Ap _ rfl,rfl,rfl⟩,λb hb=>?_,q⟩;have e:b=s1.heap.objs.size:=by simpa using hb
 subst e;exact I1.yL (An _) (I1.bA.fresh (An _))
theorem OO {R:It->Hp->Prop}{lo hi:Int}{t u v:Tok}{tk:Nat} (I:Inv X À σ H s) (h1:-(2 ^ 62)<=lo) (h2:lo < 2 ^ 62) (h3:-(2 ^ 62)<=hi) (h4:hi < 2 ^ 62)
  (q:R (Itr lo (hi-lo).toNat) H):db (dL X.prog X.w) X.A (pyIter (.ref s.heap.objs.size)) (PIE X À σ tg R) E {s with heap:=s.heap.push {cls:=.type "range",data:=.fields #[.int lo t,.int hi u,.int 1 v]},toks:=tk}:=by
 refine wpAny_pyIter_range (IsRange.new ..) (small_one h1 h2 h3 h4) ?_;have I1:Inv X À σ H {s with heap:=s.heap.push {cls:=.type "range",data:=.fields #[.int lo t,.int hi u,.int 1 v]},toks:=tk}:=I.kept λb o e=>Ag _ e;refine⟨(s.heap.push {cls:=.type "range",data:=.fields #[.int lo t,.int hi u,.int 1 v]}).objs.size,[(s.heap.push {cls:=.type "range",data:=.fields #[.int lo t,.int hi u,.int 1 v]}).objs.size],_,_,H,rfl,
  I1.kept (t':=tk) λb o e=>Ag _ e,HZ _ lo (hi-lo).toNat,?_,λb hb=>?_,q⟩
 ·have e1:lo+((0:Nat):Int)*1=lo:=by simp
  have e2:(((hi-lo).toNat:Nat):Int)-((0:Nat):Int)=Builtin.Range.rangeSize lo hi 1:=by rw [rangeSize_one];split <;> omega
  show IsRangeIter _ _ (lo+((0:Nat):Int)*1) ((((hi-lo).toNat:Nat):Int)-((0:Nat):Int)) 1;rw [e1,e2];exact Ap _ rfl
 ·have e:b=(s.heap.push {cls:=.type "range",data:=.fields #[.int lo t,.int hi u,.int 1 v]}).objs.size:=by simpa using hb
  subst e;exact I1.yL (An _) (I1.bA.fresh (An _))
def abh (ta:TA):TI:=λσ H R=>ta σ H λvs H1=>∃j:Int,vs=[.int j]/\-(2 ^ 62)<=j/\j < 2 ^ 62/\R (Itr 0 j.toNat) H1
theorem Mr {ta:TA} (hg:Gl X "range") (hm:X.mg "range"=bm) (ha:PA X [a] ta) (hs:f8 [a] X.env=[(false,kw a X.env)]:=by rfl):PI X tg (.Call (.Name "range" p) [a] [] pos) (abh ta):=by
 intro À s σ H R I h;refine Call_ (iL I hg hm boot_range (Bh (bT (ha pos À s σ H _ I h) λus s1 ⟨vs,H1,I1,r1,q1⟩=>?_) hs rfl));obtain⟨j,e,q1,q2,q⟩:=q1;subst e;cases r1 with
 | cons r rr=>
  cases rr;obtain⟨t,rfl⟩:=r;exact call_range_1 (OO I1 ∅ ∅ q1 q2 (by simpa using q))
def aeq (wi:TI) (g:TG) (tb:TS):TS:=λD σ H=>wi σ H λJ H1=>∃W:Nat->Nat->St->Hp->Prop,(∃m,W 0 m σ H1)/\∀i m σ H,W i m σ H->
 (J.stop i H/\D.nx σ H)\/(J.go i H/\∃N:St->Hp->Prop,(∀σ' H',N σ' H'->∃m',m' < m/\W (i+1) m' σ' H')/\∀x H',J.U2 i H x H'->g x σ H' λσ2 H2=>tb {D with nx:=N,ct:=N,bk:=D.nx} σ2 H2)
def pU (fp:List ce) (h:lf):List (ce×Obj):=fp.filterMap λb=>(h.get? b).map λo=>(b,o)
def jG (hb:b∈fp) (e:h.get? b=ap o):(b,o)∈pU fp h:=List.mem_filterMap.mpr ⟨b,hb,by rw [e];rfl⟩
def Mt {p:ce×Obj} (hp:p∈pU fp h):p.1∈fp/\h.get? p.1=ap p.2:=by
 obtain⟨b,hb,e⟩:=List.mem_filterMap.mp hp;cases q:h.get? b with
 | none=>rw [q] at e;cases e
 | some o=>
  rw [q] at e;have e':=Option.some.inj e;subst e';exact⟨hb,q⟩
def Inv.pinned (I:Inv X À σ H s) (hf:∀b∈fp,vG X À H b) (ho:∀b∈fp,∃o,s.heap.get? b=ap o/\∀v,o.data≠.cell v):Inv X (À++pU fp s.heap) σ H s:=
 I.KR λp hp=>(AW.mp hp).elim (λz=>I.pin p (A8 _ z)) λz=>by
  obtain⟨hb,e⟩:=Mt z;obtain⟨f0,f1,f2,_⟩:=hf p.1 hb;obtain⟨o,e',d⟩:=ho p.1 hb;rw [e] at e';cases e';exact⟨e,f0,f1,f2,d⟩
def Inv.kN {pl:List (ce×Obj)} (I:Inv X (À++pl) σ H s):Inv X À σ H s:=I.KR λp hp=>I.pin p (A8 _ (E8 _ hp))
def Im {g:TG}{tb:TS} (hp:wn (dL X.prog X.w) X.A X.env X.xe) (hc:X.calm=true) (hi:PI X tg iter wi) (hg:PG X tg g) (hb:sd X body tb)
  (hs:uN X iter:=by intro _;rfl):PS X (.For tg iter body [] pos) (aeq wi g tb):=by
 intro À s σ H D I h;refine wpAny_For (bT (hi À s σ H _ I h) λv s1 h1=>bT h1 λČ s2 h2=>?_) hs;obtain⟨it,fp,tn,J,H2,e,I2,T,Mc,f2,W,⟨m0,w0⟩,turn⟩:=h2;subst e;have Wt:∀{H':Hp},(∀b∈fp,H' b=bm)->∀b∈fp,vG X À H' b:=λhn b hb=>⟨hn b hb,(f2 b hb).2⟩;refine codeAny_forLoop_any (λn s'=>∃i σ' H',Inv X À σ' H' s'/\tn i s'.heap/\(∀b∈fp,H' b=bm)/\W i n σ' H') ?_ m0 ⟨0,σ,H2,I2,Mc,λb hb=>(f2 b hb).1,w0⟩;rintro n s3 ⟨i,σ3,H3,I3,â,ÿ,w3⟩;rcases turn i n σ3 H3 w3 with⟨stop,qn⟩ | ⟨go,N,hN,step⟩
 ·refine Ci hp (bT (T.done X rfl rfl rfl hc i À s3 σ3 H3 X.xe I3 (Wt ÿ) â stop) λr s4 ⟨hr,I4⟩=>?_);subst hr;exact DC ⟨σ3,H3,I4,qn⟩
 ·refine Ci hp (bT (T.item X rfl rfl rfl hc i À s3 σ3 H3 X.xe I3 (Wt ÿ) â go) λr s4 ⟨u,hr,h4⟩=>?_);subst hr;refine Ci hp (bT h4 λ_ s5 ⟨x,H5,I5,r5,y5,Wu,ŀ⟩=>?_);have Ņ:=I5.pinned (Wt ŀ) (T.obj _ _ Wu);refine Ci hp (bT (hg _ s5 σ3 H5 x u _ Ņ r5 (step x H5 y5)) λ_ s6 ⟨σ6,H6,I6,q6⟩=>?_);refine Ci hp (bT (hb _ s6 σ6 H6 _ I6 q6) λf s7 q7=>?_);have again:∀{σ7:St}{H7:Hp},Inv X (À++pU fp s5.heap) σ7 H7 s7->N σ7 H7->∃m,m < n/\∃i σ' H',Inv X À σ' H' s7/\tn i s7.heap/\(∀b∈fp,H' b=bm)/\W i m σ' H':=λ{σ7 H7} I7 n7=>by
   obtain⟨m',hm,w7⟩:=hN σ7 H7 n7;refine⟨m',hm,i+1,σ7,H7,I7.kN,T.keep _ _ _ Wu λb hb o e=>(I7.pin (b,o) (A8 _ (A8 _ (jG hb e)))).1,λb hb=>?_,w7⟩;obtain⟨o,e,d⟩:=T.obj _ _ Wu b hb;exact (I7.pin (b,o) (A8 _ (A8 _ (jG hb e)))).2.1
  cases f with
  | next=>obtain⟨σ7,H7,I7,n7⟩:=q7;exact again I7 n7
  | cont=>obtain⟨σ7,H7,I7,n7⟩:=q7;exact again I7 n7
  | brk=>obtain⟨σ7,H7,I7,q7⟩:=q7;exact⟨σ7,H7,I7.kN,q7⟩
  | ret v=>obtain⟨x7,σ7,H7,I7,r7,q7⟩:=q7;exact⟨x7,σ7,H7,I7.kN,r7,q7⟩
end
end L2
variable {i:Int}{g:Int->Int->Int}{ar:List A5}
namespace L2
open PySem PySem.Spec PyProof.Rows
abbrev R2:=V->V->Hp->VK->Prop
def iW (X:Cx) (f:bn->bn->Sem bn) (r:R2):Prop:=
 ∀(À:List (ce×Obj)) (s:cr) (σ:St) (H:Hp) (x y:V) (v u:bn) (Q:VK),Inv X À σ H s->RelV x v->RelV y u->r x y H Q->
  db (dL X.prog X.w) X.A (f v u) (EP X À σ Q) X.xe s
def UnR (X:Cx) (f:bn->Sem bn) (r:V->Hp->VK->Prop):Prop:=
 ∀(À:List (ce×Obj)) (s:cr) (σ:St) (H:Hp) (x:V) (v:bn) (Q:VK),Inv X À σ H s->RelV x v->r x H Q->
  db (dL X.prog X.w) X.A (f v) (EP X À σ Q) X.xe s
def bM (X:Cx) (f:bn) (r:List V->Hp->VK->Prop):Prop:=
 ∀(À:List (ce×Obj)) (s:cr) (σ:St) (H:Hp) (xs:List V) (us:List bn) (Q:VK),Inv X À σ H s->Vals xs us->r xs H Q->
  db (dL X.prog X.w) X.A (call f us) (EP X À σ Q) X.xe s
def agl (X:Cx) (r:V->Hp->(Bool->Hp->Prop)->Prop):Prop:=
 ∀(À:List (ce×Obj)) (s:cr) (σ:St) (H:Hp) (x:V) (v:bn) (Q:Bool->Hp->Prop),Inv X À σ H s->RelV x v->r x H Q->
  db (dL X.prog X.w) X.A (truthy v) (TP X À σ Q) X.xe s
def Wk (r:R2) (ta tb:TE):TE:=λσ H Q=>ta σ H λx H1=>tb σ H1 λy H2=>r x y H2 Q
def tUn (r:V->Hp->VK->Prop) (ta:TE):TE:=λσ H Q=>ta σ H λx H1=>r x H1 Q
def rI (C:Int->Int->Prop) (g:Int->Int->V):R2:=λx y H Q=>∃i j,x=.int i/\y=.int j/\C i j/\Q (g i j) H
def So (g:Int->Int->V):R2:=λx y H Q=>∃i j,x=.int i/\y=.int j/\Q (g i j) H
def rU (g:Int->V):V->Hp->VK->Prop:=λx H Q=>∃i,x=.int i/\Q (g i) H
section
variable {b:ii}
def YL (ha:PE X a ta) (hb:PE X b tb) (I:Inv X À σ H s)
  (h:ta σ H λx H1=>tb σ H1 λy H2=>R x y H2) {f:bn->bn->Sem bn}
  (hf:∀v u s2 x y H2,Inv X À σ H2 s2->RelV x v->RelV y u->R x y H2->db (dL X.prog X.w) X.A (f v u) Q X.xe s2) :
  db (dL X.prog X.w) X.A (kw a X.env) (λv s₁=>db (dL X.prog X.w) X.A (kw b X.env) (λu s₂=>db (dL X.prog X.w) X.A (f v u) Q X.xe s₂) X.xe s₁) X.xe s:=by
 refine bT (ha À s σ H _ I h) λv s1 ⟨x,H1,I1,r1,q1⟩=>?_;refine bT (hb À s1 σ H1 _ I1 q1) λu s2 ⟨y,H2,I2,r2,q2⟩=>?_;exact hf v u s2 x y H2 I2 r1 r2 q2
def KS {op:Operator}{r:R2} (ho:iW X (r9 op) r) (ha:PE X a ta) (hb:PE X b tb):PE X (.BinOp a op b pos) (Wk r ta tb):=by
 intro À s σ H Q I h;exact wpAny_BinOp (YL ha hb I h λv u s2 x y H2 I2 rx ry q=>ho À s2 σ H2 x y v u Q I2 rx ry q)
def aaB {op:UnaryOp}{r:V->Hp->VK->Prop} (ho:UnR X (unaryOp op) r) (ha:PE X a ta):PE X (.UnaryOp op a pos) (tUn r ta):=by
 intro À s σ H Q I h;exact UnaryOp_ (bT (ha À s σ H _ I h) λv s1 ⟨x,H1,I1,r1,q1⟩=>ho À s1 σ H1 x v Q I1 r1 q1)
def opI {f:bn->bn->Sem bn}{C:Int->Int->Prop}
  (rule:∀(i j:Int) (t u:Tok) (s:cr) (Q:bn->cr->Prop) (E:bn->cr->Prop),C i j->Q (.int (g i j) s.toks) {s with toks:=s.toks+1}->db (dL X.prog X.w) X.A (f (.int i t) (.int j u)) Q E s) :
  iW X f (rI C λi j=>.int (g i j)):=by
 intro À s σ H x y v u Q I rx ry h;obtain⟨i,j,rfl,rfl,hc,q⟩:=h;obtain⟨t,rfl⟩:=rx;obtain⟨t',rfl⟩:=ry;exact rule i j t t' s _ _ hc ⟨.int (g i j),H,I.tok _,⟨_,rfl⟩,q⟩
def aaN {f:bn->bn->Sem bn}
  (rule:∀(i j:Int) (t u:Tok) (s:cr) (Q:bn->cr->Prop) (E:bn->cr->Prop),Q (.int (g i j) s.toks) {s with toks:=s.toks+1}->db (dL X.prog X.w) X.A (f (.int i t) (.int j u)) Q E s) :
  iW X f (So λi j=>.int (g i j)):=by
 intro À s σ H x y v u Q I rx ry h;obtain⟨i,j,rfl,rfl,q⟩:=h;obtain⟨t,rfl⟩:=rx;obtain⟨t',rfl⟩:=ry;exact rule i j t t' s _ _ ⟨.int (g i j),H,I.tok _,⟨_,rfl⟩,q⟩
def S4 {f:bn->bn->Sem bn}{g:Int->Int->Bool}
  (rule:∀(i j:Int) (t u:Tok) (s:cr) (Q:bn->cr->Prop) (E:bn->cr->Prop),Q (.bool (g i j)) s->db (dL X.prog X.w) X.A (f (.int i t) (.int j u)) Q E s) :
  iW X f (So λi j=>.bl (g i j)):=by
 intro À s σ H x y v u Q I rx ry h;obtain⟨i,j,rfl,rfl,q⟩:=h;obtain⟨t,rfl⟩:=rx;obtain⟨t',rfl⟩:=ry;exact rule i j t t' s _ _ ⟨.bl (g i j),H,I,rfl,q⟩
def NP (i j:Int):Prop:=0 < j/\j < 1073741824
def RB (i j:Int):Prop:=0<=j/\j<=1000000/\i.natAbs < 2 ^ 64
def U1 (i j:Int):Prop:=(-(2 ^ 64) < i/\i < 2 ^ 64)\/(-(2 ^ 64) < j/\j < 2 ^ 64)
def U1.ok {j:Int} (h:U1 i j):wP i j:=by
 rcases h with⟨h1,h2⟩ | ⟨h1,h2⟩
 ·exact .of_left (intBits_le_64 h1 h2)
 ·exact .of_right (intBits_le_64 h1 h2)
def Xj:iW X (r9 .Add) (So λi j=>.int (i+j)):=aaN λ_ _ _ _ _ _ _ q=>add_int q
def Xb:iW X (r9 .Sub) (So λi j=>.int (i-j)):=aaN λ_ _ _ _ _ _ _ q=>sub_int q
theorem SY:iW X (r9 .FloorDiv) (rI NP λi j=>.int (i / j)):=opI λi j _ _ _ _ _ hc q=>by
 have h1:(0:Int) < j:=hc.1;have h2:j < 1073741824:=hc.2;exact floordiv_int ∅ (by rw [Int.fdiv_eq_ediv_of_nonneg i ∅];exact q) (.inl (PyProof.noPylong_small ∅))
theorem Xf:iW X (r9 .Mod) (rI (λ_ j=>0 < j) λi j=>.int (i % j)):=opI λi j _ _ _ _ _ hc q=>by
 have h1:(0:Int) < j:=hc;exact mod_int' ∅ (by rw [Int.fmod_eq_emod_of_nonneg i ∅];exact q)
def Xd:iW X (r9 .Pow) (rI RB λi j=>.int (i ^ j.toNat)):=opI λ_ _ _ _ _ _ _ hc q=>pow_int_small hc.1 hc.2.1 hc.2.2 q
def unI {f:bn->Sem bn}{g:Int->Int}
  (rule:∀(i:Int) (t:Tok) (s:cr) (Q:bn->cr->Prop) (E:bn->cr->Prop),Q (.int (g i) s.toks) {s with toks:=s.toks+1}->db (dL X.prog X.w) X.A (f (.int i t)) Q E s) :
  UnR X f (rU λi=>.int (g i)):=by
 intro À s σ H x v Q I rx h;obtain⟨i,rfl,q⟩:=h;obtain⟨t,rfl⟩:=rx;exact rule i t s _ _ ⟨.int (g i),H,I.tok _,⟨_,rfl⟩,q⟩
def Wf:UnR X (unaryOp .USub) (rU λi=>.int (-i)):=unI λ_ _ _ _ _ q=>neg_int q
end
section
variable {b c:ii}
def QD {Q:VK}{k k':Bool} (I:Inv X À σ H s) (q:Q (.bl k) H) (e:k=k'):EP X À σ Q (.bool k') s:=by
 subst e;exact⟨.bl k,H,I,rfl,q⟩
def aaJ:iW X (lw .Lt) (So λi j=>.bl (decide (i < j))):=S4 λ_ _ _ _ _ _ _ q=>lt_int q
def aaK:iW X (lw .LtE) (So λi j=>.bl (decide (i<=j))):=S4 λ_ _ _ _ _ _ _ q=>le_int q
def aaL:iW X (lw .Gt) (So λi j=>.bl (decide (j < i))):=S4 λ_ _ _ _ _ _ _ q=>gt_int q
def aaM:iW X (lw .GtE) (So λi j=>.bl (decide (j<=i))):=S4 λ_ _ _ _ _ _ _ q=>ge_int q
def Xg:iW X (lw .Is) (λx y H Q=>y=.aG/\Q (.bl (decide (x=.aG))) H):=by
 intro À s σ H x y v u Q I rx ry h;obtain⟨rfl,q⟩:=h;cases ry;refine is_none_gen (QD I q ?_);cases x <;> first
  | (cases rx;rfl)
  | (obtain⟨t,rfl⟩:=rx;rfl)
def SV:iW X (lw .IsNot) (λx y H Q=>y=.aG/\Q (.bl (!decide (x=.aG))) H):=by
 intro À s σ H x y v u Q I rx ry h;obtain⟨rfl,q⟩:=h;cases ry;refine isnot_none_gen (QD I q ?_);cases x <;> first
  | (cases rx;rfl)
  | (obtain⟨t,rfl⟩:=rx;rfl)
def iW.or {f:bn->bn->Sem bn}{r r':R2} (h:iW X f r) (h':iW X f r'):iW X f (λx y H Q=>r x y H Q\/r' x y H Q):=by
 intro À s σ H x y v u Q I rx ry q;rcases q with q | q
 ·exact h À s σ H x y v u Q I rx ry q
 ·exact h' À s σ H x y v u Q I rx ry q
def jE (b:ii) {op:CmpOp} (h:op≠.In:=by decide) (h2:op≠.NotIn:=by decide):pr op b=false:=by
 have e1:(op==CmpOp.In)=false:=by cases op <;> first | rfl | exact absurd rfl h
 have e2:(op==CmpOp.NotIn)=false:=by cases op <;> first | rfl | exact absurd rfl h2
 cases b <;> simp [pr,e1,e2]
def KW {op:CmpOp}{r:R2} (ho:iW X (lw op) r) (ha:PE X a ta) (hb:PE X b tb) (hm:pr op b=false):PE X (.Compare a [op] [b] pos) (Wk r ta tb):=by
 intro À s σ H Q I h;exact wpAny_Compare1 (YL ha hb I h λv u s2 x y H2 I2 rx ry q=>ho À s2 σ H2 x y v u Q I2 rx ry q) hm
def ZU (t:TE):TT:=λσ H Q=>t σ H λx H'=>∃k,x=.bl k/\Q k H'
def nX {op:CmpOp}{r:R2} (ho:iW X (lw op) r) (ha:PE X a ta) (hb:PE X b tb) (hm:pr op b=false):PT X (.Compare a [op] [b] pos) (ZU (Wk r ta tb)):=by
 intro À s σ H Q I h;refine wpAny_isTrue_Compare1 (bT (ha À s σ H _ I h) λv s1 ⟨x,H1,I1,r1,q1⟩=>bT (hb À s1 σ H1 _ I1 q1) λu s2 ⟨y,H2,I2,r2,q2⟩=>
  bT (ho À s2 σ H2 x y v u _ I2 r1 r2 q2) λc s3 ⟨z,H3,I3,r3,k,e,q3⟩=>?_) hm
 subst e;cases r3;exact B4 ⟨H3,I3,q3⟩
def YU (K:Ab) (x:V) (H:Hp) (k:Bool):Prop:=
 match x with
 | .aG=>k=false
 | .bl b=>k=b
 | .int i=>k=(i != 0)
 | .str y=>y.length<=sizeLine/\k=((y.length:Int) != 0)
 | .YJ y=>y.size<=sizeLine/\k=((y.size:Int) != 0)
 | .ref p=>(∃xs,c9 K H p xs/\k=!xs.isEmpty)\/(∃xs,dX K H p xs/\k=!xs.isEmpty)\/∃kvs,H p=ap (.dK kvs)/\k=!kvs.isEmpty
 | _=>False
def Jg {kvs:List (κ×V)}{vs:List (κ×bn)} (r:KV kvs vs):(!vs.isEmpty)=!kvs.isEmpty:=by
 cases r <;> rfl
def tR (r:Vals xs ar):(!ar.toArray.isEmpty)=!xs.isEmpty:=by
 cases r <;> simp
def xQ:(sizeLine:Nat) < 2 ^ 63:=by rw [sizeLine_eq];decide
theorem Wh:agl X (λx H Q=>∃k,YU X.K x H k/\Q k H):=by
 intro À s σ H x v Q I rx h;obtain⟨k,e,q⟩:=h;have hs:=sizeLine_eq;cases x with
 | aG=>
  cases rx;have e':=e;subst e';exact truthy_none ⟨H,I,q⟩
 | bl b=>
  cases rx;have e':=e;subst e';exact B4 ⟨H,I,q⟩
 | int i=>
  obtain⟨t,rfl⟩:=rx;have e':=e;subst e';exact PySem.P.truthy_int ⟨H,I,q⟩
 | str y=>
  obtain⟨t,rfl⟩:=rx;obtain⟨hy,e'⟩:y.length<=sizeLine/\k=((y.length:Int) != 0):=e;subst e';exact PySem.P.truthy_str ∅ ⟨H,I.tok _,q⟩
 | YJ y=>
  obtain⟨t,rfl⟩:=rx;obtain⟨hy,e'⟩:y.size<=sizeLine/\k=((y.size:Int) != 0):=e;subst e';exact PySem.W.truthy_bytes ∅ ⟨H,I.tok _,q⟩
 | ref p=>
  cases rx;have e':=e;rcases e' with⟨xs,hx,e'⟩ | ⟨xs,hx,e'⟩ | ⟨kvs,hx,e'⟩
  ·subst e';obtain⟨ar,r,pl,hz⟩:=I.list hx;have Â:=r.length;exact wpAny_truthy_list pl.isList (by simp only [Ai];omega) ⟨H,I.tok _,by rw [tR r];exact q⟩
  ·subst e';obtain⟨ar,r,pl,hz⟩:=I.tuple hx;have Â:=r.length;exact truthy_tuple pl (by simp only [Ai];omega) ⟨H,I.tok _,by rw [tR r];exact q⟩
  ·subst e';obtain⟨hz,hS,vs,r,m⟩:kvs.length<=sizeLine/\(p==ss)=false/\∃vs,KV kvs vs/\s.heap.DictOf (bN X.prog X.w) p vs:=I.bA p _ hx;have Â:=Paired.length r;exact wpAny_truthy_dict hS m ∅ ⟨H,I.tok _,by rw [Jg r];exact q⟩
 | _=>exact (show False from e).elim
def O0 (ha:PE X a ta) (he:∀Ç,isTrue a X.env Ç=(do let v <- Ç;standAt a.pos;BT [v] (truthy v))) :
  PT X a (λσ H Q=>ta σ H λx H'=>∃k,YU X.K x H' k/\Q k H'):=by
 intro À s σ H Q I h;exact isTrue_plain (bT (ha À s σ H _ I h) λv s1 ⟨x,H1,I1,r1,q1⟩=>Wh À s1 σ H1 x v Q I1 r1 q1) (he _)
def Iw:iW X (r9 .Add) (λx y H Q=>∃i j,x=.str i/\y=.str j/\i.length+j.length<=sizeLine/\Q (.str (i++j)) H):=by
 intro À s σ H x y v u Q I rx ry h;obtain⟨i,j,rfl,rfl,hz,q⟩:=h;obtain⟨t,rfl⟩:=rx;obtain⟨t',rfl⟩:=ry;exact add_str (λt' tk=>⟨.str (i++j),H,I.tok _,⟨_,rfl⟩,q⟩) hz
def vals1 {x:V} (r:Vals [x] us):∃u,us=[u]/\RelV x u:=by
 cases r with
 | cons r1 r2=>cases r2;exact⟨_,rfl,r1⟩
def vals2 {x:V} (r:Vals [x,y] us):∃u w',us=[u,w']/\RelV x u/\RelV y w':=by
 cases r with
 | cons r1 r2=>
  cases r2 with
  | cons r3 r4=>cases r4;exact⟨_,_,rfl,r1,r3⟩
def Rg:bM X (.builtin "abs") (λxs H Q=>∃i,xs=[.int i]/\Q (.int (if i < 0 then -i else i)) H):=by
 intro À s σ H xs us Q I r h;obtain⟨i,rfl,q⟩:=h;obtain⟨u,rfl,t,rfl⟩:=vals1 r;exact call_abs_int λu tk=>⟨.int (if i < 0 then -i else i),H,I.tok _,⟨_,rfl⟩,q⟩
def Ny (hc:X.calm=true):bM X (.builtin "max") (λxs H Q=>∃i j,xs=[.int i,.int j]/\Q (.int (if j > i then j else i)) H):=by
 intro À s σ H xs us Q I r h;obtain⟨i,j,rfl,q⟩:=h;obtain⟨u,w',rfl,⟨t,rfl⟩,⟨t',rfl⟩⟩:=vals2 r;refine max_two_ints (I.ok.hd hc) λh' tk k=>⟨_,H,I.kept k,?_,q⟩;by_cases hj:j > i
 ·rw [if_pos hj,if_pos hj];exact⟨_,rfl⟩
 ·rw [if_neg hj,if_neg hj];exact⟨_,rfl⟩
def Nx (hc:X.calm=true):bM X (.builtin "min") (λxs H Q=>∃i j,xs=[.int i,.int j]/\Q (.int (if j < i then j else i)) H):=by
 intro À s σ H xs us Q I r h;obtain⟨i,j,rfl,q⟩:=h;obtain⟨u,w',rfl,⟨t,rfl⟩,⟨t',rfl⟩⟩:=vals2 r;refine min_two_ints (I.ok.hd hc) λh' tk k=>⟨_,H,I.kept k,?_,q⟩;by_cases hj:j < i
 ·rw [if_pos hj,if_pos hj];exact⟨_,rfl⟩
 ·rw [if_neg hj,if_neg hj];exact⟨_,rfl⟩
def NC:bM X (.type "int") (λxs H Q=>(∃i,xs=[.int i]/\Q (.int i) H)\/∃k,xs=[.bl k]/\Q (.int (if k then 1 else 0)) H):=by
 intro À s σ H xs us Q I r h;rcases h with⟨i,rfl,q⟩ | ⟨k,rfl,q⟩
 ·obtain⟨u,rfl,t,rfl⟩:=vals1 r;exact call_int_int ⟨.int i,H,I,⟨_,rfl⟩,q⟩
 ·obtain⟨u,rfl,r1⟩:=vals1 r;cases r1;exact call_int_bool ⟨.int (if k then 1 else 0),H,I.tok _,⟨_,rfl⟩,q⟩
def acy (K:Ab) (x:V) (H:Hp) (n:Nat):Prop:=
 match x with
 | .str y=>y.length<=sizeLine/\n=y.length
 | .YJ y=>y.size<=sizeLine/\n=y.size
 | .ref p=>(∃xs,c9 K H p xs/\n=xs.length)\/∃xs,dX K H p xs/\n=xs.length
 | _=>False
theorem Rf:bM X (.builtin "len") (λxs H Q=>∃x n,xs=[x]/\acy X.K x H n/\Q (.int n) H):=by
 intro À s σ H xs us Q I r h;obtain⟨x,n,rfl,e,q⟩:=h;obtain⟨u,rfl,rx⟩:=vals1 r;have hs:=sizeLine_eq;cases x with
 | str y=>
  obtain⟨t,rfl⟩:=rx;obtain⟨hy,e'⟩:y.length<=sizeLine/\n=y.length:=e;subst e';exact len_str ∅ ⟨.int _,H,I.tok _,⟨_,rfl⟩,q⟩
 | YJ y=>
  obtain⟨t,rfl⟩:=rx;obtain⟨hy,e'⟩:y.size<=sizeLine/\n=y.size:=e;subst e';exact PySem.W.len_bytes ∅ ⟨.int _,H,I.tok _,⟨_,rfl⟩,q⟩
 | ref p=>
  cases rx;have e':=e;rcases e' with⟨xs,hx,e'⟩ | ⟨xs,hx,e'⟩
  ·subst e';obtain⟨ar,r',pl,hz⟩:=I.list hx;have Â:=r'.length;exact Calls.call_len_list pl.isList (by simp only [Ai];omega) ⟨.int xs.length,H,I.tok _,⟨_,by simp only [Ai];rw [Â]⟩,q⟩
  ·subst e';obtain⟨ar,r',pl,hz⟩:=I.tuple hx;have Â:=r'.length;exact len_tuple pl (by simp only [Ai];omega) ⟨.int xs.length,H,I.tok _,⟨_,by simp only [Ai];rw [Â]⟩,q⟩
 | _=>exact (show False from e).elim
end
end L2
variable {a:BC}{mA:B3->Option A5}
namespace L2
open PySem PySem.Spec PyProof.Rows
structure YX (h:lf) (x dx C:ce) (mA:Str->Option bn):Prop where
 obj:h.get? x=ap (EI C dx)
 ns:h.Ns1 dx mA
 ne:dx≠x
def MH {dx:ce} (n:h.Ns1 dx mA):∃od,h.get? dx=ap od/\∀name,EZ name od=ap (mA name):=by
 obtain⟨o,es,ep,ho,hd,hk,_,hm⟩:=n;refine⟨o,ho,λname=>?_⟩;have e:=hm name;unfold nsFind findBy at e;rw [<- Array.find?_toList] at e;unfold EZ;rw [hd];dsimp only
 split
 ·rename_i y q;rw [q] at e;exact congrArg ap e
 ·rename_i q;rw [q] at e;have a:es.toList.any (·.refKey)=false:=by
   rw [List.any_eq_false];intro y hy;obtain⟨z,t,afA⟩:=hk y (Array.mem_toList_iff.mp hy);simp [DictEntry.refKey,afA]
  have a':¬es.toList.any (·.refKey)=true:=by rw [a];exact A4
  rw [if_neg a'];exact congrArg ap e
def YX.look {x dx C:ce} (I:YX h x dx C mA):∃od,PySem.W.InstAt h x (EI C dx) C (ap od)/\∀name,EZ name od=ap (mA name):=
 let ⟨od,ho,hl⟩:=MH I.ns
 ⟨od,⟨I.obj,rfl,rfl,ho⟩,hl⟩
def uJ.some_of {o:Option bn} (r:uJ (ap v) o):∃u,o=ap u/\RelV v u:=by
 cases o with
 | none=>exact (show False from r).elim
 | some u=>exact⟨u,rfl,r⟩
section
variable {C dx:ce}{fs:List (Str×V)}
def TX (bA:mi P w H h) (e:H a=ap (.ins C dx fs)):∃mA,YX h a dx C mA/\(∀f,uJ (fs.lookup f) (mA f))/\PySem.Within mA (fs.map (·.1))/\fs.length<=1000/\H dx=ap (.own a):=by
 obtain⟨d,z,ne,ob,mA,n,r,q⟩:=(show a9 P w H h a (.ins C dx fs) from bA a _ e);exact⟨mA,⟨ob,n,ne⟩,r,q,z,d⟩
end
structure Cls (K:Ab) (C:ce):Prop where
 pg:Fx K C Str.empty=true
 hd:PySem.W.hasDictIn K C=true
 po:PySem.W.plainOver K C=true
 sa:PySem.W.findIn K (.ref C) "__setattr__"=ap (ap (.builtin "object.__setattr__"))
def Cls.get {K:Ab}{C:ce} (c:Cls K C) (f:Str):Fx K C f=true:=c.pg
section
variable {c:bn}{b:Bool}
inductive mw (K:Ab) (H:Hp):V->bn->Prop where
 | aG:mw K H .aG (.type "NoneType")
 | bl (x:Bool):mw K H (.bl x) (.type "bool")
 | int (i:Int):mw K H (.int i) (.type "int")
 | str (x:Str):mw K H (.str x) (.type "str")
 | Zn (x:UInt64):mw K H (.Zn x) (.type "float")
 | lst {a:ce}{xs:List V} (e:H a=ap (.lst xs)):mw K H (.ref a) (.type "list")
 | cE {a:ce}{o:Obj}{xs:List V} (e:H a=ap (.cE o (.lst xs))):mw K H (.ref a) (.type "list")
 | tup {a:ce}{xs:List V} (e:H a=ap (.tup xs)):mw K H (.ref a) (.type "tuple")
 | dK {a:ce}{kvs:List (Key×V)} (e:H a=ap (.dK kvs)):mw K H (.ref a) (.type "dict")
 | dT {a:ce}{kvs:List (List Key×V)} (e:H a=ap (.dT kvs)):mw K H (.ref a) (.type "dict")
 | ins {a C dx:ce}{fs:List (Str×V)} (e:H a=ap (.ins C dx fs)) (cl:Cls K C) (ha:PySem.W.findIn K (.ref C) "__class__"=ap (ap (.builtin "object.__class__")))
   (hn:PySem.W.specialIn K (.builtin "object.__class__") "__get__"=ap (ap (.builtin "getset_descriptor.__get__"))) (htk:PySem.W.takesIn K (.builtin "object.__class__")=ap true)
   (hm:PySem.W.mroIn K C (.type "object")=ap true):mw K H (.ref a) (.ref C)
def MZ {x:V}{t:bn} (I:Inv X À σ H s) (rx:RelV x u) (ty:mw X.K H x t) (e:Br X.K t c=ap b) (h:∀tk,Q (.bool b) {s with toks:=tk}) :
  db (dL X.prog X.w) A (call (.builtin "isinstance") [u,c]) Q E s:=by
 cases ty with
 | aG=>cases (show u=AR from rx);exact Ba PySem.W.kitx_none I.wo Cd e (λz=>nomatch z) h
 | bl y=>cases (show u=CK y from rx);exact Ba PySem.W.kitx_bool I.wo Cd e (λz=>nomatch z) h
 | int i=>obtain⟨t,q⟩:=(show ∃t,u=DQ i t from rx);cases q;exact Ba PySem.W.kitx_int I.wo Cd e (λz=>nomatch z) h
 | str y=>obtain⟨t,q⟩:=(show ∃t,u=Bg y t from rx);cases q;exact Ba PySem.W.kitx_str I.wo Cd e (λz=>nomatch z) h
 | Zn y=>obtain⟨t,q⟩:=(show ∃t,u=Value.float y t from rx);cases q;exact Ba PySem.W.kitx_float I.wo Cd e (λz=>nomatch z) h
 | @lst a xs ea=>
  cases (show u=Ay a from rx);obtain⟨_,_,n,_,h1⟩:=(show a9 X.prog X.w H s.heap a (.lst xs) from I.bA a _ ea);exact Ba Ea I.wo ⟨_,h1,rfl⟩ e (λz=>nomatch z) h
 | @cE a ob xs ea=>
  cases (show u=Ay a from rx);obtain⟨_,_,_,n,_,h1⟩:=(show a9 X.prog X.w H s.heap a (.cE ob (.lst xs)) from I.bA a _ ea);exact Ba Ea I.wo ⟨_,h1,rfl⟩ e (λz=>nomatch z) h
 | @tup a xs ea=>
  cases (show u=Ay a from rx);obtain⟨_,_,_,p⟩:=(show a9 X.prog X.w H s.heap a (.tup xs) from I.bA a _ ea);obtain⟨o,h1,h2,_⟩:=p;exact Ba Fp I.wo ⟨o,h1,h2⟩ e (λz=>nomatch z) h
 | @dK a kvs ea=>
  cases (show u=Ay a from rx);obtain⟨_,_,vs,_,p⟩:=(show a9 X.prog X.w H s.heap a (.dK kvs) from I.bA a _ ea);obtain⟨o,es,ep,h1,h2,_⟩:=p;exact Ba Eb I.wo ⟨o,h1,h2.1⟩ e (λz=>nomatch z) h
 | @dT a kvs ea=>
  cases (show u=Ay a from rx);obtain⟨_,_,xs,_,o,es,ep,h1,h2,_⟩:=(show a9 X.prog X.w H s.heap a (.dT kvs) from I.bA a _ ea);exact Ba Eb I.wo ⟨o,h1,h2.1⟩ e (λz=>nomatch z) h
 | @ins a C dx fs ea cl ha hn htk hm=>
  cases (show u=Ay a from rx);obtain⟨mA,O,_⟩:=TX I.bA ea;obtain⟨od,J,_⟩:=O.look;exact Ba (PySem.W.kitx_own (cl.get _) cl.hd ha hn htk hm) I.wo J e (λz=>nomatch z) h
end
end L2
variable {v É pm cg ct oc:A5}{vs:List L2.V}{mg:B3->Option A5}{base:Ft}{fd:PySem.FuncData}{ps:List B3}{Ä:Ca}{sc scope:PySem.Scope}{qual:B3}{an od:Option BC}{RF:Array (Option A5)}
namespace L2
open PySem PySem.Spec PyProof.Rows
structure cO (k:Nat) (A:nn):Prop where
 hd:A.handled=bm
 dp:A.depth+3*k+5 < recursionLimit
 un:A.units+16*k+200 < o0
 gd:A.guards=ap []
theorem cO.mono (r:cO k A) (h:j<=k):cO j A:=⟨r.hd,by have:=r.dp;omega,by have:=r.un;omega,r.gd⟩
theorem cO.deeper (r:cO (k+1) A) (env:Env):cO k (A.deeper env):=
 ⟨r.hd,by have:=r.dp;show A.depth+1+3*k+5 < _;omega,by have:=r.un;show A.units+3+16*k+200 < _;omega,r.gd⟩
theorem cO.depth (r:cO k A):A.depth < recursionLimit:=by have:=r.dp;omega
def ZY:TA:=λ_ H Q=>Q [] H
def U5 (ta:TE) (tr:TA):TA:=λσ H Q=>ta σ H λx H1=>tr σ H1 λxs H2=>Q (x::xs) H2
section
variable {t:TA}
def ck:PA X [] ZY:=λ_ _ _ _ H Q I h=>CF ⟨[],H,I,.nil,h⟩
def aZ (ha:PE X e te) (hr:PA X es t) (hs:ic X e es:=by rfl):PA X (e::es) (U5 te t):=by
 intro pos À s σ H Q I h;rw [hs];refine Cf (bT (ha À s σ H _ I h) λu s1 ⟨x,H1,I1,r1,q1⟩=>?_);exact bT (hr pos À s1 σ H1 _ I1 q1) λus s2 ⟨xs,H2,I2,r2,q2⟩=>⟨x::xs,H2,I2,.cons r1 r2,q2⟩
end
abbrev Sp:=List V->Hp->VK->XK->Prop
abbrev RA:=List Env->Hp->cr->XK->bn->cr->Prop
structure UX (P:sK) (w:tz) (K:Ab) (mg:Str->Option bn) (base:lf) (A:nn) (outer:List Env) (s:cr) (H:Hp):Prop where
 frames:A.frames=ap outer
 mod:Mod K mg base
 bs:∀b o,base.get? b=ap o->s.heap.get? b=ap o/\H b=bm
 V0:base.objs.size<=s.heap.objs.size
 ub:s.heap.FunFrames base outer
 Zk:∀b∈NV outer,H b=bm
 bA:mi P w H s.heap
 bare:FB s.gens
def CE (outer:List Env) (P:sK) (w:tz) (H:Hp) (s:cr) (Q:VK) (u:bn) (s':cr):Prop:=
 ∃v H',s'.os=s.os/\FB s'.gens/\Un (NV outer) [] H H' s.heap s'.heap/\mi P w H' s'.heap/\RelV v u/\Q v H'
def CR (CX:RA) (outer:List Env) (P:sK) (w:tz) (H:Hp) (s:cr) (Q:VK) (E:XK) (r:Result) (s':cr):Prop:=
 match r with
 | .ok (.ret u)=>CE outer P w H s Q u s'
 | .ok _=>False
 | .error e=>CX outer H s E e s'
structure jq (P:sK) (w:tz) (K:Ab) (mg:Str->Option bn) (base:lf) (CX:RA) (k:Nat) (f:ce) (fd:Fa) (ps:List Str) (sp:Sp):Prop where
 len:∀vs H Q E,sp vs H Q E->vs.length=ps.length
 run:∀(A:nn) (outer:List Env) (s:cr) (H:Hp) (args:Args) (us:List bn) (vs:List V) (Q:VK) (E:XK),cO k A->UX P w K mg base A outer s H->BindsTo s fd args (ps.zip us)->Vals vs us->sp vs H Q E->
  Da (dL P w) A (.call (.ref f) args) (CR CX outer P w H s Q E) s
def jq.imp {K:Ab}{CX:RA}{f:ce}{sp sp':Sp} (F:jq P w K mg base CX k f fd ps sp)
  (h:∀vs H Q E,sp' vs H Q E->sp vs H Q E):jq P w K mg base CX k f fd ps sp':=
 ⟨λvs H Q E q=>F.len vs H Q E (h _ _ _ _ q),λA outer s H args us vs Q E hr he hb hv hs=>F.run A outer s H args us vs Q E hr he hb hv (h _ _ _ _ hs)⟩
section
def Inv.agc (I:Inv X À σ H s):UX X.prog X.w X.K X.mg X.base X.A X.stack s H:=
 ⟨I.ok.frames,I.ok.mod,I.bs,Bu I.ok.V0 I.sz,I.stack,I.Kw,I.bA,I.bare⟩
def Inv.after {Q:VK} (I:Inv X À σ H s) (h:CE X.stack X.prog X.w H s Q u s'):EP X À σ Q u s':=by
 obtain⟨v,H',os,bare,un,bA,r,q⟩:=h;obtain⟨hh,g,d,t,os'⟩:=s';obtain rfl:os'=s.os:=os;exact⟨v,H',I.call (h':=hh) (g':=g) (d':=d) (t':=t) (ch:=[]) un bA bare (λb z=>absurd z (by simp)),r,q⟩
end
def Binds (K:Ab) (fd:Fa) (ps:List Str) (ds:List bn):Prop:=
 ∀(s:cr) (us:List bn),K.In s.heap->(us++ds).length=ps.length->BindsTo s fd ⟨us,[]⟩ (ps.zip (us++ds))
def Binds.all {K:Ab} (h:∀us:List bn,us.length=ps.length->bindArgs fd ⟨us,[]⟩=pure (ps.zip us)):Binds K fd ps []:=λs us _ hl=>by
 rw [Cz] at hl ⊢;exact .of_eq (h us hl)
def Passes (CX:RA) (X:Cx) (E:XK):Prop:=∀(À:List (ce×Obj)) (σ:St) (H:Hp) (s:cr) (e:bn) (s':cr),Inv X À σ H s->CX X.stack H s E e s'->X.xe e s'
section
variable {CX:RA}{f:ce}{sp:Sp}{dvs:List V}{ds:List bn}{E:XK}
def WB {Q:VK} (F:jq X.prog X.w X.K X.mg X.base CX k f fd ps sp) (hr:cO k X.A) (hb:Binds X.K fd ps ds) (hd:Vals dvs ds) (hx:Passes CX X E)
  (I:Inv X À σ H s) (r:Vals vs us) (h:sp (vs++dvs) H Q E):db (dL X.prog X.w) X.A (call (.ref f) us) (EP X À σ Q) X.xe s:=by
 have r2:Vals (vs++dvs) (us++ds):=r.append hd;have hl:(us++ds).length=ps.length:=by rw [<- r2.length];exact F.len _ _ _ _ h
 refine wpAny_call (codeAny_mono (F.run X.A X.stack s H ⟨us,[]⟩ (us++ds) (vs++dvs) Q E hr I.agc (hb s us I.wo hl) r2 h) λr s' hq=>?_);cases r with
 | error e=>exact hx À σ H s e s' I hq
 | ok fl=>
  cases fl with
  | ret u=>exact I.after hq
  | next=>exact Bp hq
  | brk=>exact Bp hq
  | cont=>exact Bp hq
end
structure ao (N P:List Str) (sc:pc):Prop where
 kind:sc.kind=.function
 co:sc.isCoroutine=false
 gen:sc.isGenerator=false
 nd:N.Nodup
 pre:N.take P.length=P
 par:∀x∈P,sc.names.lookup x=ap .local\/sc.names.lookup x=ap .cell
 Xo:∀y∈sc.names,y.2≠.free
theorem wR {kindOf:Str->Option wE}:∀{binds:List (Str×bn)}{m:Str->Option bn},(∀v,(x,v)∉binds)->bindL kindOf binds m x=m x
 | [],_,_=>rfl
 | (n,v)::r,m,h=>by
  unfold bindL;rw [wR λw hw=>h w (AZ _ hw)]
  split
  ·have:x≠n:=by rintro rfl;exact h v Bt
   simp [this]
  ·rfl
theorem wZ {kindOf:Str->Option wE}:∀{binds:List (Str×bn)}{m:Str->Option bn},(∀v,(x,v)∉binds)->bindC kindOf binds m x=m x
 | [],_,_=>rfl
 | (n,v)::r,m,h=>by
  unfold bindC;rw [wZ λw hw=>h w (AZ _ hw)]
  split
  ·rfl
  ·have:x≠n:=by rintro rfl;exact h v Bt
   simp [this]
theorem wW {kindOf:Str->Option wE}:∀{P:List Str}{vs:List bn}{i:Nat}{m:Str->Option bn},P.Nodup->P[i]?=ap x->vs[i]?=ap v->kindOf x=ap .local->
  bindL kindOf (P.zip vs) m x=ap v
 | [],_,_,_,_,h,_,_=>by simp at h
 | _::_,[],_,_,_,_,h,_=>by simp at h
 | p::P,w::vs,0,m,nd,h1,h2,hk=>by
  simp at h1 h2;subst h1;subst h2;show bindL kindOf ((p,w)::P.zip vs) m p=_;unfold bindL;rw [wR λv hv=>(DE.mp nd).1 (EO hv).1,if_pos hk];simp
 | p::P,w::vs,i+1,m,nd,h1,h2,hk=>by
  show bindL kindOf ((p,w)::P.zip vs) m x=_;unfold bindL;exact wW (i:=i) (DE.mp nd).2 (by simpa using h1) (by simpa using h2) hk
theorem w4 {kindOf:Str->Option wE}:∀{P:List Str}{vs:List bn}{i:Nat}{m:Str->Option bn},P.Nodup->P[i]?=ap x->vs[i]?=ap v->kindOf x≠ap .local->
  bindC kindOf (P.zip vs) m x=ap v
 | [],_,_,_,_,h,_,_=>by simp at h
 | _::_,[],_,_,_,_,h,_=>by simp at h
 | p::P,w::vs,0,m,nd,h1,h2,hk=>by
  simp at h1 h2;subst h1;subst h2;show bindC kindOf ((p,w)::P.zip vs) m p=_;unfold bindC;rw [wZ λv hv=>(DE.mp nd).1 (EO hv).1,if_neg hk];simp
 | p::P,w::vs,i+1,m,nd,h1,h2,hk=>by
  show bindC kindOf ((p,w)::P.zip vs) m x=_;unfold bindC;exact w4 (i:=i) (DE.mp nd).2 (by simpa using h1) (by simpa using h2) hk
def start (N:List Str) (vs:List V):St:=vs.map ap++Am (N.length-vs.length) bm
def ig (CX:RA) (P:sK) (w:tz) (K:Ab) (mg:Str->Option bn) (base:lf) (N:List Str) (qual:Str) (scope:pc) (f:ce) (cd:bn) (A:nn) (outer:List Env) (s:cr) (H:Hp) (E:XK):Cx where
 prog:=P
 w:=w
 K:=K
 mg:=mg
 base:=base
 A:=A.deeper (re qual scope s.heap.objs.size f cd)
 N:=N
 s₀:=s
 H₀:=H
 env:=re qual scope s.heap.objs.size f cd
 outer:=outer
 stack:=re qual scope s.heap.objs.size f cd::outer
 ex:=[]
 calm:=true
 fn:=λ_=>true
 pn:=[]
 xe:=λe s'=>db (dL P w) (A.deeper (re qual scope s.heap.objs.size f cd)) (leaving (re qual scope s.heap.objs.size f cd) e) (λ_ ä=>CX outer H s E e ä) (λe' ä=>CX outer H s E e' ä) s'
def Hn (h:sc.names.lookup x=ap .cell):∃c,(cellsFrom n sc.names []).lookup x=ap c:=by
 have q:=Et sc.names n [] (.inl h);exact Option.isSome_iff_exists.mp q
theorem M1 {CX:RA}{K:Ab}{N:List Str}{f:ce}{cd:bn}{outer:List Env}{s1:cr}{E:XK}
  (S:ao N ps scope) (hd:A.handled=bm) (e0:UX P w K mg base A outer s H) (hl:vs.length=ps.length) (r:Vals vs us)
  (x:InCallC s s.heap.objs.size (bindL (re qual scope s.heap.objs.size f cd).kindOf (ps.zip us) λ_=>bm) (cellsFrom (s.heap.objs.size+1) scope.names []) (bindC (re qual scope s.heap.objs.size f cd).kindOf (ps.zip us) λ_=>bm) s1) :
  Inv (ig CX P w K mg base N qual scope f cd A outer s H E) [] (start N vs) H s1:=by
 have dI:ps.length<=N.length:=by have:=congrArg BP S.pre;rw [Cp] at this;omega
 obtain⟨h1,tk,rfl,hk⟩:=x.done;have ì:∀b:ce,b∉(ig CX P w K mg base N qual scope f cd A outer s H E).ex:=λb z=>absurd (show b∈([]:List ce) from z) (by simp);refine⟨⟨e0.mod,S.kind,rfl,rfl,An _,λy z c h1 h2=>?_,λy hy=>?_,λy c _ h=>?_,λ_=>hd,Around.frames_deeper e0.frames,.inr ⟨rfl,rfl⟩,λb z=>absurd z (ì b),e0.bs,e0.V0,λb _ _=>ì b,λb z=>absurd z (ì b),e0.ub,e0.Zk⟩,
  rfl,e0.bare,Un.kept hk,⟨_,x.toInCall.ns,λi y v h1 h2 h3=>?_⟩,λy c h=>⟨_,x.cell y c h⟩,e0.bA.fresh (An _),λy c h=>?_,λp hp=>absurd (show p∈([]:List (ce×Obj)) from hp) (by simp),e0.bA.kept hk,?_⟩
 ·exact name_of_addr x.apart (BK h1) (BK h2)
 ·rcases hy with hy | hy
  ·exact Hn hy
  ·exact absurd rfl (S.Xo _ (BK hy))
 ·exact DN (x.above y c (BK h))
 ·have hi:i < vs.length:=by
   unfold start at h2;by_cases hi:i < vs.length
   ·exact hi
   ·rw [A1 (by simpa using hi)] at h2;rw [Bq] at h2
    split at h2 <;> cases h2
  have ha:vs[i]?=ap v:=by
   unfold start at h2;rw [AQ (by simpa using hi),Aj] at h2;cases e:vs[i]? with
   | none=>rw [e] at h2;cases h2
   | some a=>rw [e] at h2;cases h2;rfl
  obtain⟨u,hu,rv⟩:=r.get ha;have hp:ps[i]?=ap y:=by
   rw [<- S.pre,List.getElem?_take_of_lt ∅];exact h1
  have ndP:ps.Nodup:=by rw [<- S.pre];exact S.nd.sublist (List.take_sublist _ _)
  refine⟨u,rv,?_⟩;rcases S.par y (A7 hp) with k | k
  ·exact .inl ⟨k,wW ndP hp hu k⟩
  ·obtain⟨c,e⟩:=Hn (n:=s.heap.objs.size+1) k;refine .inr ⟨.inl k,c,e,?_⟩;have q:=x.cell y c e;rw [w4 ndP hp hu (by show scope.names.lookup y≠_;rw [k];decide)] at q;exact q
 ·exact e0.bA.fresh (DN (x.above y c (BK h)))
 ·unfold start;show _=N.length;rw [Ah,Af,Bo];omega
def abY {CX:RA}{K:Ab}{f:ce}{name:Str}{params:Arguments}{dV kV:bn}{N:List Str}{sp:Sp} (lk:K.lookup f=ap ⟨oc,od,.func (BW name qual params body scope dV kV É pm an cg ct),RF⟩) (jM:DS K cg qual=true) (S:ao N ps scope)
  (len:∀vs H Q E,sp vs H Q E->vs.length=ps.length)
  (Qo:∀(A:nn) (outer:List Env) (s:cr) (H:Hp) (vs:List V) (Q:VK) (E:XK),cO k (A.deeper (re qual scope s.heap.objs.size f cg))->sp vs H Q E->
   ∃t,sd (ig CX P w K mg base N qual scope f cg A outer s H E) body t/\t {nx:=λ_ H'=>Q .aG H',rt:=Q} (start N vs) H) :
  jq P w K mg base CX (k+1) f (BW name qual params body scope dV kV É pm an cg ct) ps sp:=by
 refine⟨len,λA outer s H args us vs Q E hr e0 hb r T4=>?_⟩;have hl:=len _ _ _ _ T4;have KX:K.In s.heap:=e0.mod.kin.keeps λb o e=>(e0.bs b o e).1;have lim:s.heap.NoLimit:=e0.mod.nolimit.keeps λb o e=>(e0.bs b o e).1;have aby:∀y∈ps.zip us,scope.names.lookup y.1=ap .local\/(scope.names.lookup y.1=ap .cell/\((cellsFrom (s.heap.objs.size+1) scope.names []).lookup y.1).isSome=true):=λ⟨n,v⟩ hy=>by
  rcases S.par n (EO hy).1 with q | q
  ·exact .inl q
  ·exact .inr ⟨q,Et _ _ _ (.inl q)⟩
 refine codeAny_call_function hr.depth (KX _ _ lk) rfl S.co S.gen rfl (PySem.W.codeRec_of KX jM) (hb _ _ _ _ ?_);refine wpAny_newFunctionEnv_cells S.kind aby λenv he s1 x=>?_;subst he;refine⟨lim.keeps x.toInCall.keep,codeAny_func ?_⟩;obtain⟨t,ht,hq⟩:=Qo A outer s H vs Q E (hr.deeper _) T4;have I:Inv (ig CX P w K mg base N qual scope f cg A outer s H E) [] (start N vs) H s1:=M1 S hr.hd e0 hl r x;refine BJ (ht [] s1 (start N vs) H _ I hq) (λfl s' hs=>?_) λe s' hs=>hs;have fin:∀{σ':St}{H':Hp}{v:V}{u:bn},Inv (ig CX P w K mg base N qual scope f cg A outer s H E) [] σ' H' s'->RelV v u->Q v H'->CE outer P w H s Q u s':=
  λ{σ' H' v u} J rv q=>⟨v,H',J.os,J.bare,J.base,J.bA,rv,q⟩
 cases fl with
 | ret u=>
  obtain⟨v,σ',H',J,rv,q⟩:=hs;exact fin J rv q
 | next=>
  obtain⟨σ',H',J,q⟩:=hs;exact fin (v:=V.aG) (u:=AR) J rfl q
 | brk=>
  obtain⟨_,_,_,q⟩:=hs;exact Bp q
 | cont=>
  obtain⟨_,_,_,q⟩:=hs;exact Bp q
end L2
variable {T:String}
namespace L2
open PySem PySem.Spec PyProof.Rows
section
variable {t:TA}{id:String}{r:List V->Hp->VK->Prop}
def tCB (r:List V->Hp->VK->Prop) (t:TA):TE:=λσ H Q=>t σ H λvs H1=>r vs H1 Q
def eM (hc:bM X (.builtin id) r) (hg:Gl X x) (hm:X.mg x=bm) (hv:lc x=ap (.builtin id)) (ha:PA X (e::es) t) (hn:x≠"__name__":=by decide) (oI:jr x:=by decide)
  (he:ic X e es:=by rfl) (dI:mj X pos es:=by rfl):PE X (.Call (.Name x p) (e::es) [] pos) (tCB r t):=by
 intro À s σ H Q I h;refine BD (iL I hg hm hv ?_ hn oI);exact PyProof.Rows.callWith_builtin1 (bT (ha pos À s σ H _ I h) λus s1 ⟨vs,H1,I1,r1,q1⟩=>hc À s1 σ H1 vs us Q I1 r1 q1) he dI
def lQ (hc:bM X (.type T) r) (hg:Gl X x) (hm:X.mg x=bm) (hv:lc x=ap (.type T)) (ha:PA X (e::es) t) (hn:x≠"__name__":=by decide) (oI:jr x:=by decide)
  (he:ic X e es:=by rfl) (dI:mj X pos es:=by rfl):PE X (.Call (.Name x p) (e::es) [] pos) (tCB r t):=by
 intro À s σ H Q I h;refine BD (iL I hg hm hv ?_ hn oI);exact Bh (bT (ha pos À s σ H _ I h) λus s1 ⟨vs,H1,I1,r1,q1⟩=>hc À s1 σ H1 vs us Q I1 r1 q1) he dI
end
end L2
variable {l:BC}{hi:Option Int}{prog:PySem.Program}{items:Array A5}{ns ms:List Int}{vl vu:A5}
namespace HT
open PySem PyProof.Rows
def lexLt:List Int->List Int->Bool
 | [],[]=>false
 | [],_::_=>true
 | _::_,[]=>false
 | x::xs,y::ys=>if x=y then lexLt xs ys else decide (x < y)
theorem IM (x y:Int) (xs ys:List Int):lexLt (x::xs) (y::ys)=if x=y then lexLt xs ys else decide (x < y):=rfl
def QS (A:nn) (s:cr) (a:Int) (t:Tok) (c:Int) (u:Tok):∃e,Dh A s (.int a t) (.int c u) e/\(e=true↔a=c):=
 ⟨(a==c),DU a t c u,by simp⟩
def OM (A:nn) (s:cr) (a:Int) (t:Tok) (c:Int) (u:Tok) (prog:sK) (w:tz) (E:bn->cr->Prop) (Q:bn->cr->Prop) (h:Q (.bool (decide (a < c))) s) :
  db (dL prog w) A (richCompare .Lt (.int a t) (.int c u)) Q E s:=
 (PyProof.Rows.lt_int h:db (dL prog w) A (lw .Lt (.int a t) (.int c u)) Q E s)
section
open PySem.SeqAt
open PySem.AutoSeq1 (wpAny_loadPart')
open PySem.MeetsSeq PySem.MeetsSeq2 PySem.MeetsSeq3
theorem uS (l b:ce) (items bR:Array bn) (n n2:Nat) (dd Ux:Option ce) (sl RD:Array (Option bn)) (ns ms:List Int) (hi:tt items.toList ns) (hj:tt bR.toList ms) :
  Meets (v4.«tuple.__lt__» ⟨[.ref l,.ref b],[]⟩)
   (λ_ R s=>s.heap.get? l=ap {cls:=.type "tuple",dict:=dd,data:=.seq items n,slots:=sl}/\s.heap.get? b=ap {cls:=.type "tuple",dict:=Ux,data:=.seq bR n2,slots:=RD}/\
    R (.ok (.ret (.bool (lexLt ns ms)))) s):=
 .of_wp λprog w A R s h=>by
  obtain⟨hp,g,d,tk,os⟩:=s;obtain⟨hl,hb,h⟩:=h;have f2:=AutoSeq1.sub_tuple_tuple;have z1:items.size=ns.length:=by rw [<- hi.length];simp
  have z2:bR.size=ms.length:=by rw [<- hj.length];simp
  wp_walk using wpAny_loadPart' hl,wpAny_loadPart' hb,wpAny_forIn_list _ (λrest b s'=>b.1=bm/\s'=⟨hp,g,d,tk,os⟩/\∃(vs ws:List bn) (Gi Y7:List Int),rest=vs.zip ws/\
   tt vs Gi/\tt ws Y7/\Gi.length+bR.size=Y7.length+items.size/\R (.ok (.ret (.bool (lexLt Gi Y7)))) ⟨hp,g,d,tk,os⟩) _
  case turn=>
   rintro⟨y,x⟩ rest b s' ⟨Ė,rfl,vs,ws,Gi,Y7,hz,hvi,hwi,Â,hR⟩;cases hvi with
   | nil=>rw [List.zip_nil_left] at hz;cases hz
   | cons a t afg=>
    cases hwi with
    | nil=>rw [List.zip_nil_right] at hz;cases hz
    | cons c u aff=>
     rw [List.zip_cons_cons] at hz;injection hz with hyx abq;injection hyx with hy hx;subst hy hx;rw [IM] at hR;simp only [Aq] at Â;obtain⟨e,he,abC⟩:=QS A.in1 ⟨hp,g,d,tk,os⟩ a t c u;refine Aa (he prog w _ _ ?_);cases e with
     | true=>
      rw [if_pos (abC.mp rfl)] at hR
      wp_walk
      exact⟨rfl,rfl,_,_,_,_,abq,afg,aff,by omega,hR⟩
     | false=>
      rw [if_neg (λq=>absurd (abC.mpr q) A4)] at hR;have hri:=OM A.in1 ⟨hp,g,d,tk,os⟩ a t c u prog w
      wp_walk using hri
      exact⟨_,rfl,by simpa using hR⟩
  case fin=>
   rintro⟨b1,b2⟩ s' ⟨Ė,rfl,vs,ws,Gi,Y7,hz,hvi,hwi,Â,hR⟩;simp only at Ė;subst Ė;have hv:lexLt Gi Y7=decide (items.size < bR.size):=by
    cases hvi with
    | nil=>
     cases hwi with
     | nil=>
      exact (decide_eq_false ∅).symm
     | cons c u hw=>
      simp only [Bn,Aq] at Â;exact (decide_eq_true ∅).symm
    | cons a t hv=>
     cases hwi with
     | nil=>
      simp only [Bn,Aq] at Â;exact (decide_eq_false ∅).symm
     | cons c u hw=>
      rw [List.zip_cons_cons] at hz;cases hz
   rw [hv] at hR
   wp_walk
   exact⟨_,rfl,by simpa [Builtin.Tuple.tupleCompareSizes] using hR⟩
  case h=>
   exact⟨rfl,rfl,items.toList,bR.toList,ns,ms,rfl,hi,hj,by omega,h⟩
end
section
def IJ {bR:Array bn} (hl:IsTup s.heap l items) (hb:IsTup s.heap b bR) (hi:tt items.toList ns) (hj:tt bR.toList ms)
  (hu:A.units < o0) (h:Q (.bool (lexLt ns ms)) s):db (dL prog w) A (lw .Lt (.ref l) (.ref b)) Q E s:=by
 obtain⟨⟨cls,dd,data,sl⟩,ho,hc,n,hd⟩:=id hl;obtain⟨⟨YI,Ux,data2,RD⟩,M6,Qn,n2,Ó⟩:=id hb;simp only at hc hd Qn Ó;subst hc hd Qn Ó;exact richCompare_meets_room (op:=.Lt) ⟨_,ho,rfl⟩ ⟨_,M6,rfl⟩ PySem.F.slot_tuple_lt PySem.F.entry_tuple_lt (PySem.F.args_tuple_lt_2 _ _) (uS l b items bR n n2 dd Ux sl RD ns ms hi hj)
  ⟨ho,M6,show CK (lexLt ns ms)≠Value.notImplemented/\Q (.bool (lexLt ns ms)) s from⟨(λx=>nomatch x),h⟩⟩ hu
def UA {t:ce}{vs ws:List bn} (ht:IsTup s.heap t vs.toArray) (hb:IsTup s.heap b ws.toArray) (hv:vs≠[])
  (h1:ws=[]->Q (.ref t) s) (h2:ws≠[]->Q (.ref s.heap.objs.size) {s with heap:=s.heap.push {cls:=.type "tuple",data:=.seq (vs++ws).toArray}})
  (hsz:vs.length+ws.length<=sizeLine):db (dL prog w) A (r9 .Add (.ref t) (.ref b)) Q E s:=by
 obtain⟨⟨cls,dd,data,sl⟩,ho,hc,n,hd⟩:=id ht;obtain⟨⟨YI,Ux,data2,RD⟩,M6,Qn,n2,Ó⟩:=id hb;simp only at hc hd Qn Ó;subst hc hd Qn Ó;have e:vs.toArray++ws.toArray=(vs++ws).toArray:=by simp
 by_cases hw:ws=[]
 ·exact concat_meets ⟨_,ho,rfl⟩ ⟨_,M6,rfl⟩ noFill_tuple_add seq_tuple_add C4 C3 (CW _ _)
   (tuple_addW1 t b vs.toArray ws.toArray n n2 dd Ux sl RD (by simpa using hv) (by simp [hw])) ⟨ho,M6,h1 hw⟩
 ·refine concat_meets ⟨_,ho,rfl⟩ ⟨_,M6,rfl⟩ noFill_tuple_add seq_tuple_add C4 C3 (CW _ _)
   (tuple_addW2 t b vs.toArray ws.toArray n n2 dd Ux sl RD (by simpa using hv) (by simpa using hw) (by rw [Ai,Ai];exact hsz)) ⟨ho,M6,?_⟩
  rw [e];exact h2 hw
def dE (n d:Nat):Option Int->Nat
 | none=>d
 | some v=>if v < 0 then (v+(n:Int)).toNat else min v.toNat n
theorem OB (n d:Nat):dE n d bm=d:=rfl
theorem nS (n d k:Nat):dE n d (ap (k:Int))=min k n:=by
 show (if (k:Int) < 0 then ((k:Int)+(n:Int)).toNat else min (k:Int).toNat n)=min k n;rw [if_neg ∅,A2]
theorem LM (v:Int) (n d:Nat):(if v < 0 then max (v+(n:Int)) 0 else min v (n:Int))=((dE n d (ap v):Nat):Int):=by
 show (if v < 0 then max (v+(n:Int)) 0 else min v (n:Int))=(((if v < 0 then (v+(n:Int)).toNat else min v.toNat n):Nat):Int);by_cases hv:v < 0
 ·simp only [if_pos hv];omega
 ·simp only [if_neg hv];omega
theorem J6 (lo hi:Option Int) (n:Nat):Builtin.Slice.sliceAdjust lo hi 1 (n:Int)=(((dE n 0 lo:Nat):Int),((dE n n hi:Nat):Int)):=by
 have h1:¬((1:Int) < 0):=by omega
 unfold Builtin.Slice.sliceAdjust;refine Prod.ext ?_ ?_
 ·cases lo with
  | none=>rfl
  | some v=>exact LM v n 0
 ·cases hi with
  | none=>rfl
  | some v=>exact LM v n n
theorem Ip (i j:Nat):Builtin.Slice.slicePlaces (i:Int) (j:Int) 1=j-i:=by
 unfold Builtin.Slice.slicePlaces;have h1:(1:Int) > 0:=by omega
 split <;> omega
def gM {o:Option Int}{Q:Option Int->cr->Prop} (p:IsPart v o) (h:Q o s):db (dL prog w) A (Builtin.Slice.slicePartIndex v) Q E s:=by
 cases p with
 | none=>exact slicePart_none h
 | int i t=>exact slicePart_int h
def i5 {sl:ce}{lo:Option Int}{Q:Int×Int×Nat->cr->Prop} (hs:s.heap.IsSliceOf sl vl vu .none) (pl:IsPart vl lo) (pu:IsPart vu hi)
  (h:Q (((dE n 0 lo:Nat):Int),1,dE n n hi-dE n 0 lo) s):db (dL prog w) A (Builtin.Slice.sliceApplied (.ref sl) (pure (n:Int))) Q E s:=by
 obtain⟨os,NT,Zi,Ua⟩:=id hs;refine Aa (Aa (AY NT Ua (x:=vl) rfl (Aa (AY NT Ua (x:=vu) rfl (Aa (AY NT Ua (x:=.none) rfl (Ae ?_)))))));refine Aa (slicePart_none ?_);refine Aa (gM pl (Aa (gM pu (Aa (Ae ?_)))));show db _ _ (match Builtin.Slice.sliceAdjust lo hi 1 (n:Int) with | (lo,hi)=>pure (lo,(1:Int),Builtin.Slice.slicePlaces lo hi 1)) _ _ s;rw [J6 lo hi n];show db _ _ (pure (((dE n 0 lo:Nat):Int),(1:Int),Builtin.Slice.slicePlaces ((dE n 0 lo:Nat):Int) ((dE n n hi:Nat):Int) 1)) _ _ s;rw [Ip];exact Ae h
theorem O6 (xs:Array bn) (i k:Nat):((AJ k).filterMap λ(m:Nat)=>xs[((i:Int)+(m:Int)*1).toNat]?).toArray=((xs.toList.drop i).take k).toArray:=by
 have e:(λ(m:Nat)=>xs[((i:Int)+(m:Int)*1).toNat]?)=λm=>xs[i+m]?:=by
  funext m;have:((i:Int)+(m:Int)*1).toNat=i+m:=by omega
  rw [this]
 rw [e];have:=pick_run xs i k;rw [List.filterMap_map] at this;have e2:((λx=>xs[x]?)∘λx=>i+x)=λm=>xs[i+m]?:=rfl;rw [e2] at this;rw [this]
theorem oK {t sl:ce}{lo:Option Int} (ht:IsTup s.heap t items) (hs:s.heap.IsSliceOf sl vl vu .none) (pl:IsPart vl lo) (pu:IsPart vu hi)
  (hw:¬(dE items.size 0 lo=0/\dE items.size items.size hi=items.size))
  (h:Q (.ref s.heap.objs.size) {s with heap:=s.heap.push {cls:=.type "tuple",data:=.seq ((items.toList.drop (dE items.size 0 lo)).take (dE items.size items.size hi-dE items.size 0 lo)).toArray}})
  (hsz:items.size<=sizeLine):db (dL prog w) A (Ch (.ref t) (.ref sl)) Q E s:=by
 have Lo:sizeOk (.seq ((items.toList.drop (dE items.size 0 lo)).take (dE items.size items.size hi-dE items.size 0 lo)).toArray):=by
  show ((items.toList.drop (dE items.size 0 lo)).take (dE items.size items.size hi-dE items.size 0 lo)).toArray.size<=sizeLine;rw [Ai,Cp,CT,BN];omega
 obtain⟨os,NT,Zi,Ua⟩:=id hs;have ý:s.TypeIs (.ref sl) "slice":=⟨os,NT,Zi⟩;unfold Ch
 try with_reducible refine Bf ?_
 first | refine Aa (Ae ?_) | skip
 refine Aa (Ed ht.typeIs ⋯ ?_);refine Aa (AU (name:=BH "__getitem__") ht.typeIs AM
  (Bb AM ht.typeIs entry_tuple_getitem ?_ (args_tuple_getitem _ _)))
 show db _ _ (Builtin.Tuple.tupleItemsOf (.ref t) >>= _) _ _ s;refine Aa (tupleItemsOf_ ht ?_);refine Aa (Cu ý ?_);refine Aa (i5 hs pl pu ?_);have Ĵ:¬((((dE items.size 0 lo:Nat):Int)==0&&(1:Int)==1&&(dE items.size items.size hi-dE items.size 0 lo)==items.size)=true):=by
  intro q;rw [AL,AL] at q;have q1:=eq_of_beq q.1.1;have q2:=eq_of_beq q.2;exact hw ⟨by omega,by omega⟩
 show db _ _ (if (((dE items.size 0 lo:Nat):Int)==0&&(1:Int)==1&&(dE items.size items.size hi-dE items.size 0 lo)==items.size)=true then _ else _) _ _ s;rw [if_neg Ĵ,O6]
 first
  | exact Aa (m:=Builtin.Tuple.tupleExact _) (AO (Ae ⟨_,rfl,Ae h⟩) Lo)
  | exact Aa (m:=Builtin.Tuple.tupleExact _) (AO (Aa (Ae (Ae ⟨_,rfl,Ae h⟩))) Lo)
  | exact Aa (Aa (m:=Builtin.Tuple.tupleExact _) (AO (Ae (Ae ⟨_,rfl,Ae h⟩)) Lo))
  | exact Aa (Aa (m:=Builtin.Tuple.tupleExact _) (AO (Ae ⟨_,rfl,Ae h⟩) Lo))
end
end HT
variable {p2:Ca}
namespace L2
open PySem PySem.Spec PyProof.Rows
abbrev TO:=St->Hp->(Option Int->Hp->Prop)->Prop
def PO (X:Cx) (e:Option ii) (t:TO):Prop:=
 ∀(À:List (ce×Obj)) (s:cr) (σ:St) (H:Hp) (Q:Option Int->Hp->Prop),Inv X À σ H s->t σ H Q->
  db (dL X.prog X.w) X.A (evalPart e X.env) (λu s'=>∃o H',Inv X À σ H' s'/\IsPart u o/\Q o H') X.xe s
def R3:TO:=λ_ H Q=>Q bm H
def ZW (t:TE):TO:=λσ H Q=>t σ H λx H1=>∃i,x=.int i/\Q (ap i) H1
def intsAre_of:∀{us:List bn},Vals (ns.map V.int) us->tt us ns:=by
 induction ns with
 | nil=>intro us r;rw [DP] at r;cases r;exact .nil
 | cons n ns ih=>
  intro us r;rw [Ao] at r;cases r with
  | cons r1 r2=>
   obtain⟨t,e⟩:=r1;subst e;exact .cons n t (ih r2)
section
variable {lo hi:Option ii}{tl th:TO}
def SA:PO X bm R3:=by
 intro À s σ H Q I h;exact Ae ⟨bm,H,I,.none,h⟩
def Sz (h:PE X e te):PO X (ap e) (ZW te):=by
 intro À s σ H Q I hw;refine bT (h À s σ H _ I hw) λu s1 ⟨x,H1,I1,r1,q1⟩=>?_;obtain⟨i,rfl,q⟩:=q1;obtain⟨t,rfl⟩:=r1;exact⟨ap i,H1,I1,.int i t,q⟩
def SlR (X:Cx) (r:V->Option Int->Option Int->Hp->VK->Prop):Prop:=
 ∀(À:List (ce×Obj)) (s:cr) (σ:St) (H:Hp) (x:V) (v vl vu:bn) (lo hi:Option Int) (sl:ce) (Q:VK),Inv X À σ H s->RelV x v->s.heap.IsSliceOf sl vl vu .none->IsPart vl lo->IsPart vu hi->r x lo hi H Q->
  ∃T id,Fk (.type T) "__getitem__"=pure (ap (.builtin id))/\s.TypeIs v T/\db (dL X.prog X.w) X.A (Ch v (.ref sl)) (EP X À σ Q) X.xe s
def tSl (r:V->Option Int->Option Int->Hp->VK->Prop) (te:TE) (tl th:TO):TE:=λσ H Q=>te σ H λx H1=>tl σ H1 λl H2=>th σ H2 λu H3=>r x l u H3 Q
def Pc {r:V->Option Int->Option Int->Hp->VK->Prop} (hr:SlR X r) (he:PE X e te) (hl:PO X lo tl) (hu:PO X hi th):PE X (.Subscript e (.Slice lo hi bm p2) pos) (tSl r te tl th):=by
 intro À s σ H Q I h;refine Subscript_ (bT (he À s σ H _ I h) λv s1 ⟨x,H1,I1,r1,q1⟩=>?_);refine wpAny_Slice (bT (hl À s1 σ H1 _ I1 q1) λvl s2 ⟨l,H2,I2,pl,q2⟩=>bT (hu À s2 σ H2 _ I2 q2) λvu s3 ⟨u,H3,I3,pu,q3⟩=>?_);rw [evalPart_none];refine Ae ?_;have I4:Inv X À σ H3 {s3 with heap:=s3.heap.push {cls:=.type "slice",data:=.fields #[vl,vu,.none]}}:=I3.kept (t':=s3.toks) λb ob q=>Ag _ q;obtain⟨T,id,hT,ht,hg⟩:=hr À {s3 with heap:=s3.heap.push {cls:=.type "slice",data:=.fields #[vl,vu,.none]}} σ H3 x v vl vu l u s3.heap.objs.size Q I4 r1 (E1.new ..) pl pu q3;show db (dL X.prog X.w) X.A (subscriptTail e (.Slice lo hi bm p2) v (.ref s3.heap.objs.size)) (EP X À σ Q) X.xe {s3 with heap:=s3.heap.push {cls:=.type "slice",data:=.fields #[vl,vu,.none]}};exact tail_any (ops:=[.ref s3.heap.objs.size,v]) ht hT hg (by with_unfolding_all rfl)
def zq (xs:List V) (lo hi:Option Int):List V:=(xs.drop (HT.dE xs.length 0 lo)).take (HT.dE xs.length xs.length hi-HT.dE xs.length 0 lo)
theorem qQ (xs:List V) (lo hi:Option Int):(zq xs lo hi).length<=xs.length:=by
 unfold zq;rw [Cp,CT];omega
def aeB (K:Ab):V->Option Int->Option Int->Hp->VK->Prop:=λx lo hi H Q=>∃a xs,x=.ref a/\dX K H a xs/\
 ¬(HT.dE xs.length 0 lo=0/\HT.dE xs.length xs.length hi=xs.length)/\∀p,H p=bm->Q (.ref p) (upd H p (.tup (zq xs lo hi)))
def Wv:SlR X (aeB X.K):=by
 intro À s σ H x v vl vu lo hi sl Q I rx hs pl pu h;obtain⟨a,xs,rfl,hx,hw,q⟩:=h;cases rx;obtain⟨ar,r,ht,hz⟩:=I.tuple hx;have Â:ar.toArray.size=xs.length:=by rw [Ai];exact r.length.symm
 refine⟨"tuple",_,AM.lookup,ht.typeIs,?_⟩;refine HT.oK ht hs pl pu (by rw [Â];exact hw) ?_ (by rw [Â];exact hz);rw [Â];refine⟨.ref s.heap.objs.size,_,I.laid (t':=s.toks) (o:=.tup (zq xs lo hi)) (λb ob q=>Ag _ q) (An _) ?_,rfl,q _ (I.bA.fresh (An _))⟩;exact⟨Bu (qQ xs lo hi) hz,_,(r.drop (HT.dE xs.length 0 lo)).take (HT.dE xs.length xs.length hi-HT.dE xs.length 0 lo),Ff _ _⟩
def Ve (K:Ab):R2:=λx y H Q=>∃a b xs ys,x=.ref a/\y=.ref b/\dX K H a xs/\dX K H b ys/\xs≠[]/\xs.length+ys.length<=sizeLine/\
 (ys=[]->Q (.ref a) H)/\(ys≠[]->∀p,H p=bm->Q (.ref p) (upd H p (.tup (xs++ys))))
def Vals.jF (r:Vals xs us):us=[]↔xs=[]:=by
 cases r with
 | nil=>simp
 | cons _ _=>simp
def K1:iW X (r9 .Add) (Ve X.K):=by
 intro À s σ H x y v u Q I rx ry h;obtain⟨a,b,xs,ys,rfl,rfl,ha,hb,hx,hz,q1,q2⟩:=h;cases rx;cases ry;obtain⟨ar,r1,p1,_⟩:=I.tuple ha;obtain⟨cT,r2,p2,_⟩:=I.tuple hb;refine HT.UA p1 p2 (λz=>hx (r1.jF.mp z)) (λz=>⟨.ref a,H,I,rfl,q1 (r2.jF.mp z)⟩) (λz=>?_) (by rw [<- r1.length,<- r2.length];exact hz);refine⟨.ref s.heap.objs.size,_,I.laid (t':=s.toks) (o:=.tup (xs++ys)) (λb ob q=>Ag _ q) (An _) ?_,rfl,q2 (λw=>z (r2.jF.mpr w)) _ (I.bA.fresh (An _))⟩;exact⟨by rw [Ah];exact hz,_,r1.append r2,Ff _ _⟩
end
end L2
variable {its':List A5}
namespace L2
open PySem PySem.Spec PyProof.Rows
def wq (n:Nat) (i:Int):Option Nat:=if 0<=i then (if i < n then ap i.toNat else bm) else if -(n:Int)<=i then ap (i+n).toNat else bm
def dC (xs:List α) (i:Int):Option α:=(wq xs.length i).bind λj=>xs[j]?
theorem yk (h:wq n i=ap j):seqIndex? i n=ap j/\j < n/\-(n:Int)<=i/\i < n:=by
 unfold wq at h;by_cases h0:0<=i
 ·rw [if_pos h0] at h;by_cases h1:i < n
  ·rw [if_pos h1] at h;have e:=Option.some.inj h;exact⟨by rw [seqIndex_of h0 h1,e],by omega,by omega,h1⟩
  ·rw [if_neg h1] at h;cases h
 ·rw [if_neg h0] at h;by_cases h1:-(n:Int)<=i
  ·rw [if_pos h1] at h;have e:=Option.some.inj h;exact⟨by rw [seqIndex_neg ∅ h1,e],by omega,h1,by omega⟩
  ·rw [if_neg h1] at h;cases h
def zu {xs:List α}{v:α} (h:dC xs i=ap v):∃j,seqIndex? i xs.length=ap j/\xs[j]?=ap v/\j < xs.length/\-(xs.length:Int)<=i/\i < xs.length:=by
 unfold dC at h;cases e:wq xs.length i with
 | none=>rw [e] at h;cases h
 | some j=>
  rw [e] at h;obtain⟨h1,h2,h3,h4⟩:=yk e;exact⟨j,h1,h,h2,h3,h4⟩
theorem cK {xs:List α}{v:α} (h:xs[j]?=ap v):dC xs (j:Int)=ap v:=by
 have hj:=(Ak.mp h).1;have e:wq xs.length (j:Int)=ap j:=by
  unfold wq;rw [if_pos ∅,if_pos ∅];simp
 unfold dC;rw [e];exact h
def zO (b:ii):Prop:=∀o i,subscripted b false o i=operate [o,i] (Ch o i)
def RN (X:Cx) (r:R2):Prop:=
 ∀(value È:ii) (À:List (ce×Obj)) (s:cr) (σ:St) (H:Hp) (x y:V) (v u:bn) (Q:VK),Inv X À σ H s->RelV x v->RelV y u->r x y H Q->
  subscripted È false v u=operate [v,u] (Ch v u)->db (dL X.prog X.w) X.A (subscriptTail value È v u) (EP X À σ Q) X.xe s
def MtR (X:Cx) (id:String) (r:V->List V->Hp->VK->Prop):Prop:=
 ∀(À:List (ce×Obj)) (s:cr) (σ:St) (H:Hp) (x:V) (xs:List V) (v:bn) (us:List bn) (Q:VK),Inv X À σ H s->RelV x v->Vals xs us->r x xs H Q->
  db (dL X.prog X.w) X.A (call (.builtin id) (v::us)) (EP X À σ Q) X.xe s
section
variable {X:Cx}{a b:ii}{ta tb:TE}{pos:Pos}
def RN.or {r r':R2} (h:RN X r) (h':RN X r'):RN X (λx y H Q=>r x y H Q\/r' x y H Q):=by
 intro value È À s σ H x y v u Q I rx ry q hs;rcases q with q | q
 ·exact h value È À s σ H x y v u Q I rx ry q hs
 ·exact h' value È À s σ H x y v u Q I rx ry q hs
def Vf {r:R2} (hr:RN X r) (ha:PE X a ta) (hb:PE X b tb) (hs:zO b):PE X (.Subscript a b pos) (Wk r ta tb):=by
 intro À s σ H Q I h;exact Subscript_ (YL ha hb I h λv u s2 x y H2 I2 rx ry q=>hr a b À s2 σ H2 x y v u Q I2 rx ry q (hs _ _))
def aar (K:Ab):R2:=λx y H Q=>∃p xs i v,x=.ref p/\y=.int i/\c9 K H p xs/\dC xs i=ap v/\Q v H
def aaq (K:Ab):R2:=λx y H Q=>∃p xs i v,x=.ref p/\y=.int i/\dX K H p xs/\dC xs i=ap v/\Q v H
def WQ:R2:=λx y H Q=>∃z i c,x=.str z/\y=.int i/\z.length<=sizeLine/\dC z.cps.toList i=ap c/\Q (.str ⟨#[c]⟩) H
theorem TQ:RN X (aar X.K):=by
 intro value È À s σ H x y v u Q I rx ry h hs;obtain⟨p,xs,i,z,rfl,rfl,hq,he,q⟩:=h;cases rx;obtain⟨t,rfl⟩:=ry;obtain⟨ar,r,pl,hz⟩:=I.list hq;obtain⟨j,h1,h2,h3,h4,h5⟩:=zu he;obtain⟨w,ew,xw⟩:=r.get h2;have hl:=r.length;have hn:=xQ;have fin:EP X À σ Q w s:=⟨z,H,I,xw,q⟩;by_cases h0:0<=i
 ·have hj:i.toNat=j:=by
   rw [seqIndex_of h0 h5] at h1;exact Option.some.inj h1
  exact item_listR pl.isList h0 ∅ (by rw [hj];simpa using ew) fin hs
 ·have hj:(i+(ar.toArray.size:Int)).toNat=j:=by
   rw [seqIndex_neg ∅ h4] at h1;rw [Ai,<- hl];exact Option.some.inj h1
  exact subscriptTail_builtinR (x:=w) pl.isList.typeIs slot_list_getitem.lookup
   (wpAny_getItem_list_neg (Q:=λr s'=>r=w/\EP X À σ Q r s') pl.isList ∅ (by rw [Ai] <;> omega) ∅ (by rw [hj];simpa using ew) ⟨rfl,fin⟩) hs
theorem XX:RN X (aaq X.K):=by
 intro value È À s σ H x y v u Q I rx ry h hs;obtain⟨p,xs,i,z,rfl,rfl,hq,he,q⟩:=h;cases rx;obtain⟨t,rfl⟩:=ry;obtain⟨ar,r,pl,hz⟩:=I.tuple hq;obtain⟨j,h1,h2,h3,h4,h5⟩:=zu he;obtain⟨w,ew,xw⟩:=r.get h2;have hl:=r.length;have hn:=xQ;have fin:EP X À σ Q w s:=⟨z,H,I,xw,q⟩;exact subscriptTail_builtinR (x:=w) pl.typeIs slot_tuple_getitem.lookup
  (getItem_tuple (j:=j) (Q:=λr s'=>r=w/\EP X À σ Q r s') pl ∅ ∅ (by rw [Ai,<- hl];exact h1) (by simpa using ew) ⟨rfl,fin⟩) hs
theorem P9:RN X WQ:=by
 intro value È À s σ H x y v u Q I rx ry h hs;obtain⟨z,i,c,rfl,rfl,hz,he,q⟩:=h;obtain⟨t,rfl⟩:=rx;obtain⟨t',rfl⟩:=ry;obtain⟨j,h1,h2,h3,h4,h5⟩:=zu he;have hl:z.cps.toList.length=z.length:=by simp [Str.length]
 rw [hl] at h1 h4 h5;have hn:=xQ;exact tail_any (typeIs_str s z t) slot_str_getitem.lookup (getItem_str (c:=c) (by
  have e1:decide (i < -(2 ^ 63:Int))=false:=decide_eq_false ∅;have e2:decide (i≥2 ^ 63)=false:=decide_eq_false ∅;rw [e1,e2,Bool.or_false]) (by rw [h1];simpa using h2) ⟨.str ⟨#[c]⟩,H,I.tok _,⟨_,rfl⟩,q⟩) hs
def rIx (K:Ab):R2:=λx y H Q=>aar K x y H Q\/aaq K x y H Q\/WQ x y H Q
def XY:RN X (rIx X.K):=TQ.or (XX.or P9)
def II (ar:List bn) (n j:Nat) (u:bn):Bm (·.setIfInBounds j u) {cls:=.type "list",data:=.seq ar.toArray n}={cls:=.type "list",data:=.seq (ar.set j u).toArray n}:=by
 simp [Bm]
def Inv.lst {À:List (ce×Obj)}{σ:St}{H:Hp}{s:cr}{p:ce}{xs:List V} (I:Inv X À σ H s) (h:H p=ap (.lst xs)) :
  ∃(ar:List bn) (n:Nat),Vals xs ar/\s.heap.get? p=ap {cls:=.type "list",data:=.seq ar.toArray n}/\xs.length<=sizeLine:=by
 obtain⟨z,ar,n,r,e⟩:=I.bA p _ h;exact⟨ar,n,r,e,z⟩
def Inv.XA {p:ce}{n':Nat}{f:Obj->Obj} (I:Inv X À σ H s) (h:H p=ap (.lst xs))
  (ho:s.heap.get? p=ap {cls:=.type "list",data:=.seq ar.toArray n}) (hf:f {cls:=.type "list",data:=.seq ar.toArray n}={cls:=.type "list",data:=.seq its'.toArray n'}) (r:Vals ys its') (hz:ys.length<=sizeLine) (t:Nat) :
  Inv X À σ (upd H p (.lst ys)) {s with heap:=s.heap.update p f,toks:=t}:=by
 have e:(s.heap.update p f).get? p=ap {cls:=.type "list",data:=.seq its'.toArray n'}:=by
  rw [BS f ho (by rw [hf] <;> rfl),hf]
 refine I.write (x:=p) (e:=p) (by rw [h];trivial) (.inl rfl) (λb u hb q=>(BI _ _ (BB hb)).trans q) ⟨_,e⟩ ?_;exact⟨hz,its',n',r,e⟩
def aam:V->V->V->Hp->(Hp->Prop)->Prop:=λo i v H Q=>∃p xs k j,o=.ref p/\i=.int k/\H p=ap (.lst xs)/\wq xs.length k=ap j/\Q (upd H p (.lst (xs.set j v)))
theorem set_list:NN X aam:=by
 intro À s σ H o i v ov iv u Q I ro ri rv h;obtain⟨p,xs,k,j,rfl,rfl,hp,hj,q⟩:=h;cases ro;obtain⟨t,rfl⟩:=ri;obtain⟨ar,n,r,ho,hz⟩:=I.lst hp;obtain⟨h1,h2,h3,h4⟩:=yk hj;have hl:=r.length;have hn:=xQ;have I':Inv X À σ (upd H p (.lst (xs.set j v))) {s with heap:=s.heap.update p (Bm (·.setIfInBounds j u))}:=
  I.XA hp ho (II ar n j u) (r.set rv j) (by rw [BO];exact hz) s.toks
 by_cases h0:0<=k
 ·have hk:k.toNat=j:=by
   rw [seqIndex_of h0 h4] at h1;exact Option.some.inj h1
  exact PySem.W.ki_setAt ho h0 ∅ (by rw [Ai,<- hl];exact h4) (by rw [hk];exact⟨_,I',q⟩)
 ·have hk:(k+(ar.toArray.size:Int)).toNat=j:=by
   rw [seqIndex_neg ∅ h3] at h1;rw [Ai,<- hl];exact Option.some.inj h1
  exact PySem.W.ki_setBack ho ∅ (by rw [Ai,<- hl];exact h3) ∅ (by rw [hk];exact⟨_,I',q⟩)
theorem xr (lo hi:Option Int) (n:Nat):(xz lo hi bm n).1=((HT.dE n 0 lo:Nat):Int)/\(xz lo hi bm n).2.1=((HT.dE n n hi:Nat):Int)/\(xz lo hi bm n).2.2=1:=by
 refine⟨?_,?_,rfl⟩
 ·cases lo with
  | none=>simp [xz,HT.dE]
  | some i=>
   simp only [xz,HT.dE,Option.getD_none,show (1:Int) > 0 by decide,if_true];by_cases h:i < 0
   ·simp only [h,if_true] <;> omega
   ·simp only [h,if_false] <;> omega
 ·cases hi with
  | none=>simp [xz,HT.dE]
  | some i=>
   simp only [xz,HT.dE,Option.getD_none,show (1:Int) > 0 by decide,if_true];by_cases h:i < 0
   ·simp only [h,if_true] <;> omega
   ·simp only [h,if_false] <;> omega
def uU (ar:List bn) (lo hi:Option Int):slicePick ar.toArray lo hi bm=((ar.drop (HT.dE ar.length 0 lo)).take (HT.dE ar.length ar.length hi-HT.dE ar.length 0 lo)).toArray:=by
 obtain⟨h1,h2,h3⟩:=xr lo hi ar.toArray.size;unfold slicePick;rw [h1,h2,h3];simp only [sliceRange_one,pick_run,Ai] <;> rfl
def aeC (K:Ab):V->Option Int->Option Int->Hp->VK->Prop:=λx lo hi H Q=>∃a xs,x=.ref a/\c9 K H a xs/\∀p,H p=bm->Q (.ref p) (upd H p (.lst (zq xs lo hi)))
theorem acL:SlR X (aeC X.K):=by
 intro À s σ H x v vl vu lo hi sl Q I rx hs pl pu h;obtain⟨a,xs,rfl,hx,q⟩:=h;cases rx;obtain⟨ar,r,ht,hz⟩:=I.list hx;have Â:=r.length;refine⟨"list",_,slot_list_getitem.lookup,ht.isList.typeIs,?_⟩;refine wpAny_getItem_list_slice ht.isList hs pl pu .none (by simp) ?_ (by rw [Ai] <;> omega);rw [uU,<- Â];refine⟨.ref s.heap.objs.size,_,I.laid (t':=s.toks) (o:=.lst (zq xs lo hi)) (λb ob q=>Ag _ q) (An _) ?_,rfl,q _ (I.bA.fresh (An _))⟩;exact⟨Bu (qQ xs lo hi) hz,_,0,(r.drop (HT.dE xs.length 0 lo)).take (HT.dE xs.length xs.length hi-HT.dE xs.length 0 lo),Ap _ rfl⟩
theorem zr:bM X (.type "list") (λxs H Q=>∃p ys,xs=[.ref p]/\(c9 X.K H p ys\/dX X.K H p ys)/\∀l,H l=bm->Q (.ref l) (upd H l (.lst ys))):=by
 intro À s σ H xs us Q I r h;obtain⟨p,ys,rfl,hq,q⟩:=h;obtain⟨u,rfl,rx⟩:=vals1 r;cases rx;have fin:∀(ar:List bn),Vals ys ar->ys.length<=sizeLine->∀(h':lf) (c':Nat),(∀b o',s.heap.get? b=ap o'->h'.get? b=ap o')->
   h'.get? s.heap.objs.size=ap {cls:=.type "list",dict:=bm,data:=.seq ar.toArray c',slots:=#[]}->EP X À σ Q (.ref s.heap.objs.size) {s with heap:=h'}:=λar r' hz h' c' kp e=>
  ⟨.ref s.heap.objs.size,_,I.laid (t':=s.toks) kp (An _) (show a9 X.prog X.w _ h' _ (.lst ys) from⟨hz,ar,c',r',e⟩),rfl,q _ (I.bA.fresh (An _))⟩
 rcases hq with hq | hq
 ·obtain⟨ar,r',pl,hz⟩:=I.list hq;have Â:=r'.length;obtain⟨o,ho,hc,n,hd⟩:=pl.isList;exact call_list_seq p (.inl rfl) ho hc hd (λh' c' kp e=>fin ar r' hz h' c' kp e) (by simp only [Ai] <;> omega)
 ·obtain⟨ar,r',pl,hz⟩:=I.tuple hq;have Â:=r'.length;obtain⟨o,ho,hc,n,hd⟩:=pl;exact call_list_seq p (.inr rfl) ho hc hd (λh' c' kp e=>fin ar r' hz h' c' kp e) (by simp only [Ai] <;> omega)
theorem vB:bM X (.type "tuple") (λxs H Q=>∃p ys,xs=[.ref p]/\((c9 X.K H p ys/\∀l,H l=bm->Q (.ref l) (upd H l (.tup ys)))\/(dX X.K H p ys/\Q (.ref p) H))):=by
 intro À s σ H xs us Q I r h;obtain⟨p,ys,rfl,h⟩:=h;obtain⟨u,rfl,rx⟩:=vals1 r;cases rx;rcases h with⟨hq,q⟩ | ⟨hq,q⟩
 ·obtain⟨ar,r',pl,hz⟩:=I.list hq;have Â:=r'.length;refine call_tuple_list pl.isList (λh' kp=>?_) (by simp only [Ai] <;> omega);have I1:Inv X À σ H {s with heap:=h'}:=I.kept (t':=s.toks) kp;have I2:Inv X À σ (upd H h'.objs.size (.tup ys)) {s with heap:=h'.push {cls:=.type "tuple",data:=.seq ar.toArray}}:=
   I1.laid (t':=s.toks) (λb o e=>Ag _ e) (An _) (show a9 X.prog X.w _ _ _ (.tup ys) from⟨hz,ar,r',Ff _ _⟩)
  exact⟨.ref h'.objs.size,_,I2,rfl,q _ (I1.bA.fresh (An _))⟩
 ·obtain⟨ar,r',pl,hz⟩:=I.tuple hq;exact call_tuple_same pl ⟨.ref p,H,I,rfl,q⟩
def tyV (K:Ab) (T:String) (x:V) (H:Hp):Prop:=match x with
 | .str _=>T="str"
 | .int _=>T="int"
 | .ref p=>(T="list"/\∃xs,c9 K H p xs)\/(T="tuple"/\∃o,K.lookup p=ap o/\o.cls=.type "tuple"/\o.dict=bm)\/
   (T="dict"/\((∃kvs,H p=ap (.dK kvs))\/∃kvs,H p=ap (.dT kvs)))\/(T="set"/\∃S n,H p=ap (.set S n))
 | _=>False
def N8 {x:V} (I:Inv X À σ H s) (r:RelV x v) (ty:tyV X.K T x H) :
  s.TypeIs v T/\∀a,v=.ref a->∃ob,s.heap.get? a=ap ob/\ob.dict=bm:=by
 cases x with
 | str z=>
  obtain⟨t,rfl⟩:=r;cases (show T="str" from ty);exact⟨typeIs_str s z t,λ_ e=>nomatch e⟩
 | int i=>
  obtain⟨t,rfl⟩:=r;cases (show T="int" from ty);exact⟨typeIs_int s i t,λ_ e=>nomatch e⟩
 | ref p=>
  cases r;rcases ty with⟨rfl,xs,hq⟩ | ⟨rfl,o,hk,hc,hd⟩ | ⟨rfl,hk⟩ | ⟨rfl,S,n,hk⟩
  ·obtain⟨ar,_,pl,_⟩:=I.list hq;refine⟨pl.isList.typeIs,λa e=>?_⟩;cases e;obtain⟨o,n,e,c,hd,_⟩:=pl;exact⟨o,e,hd⟩
  ·refine⟨⟨o,I.wo p o hk,hc⟩,λa e=>?_⟩;cases e;exact⟨o,I.wo _ o hk,hd⟩
  ·have z:∃o,s.heap.get? p=ap o/\o.ExactDict:=by
    rcases hk with⟨kvs,hk⟩ | ⟨kvs,hk⟩
    ·obtain⟨_,_,_,_,o,_,_,e,ex,_⟩:=I.bA p _ hk;exact⟨o,e,ex⟩
    ·obtain⟨_,_,_,_,o,_,_,e,ex,_⟩:=I.bA p _ hk;exact⟨o,e,ex⟩
   obtain⟨o,e,ex⟩:=z;refine⟨⟨o,e,ex.1⟩,λa e2=>?_⟩;cases e2;exact⟨o,e,ex.2.1⟩
  ·obtain⟨o,_,_,_,e,ex,_⟩:=I.bA p _ hk;refine⟨⟨o,e,ex.1⟩,λa e2=>?_⟩;cases e2;exact⟨o,e,ex.2.1⟩
 | _=>exact Bp ty
def Z5 (K:Ab) (T:String) (r:V->List V->Hp->VK->Prop) (to:TE):TE:=λσ H Q=>to σ H λx H1=>tyV K T x H1/\r x [] H1 Q
def tBM (K:Ab) (T:String) (r:V->List V->Hp->VK->Prop) (to:TE) (t:TA):TE:=λσ H Q=>to σ H λx H1=>tyV K T x H1/\t σ H1 λxs H2=>r x xs H2 Q
variable {o e:ii}{es:List ii}{to:TE}{t:TA}{name:Str}{Ä bK:Pos}{T id:String}{r:V->List V->Hp->VK->Prop}
def W7 (pa:PlainAttrs T) (slot:Slot T name id) (X7:typeOf (.builtin id)=pure (.type "method_descriptor")) (hm:MtR X id r) (ho:PE X o to)
  (eZ:nw o name X.env (kw o X.env)=kw o X.env:=by rfl) (eY:RP Ä bK:=by rfl):PE X (.Call (.Attribute o name Ä) [] [] bK) (Z5 X.K T r to):=by
 intro À s σ H Q I h;refine wpAny_Call_method0_late eZ eY (bT (ho À s σ H _ I h) λv s1 ⟨x,H1,I1,r1,ty,q1⟩=>?_);obtain⟨h1,h2⟩:=N8 I1 r1 ty;exact⟨T,id,pa,slot,X7,h1,h2,Ew rfl (PySem.evalArgs_none (hm À s1 σ H1 x [] v [] Q I1 r1 .nil q1))⟩
def aaE (pa:PlainAttrs T) (slot:Slot T name id) (X7:typeOf (.builtin id)=pure (.type "method_descriptor")) (hm:MtR X id r) (ho:PE X o to) (ha:PA X (e::es) t)
  (eZ:nw o name X.env (kw o X.env)=kw o X.env:=by rfl)
  (ql:Y0 X bK (e::es):=by rfl)
  (eY:RP Ä bK:=by rfl) (hs:ic X e es:=by rfl) (fm:mj X bK es:=by rfl) :
  PE X (.Call (.Attribute o name Ä) (e::es) [] bK) (tBM X.K T r to t):=by
 intro À s σ H Q I h;refine wpAny_Call_method_late eZ ql eY rfl (bT (ho À s σ H _ I h) λv s1 ⟨x,H1,I1,r1,ty,q1⟩=>?_);obtain⟨h1,h2⟩:=N8 I1 r1 ty;refine⟨T,id,pa,slot,X7,h1,h2,?_⟩;have hA:=ha bK À s1 σ H1 _ I1 q1;rw [hs] at hA ⊢;refine Ew (by show (false||(wf bK (f8 es X.env)).any (·.1))=false;rw [fm] <;> rfl) (Calls.evalArgs_plain ?_);exact bT hA λus s2 ⟨vs,H2,I2,r2,q2⟩=>hm À s2 σ H2 x vs v us Q I2 r1 r2 q2
end
def LW (X:Cx) (id:String) (r:V->List V->Hp->VK->Prop):Prop:=
 ∀(À:List (ce×Obj)) (s:cr) (σ:St) (H:Hp) (x:V) (xs:List V) (v:bn) (us:List bn) (Q:VK),Inv X À σ H s->RelV x v->Vals xs us->r x xs H Q->
  db (dL X.prog X.w) X.A (call (.builtin id) (v::us)) (EP X À σ Q) X.xe s
def Vals.one:∀{x:V}{us:List bn},Vals [x] us->∃u,us=[u]/\RelV x u
 | _,_,.cons r .nil=>⟨_,rfl,r⟩
def Vals.zero:∀{us:List bn},Vals [] us->us=[]
 | _,.nil=>rfl
def Vals.dropLast (h:Vals xs us):Vals xs.dropLast us.dropLast:=by
 induction h with
 | nil=>exact .nil
 | cons r t ih=>
  cases t with
  | nil=>exact .nil
  | cons q t'=>exact .cons r ih
theorem Vals.eraseIdx:∀{xs:List V}{us:List bn} (i:Nat),Vals xs us->Vals (xs.eraseIdx i) (us.eraseIdx i)
 | _,_,_,.nil=>.nil
 | _,_,0,.cons _ t=>t
 | _,_,i+1,.cons r t=>.cons r (Vals.eraseIdx i t)
theorem Vals.rep (h:Vals xs us):∀k:Nat,Vals (Am k xs).flatten (Am k us).flatten
 | 0=>.nil
 | k+1=>by
  rw [Bw,Bw,B5,B5];exact Vals.append h (Vals.rep h k)
theorem Jy (l:List α):l.eraseIdx (l.length-1)=l.dropLast:=by
 induction l with
 | nil=>rfl
 | cons a r ih=>
  cases r with
  | nil=>rfl
  | cons b r=>
   have e:(a::b::r).length-1=((b::r).length-1)+1:=by
    have h1:(a::b::r).length=r.length+2:=rfl;have h2:(b::r).length=r.length+1:=rfl;omega
   rw [e,Cq,ih]
   all_goals rfl
theorem vZ:∀(l:List α) (i:Nat),(l.eraseIdx i).length<=l.length
 | [],_=>An _
 | _::_,0=>Dw _
 | _::r,i+1=>Nat.succ_le_succ (vZ r i)
theorem foldl_rep (ar:List bn):∀(k:Nat) (Æ:List bn),
  List.foldl (λx1 x2=>x1++x2) Æ.toArray (Am k ar.toArray)=(Æ++(Am k ar).flatten).toArray
 | 0,Æ=>by simp
 | k+1,Æ=>by
  have e:Æ.toArray++ar.toArray=(Æ++ar).toArray:=by simp
  have e2:(Æ++ar)++(Am k ar).flatten=Æ++(Am (k+1) ar).flatten:=by
   rw [Bw,B5,Az]
  rw [<- e2,<- foldl_rep ar k (Æ++ar),<- e,Bw,C0]
section
def Inv.IK {f:Array bn->Array bn}{t':Nat} (I:Inv X À σ H s) (hH:H l=ap (.lst xs))
  (e:s.heap.get? l=ap {cls:=.type "list",data:=.seq ar.toArray n}) (hf:f ar.toArray=its'.toArray) (hv:Vals ys its') (hz:ys.length<=sizeLine) :
  Inv X À σ (upd H l (.lst ys)) {s with heap:=s.heap.update l (Bm f),toks:=t'}:=by
 have q:=PySem.IsL.update e f;rw [hf] at q;refine I.write (x:=l) (e:=l) (by rw [hH];exact trivial) (.inl rfl) (λb' u hb hu=>(BI s.heap (Bm f) (BB hb)).trans hu) ⟨_,q⟩ ?_;exact⟨hz,its',_,hv,q⟩
def Inv.XB {t':Nat} (I:Inv X À σ H s) (hv:Vals ys ar) (hz:ys.length<=sizeLine) :
  Inv X À σ (upd H s.heap.objs.size (.lst ys)) {s with heap:=s.heap.push {cls:=.type "list",data:=.seq ar.toArray},toks:=t'}:=
 I.laid (λ_ _ q=>Ag _ q) (An _) ⟨hz,ar,0,hv,Ap _ rfl⟩
def Inv.fresh (I:Inv X À σ H s):H s.heap.objs.size=bm:=I.bA.fresh (An _)
def Inv.qX (I:Inv X À σ H s) (hH:H l=ap (.lst xs)):xs.length<=sizeLine/\∃(ar:List bn) (n:Nat),Vals xs ar/\xs.length=ar.length/\s.heap.get? l=ap {cls:=.type "list",data:=.seq ar.toArray n}:=by
 obtain⟨z,ar,n,r,e⟩:=I.bA l _ hH;exact⟨z,ar,n,r,r.length,e⟩
theorem oe (h:n<=sizeLine):Builtin.List.listTooLong n=false:=by
 exact decide_eq_false ∅
end
section
def Ss:V->List V->Hp->VK->Prop:=λx vs H Q=>∃l xs y,x=.ref l/\vs=[y]/\H l=ap (.lst xs)/\xs.length < sizeLine/\Q .aG (upd H l (.lst (xs++[y])))
theorem Mv:LW X "list.append" Ss:=by
 intro À s σ H x vs v us Q I rx rv h;obtain⟨l,xs,y,rfl,rfl,hH,hz,q⟩:=h;cases rx;obtain⟨u,rfl,ru⟩:=rv.one;obtain⟨z,ar,n,r,hl,e⟩:=I.qX hH;refine sB F.slot_list_append ⟨_,e,rfl⟩ F.entry_list_append (F.args_list_append_2 _ _) (PySem.list_append l ar.toArray n u (by rw [Ai];omega)) ⟨e,?_⟩;refine⟨.aG,_,I.IK (its':=ar++[u]) hH e (by simp) (r.append (.cons ru .nil)) ?_,rfl,q⟩;rw [Ah,Df];omega
def Sq:V->List V->Hp->VK->Prop:=λx vs H Q=>∃l b xs zs,x=.ref l/\vs=[.ref b]/\H l=ap (.lst xs)/\H b=ap (.lst zs)/\xs.length+zs.length<=sizeLine/\Q .aG (upd H l (.lst (xs++zs)))
theorem Y6:LW X "list.extend" Sq:=by
 intro À s σ H x vs v us Q I rx rv h;obtain⟨l,b,xs,zs,rfl,rfl,hH,hB,hz,q⟩:=h;cases rx;obtain⟨u,rfl,ru⟩:=rv.one;cases ru;obtain⟨z,ar,n,r,hl,e⟩:=I.qX hH;obtain⟨z2,cT,n2,r2,RI,e2⟩:=I.qX hB;have hsz:ar.toArray.size+cT.toArray.size<=sizeLine:=by rw [Ai,Ai];omega
 have tT:¬(!ar.toArray.isEmpty&&Builtin.List.listTooLong (ar.toArray.size+cT.toArray.size))=true:=by
  rw [oe hsz,D7];exact A4
 refine sB DV ⟨_,e,rfl⟩ DG (Dr _ _)
  (AutoSeq1.list_extend_list_list_0 l ar.toArray n b cT.toArray n2 tT (by rw [Ai];omega) ∅) ⟨e,e2,?_⟩
 refine⟨.aG,_,I.IK (its':=ar++cT) hH e (by simp) (r.append r2) ?_,rfl,q⟩;rw [Ah];omega
def aeE:V->List V->Hp->VK->Prop:=λx vs H Q=>∃l xs y,x=.ref l/\vs=[]/\H l=ap (.lst xs)/\xs[xs.length-1]?=ap y/\Q y (upd H l (.lst xs.dropLast))
theorem Xv:LW X "list.pop" aeE:=by
 intro À s σ H x vs v us Q I rx rv h;obtain⟨l,xs,y,rfl,rfl,hH,hy,q⟩:=h;cases rx;have hus:=rv.zero;subst hus;obtain⟨z,ar,n,r,hl,e⟩:=I.qX hH;obtain⟨u,hu,ru⟩:=r.get hy;have X4:ar.toArray[ar.toArray.size-1]?=ap u:=by
  show ar.toArray[ar.length-1]?=ap u;rw [<- Dg,<- hl];exact hu
 refine sB F.slot_list_pop ⟨_,e,rfl⟩ F.entry_list_pop (F.args_list_pop_1 _) (MeetsSeq.list_pop_last l ar.toArray n u X4 (by rw [Ai];omega)) ⟨e,?_⟩;refine⟨y,_,I.IK (its':=ar.dropLast) hH e ?_ r.dropLast ?_,ru,q⟩
 ·rw [Ai,De,Jy]
 ·rw [List.length_dropLast];omega
def WM:V->List V->Hp->VK->Prop:=λx vs H Q=>∃l xs i k y,x=.ref l/\vs=[.int i]/\H l=ap (.lst xs)/\-(2 ^ 63)<=i/\i < 2 ^ 63/\seqIndex? i xs.length=ap k/\xs[k]?=ap y/\Q y (upd H l (.lst (xs.eraseIdx k)))
theorem Pt:LW X "list.pop" WM:=by
 intro À s σ H x vs v us Q I rx rv h;obtain⟨l,xs,i,k,y,rfl,rfl,hH,h1,h2,hk,hy,q⟩:=h;cases rx;obtain⟨u,rfl,ru⟩:=rv.one;obtain⟨t,rfl⟩:=ru;obtain⟨z,ar,n,r,hl,e⟩:=I.qX hH;obtain⟨w,hw,xw⟩:=r.get hy;refine sB F.slot_list_pop ⟨_,e,rfl⟩ F.entry_list_pop (F.args_list_pop_2 _ _)
  (MeetsSeq.list_pop_at l ar.toArray n i t k w (fitsIndex_both h1 h2) (by rw [Ai,<- hl];exact hk) (by rw [<- Dg];exact hw) (by rw [Ai];omega)) ⟨e,?_⟩
 refine⟨y,_,I.IK (its':=ar.eraseIdx k) hH e ?_ (r.eraseIdx k) ?_,xw,q⟩
 ·show ar.toArray.eraseIdxIfInBounds k=(ar.eraseIdx k).toArray;rw [De]
 ·have:=vZ xs k;omega
def aeF:R2:=λx y H Q=>∃l b xs zs,x=.ref l/\y=.ref b/\H l=ap (.lst xs)/\H b=ap (.lst zs)/\xs.length+zs.length<=sizeLine/\∀p,H p=bm->Q (.ref p) (upd H p (.lst (xs++zs)))
theorem Xi:iW X (r9 .Add) aeF:=by
 intro À s σ H x y v u Q I rx ry h;obtain⟨l,b,xs,zs,rfl,rfl,hH,hB,hz,q⟩:=h;cases rx;cases ry;obtain⟨z,ar,n,r,hl,e⟩:=I.qX hH;obtain⟨z2,cT,n2,r2,RI,e2⟩:=I.qX hB;refine PySem.P.add_list e e2 ?_ (by rw [Ai,Ai];omega);have ea:ar.toArray++cT.toArray=(ar++cT).toArray:=by simp
 rw [ea];exact⟨.ref _,_,I.XB (t':=s.toks) (r.append r2) (by rw [Ah];omega),rfl,q _ I.fresh⟩
def aeD:R2:=λx y H Q=>∃l k xs,x=.ref l/\y=.int k/\H l=ap (.lst xs)/\-(2 ^ 63)<=k/\k < 2 ^ 63/\xs.length*k.toNat<=sizeLine/\
 ∀p,H p=bm->Q (.ref p) (upd H p (.lst (Am k.toNat xs).flatten))
def len_rep (xs:List α) (k:Nat):(Am k xs).flatten.length=k*xs.length:=by
 induction k with
 | zero=>simp
 | succ k ih=>rw [Bw,B5,Ah,ih,Ez,Nat.add_comm]
theorem Xc:iW X (r9 .Mult) aeD:=by
 intro À s σ H x y v u Q I rx ry h;obtain⟨l,k,xs,rfl,rfl,hH,h1,h2,hz,q⟩:=h;cases rx;obtain⟨t,rfl⟩:=ry;obtain⟨z,ar,n,r,hl,e⟩:=I.qX hH;have Â:ar.toArray.size*k.toNat<=sizeLine:=by rw [Ai,<- hl];exact hz
 have afK:¬ar.toArray.size*k.toNat > (2 ^ 63-1) / 8:=by
  have:(sizeLine:Nat)<=(2 ^ 63-1) / 8:=by decide
  omega
 have afE:¬(!Builtin.List.listFitsIndex k)=true:=by
  rw [fitsIndex_both h1 h2];exact A4
 have tT:¬Builtin.List.listTooLong (ar.toArray.size*k.toNat)=true:=by
  rw [oe Â];exact A4
 have T8:List.foldl (λx1 x2=>x1++x2) #[] (Am (if ar.toArray.isEmpty=true then 0 else k.toNat) ar.toArray)=(Am k.toNat ar).flatten.toArray:=by
  have f0:∀m:Nat,List.foldl (λx1 x2=>x1++x2) #[] (Am m ar.toArray)=(Am m ar).flatten.toArray:=λm=>by
   have:=foldl_rep ar m [];exact this
  rw [f0];cases ar with
  | nil=>simp
  | cons a r'=>rw [if_neg (by simp)]
 refine wpAny_binaryOp_repeat_ref (T:="list") (U:="int") ⋯ ⟨_,e,rfl⟩ (λs'=>typeIs_int s' k t) noFill_list_mul F.fills_int_mul F.slot_int_rmul repeat_list F.slot_int_index.lookup
  (sB F.slot_int_rmul (typeIs_int s k t) F.entry_int_rmul (F.args_int_rmul_2 _ _) (int___rmul___int_list k t l ar.toArray n)
   ⟨e,rfl,⟨_,e,rfl⟩,sB F.slot_list_mul ⟨_,e,rfl⟩ F.entry_list_mul (F.args_list_mul_2 _ _) (AutoListH.list___mul___list_int_3 l ar.toArray n k t afE afK tT) ⟨e,?_⟩⟩)
 rw [T8];exact⟨.ref _,_,I.XB (t':=s.toks) (r.rep k.toNat) (by rw [len_rep,Nat.mul_comm];exact hz),rfl,q _ I.fresh⟩
end
end L2
variable {xs:List (List L2.Key×BC×A5)}{o:Option L2.V}{v:L2.V}{kvs:List (List L2.Key×L2.V)}{env:PySem.Env}{value:B7}{xg:Ca}
namespace L2
open PySem PySem.Spec PyProof.Rows
section
variable {κ:Type} [DecidableEq κ]
def iI (kvs:List (κ×V)) (k:κ):Option V:=(kvs.find? λkv=>decide (kv.1=k)).map (·.2)
def putK (kvs:List (κ×V)) (k:κ) (v:V):List (κ×V):=
 if (kvs.any λkv=>decide (kv.1=k))=true then kvs.map (λkv=>if kv.1=k then (kv.1,v) else kv) else kvs++[(k,v)]
def kK {p:κ×V}{r:List (κ×V)}{k:κ} (e:p.1=k):iI (p::r) k=ap p.2:=by simp [iI,Bi,e]
def kL {p:κ×V}{r:List (κ×V)}{k:κ} (e:¬p.1=k):iI (p::r) k=iI r k:=by simp [iI,Bi,e]
theorem su (k:κ):∀kvs:List (κ×V),(kvs.any λkv=>decide (kv.1=k))=(iI kvs k).isSome
 | []=>rfl
 | p::r=>by
  rw [Bz];by_cases e:p.1=k
  ·simp only [kK e,decide_eq_true e,Bool.true_or,Option.isSome_some]
  ·rw [kL e,decide_eq_false e,Bool.false_or];exact su k r
theorem qG (kvs:List (κ×V)) (k:κ) (v:V):(putK kvs k v).length<=kvs.length+1:=by
 unfold putK
 split
 ·rw [Af];omega
 ·rw [Ah,Aq,Bn];omega
def uJ.M0 {u:Option bn} (r:uJ o u):o.isSome=u.isSome:=by
 cases o with
 | none=>cases u with
  | none=>rfl
  | some _=>exact (show False from r).elim
 | some _=>cases u with
  | none=>exact (show False from r).elim
  | some _=>rfl
def KV.val {kvs:List (κ×V)}{vs:List (κ×bn)} (r:KV kvs vs) (k:κ):uJ (iI kvs k) (valueAt vs k):=by
 unfold KV at r
 induction r with
 | nil=>exact Cd
 | @cons p q ps qs h t ih=>
  obtain⟨h1,h2⟩:=h;by_cases e:p.1=k
  ·have e':q.1=k:=h1.symm.trans e;have b:valueAt (q::qs) k=ap q.2:=by simp [valueAt,Bi,e']
   rw [kK e,b];exact h2
  ·have e':¬q.1=k:=λz=>e (h1.trans z);have b:valueAt (q::qs) k=valueAt qs k:=by simp [valueAt,Bi,e']
   rw [kL e,b];exact ih
def KV.any {kvs:List (κ×V)}{vs:List (κ×bn)} (r:KV kvs vs) (k:κ):(kvs.any λkv=>decide (kv.1=k))=vs.any λkv=>decide (kv.1=k):=by
 induction r with
 | nil=>rfl
 | cons h t ih=>rw [Bz,Bz,ih,h.1]
def KV.WE {kvs:List (κ×V)}{vs:List (κ×bn)} (r:KV kvs vs) (k:κ) (ry:RelV y u) :
  KV (kvs.map λkv=>if kv.1=k then (kv.1,y) else kv) (vs.map λkv=>if kv.1=k then (kv.1,u) else kv):=by
 induction r with
 | nil=>exact .nil
 | @cons p q ps qs h t ih=>
  rw [Ao,Ao];refine .cons ?_ ih;obtain⟨h1,h2⟩:=h;by_cases e:p.1=k
  ·rw [if_pos e,if_pos (h1.symm.trans e)];exact⟨h1,ry⟩
  ·rw [if_neg e,if_neg (λz=>e (h1.trans z))];exact⟨h1,h2⟩
def KV.put {kvs:List (κ×V)}{vs:List (κ×bn)} (r:KV kvs vs) (k:κ) (ry:RelV y u):KV (putK kvs k y) (stored vs k u):=by
 unfold putK stored;rw [r.any k];by_cases e:(vs.any λkv=>decide (kv.1=k))=true
 ·rw [if_pos e,if_pos e];exact r.WE k ry
 ·rw [if_neg e,if_neg e];exact Paired.snoc r ⟨rfl,ry⟩
def KV.length {kvs:List (κ×V)}{vs:List (κ×bn)} (r:KV kvs vs):kvs.length=vs.length:=Paired.length r
end
def P7 {k:Key} (r:RelV (kV k) u):(bN P w).is k u=true:=by
 cases k with
 | inl i=>obtain⟨t,e⟩:=(show ∃t,u=DQ i t from r);subst e;exact Gq P w i t
 | inr x=>obtain⟨t,e⟩:=(show ∃t,u=Bg x t from r);subst e;exact Gp P w x t
theorem wu:∀{ks:List Key}{us:List bn},Vals (ks.map kV) us->ItemsAre (bN P w) ks us
 | [],_,r=>by rw [DP] at r;cases r;exact .nil
 | k::ks,_,r=>by
  rw [Ao] at r;cases r with
  | cons h t=>exact .cons (P7 h) (wu t)
abbrev KT (H:Hp):List (List Key×V)->List (List Key×ce×bn)->Prop:=Paired λp q=>p.1=q.1/\H q.2.1=ap (.tup (p.1.map kV))/\RelV p.2 q.2.2
def KT.val (r:KT H kvs xs) (k:List Key):uJ (iI kvs k) ((atKey xs k).map (·.2)):=by
 induction r with
 | nil=>exact Cd
 | @cons p q ps qs h t ih=>
  obtain⟨h1,_,h2⟩:=h;by_cases e:p.1=k
  ·have e':q.1=k:=h1.symm.trans e;have b:atKey (q::qs) k=ap q.2:=by simp [atKey,Bi,e']
   rw [kK e,b];exact h2
  ·have e':¬q.1=k:=λz=>e (h1.trans z);have b:atKey (q::qs) k=atKey qs k:=by simp [atKey,Bi,e']
   rw [kL e,b];exact ih
def KT.WE (r:KT H kvs xs) (k:List Key) (ry:RelV y u) :
  KT H (kvs.map λkv=>if kv.1=k then (kv.1,y) else kv) (xs.map (putAt k u)):=by
 induction r with
 | nil=>exact .nil
 | @cons p q ps qs h t ih=>
  rw [Ao,Ao];refine .cons ?_ ih;obtain⟨h1,h2,h3⟩:=h;unfold putAt;by_cases e:p.1=k
  ·rw [if_pos e,if_pos (h1.symm.trans e)];exact⟨h1,h2,ry⟩
  ·rw [if_neg e,if_neg (λz=>e (h1.trans z))];exact⟨h1,h2,h3⟩
def KT.put (r:KT H kvs xs) (k:List Key) (hb:H b=ap (.tup (k.map kV))) (ry:RelV y u) :
  KT H (putK kvs k y) (zn xs k b u):=by
 have e:(kvs.any λkv=>decide (kv.1=k))=(atKey xs k).isSome:=by
  rw [su,(r.val k).M0,Option.isSome_map]
 unfold putK zn;rw [e];by_cases q:(atKey xs k).isSome=true
 ·rw [if_pos q,if_pos q];exact r.WE k ry
 ·rw [if_neg q,if_neg q];exact Paired.snoc r ⟨rfl,hb,ry⟩
def KT.keeps (r:KT H kvs xs) (ht:∀b ys,H b=ap (.tup ys)->H' b=ap (.tup ys)):KT H' kvs xs:=
 Paired.Xz r λ_ _ z=>⟨z.1,ht _ _ z.2.1,z.2.2⟩
section
def Va {u:HO} (ok:mi P w H h) (e:Rd H a u):a9 P w H h a u:=e.ok ok
def wL {kvs:List (Key×V)} (ok:mi P w H h) (e:Rd H a (.dK kvs)):kvs.length<=sizeLine/\(a==ss)=false/\∃vs,KV kvs vs/\h.DictOf (bN P w) a vs:=
 show a9 P w H h a (.dK kvs) from Va ok e
def ack {kvs:List (Key×V)} (ok:mi P w H h) (e:H a=ap (.dK kvs)):kvs.length<=sizeLine/\(a==ss)=false/\∃vs,KV kvs vs/\h.DictOf (bN P w) a vs:=wL ok (.inl e)
def xT {ks:List Key} (ok:mi P w H h) (e:H a=ap (.tup (ks.map kV))):(lm (bN P w)).is h ks a:=by
 obtain⟨_,ar,r,o,h1,h2,n,h3⟩:=(show a9 P w H h a (.tup (ks.map kV)) from ok a _ e);exact⟨o,ar.toArray,n,h1,h2,h3,by simpa using wu r⟩
def wI (ok:mi P w H h) (e:Rd H a (.dT kvs)):kvs.length<=sizeLine/\(a==ss)=false/\
  ∃xs,KT H kvs xs/\h.DictOfH (lm (bN P w)) a xs:=by
 obtain⟨z,y,xs,r,o,es,ep,h1,h2,h3,h4,h5⟩:=(show a9 P w H h a (.dT kvs) from Va ok e);refine⟨z,y,xs,r,o,es,ep,h1,h2,h3,h4,λx hx=>?_,h5⟩;have all:∀{l:List (List Key×V)}{m:List (List Key×ce×bn)},KT H l m->∀x∈m,(lm (bN P w)).is h x.1 x.2.1:=by
  intro l m q
  induction q with
  | nil=>intro x hx;exact nomatch hx
  | @cons p q ps qs hq t ih=>
   intro x hx;rcases Ax.mp hx with e | hx
   ·subst e;exact xT ok (by rw [<- hq.1];exact hq.2.1)
   ·exact ih x hx
 exact all r x hx
def aci (ok:mi P w H h) (e:H a=ap (.dT kvs)):kvs.length<=sizeLine/\(a==ss)=false/\
  ∃xs,KT H kvs xs/\h.DictOfH (lm (bN P w)) a xs:=wI ok (.inl e)
end
def Kg (H:Hp) (a:ce) (y:V) (r:Option V):Prop:=
 (∃kvs k,Rd H a (.dK kvs)/\y=kV k/\r=iI kvs k)\/∃kvs k b,Rd H a (.dT kvs)/\y=.ref b/\H b=ap (.tup (k.map kV))/\r=iI kvs k
def Rz (H:Hp) (a:ce) (y v:V) (H':Hp):Prop:=
 (∃kvs k,H a=ap (.dK kvs)/\y=kV k/\kvs.length < sizeLine/\H'=upd H a (.dK (putK kvs k v)))\/
 ∃kvs k b,H a=ap (.dT kvs)/\y=.ref b/\H b=ap (.tup (k.map kV))/\kvs.length < sizeLine/\H'=upd H a (.dT (putK kvs k v))
def Kg.t {k:List Key} (e:H a=ap (.dT kvs)) (eb:H b=ap (.tup (k.map kV))):Kg H a (.ref b) (iI kvs k):=.inr ⟨kvs,k,b,.inl e,rfl,eb,rfl⟩
def Rz.t {k:List Key} (e:H a=ap (.dT kvs)) (eb:H b=ap (.tup (k.map kV))) (hl:kvs.length < sizeLine) :
  Rz H a (.ref b) v (upd H a (.dT (putK kvs k v))):=.inr ⟨kvs,k,b,e,rfl,eb,hl,rfl⟩
section
variable {r:bn}
def Inv.big (I:Inv X À σ H s):ss < s.heap.objs.size:=by
 have h:=(I.mod.glob.keeps I.bk).lt;exact Nat.lt_trans ⋯ h
def Nr (hu:A.units+1 < o0) (I:Inv X À σ H s) (g:Kg H a y (ap v)) (ry:RelV y u) (h:∀w' s',Inv X À σ H s'->RelV v w'->Q w' s') :
  db (dL X.prog X.w) A (Ch (.ref a) u) Q E s:=by
 rcases g with⟨kvs,k,e,ey,l⟩ | ⟨kvs,k,b,e,ey,eb,l⟩
 ·subst ey;obtain⟨z,hd,vs,Ô,dd⟩:=wL I.bA e;obtain⟨w',hw,xw⟩:=uJ.some_of (v:=v) (o:=valueAt vs k) (by rw [l];exact Ô.val k);exact wpAny_getItem_of (P7 ry) dd.mapOf hw (h w' _ (I.tok _) xw)
 ·subst ey;cases (show u=Ay b from ry);obtain⟨z,hd,xs,Ô,dd⟩:=wI I.bA e;obtain⟨w',hw,xw⟩:=uJ.some_of (v:=v) (o:=(atKey xs k).map (·.2)) (by rw [l];exact Ô.val k);obtain⟨p,hp,yq⟩:=Option.map_eq_some_iff.mp hw;refine wpAny_getItem_heap (tupleKind_room_in1 hu) (xT I.bA eb) dd hp ?_;rw [yq];exact h w' _ (I.tok _) xw
def LJ {t':Nat}{ob:HO} (I:Inv X À σ H s) (mu:Mut (H a)) (hs:B9 a s.heap h') (he:∃q,h'.get? a=ap q) (new:a9 X.prog X.w (upd H a ob) h' a ob) :
  Inv X À σ (upd H a ob) {s with heap:=h',toks:=t'}:=
 I.write (x:=a) (e:=a) mu (.inl rfl) (λb q hb z=>(hs.2 b hb).trans z) he new
def YD {kvs:List (Key×V)}{vs:List (Key×bn)} (z:kvs.length<=sizeLine) (hd:(a==ss)=false) (Ô:KV kvs vs) (dd:h'.DictOf (bN P w) a vs) :
  a9 P w H' h' a (.dK kvs):=⟨z,hd,vs,Ô,dd⟩
theorem Nq {Q:Unit->cr->Prop} (hu:A.units+1 < o0) (I:Inv X À σ H s) (g:Rz H a y v H') (ry:RelV y u) (rv:RelV v r) (h:∀s',Inv X À σ H' s'->Q () s') :
  db (dL X.prog X.w) A (setItem (.ref a) u r) Q E s:=by
 rcases g with⟨kvs,k,e,ey,l,eH⟩ | ⟨kvs,k,b,e,ey,eb,l,eH⟩
 ·subst ey eH;obtain⟨z,hd,vs,Ô,dd⟩:=ack I.bA e;have hz:vs.length<=sizeLine:=by rw [<- Ô.length];exact z
  have hl:(putK kvs k v).length<=sizeLine:=by have:=qG kvs k v;omega
  refine wpAny_setItem_pairs (hsz:=hz) (P7 ry) dd λh' ě hs=>h _ ?_;have he:∃q,h'.get? a=ap q:=let ⟨q,_,_,hq,_⟩:=ě;⟨q,hq⟩;exact LJ I (by rw [e];exact Cd) hs he (YD hl hd (Ô.put k rv) ě)
 ·subst ey eH;cases (show u=Ay b from ry);obtain⟨z,hd,xs,Ô,dd⟩:=aci I.bA e;have hz:xs.length<=sizeLine:=by rw [<- Paired.length Ô];exact z
  have hl:(putK kvs k v).length<=sizeLine:=by have:=qG kvs k v;omega
  refine wpAny_setItem_heap (hsz:=hz) (tupleKind_room_in1 hu) (xT I.bA eb) dd λh' ě hs=>h _ ?_;obtain⟨q,es,ep,hq,h2,h3,h4,_,h5⟩:=ě;refine LJ I (by rw [e];exact Cd) hs ⟨q,hq⟩ ⟨hl,hd,_,(Ô.put k eb rv).keeps λc ys ec=>?_,q,es,ep,hq,h2,h3,h4,h5⟩;rw [av (K8 ec e (λz=>nomatch z))];exact ec
end
def UT (i:ii):Prop:=∀ov iv,subscripted i false ov iv=operate [ov,iv] (Ch ov iv)
def R5 {È:ii}{id:String}
  (hl:Fk (.type T) "__getitem__"=pure (ap (.builtin id))) (hs:UT È)
  (h:db (dL prog w) A (kw value env) (λo s₁=>db (dL prog w) A (kw È env) (λi s₂=>s₂.TypeIs o T/\db (dL prog w) A (Ch o i) Q E s₂) E s₁) E s) :
  db (dL prog w) A (kw (.Subscript value È pos) env) Q E s:=by
 refine Subscript_ (BJ h (λo s₁ h₁=>BJ h₁ (λi s₂ h₂=>?_) λ_ _ x=>x) λ_ _ x=>x);obtain⟨hT,h₂⟩:=h₂;refine Aa ?_;refine Aa (EL hT hl ?_);have fin:db (dL prog w) A (subscripted È false o i) (λr s₃=>db (dL prog w) A (letTemporaryGo value o r >>= λ_=>pure r) Q E s₃) E s₂:=by
  rw [hs o i];exact wpAny_operating (BJ h₂ (λr s₃ h₃=>Aa (wpAny_letTemporaryGo (Ae h₃))) λ_ _ x=>x)
 first
  | exact Ae (Aa fin)
  | exact Aa (Ae (Aa fin))
  | exact Aa fin
def Hh (I:Inv X À σ H s) (g:Kg H a y o):s.TypeIs (.ref a) "dict":=by
 rcases g with⟨kvs,k,e,_,_⟩ | ⟨kvs,k,b,e,_,_,_⟩
 ·obtain⟨_,_,vs,_,dd⟩:=wL I.bA e;exact dd.typeIs
 ·obtain⟨_,_,xs,_,dd⟩:=wI I.bA e;exact dd.typeIs
def Z2 (td ty:TE):TE:=λσ H Q=>td σ H λx H1=>ty σ H1 λy H2=>∃a v,x=.ref a/\Kg H2 a y (ap v)/\Q v H2
def aae (td ty tv:TE):TS:=λD σ H=>tv σ H λv H1=>td σ H1 λx H2=>ty σ H2 λy H3=>∃a H4,x=.ref a/\Rz H3 a y v H4/\D.nx σ H4
section
variable {o i:ii}{td ty tv:TE}
def KU (hu:X.A.units+1 < o0) (ho:PE X o td) (hi:PE X i ty) (hs:UT i):PE X (.Subscript o i pos) (Z2 td ty):=by
 intro À s σ H Q I h;refine R5 PySem.F.slot_dict_getitem.lookup hs (bT (ho À s σ H _ I h) λu s1 ⟨x,H1,I1,rx,q1⟩=>bT (hi À s1 σ H1 _ I1 q1) λiv s2 ⟨y,H2,I2,ry,a,v,ex,g,q2⟩=>?_);subst ex;obtain rfl:u=Ay a:=rx;exact⟨Hh I2 g,Nr hu I2 g ry λw' s3 I3 xw=>⟨v,H2,I3,xw,q2⟩⟩
def Sx (hu:X.A.units+1 < o0) (ho:PE X o td) (hi:PE X i ty) (hv:PE X value tv) (hs:im value (ap (.Subscript o i Ù)) pos.line X.env=pure false) :
  PS X (.Assign [.Subscript o i Ù] value pos) (aae td ty tv):=by
 intro À s σ H D I h;refine wpAny_Assign_Subscript (bT (hv À s σ H _ I h) λr s1 ⟨v,H1,I1,rv,q1⟩=>bT (ho À s1 σ H1 _ I1 q1) λu s2 ⟨x,H2,I2,rx,q2⟩=>bT (hi À s2 σ H2 _ I2 q2) λiv s3 ⟨y,H3,I3,ry,a,H4,ex,g,q3⟩=>?_) hs;subst ex;obtain rfl:u=Ay a:=rx;exact Nq hu I3 g ry rv λs4 I4=>⟨σ,H4,I4,q3⟩
end
def Q5 (h:lf) (hb:ss < h.objs.size):a9 P w H (h.push {cls:=.type "dict",data:=.dict #[]}) h.objs.size (.dT []):=
 ⟨Bd _,beq_eq_false_iff_ne.mpr (BB (AA hb)),[],.nil,_,#[],0,Ap _ rfl,⟨rfl,rfl,rfl⟩,rfl,rfl,D5⟩
def Wm:TE:=λ_ H Q=>∀p,H p=bm->Q (.ref p) (upd H p (.dT []))
section
def Pe:PE X (.Dict [] [] pos) Wm:=λÀ s σ H Q I h=>
 wpAny_Dict_empty ⟨.ref s.heap.objs.size,_,I.laid (a:=s.heap.objs.size) (o:=.dT []) (t':=s.toks) (λ_ _ q=>Ag _ q) (An _) (Q5 s.heap I.big),rfl,h _ (I.bA.fresh (An _))⟩
end
structure M2 (X:Cx) (o:ii) (m:Str) (Ä:Pos) (e f:ii) (bK:Pos):Prop where
 base:nw o m X.env (kw o X.env)=kw o X.env
 few:((wf bK (f8 [e,f] X.env)).all (λx=>!x.1)&&(backToKw bK (keywordEach [] X.env)).all (λx=>x.1.isSome)
  && decide (([e,f]:List ii).length+([]:List Keyword).length+(if ([]:List Keyword).isEmpty then 0 else 1) < 30))=true
 line:(Ä.endLine==bK.line)=true
 trees:wf bK (f8 [e,f] X.env)=[(false,kw e X.env),(false,kw f X.env)]
def IsD (H:Hp) (a:ce):Prop:=(∃kvs,Rd H a (.dK kvs))\/∃kvs,Rd H a (.dT kvs)
end L2
variable {Ñ:List B3}{XP:(B3->Option A5)->Ft->Prop}{YP:PySem.World->Ft->Prop}{d:PySem.DefRec}
namespace Att
open PySem PySem.W PySem.Calls PyProof.Rows
def rf {P:Params}:∀(ns:List Int) (vs:List bn),WellAll P h vs (ns.map WData.int)->tt vs ns:=by
 intro ns
 induction ns with
 | nil=>
  intro vs w;cases w;exact .nil
 | cons n ns ih=>
  intro vs w;cases w with
  | cons a b=>
   cases a;exact .cons _ _ (ih _ b)
theorem Mg {l:OpenLaw} (hn:l.most=ap n) {P:Params}{args:List WData}{Þ:List bn}
  (T5:l.row.toRowW.claim.pre args=true) (ī:WellAll P h Þ args) :
  ∃a vs ns,Þ=[Ay a]/\args=[WData.list (ns.map WData.int)]/\h.get? a=ap {cls:=.type "list",data:=.seq vs.toArray}/\tt vs ns/\ns.length<=n:=by
 have hsh:=(pre_splitW T5).1;have hc:l.pre.holds [] {args:=args}=true:=(pre_splitW T5).2;obtain⟨d,r,rfl,h1,h2⟩:=hasAllW_cons hsh;obtain rfl:=hasAllW_nil h2;obtain⟨xs,rfl,h3⟩:=hasW_list h1;obtain⟨ns,rfl⟩:=items_int h3;have Â:ns.length<=n:=by
  unfold OpenLaw.pre at hc;have h4:(WTm.not (.lt (.lit (.int (n:Int))) (.len (.arg 0)))).holds [] {args:=[.list (ns.map .int)]}=true:=by
   have h4:=(holds_andW hc).1;rw [hn] at h4;exact h4
  have h5:=condW_of h4 (w_not (w_lt w_lit (w_len_list (w_arg rfl))));refine Nat.le_of_not_lt λq=>?_
  first
   | (rw [decide_eq_true q'] at h5;exact absurd h5 ⋯)
   | (simp at h5;omega)
 cases ī with
 | cons w1 w2=>
  cases w2;cases w1 with
  | list ho afN=>exact⟨_,_,ns,rfl,rfl,ho,rf ns _ afN,Â⟩
def Mp (l:OpenLaw) (args:List WData):l.row.toRowW.claim.post args (.bool true) args=true:=
 postW_of (r:=l.row.toRowW) (X:=(true==true))
  (show WShape.has [] (.bool true) .bool=true by first | rfl | decide | simp [WShape.has,WShape.arms,WShape.armsAll])
  (show (WTm.eq .res (.lit (.bool true))).value [] {args:=args,res:=ap (.bool true),after:=args}=ap (.bool (true==true)) from w_eq_bool (w_res rfl) w_lit) rfl
def Hq {l:OpenLaw}{q:sK}
  (hn:l.most=ap n) (ú:d.params.defaults=[])
  (call:∀(w:tz) (s₀ s₁:cr) (mg mb:Str->Option bn) (fa:ce) (o:Obj) (pm cd É:bn) (a:ce) (vs:List bn) (ns:List Int),
   Ground q Ñ [] XP w s₀ mg mb s₁.heap->YP w s₁.heap->
   s₁.heap.get? fa=ap o->o.data=.func (docDef d.name d.params d.body d.scope pm cd É)->s₁.heap.CodeRec cd d.name->mg d.name=ap (.ref fa)->
   s₁.heap.get? a=ap {cls:=.type "list",data:=.seq vs.toArray}->tt vs ns->ns.length<=n->s₁.gens=#[]->
   Da (dL l.prog w) callerA (.call (.ref fa) ⟨[.ref a],[]⟩) (λr s'=>r=.ok (.ret (.bool true))/\OldK s₁.heap s'.heap/\s'.os=s₁.os/\FB s'.gens) s₁) :
  WalkO q Ñ XP YP l.row.toRowW d [] (λf vs=>FH f vs):=by
 intro w s₀ s₁ mg mb G Y fa o pm cd É dV kV ho hd jM hD hmg hg args Þ as T5 ajV hrd ī hlo;obtain rfl:dV=.none:=Dflts.none hD ú;obtain rfl:kV=.none:=Dflts.noKw hD;obtain⟨a,vs,ns,rfl,rfl,X8,Ö,Â⟩:=Mg hn T5 ī;refine enter_call (codeAny_mono (call w s₀ s₁ mg mb fa o pm cd É a vs ns G Y ho (fd_plain hd) jM hmg X8 Ö Â hg) λr s' hq=>?_);obtain⟨rfl,h2,h3,h4⟩:=hq;exact⟨.inl ⟨.bool true,.bool true,[],rfl,λ_=>rfl,.bool true,Mp l _,λ_=>⟨List.Pairwise.nil,λ_ hm=>(nomatch hm)⟩⟩,h2,h3,h4⟩
end Att
variable {sp:L2.Sp}
namespace L2
open PySem PySem.Spec PyProof.Rows
theorem pH:∀{vs:List bn}{ns:List Int},tt vs ns->Vals (ns.map V.int) vs
 | _,_,.nil=>.nil
 | _,_,.cons n t h=>.cons ⟨t,rfl⟩ (pH h)
def US (H:Hp):Prop:=∀b,H b=bm\/∃o xs,H b=ap (.cE o (.lst xs))
def PK {K:Ab}{mb:Str->Option bn}{CX:RA}{fa:ce}{s₁:cr}{vs:List bn}
  (KX:K.In s₁.heap) (HJ:s₁.heap.Ns ev mg) (hb:s₁.heap.Ns builtinsNs mb) (hbb:∀x:Str,x≠"__name__"->mb x=lc x) (afx:s₁.heap.NoLimit) (hg:s₁.gens=#[])
  (ha:s₁.heap.get? a=ap {cls:=.type "list",data:=.seq vs.toArray}) (hi:tt vs ns) (hl:ns.length<=sizeLine) (hr:cO k callerA)
  (F:∀base:lf,K.In base->base.Ns ev mg->jq P w K mg base CX k fa fd [x] sp) (abI:∀(s:cr) (u:bn),BindsTo s fd ⟨[u],[]⟩ [(x,u)])
  (T4:∀H:Hp,US H->c9 K H a (ns.map V.int)->sp [.ref a] H (λv _=>v=.bl true) λ_ _ _=>False)
  (ľ:∀H e s',CX [] H s₁ (λ_ _ _=>False) e s'->False) :
  Da (dL P w) callerA (.call (.ref fa) ⟨[.ref a],[]⟩) (λr s'=>r=.ok (.ret (.bool true))/\OldK s₁.heap s'.heap/\s'.os=s₁.os/\FB s'.gens) s₁:=by
 have rv:=pH hi;have aeV:=hi.length;have Ú:∀H:Hp,US H->c9 K H a (ns.map V.int)->mi P w H s₁.heap->(∀b,H b≠bm->b=a)->(H a≠bm->K.lookup a=bm)->
   Da (dL P w) callerA (.call (.ref fa) ⟨[.ref a],[]⟩) (λr s'=>r=.ok (.ret (.bool true))/\OldK s₁.heap s'.heap/\s'.os=s₁.os/\FB s'.gens) s₁:=by
  intro H hO hS bA hA hK;have LP:∀{b:ce}{o:Obj},s₁.heap.get? b=ap o->H b=bm->(yt s₁.heap H).get? b=ap o:=λe n=>Ql e n;have ì:∀{b:ce}{o:Obj}{es:Array DictEntry}{ep:Nat},s₁.heap.get? b=ap o->o.data=.dict es ep->H b=bm:=λ{b o es ep} e d=>by
   cases q:H b with
   | none=>rfl
   | some u=>
    have e':b=a:=hA b (by rw [q];simp);subst e';rw [ha] at e;cases e;have d':E3 vs.toArray _=Data.dict es ep:=d;cases d'
  have ĉ:∀{b:ce}{m:Str->Option bn},s₁.heap.Ns b m->(yt s₁.heap H).Ns b m:=λ{b m} ⟨o,es,ep,e,d,r⟩=>⟨o,es,ep,LP e (ì e d),d,r⟩;have hKb:K.In (yt s₁.heap H):=λb o e=>LP (KX b o e) (by
   cases q:H b with
   | none=>rfl
   | some u=>
    have e':b=a:=hA b (by rw [q];simp);subst e';rw [hK (by rw [q];simp)] at e;cases e)
  have hM:Mod K mg (yt s₁.heap H):=⟨hKb,ĉ HJ,⟨mb,ĉ hb,hbb⟩,let ⟨mc,h1,h2⟩:=afx;⟨mc,ĉ h1,h2⟩⟩;have e0:UX P w K mg (yt s₁.heap H) callerA [] s₁ H:=⟨rfl,hM,λb o e=>S5 e,Nat.le_of_eq (M7 _ _),trivial,λb hb=>absurd (show b∈([]:List ce) from hb) (by simp),bA,.of_eq hg⟩;refine codeAny_mono ((F _ hKb (ĉ HJ)).run callerA [] s₁ H ⟨[.ref a],[]⟩ [.ref a] [.ref a] _ _ hr e0 (abI s₁ (.ref a)) (.cons rfl .nil) (T4 H hO hS)) λr s' h=>?_;cases r with
  | error e=>exact (ľ H e s' h).elim
  | ok fl=>
   cases fl with
   | next=>exact Bp h
   | brk=>exact Bp h
   | cont=>exact Bp h
   | ret u=>
    obtain⟨v,H',os,bare,un,aft,r',q⟩:=h;have q':v=.bl true:=q;subst q';obtain rfl:u=CK true:=r';refine⟨rfl,OldK.of_keep λb o e=>?_,os,bare⟩;cases q:H b with
    | none=>exact un.keep b o e q (by intro z;exact absurd (show b∈([]:List ce) from z) (by simp)) (by simp)
    | some u=>
     rcases hO b with z | ⟨ob,xs,z⟩
     ·rw [q] at z;cases z
     ·have z2:=un.uc b ob _ z;obtain⟨e1,_⟩:=bA b _ z;obtain⟨e2,_⟩:=aft b _ z2;rw [e] at e1;cases e1;exact e2
 cases hk:K.lookup a with
 | some o=>
  have e:=KX a o hk;rw [ha] at e;cases e;refine Ú (λ_=>bm) (λ_=>.inl rfl) (.inr ⟨_,vs.toArray,_,hk,rfl,rfl,rfl,by rw [Ai,aeV];exact hl,by simpa using rv⟩) (λb u z=>by have z':(bm:Option HO)=ap u:=z;cases z') (λb z=>absurd rfl z) λz=>absurd rfl z
 | none=>
  refine Ú (λb=>if b=a then ap (.cE {cls:=.type "list",data:=.seq vs.toArray} (.lst (ns.map V.int))) else bm) (λb=>?_) (.inl (.inr ⟨{cls:=.type "list",data:=.seq vs.toArray},if_pos rfl⟩)) (λb u z=>?_) (λb z=>?_) λ_=>hk
  ·by_cases hb:b=a
   ·exact .inr ⟨_,_,if_pos hb⟩
   ·exact .inl (if_neg hb)
  ·by_cases hb:b=a
   ·have z':=(if_pos hb).symm.trans z;cases z';subst hb;exact⟨ha,by rw [Af];exact hl,vs,_,rv,ha⟩
   ·have z':=(if_neg hb).symm.trans z;cases z'
  ·by_cases hb:b=a
   ·exact hb
   ·exact absurd (if_neg hb) z
def RX {l:EJ}{q:sK}{K:Params->Ab}{CX:tz->RA}{sp:tz->Sp}
  (hn:l.most=ap n) (hn2:n<=sizeLine) (ú:d.params.defaults=[]) (hr:cO k callerA)
  (hY:∀(w:tz) (h:lf),YP w h->(K w.params).In h)
  (F:∀(w:tz) (mg:Str->Option bn) (fa:ce) (h:lf),(K w.params).In h->h.Ns ev mg->mg d.name=ap (.ref fa)->
   ∃fd:Fa,(∀(s:cr) (u:bn),BindsTo s fd ⟨[u],[]⟩ [(x,u)])/\
    ∀base:lf,(K w.params).In base->base.Ns ev mg->jq l.prog w (K w.params) mg base (CX w) k fa fd [x] (sp w))
  (T4:∀(w:tz) (H:Hp) (a:ce) (ns:List Int),ns.length<=n->US H->c9 (K w.params) H a (ns.map V.int)->sp w [.ref a] H (λv _=>v=.bl true) λ_ _ _=>False)
  (ľ:∀(w:tz) (H:Hp) (s:cr) (e:bn) (s':cr),CX w [] H s (λ_ _ _=>False) e s'->False) :
  PySem.W.WalkO q Ñ XP YP l.row.toRowW d [] (λf vs=>FH f vs):=by
 refine Att.Hq hn ú λw s₀ s₁ mg mb fa o pm cd É a vs ns G Y ho hd jM hmg X8 Ö Â hg=>?_;have KX:=hY w _ Y;obtain⟨fd,hb,hF⟩:=F w mg fa _ KX G.T.g hmg;exact PK KX G.T.g G.T.b G.T.builtins G.T.nolimit hg X8 Ö (Bu Â hn2) hr hF hb (λH hO hS=>T4 w H a ns Â hO hS) λH e s'=>ľ w H s₁ e s'
end L2
variable {B:Prop}
namespace L2
open PySem PySem.Spec PyProof.Rows
def gD (s:sn):Arguments:=match s with
 | .FunctionDef _ a _ _ _ _ _ _ _ _=>a
 | _=>{posonlyargs:=[],args:=[],vararg:=bm,kwonlyargs:=[],kw_defaults:=[],kwarg:=bm,defaults:=[]}
def a6 (s:sn):List sn:=match s with
 | .FunctionDef _ _ b _ _ _ _ _ _ _=>b
 | _=>[]
def ag (s:sn):pc:=match s with
 | .FunctionDef _ _ _ _ _ _ sc _ _ _=>sc
 | _=>{kind:=.function,names:=[],isGenerator:=false,isCoroutine:=false}
abbrev mT:RA:=λ_ _ _ _ _ _=>False
abbrev E0:XK:=λ_ _ _=>False
def aaG:Passes mT X E0:=λ_ _ _ _ _ _ _ h=>h.elim
structure RO (K:Ab) (x qual:Str) (st:sn) (f:ce) (fd:Fa):Prop where
 ex:∃(oc:bn) (od:Option ce) (kV É pm:bn) (an:Option ce) (cg ct:bn) (RF:Array (Option bn)),
  fd=BW x qual (gD st) (a6 st) (ag st) .none kV É pm an cg ct/\K.lookup f=ap ⟨oc,od,.func fd,RF⟩/\DS K cg qual=true
 kp:DR K (.ref f)=true
section
variable {K:Ab}
def RO.ok {st:sn}{f:ce}{N:List Str} (F:RO K x qual st f fd) (S:ao N ps (ag st)) (len:∀vs H Q E,sp vs H Q E->vs.length=ps.length)
  (Qo:∀(cg:bn) (A:nn) (outer:List Env) (s:cr) (H:Hp) (vs:List V) (Q:VK) (E:XK),cO k (A.deeper (re qual (ag st) s.heap.objs.size f cg))->sp vs H Q E->
   ∃t,sd (ig mT P w K mg base N qual (ag st) f cg A outer s H E).vT (a6 st) t/\t {nx:=λ_ H'=>Q .aG H',rt:=Q} (start N vs) H):jq P w K mg base mT (k+1) f fd ps sp:=by
 obtain⟨oc,od,kV,É,pm,an,cg,ct,RF,rfl,lk,jM⟩:=F.ex;refine abY lk jM S len λA outer s H vs Q E hr T4=>?_;obtain⟨t,h,q⟩:=Qo cg A outer s H vs Q E hr T4;exact⟨t,h.vT,q⟩
def RO.binds {st:sn}{f:ce} (F:RO K x qual st f fd)
  (h:∀(kV É pm:bn) (an:Option ce) (cg ct:bn) (us:List bn),us.length=ps.length->bindArgs (BW x qual (gD st) (a6 st) (ag st) .none kV É pm an cg ct) ⟨us,[]⟩=pure (ps.zip us)):Binds K fd ps []:=by
 obtain⟨oc,od,kV,É,pm,an,cg,ct,RF,rfl,lk,jM⟩:=F.ex;exact .all (h kV É pm an cg ct)
def Yl {st:sn}{f:ce}{kV:bn} (l:K.lookup f=ap ⟨oc,od,.func (BW x qual (gD st) (a6 st) (ag st) .none kV É pm an cg ct),RF⟩)
  (c:DS K cg qual=true) (k:DR K (.ref f)=true):RO K x qual st f (BW x qual (gD st) (a6 st) (ag st) .none kV É pm an cg ct):=⟨⟨oc,od,kV,É,pm,an,cg,ct,RF,rfl,l,c⟩,k⟩
end
def Me (h:n<=1000):n < sizeLine:=Nat.lt_of_le_of_lt h ⋯
def yn {A:Prop} (h:B):if false=true then A else B:=by
 exact h
def ym {A:Prop} (h:A):if true=true then A else B:=by
 exact h
def lJ (H H':Hp):Prop:=∀b o,H b=ap o->H' b=ap o
def lJ.refl (H:Hp):lJ H H:=λ_ _ h=>h
end L2
variable {a b:Nat}{H2:L2.Hp}{R:PySem.Result->DM->Prop}{Xs:PySem.Scope}{N':List B3}{ix:List (Option Nat)}{Å:B7}{Ë:List B7}{kH:Ca}
namespace L2
open PySem PySem.Spec PyProof.Rows
def lsz {o:Obj} (e:h.get? b=ap o):b < h.objs.size:=Ar e
def neN (h:a≠b):a≠b:=h
def ltN (h:a < b):a < b:=h
def VZ {c:Nat}{v:Option bn} (q:h.IsCell c v):c < h.objs.size:=q.lt
structure ax (Xs:pc) (N:List Str) (sc:pc) (N':List Str) (ix:List (Option Nat)):Prop where
 kind:sc.kind=.function
 nc:∀y∈sc.names,y.2≠.cell
 loc:∀y∈sc.names,y.2=.local->sc.names.lookup y.1=ap .local
 fr:∀y∈sc.names,y.2=.free->(Xs.names.lookup y.1=ap .cell\/Xs.names.lookup y.1=ap .free)
 nd:N'.Nodup
 len:ix.length=N'.length
 map:((ix.zip N').all λp=>match p.1 with | none=>true | some j=>decide (N[j]?=ap p.2)&&decide (sc.names.lookup p.2=ap .free))=true
def ax.at {N:List Str} (S:ax Xs N sc N' ix) {i:Nat} (h1:ix[i]?=ap (ap j)) (h2:N'[i]?=ap x) :
  N[j]?=ap x/\sc.names.lookup x=ap .free:=by
 have hm:((ap j,x):Option Nat×Str)∈ix.zip N':=by
  refine A7 (i:=i) ?_;rw [List.getElem?_zip_eq_some];exact⟨h1,h2⟩
 have q:=Cc.mp S.map _ hm;simp only [AL,decide_eq_true_eq] at q;exact q
def o6 (ix:List (Option Nat)) (σ:St):St:=ix.map λo=>match o with | some j=>(σ[j]?).getD bm | none=>bm
def fC (X:Cx) (sc:pc) (N':List Str) (cl:List (Str×ce)) (C:ce) (s2:cr) (H2:Hp) (fp:List ce):Cx where
 prog:=X.prog
 w:=X.w
 K:=X.K
 mg:=X.mg
 base:=X.base
 A:=X.A
 N:=N'
 s₀:=s2
 H₀:=H2
 env:=compEnvC sc cl C X.env
 outer:=X.stack
 stack:=X.stack
 ex:=fp
 calm:=X.calm
 fn:=λ_=>false
 pn:=[]
 xe:=λ_ _=>False
theorem nr:∀(names:List (Str×wE)) (cs:List (Str×ce)),(∀y∈names,y.2=.free->∃c,env.cells.lookup y.1=ap c)->
  ∃cl,(forIn names cs λ(x:Str×wE) (c:List (Str×ce))=>(match x with | (name,kind)=>do
    let c <- if (kind==Be)=true then do let a <- cellOf env name;pure ((name,a)::c) else pure c
    pure (Cj c):Sem (ForInStep (List (Str×ce)))))=pure cl/\(∀x c,cl.lookup x=ap c->cs.lookup x=ap c\/(env.cells.lookup x=ap c/\(x,Be)∈names))/\(∀x,((x,Be)∈names\/(∃c,cs.lookup x=ap c))->∃c,cl.lookup x=ap c)
 | [],cs,_=>⟨cs,rfl,λ_ _ h=>.inl h,λx h=>h.elim (λz=>nomatch z) λz=>z⟩
 | (n,k)::r,cs,h=>by
  by_cases hk:k=.free
  ·subst hk;obtain⟨c,hc⟩:=h (n,.free) Bt rfl;obtain⟨cl,e,h1,h2⟩:=nr r ((n,c)::cs) λy hy=>h y (AZ _ hy);refine⟨cl,?_,λx d hd=>?_,λx hx=>?_⟩
   ·rw [BQ,<- e];simp only [beq_self_eq_true,if_true,cellOf,hc,pure_bind]
   ·rcases h1 x d hd with z | ⟨z1,z2⟩
    ·rw [Bj] at z;by_cases hx:(x==n)=true
     ·rw [hx] at z;have wz:x=n:=eq_of_beq hx;subst wz;cases z;exact .inr ⟨hc,Bt⟩
     ·have wz:(x==n)=false:=by simpa using hx
      rw [wz] at z;exact .inl z
    ·exact .inr ⟨z1,AZ _ z2⟩
   ·refine h2 x ?_;rcases hx with hx | ⟨d,hd⟩
    ·rcases Ax.mp hx with z | z
     ·injection z with z1 _;subst z1;exact .inr ⟨c,by rw [Bj];simp⟩
     ·exact .inl z
    ·by_cases hx:(x==n)=true
     ·exact .inr ⟨c,by rw [Bj,hx]⟩
     ·have wz:(x==n)=false:=by simpa using hx
      exact .inr ⟨d,by rw [Bj,wz];exact hd⟩
  ·obtain⟨cl,e,h1,h2⟩:=nr r cs λy hy=>h y (AZ _ hy);refine⟨cl,?_,λx d hd=>?_,λx hx=>?_⟩
   ·have hb:(k==Be)=false:=by simpa using hk
    rw [BQ,<- e];simp only [hb,Au,if_false,pure_bind]
   ·rcases h1 x d hd with z | ⟨z1,z2⟩
    ·exact .inl z
    ·exact .inr ⟨z1,AZ _ z2⟩
   ·refine h2 x ?_;rcases hx with hx | hx
    ·rcases Ax.mp hx with z | z
     ·injection z with _ z2;exact absurd z2.symm hk
     ·exact .inl z
    ·exact .inr hx
def mO (h:∀y∈sc.names,y.2=.free->∃c,env.cells.lookup y.1=ap c) :
  ∃cl,closureFor sc env=pure cl/\(∀x c,cl.lookup x=ap c->env.cells.lookup x=ap c/\(x,Be)∈sc.names)/\(∀x,(x,Be)∈sc.names->∃c,cl.lookup x=ap c):=by
 obtain⟨cl,e,h1,h2⟩:=nr (env:=env) sc.names [] h;refine⟨cl,?_,λx c hc=>(h1 x c hc).resolve_left (λz=>nomatch z),λx hx=>h2 x (.inl hx)⟩;unfold closureFor;have e':(forIn sc.names ([]:List (Str×ce)) λx r=>(match x with | (name,kind)=>if (kind==Be)=true then do let a <- cellOf env name;pure (Cj ((name,a)::r)) else pure (Cj r):Sem (ForInStep (List (Str×ce)))))=pure cl:=by
  rw [<- e]
  first
   | rfl
   | (
     congr 1;funext x r;obtain⟨n,k⟩:=x;by_cases hk:(k==Be)=true
     ·simp only [hk,if_true,pure_bind]
     ·simp only [hk,if_false,pure_bind,Au])
   | simp only [pure_bind]
 simpa using e'
theorem gW {env:Env}:∀{names:List (Str×wE)}{x:Str},
  (names.map λ(n,k)=>if (k==Be&&env.scope.kind==.function&&env.kindOf n==ap .cell) then (n,Fi) else (n,k)).lookup x =
   (names.lookup x).map λk=>if (k==Be&&env.scope.kind==.function&&env.kindOf x==ap .cell) then Fi else k
 | [],_=>rfl
 | (n,k)::r,x=>by
  have ih:=@gW env r x;show List.lookup x ((if (k==Be&&env.scope.kind==.function&&env.kindOf n==ap .cell)=true then (n,Fi) else (n,k))::_)=_;cases hx:x==n with
  | true=>
   have e:=eq_of_beq hx;subst e;by_cases hc:(k==Be&&env.scope.kind==.function&&env.kindOf x==ap .cell)=true
   ·rw [if_pos hc,Bj,Bj,hx];simp only [Cy,hc,if_true]
   ·rw [if_neg hc,Bj,Bj,hx];simp only [Cy,hc,if_false];simp
  | false=>
   by_cases hc:(k==Be&&env.scope.kind==.function&&env.kindOf n==ap .cell)=true
   ·rw [if_pos hc,Bj,Bj,hx];exact ih
   ·rw [if_neg hc,Bj,Bj,hx];exact ih
def Zw (X:Cx) (Ë:List ii) (t:TT):Prop:=
 ∀(À:List (ce×Obj)) (s:cr) (σ:St) (H:Hp) (Q:Bool->Hp->Prop),Inv X À σ H s->t σ H Q->
  db (dL X.prog X.w) X.A (forIn Ë true λc r=>if r=true then do let ok <- isTrue c X.env (kw c X.env);pure (Cj ok) else pure (Cj r)) (TP X À σ Q) X.xe s
def aet:TT:=λ_ H Q=>Q true H
def SI:Zw X [] aet:=λÀ s σ H Q I h=>by
 exact Ae ⟨H,I,h⟩
def SH {c:ii}{t:TT} (hc:PT X c t):Zw X [c] t:=λÀ s σ H Q I h=>by
 rw [BQ];simp only [if_true,bind_assoc,pure_bind];refine Aa (bT (hc À s σ H Q I h) λb s1 q=>?_);exact Ae q
def tLc (ix:List (Option Nat)) (wi:TI) (g:TG) (tf:TT) (te:TE):TE:=λσ H Q=>wi σ H λJ H1=>∀D,H1 D=bm->∃W:Nat->Nat->St->List V->Hp->Prop,
 (∃m,W 0 m (o6 ix σ) [] (upd H1 D (.lst [])))/\∀i m σ' ys H,W i m σ' ys H->H D=ap (.lst ys)/\
  ((J.stop i H/\Q (.ref D) H)\/(J.go i H/\∀x H',J.U2 i H x H'->g x σ' H' λσ2 H2=>tf σ2 H2 λb H3=>
   if b=true then te σ2 H3 λy H4=>H4 D=ap (.lst ys)/\ys.length+1<=sizeLine/\∃m',m' < m/\W (i+1) m' σ2 (ys++[y]) (upd H4 D (.lst (ys++[y]))) else ∃m',m' < m/\W (i+1) m' σ2 ys H3))
def mr {Ê:ii}{it Æ:bn} (I:Nat->cr->Prop)
  (turn:∀n s,I n s->db (dL prog w) A (pyNext it) (λr s₁=>match r with
   | none=>R (.ok .next) s₁
   | some v=>db (dL prog w) A (FM Ê it v) (λ_ U6=>db (dL prog w) A (EQ Ê env v) (λ_ s₂=>
     db (dL prog w) A (forIn Ë true λc r=>if r=true then do let ok <- isTrue c env (kw c env);pure (Cj ok) else pure (Cj r)) (λok s₃=>
      if ok=true then db (dL prog w) A (kw Å env) (λx s₄=>
       db (dL prog w) A (call (.builtin "list.append") [Æ,x]) (λ_ s₅=>∃m,m < n/\I m s₅) (λ_ _=>False) s₄) (λ_ _=>False) s₃
      else ∃m,m < n/\I m s₃) (λ_ _=>False) s₂) (λ_ _=>False) U6) (λ_ _=>False) s₁) (λ_ _=>False) s)
  (n:Nat) (h:I n s) :
  Da (dL prog w) A (.compLoop (.ListComp Å [⟨Ê,iter,Ë,0⟩] scope pos) 0 it Æ env) R s:=by
 refine codeAny_loop rfl I (λn s hI=>?_) n h;refine wpAny_noted ?_;rw [compTurn_list];refine Aa (Eh (Aa (BJ (turn n s hI) (λr s₁ h₁=>?_) λ_ _ h'=>h'.elim)));cases r with
 | none=>exact Ae h₁
 | some v=>
  refine Aa (BJ h₁ (λ_ U6 abj=>?_) λ_ _ h'=>h'.elim);refine Aa (BJ abj (λ_ s₂ h₂=>Aa (BJ h₂ (λok s₃ h₃=>?_) λ_ _ h'=>h'.elim)) λ_ _ h'=>h'.elim);cases ok with
  | false=>exact Ae ⟨rfl,h₃⟩
  | true=>
   have abi:db (dL prog w) A (kw Å env) (λx s₄=>
       db (dL prog w) A (call (.builtin "list.append") [Æ,x]) (λ_ s₅=>∃m,m < n/\I m s₅) (λ_ _=>False) s₄) (λ_ _=>False) s₃:=h₃
   exact Aa (Aa (BJ abi (λx s₄ h₄=>Aa (BJ h₄ (λ_ s₅ h₅=>Ae (Ae ⟨rfl,h₅⟩)) λ_ _ h'=>h'.elim)) λ_ _ h'=>h'.elim))
section
variable {g:TG}{tf:TT}
structure acD (X:Cx) (À:List (ce×Obj)) (H:Hp) (C:ce):Prop where
 hn:H C=bm
 hL:C≠X.env.locals
 ab:X.s₀.heap.objs.size<=C
 cl:∀x c,X.env.cells.lookup x=ap c->c≠C
 pn:∀p∈X.pn++À,p.1≠C
theorem Lg (hc:X.calm=true) (S:ax X.env.scope X.N sc N' ix)
  (hg:∀cl C s2 H2 fp,PG (fC X sc N' cl C s2 H2 fp) tg g) (hf:∀cl C s2 H2 fp,Zw (fC X sc N' cl C s2 H2 fp) Ë tf) (he:∀cl C s2 H2 fp,PE (fC X sc N' cl C s2 H2 fp) Å te) {s2:cr}{cl:List (Str×ce)} (tV:∀x c,cl.lookup x=ap c->X.env.cells.lookup x=ap c/\(x,Be)∈sc.names) (M8:∀x,(x,Be)∈sc.names->∃c,cl.lookup x=ap c) {tn:Nat->lf->Prop}{J:It}{Q:VK} (I2:Inv X À σ H2 s2) (T:Turn X.prog X.w X.K tg J fp it tn) (Mc:tn 0 s2.heap) (f2:∀b∈fp,vG X À H2 b)
  (hW:∀D,H2 D=bm->∃W:Nat->Nat->St->List V->Hp->Prop,
   (∃m,W 0 m (o6 ix σ) [] (upd H2 D (.lst [])))/\∀i m σ' ys H,W i m σ' ys H->H D=ap (.lst ys)/\
    ((J.stop i H/\Q (.ref D) H)\/(J.go i H/\∀x H',J.U2 i H x H'->g x σ' H' λσ2 H2=>tf σ2 H2 λb H3=>
     if b=true then te σ2 H3 λy H4=>H4 D=ap (.lst ys)/\ys.length+1<=sizeLine/\∃m',m' < m/\W (i+1) m' σ2 (ys++[y]) (upd H4 D (.lst (ys++[y]))) else ∃m',m' < m/\W (i+1) m' σ2 ys H3)))
  {RR:bn->ce->Result->cr->Prop}{E:bn->cr->Prop}
  (hRR:∀D C m s' H',Inv X À σ H' s'->Q (.ref D) H'->s'.heap.Ns C m->acD X À H' C->RR (.ref D) C (.ok .next) s') :
  db (dL X.prog X.w) X.A (newList []) (λÆ s₃=>db (dL X.prog X.w) X.A (newFunctionEnv sc X.env.globals cl [] X.env.qual bm .none (ap X.env)) (λaco s₄=>
   Da (dL X.prog X.w) X.A (.compStart (.ListComp Å [⟨tg,iter,Ë,0⟩] sc pos) 0 (.ref it) Æ {aco with scope:=relabel sc X.env}) (RR Æ aco.locals) s₄) E s₃) E s2:=by
 refine AO (wpAny_newFunctionEnv S.nc (by intro y hy;simp at hy) (λh₁ Jk yp=>?_) S.kind);generalize hH2:s2.heap.push {cls:=.type "list",dict:=bm,data:=.seq ([]:List bn).toArray}=G2 at Jk yp ⊢;have hC:G2.objs.size=s2.heap.objs.size+1:=by rw [<- hH2,Cn]
 obtain⟨D,hD⟩:∃D:Nat,s2.heap.objs.size=D:=⟨_,rfl⟩;obtain⟨C,hCC⟩:∃C:Nat,G2.objs.size=C:=⟨_,rfl⟩;simp only [hD,hCC] at Jk yp hC ⊢;have hDC:D≠C:=by omega
 have Í:∀b o,s2.heap.get? b=ap o->h₁.get? b=ap o:=λb o e=>by
  have hb:=lsz e;exact yp.extBut b o (neN ∅) (Ag _ (hH2▸Ag _ e))
 have abK:h₁.get? D=ap {cls:=.type "list",data:=.seq ([]:List bn).toArray}:=by
  refine yp.extBut D _ hDC (Ag _ ?_);rw [<- hH2,<- hD];exact Ap _ rfl
 have hD2:H2 D=bm:=I2.bA.fresh ∅;have hC2:H2 C=bm:=I2.bA.fresh ∅;obtain⟨W,⟨m0,w0⟩,turn⟩:=hW D hD2;have VY:∀x c,cl.lookup x=ap c->∃v,s2.heap.IsCell c v:=λx c e=>I2.cell x c (tV x c e).1;have agh:∀x c,cl.lookup x=ap c->c < D:=λx c e=>by
  obtain⟨v,q⟩:=VY x c e;have:=VZ q;exact ltN ∅
 have ł:∀b∈fp,b < D:=λb hb=>by
  obtain⟨o,e,_⟩:=T.obj 0 _ Mc b hb;have:=lsz e;exact ltN ∅
 have Yok:(fC X sc N' cl C s2 H2 fp).Ok:=by
  refine⟨I2.ok.mod,S.kind,I2.ok.glob,I2.ok.blt,?_,?_,?_,?_,I2.ok.hd,I2.ok.frames,.inl rfl,?_,I2.bs,?_,?_,?_,I2.stack,I2.Kw⟩
  ·show s2.heap.objs.size<=C;omega
  ·intro x y c e1 e2;exact I2.ok.inj x y c (tV x c e1).1 (tV y c e2).1
  ·intro x hx;have wz:(relabel sc X.env).names.lookup x=ap .cell\/(relabel sc X.env).names.lookup x=ap .free:=hx;unfold relabel at wz;rw [gW] at wz;cases q:sc.names.lookup x with
   | none=>rw [q] at wz;simp at wz
   | some k=>
    have hm:=BK q;by_cases hk:k=.free
    ·subst hk;exact M8 x hm
    ·have Ya:k≠.cell:=S.nc _ hm;rw [q] at wz;have hb:(k==Be)=false:=by simpa using hk
     simp only [Cy,hb,Fc,Au,if_false] at wz;rcases wz with z | z
     ·exact absurd (Option.some.inj z) Ya
     ·exact absurd (Option.some.inj z) hk
  ·intro x c ù;exact absurd ù A4
  ·intro b hb;refine⟨?_,λx c e z=>(f2 b hb).2.2.2.2.1 x c (tV x c e).1 z⟩;show b≠C;have:=ltN (ł b hb);exact neN ∅
  ·exact Bu I2.ok.V0 I2.sz
  ·intro b o e hb;rcases (f2 b hb).2.2.2.1 with z | z
   ·exact I2.ok.Pp b o e z
   ·have h1:=lsz (h:=X.base) e;have h2:=I2.ok.V0;omega
  ·intro b hb z;rcases Ax.mp (I2.H9 b z) with q | q
   ·exact (f2 b hb).2.1 q
   ·exact (f2 b hb).2.2.1 q
 have un0:Un (NV X.stack) fp H2 (upd H2 D (.lst [])) s2.heap h₁:=Un.laid Í ∅ hD2;have afs:mi X.prog X.w (upd H2 D (.lst [])) h₁:=I2.bA.laid Í ∅ ⟨Bd _,[],0,.nil,abK⟩;have IY:∀tk,Inv (fC X sc N' cl C s2 H2 fp) [] (o6 ix σ) (upd H2 D (.lst [])) {s2 with heap:=h₁,toks:=tk}:=λtk=>by
  refine⟨Yok,rfl,I2.bare,un0,⟨_,Jk,λi x v e1 e2 e3=>?_⟩,λx c e=>?_,?_,λx c e=>?_,λp hp=>absurd (show p∈([]:List (ce×Obj)) from hp) (by simp),afs,?_⟩
  ·have rm:N'[i]?=ap x:=e1;unfold o6 at e2;rw [Aj] at e2;cases q:ix[i]? with
   | none=>rw [q] at e2;cases e2
   | some o=>
    cases o with
    | none=>rw [q] at e2;cases e2
    | some j=>
     rw [q] at e2;have Ě:(σ[j]?).getD bm=ap v:=Option.some.inj e2;have e4:σ[j]?=ap (ap v):=by
      cases z:σ[j]? with
      | none=>rw [z] at Ě;cases Ě
      | some y=>rw [z] at Ě;exact congrArg ap Ě
     obtain⟨a1,a2⟩:=S.at q rm;have abw:=BK a2;have hk:=S.fr _ abw rfl;obtain⟨m,_,hl⟩:=I2.loc;obtain⟨u,r,l⟩:=hl j x v a1 e4 (.inr hk);refine⟨u,r,.inr ⟨?_,?_⟩⟩
     ·show (relabel sc X.env).names.lookup x=ap .cell\/(relabel sc X.env).names.lookup x=ap .free;unfold relabel;rw [gW,a2];by_cases hb:(X.env.scope.kind==.function&&X.env.kindOf x==ap .cell)=true
      ·left
       simp only [Cy,beq_self_eq_true,Fo,hb,if_true]
      ·right
       simp only [Cy,beq_self_eq_true,Fo,hb,if_false,Au]
     ·obtain⟨c,hcx⟩:=M8 x abw;have hcX:=(tV x c hcx).1;refine⟨c,hcx,?_⟩;rcases l with⟨k,_⟩ | ⟨k,c',e',z⟩
      ·have k':X.env.scope.names.lookup x=ap .local:=k;rcases hk with y | y <;> rw [k'] at y <;> cases y
      ·rw [hcX] at e';cases e';obtain⟨o,ho,hd⟩:=z;exact⟨o,Í _ _ ho,hd⟩
  ·obtain⟨v,o,ho,hd⟩:=VY x c e;exact⟨v,o,Í _ _ ho,hd⟩
  ·show upd H2 D (.lst []) C=bm;rw [av (BB hDC)];exact hC2
  ·have iA:=ltN (agh x c e);show upd H2 D (.lst []) c=bm;rw [av (neN ∅)];exact I2.kD x c (tV x c e).1
  ·unfold o6;rw [Af];exact S.len
 have Ł:∀{F6:List (ce×Obj)}{H':Hp},(∀b∈fp,H' b=bm)->(∀p∈F6,p.1∉fp)->∀b∈fp,vG (fC X sc N' cl C s2 H2 fp) F6 H' b:=λhn hp b hb=>by
  refine⟨hn b hb,?_,?_,.inl hb,λx c e z=>(f2 b hb).2.2.2.2.1 x c (tV x c e).1 z,λp ı z=>?_⟩
  ·show b≠C;have:=ltN (ł b hb);exact neN ∅
  ·exact Yok.QK b hb
  ·have afn:p∈([]:List (ce×Obj))++_:=ı;exact hp p afn (z▸hb)
 have î:∀s₃:cr,s₃={s2 with heap:=h₁,toks:=s2.toks+([]:List (Str×bn)).length}->
   Da (dL X.prog X.w) X.A (.compLoop (.ListComp Å [⟨tg,iter,Ë,0⟩] sc pos) 0 (.ref it) (.ref D) (compEnvC sc cl C X.env)) (RR (.ref D) C) s₃:=by
  rintro s₃ rfl;refine mr (λn s'=>∃i σ' ys H',Inv (fC X sc N' cl C s2 H2 fp) [] σ' H' s'/\tn i s'.heap/\(∀b∈fp,H' b=bm)/\W i n σ' ys H') ?_ m0
   ⟨0,_,[],_,IY _,T.keep _ _ _ Mc (λb _ o e=>Í b o e),λb hb=>by rw [av (AA (ł b hb))];exact (f2 b hb).1,w0⟩
  rintro n s3 ⟨i,σ3,ys,H3,I3,â,ÿ,w3⟩;obtain⟨hDl,w3⟩:=turn i n σ3 ys H3 w3;rcases w3 with⟨stop,qn⟩ | ⟨go,step⟩
  ·refine bT (T.done (fC X sc N' cl C s2 H2 fp) rfl rfl rfl hc i [] s3 σ3 H3 _ I3 (Ł ÿ (by simp)) â stop) λr s4 ⟨hr,I4⟩=>?_;subst hr;obtain⟨m,hn,_⟩:=I4.loc;refine hRR D C m s4 H3 (I2.acp (ch:=fp) I4.os I4.base I4.bA I4.bare λb hb=>?_) qn hn ?_
   ·obtain⟨a0,a1,a2,a3,a4,a5⟩:=f2 b hb;exact⟨a3,a1,a4,a5⟩
   ·refine⟨I4.free,?_,?_,λx c e z=>?_,λp hp z=>?_⟩
    ·have:=ltN I2.lt;exact neN ∅
    ·have:=I2.sz;omega
    ·obtain⟨v,q⟩:=I2.cell x c e;have:=VZ q;exact neN (a:=c) (b:=C) ∅ z
    ·have:=lsz (I2.pin p hp).1;exact neN (a:=p.1) (b:=C) ∅ z
  ·refine bT (T.item (fC X sc N' cl C s2 H2 fp) rfl rfl rfl hc i [] s3 σ3 H3 (λ_ _=>False) I3 (Ł ÿ (by simp)) â go) λr s4 ⟨u,hr,h4⟩=>?_;subst hr;refine bT h4 λ_ s5 ⟨x,H5,I5,r5,y5,Wu,ŀ⟩=>?_;have Ņ:=I5.pinned (Ł ŀ (by simp)) (T.obj _ _ Wu);refine bT (hg _ _ _ _ _ _ s5 σ3 H5 x u _ Ņ r5 (step x H5 y5)) λ_ s6 ⟨σ6,H6,I6,q6⟩=>?_;refine bT (hf _ _ _ _ _ _ s6 σ6 H6 _ I6 q6) λb s7 ⟨H7,I7,q7⟩=>?_;have PU:∀{s8:cr}{σ8:St}{H8:Hp},Inv (fC X sc N' cl C s2 H2 fp) ([]++pU fp s5.heap) σ8 H8 s8->tn (i+1) s8.heap/\∀b∈fp,H8 b=bm:=λ{s8 σ8 H8} I8=>by
    refine⟨T.keep _ _ _ Wu λb hb o e=>(I8.pin (b,o) (A8 _ (A8 _ (jG hb e)))).1,λb hb=>?_⟩;obtain⟨o,e,d⟩:=T.obj _ _ Wu b hb;exact (I8.pin (b,o) (A8 _ (A8 _ (jG hb e)))).2.1
   cases b with
   | false=>
    have q7':=q7;obtain⟨m',hm,w7⟩:=q7';obtain⟨t7,fr7⟩:=PU I7;exact⟨m',hm,i+1,σ6,ys,H7,I7.kN,t7,fr7,w7⟩
   | true=>
    refine bT (he _ _ _ _ _ _ s7 σ6 H7 _ I7 q7) λyv s8 ⟨y,H8,I8,r8,hD8,hz8,m',hm,w8⟩=>?_;obtain⟨z,ar,k,rv,hl8,e8⟩:=I8.qX hD8;obtain⟨t8,fr8⟩:=PU I8;refine wpAny_list_append_plain (s:=s8) (items:=ar.toArray) (hsz:=by rw [Ai];omega) ⟨_,e8⟩ λh9 hl9 hs9=>?_;obtain⟨k9,e9⟩:=hl9;have hv9:=Vals.append rv (.cons r8 .nil);have I9:Inv (fC X sc N' cl C s2 H2 fp) ([]++pU fp s5.heap) σ6 (upd H8 D (.lst (ys++[y]))) {s8 with heap:=h9,toks:=s8.toks}:=by
     refine I8.write (x:=D) (e:=D) (by rw [hD8];exact trivial) (.inl rfl) (λb u hb hu=>(hs9.2 b hb).trans hu) ⟨_,e9⟩ ?_;refine⟨by rw [Ah,Df];exact hz8,ar++[yv],k9,hv9,?_⟩;rw [e9];simp
    obtain⟨t9,fr9⟩:=PU I9;exact⟨m',hm,i+1,σ6,_,_,I9.kN,t9,fr9,w8⟩
 exact codeAny_compStart_list (î _ rfl) (T.self _ 0 _ _ _ (T.keep _ _ _ Mc λb _ o e=>Í b o e) (î _ rfl))
def aaD (hc:X.calm=true) (S:ax X.env.scope X.N sc N' ix) (hi:PI X tg iter wi)
  (hg:∀cl C s2 H2 fp,PG (fC X sc N' cl C s2 H2 fp) tg g) (hf:∀cl C s2 H2 fp,Zw (fC X sc N' cl C s2 H2 fp) Ë tf) (he:∀cl C s2 H2 fp,PE (fC X sc N' cl C s2 H2 fp) Å te)
  (hs:uN X iter:=by intro _;rfl):PE X (.ListComp Å [⟨tg,iter,Ë,0⟩] sc pos) (tLc ix wi g tf te):=by
 intro À s σ H Q I h;have Jl:∀y∈sc.names,y.2=.free->∃c,X.env.cells.lookup y.1=ap c:=λy hy hk=>I.ok.has y.1 (S.fr y hy hk);obtain⟨cl,Qm,tV,M8⟩:=mO Jl;refine Ej (use:=bm) rfl hs Qm S.kind S.loc (bT (hi À s σ H _ I h) λv s1 h1=>bT h1 λČ s2 h2=>?_);obtain⟨it,fp,tn,J,H2,rfl,I2,T,Mc,f2,hW⟩:=h2;refine Lg (RR:=λÆ C=>compPost (dL X.prog X.w) X.A X.xe bm (EP X À σ Q) Æ C) hc S hg hf he tV M8 I2 T Mc f2 hW λD C m s' H' I' q hn F=>?_;refine⟨m,hn,λh' İ=>⟨.ref D,H',?_,rfl,q⟩⟩;exact I'.turned (it:=C) (t':=s'.toks) (λb o hb e=>(İ.2 b hb).trans e) F.hn F.hL (.inr F.ab) F.cl F.pn
def F2 {i:Nat} (hc:X.calm=true) (hN:X.N.Nodup) (yu:X.N[i]?=ap x) (hx:X.env.scope.names.lookup x=ap .local) (S:ax X.env.scope X.N sc N' ix) (hi:PI X tg iter wi)
  (hg:∀cl C s2 H2 fp,PG (fC X sc N' cl C s2 H2 fp) tg g) (hf:∀cl C s2 H2 fp,Zw (fC X sc N' cl C s2 H2 fp) Ë tf) (he:∀cl C s2 H2 fp,PE (fC X sc N' cl C s2 H2 fp) Å te)
  (oG:im (.ListComp Å [⟨tg,iter,Ë,0⟩] sc pos) (ap (.Name x px)) kH.line X.env=pure true:=by rfl)
  (hs:uN X iter:=by intro _;rfl):PS X (.Assign [.Name x px] (.ListComp Å [⟨tg,iter,Ë,0⟩] sc pos) kH) (Wn (tLc ix wi g tf te) (eB i)):=by
 intro À s σ H D0 I h;rw [exec_Assign_Name_used _ _ _ _ oG];refine Aa (Eh (Aa ?_));show db _ X.A (do let _ <- comprehension (.ListComp Å [⟨tg,iter,Ë,0⟩] sc pos) sc X.env _ (newList []) false (kw iter X.env) (ap (EQ (.Name x px) X.env))) _ _ s;have Jl:∀y∈sc.names,y.2=.free->∃c,X.env.cells.lookup y.1=ap c:=λy hy hk=>I.ok.has y.1 (S.fr y hy hk);obtain⟨cl,Qm,tV,M8⟩:=mO Jl;refine Aa (BJ (Ej (use:=ap (EQ (.Name x px) X.env)) (Q:=λ_ s'=>SP X À D0 .next s') rfl hs Qm S.kind S.loc (bT (hi À s σ H _ I h) λv s1 h1=>bT h1 λČ s2 h2=>?_)) (λ_ s' hq=>Ae (Ae hq)) λ_ _ e=>e);obtain⟨it,fp,tn,J,H2,rfl,I2,T,Mc,f2,hW⟩:=h2;refine Lg (RR:=λÆ C=>compPost (dL X.prog X.w) X.A X.xe (ap (EQ (.Name x px) X.env)) (λ_ s'=>SP X À D0 .next s') Æ C) (Q:=λx H1=>eB i x σ H1 D0.nx) hc S hg hf he tV M8 I2 T Mc f2 hW λD C m s' H' I' q hn F=>?_;show db _ X.A (EQ (.Name x px) X.env (.ref D)) _ _ _;refine wpAny_assign_Name (vN (v:=.ref D) I' hN yu (.inl hx) rfl (λä I'' į=>?_) (.inr hx));obtain⟨a,į,ha⟩:=į;have haC:C≠a:=by
  rcases ha with z | z
  ·rw [z];exact F.hL
  ·exact BB (F.cl _ _ z)
 refine⟨m,hn.sameBut į haC,λh' İ=>⟨_,H',?_,q⟩⟩;exact I''.turned (it:=C) (t':=ä.toks) (λb o hb e=>(İ.2 b hb).trans e) F.hn F.hL (.inr F.ab) F.cl F.pn
end
end L2
variable {a b:B7}
namespace L2
open PySem PySem.Spec PyProof.Rows
section
def qR:bM X (.builtin "isinstance") (λxs H Q=>∃x c t b,xs=[x,.ty c]/\mw X.K H x t/\Br X.K t (.type c)=ap b/\Q (.bl b) H):=by
 intro À s σ H xs us Q I r h;obtain⟨x,c,t,b,rfl,ty,hk,q⟩:=h;obtain⟨u,w',rfl,ru,xw⟩:=vals2 r;cases (show w'=BU c from xw);exact MZ I ru ty hk λtk=>⟨.bl b,H,I.tok _,rfl,q⟩
def Ge:iW X (lw .IsNot) (λx y H Q=>∃i j,x=.bl i/\y=.bl j/\Q (.bl (!(i==j))) H):=by
 intro À s σ H x y v u Q I rx ry h;obtain⟨i,j,rfl,rfl,q⟩:=h;cases rx;cases ry;exact Ae ⟨.bl (!(i==j)),H,I,by cases i <;> cases j <;> rfl,q⟩
def Ms (hu:X.A.units < o0):iW X (lw .NotEq) (λx y H Q=>∃p q xs,x=.ref p/\y=.ref q/\c9 X.K H p xs/\c9 X.K H q []/\Q (.bl (!xs.isEmpty)) H):=by
 intro À s σ H x y v u Q I rx ry h;obtain⟨p,q,xs,rfl,rfl,hp,hq,k⟩:=h;cases rx;cases ry;obtain⟨ar,r,pl,hz⟩:=I.list hp;obtain⟨cT,r2,ç,hz2⟩:=I.list hq;cases r2;cases xs with
 | nil=>
  cases r;refine Ec (Fq (e:=λ_=>true) pl.isList ç.isList rfl hu λj h1=>absurd h1 (by simp)) ?_;exact⟨.bl false,H,I,rfl,k⟩
 | cons y ys=>
  have hl:=r.length;refine Ec (DT pl.isList ç.isList (by simp at hl ⊢;intro z;subst z;simp at hl) hu) ?_;exact⟨.bl true,H,I,rfl,k⟩
def Ri {bs:List Bool}:∀{us:List bn},Vals (bs.map V.bl) us->us=bs.map CK:=by
 induction bs with
 | nil=>intro us r;rw [DP] at r;cases r;rfl
 | cons n ns ih=>
  intro us r;cases r with
  | cons r1 r2=>
   cases r1;rw [ih r2];rfl
def J0 (hc:X.calm=true):bM X (.builtin "all") (λxs H Q=>∃(p:ce) (bs:List Bool),xs=[.ref p]/\c9 X.K H p (bs.map V.bl)/\Q (.bl (bs.all id)) H):=by
 intro À s σ H xs us Q I r h;obtain⟨p,bs,rfl,hp,q⟩:=h;obtain⟨u,rfl,ru⟩:=vals1 r;cases ru;obtain⟨ar,rv,pl,hz⟩:=I.list hp;have eb:=Ri rv;subst eb;have hl:=pl.isList;have iA:p < s.heap.objs.size:=by obtain⟨_,e,_⟩:=hl;exact Ar e
 refine call_all_walk (CG hl ?_);refine⟨s.heap.objs.size,[s.heap.objs.size,p],[s.heap.objs.size],(bs.map CK).toArray.size,_,_,λi=>(bs[i]?).getD true,rfl,Walks.list (A:=X.A.in1) (I.ok.hd hc) _ p (AA iA) (bs.map CK).toArray,
  ⟨⟨_,Ap _ rfl,rfl,rfl⟩,hl.push _⟩,λi v s' Q' E' hP hQ=>?_,λh' tk hk=>?_⟩
 ·have Qs:(bs.map CK)[i]?=ap v:=by simpa using hP
  rw [Aj] at Qs;cases e:bs[i]? with
  | none=>rw [e] at Qs;cases Qs
  | some b=>
   rw [e] at Qs;cases Qs;simp only [e,Option.getD_some] at hQ;exact B4 hQ
 ·have e:((AJ (bs.map CK).toArray.size).all λi=>(bs[i]?).getD true)=bs.all id:=by
   rw [Ai,Af];exact LSm.range_all bs
  rw [e];exact⟨.bl (bs.all id),H,I.kept (LSm.kept_iter hk),rfl,q⟩
def q8 (l:ce) (items:Array bn) (n:Nat) (b:ce) (bR:Array bn) (n2:Nat) (dd:Option ce) (sl:Array (Option bn)) (hs0:¬(!items.isEmpty&&Builtin.List.listTooLong (items.size+bR.size))=true) (HI:items.size<=sizeLine) (rR:items.size+bR.size<=sizeLine+1) :
  Meets (v4.«list.extend» ⟨[.ref l,.ref b],[]⟩) (λ_ R s=>s.heap.get? l=ap {cls:=.type "list",dict:=bm,data:=.seq items n,slots:=#[]}/\s.heap.get? b=ap {cls:=.type "tuple",dict:=dd,data:=.seq bR n2,slots:=sl}/\R (.ok (.ret AR)) {s with heap:=s.heap.update l (Bm λx=>x++bR),toks:=s.toks}):=
 .of_wp λprog w A R s h=>by
  obtain⟨hp,g,d,tk,os⟩:=s;obtain⟨hl,hb,h⟩:=h;have f1:=Ex;have f2:=Dj;have f3:=DB;have f4:=Ds;have f5:=Du;have M4:(items++bR).size<=sizeLine+1:=by rw [Array.size_append];exact rR
  wp_walk using (Cw hl rfl (hz:=HI) (_hz':=M4)),BV hl,BV hb;exact⟨_,rfl,h⟩
def OV (K:Ab):V->List V->Hp->VK->Prop:=λx vs H Q=>∃l b xs zs,x=.ref l/\vs=[.ref b]/\H l=ap (.lst xs)/\dX K H b zs/\xs.length+zs.length<=sizeLine/\Q .aG (upd H l (.lst (xs++zs)))
theorem ID:LW X "list.extend" (OV X.K):=by
 intro À s σ H x vs v us Q I rx rv h;obtain⟨l,b,xs,zs,rfl,rfl,hH,hB,hz,q⟩:=h;cases rx;obtain⟨u,rfl,ru⟩:=rv.one;cases ru;obtain⟨z,ar,n,r,hl,e⟩:=I.qX hH;obtain⟨cT,r2,⟨⟨cls,dd,data,sl⟩,e2,hc,n2,hd⟩,z2⟩:=I.tuple hB;simp only at hc hd;subst hc hd;have RI:=r2.length;have hsz:ar.toArray.size+cT.toArray.size<=sizeLine:=by rw [Ai,Ai];omega
 have tT:¬(!ar.toArray.isEmpty&&Builtin.List.listTooLong (ar.toArray.size+cT.toArray.size))=true:=by
  rw [oe hsz,D7];exact A4
 refine sB DV ⟨_,e,rfl⟩ DG (Dr _ _)
  (q8 l ar.toArray n b cT.toArray n2 dd sl tT (by rw [Ai];omega) ∅) ⟨e,e2,?_⟩
 refine⟨.aG,_,I.IK (its':=ar++cT) hH e (by simp) (r.append r2) ?_,rfl,q⟩;rw [Ah];omega
end
end L2
variable {o:L2.HO}{k':Nat}{bK:Ca}
namespace L2
open PySem PySem.Spec PyProof.Rows
def ph (l:ce) (H H':Hp):Prop:=∀b u,b≠l->H b=ap u->H' b=ap u
def i7 {p:ce} (h:H p=bm) (o:HO):lJ H (upd H p o):=λb u q=>by rw [av (bz q h)];exact q
def Mk {p:ce} (o:HO):ph p H (upd H p o):=λb u n q=>by rw [av n];exact q
def kW (H:Hp) (o:HO) (Q:VK):Prop:=∀p H',lJ H H'->H' p=ap o->H p=bm->Q (.ref p) H'
def kW.at {Q:VK} (h:kW H o Q) (p:ce) (hp:H p=bm):Q (.ref p) (upd H p o):=h p _ (i7 hp o) aM hp
def z0 (H:Hp) (l:ce) (o:HO) (Q:Hp->Prop):Prop:=∀H',ph l H H'->H' l=ap o->Q H'
def z0.at {Q:Hp->Prop} (h:z0 H l o Q):Q (upd H l o):=h _ (Mk o) aM
def iW.mono {f:bn->bn->Sem bn}{r r':R2} (h:iW X f r) (hr:∀x y H Q,r' x y H Q->r x y H Q):iW X f r':=λÀ s σ H x y v u Q I rx ry q=>h À s σ H x y v u Q I rx ry (hr _ _ _ _ q)
def bM.mono {f:bn}{r r':List V->Hp->VK->Prop} (h:bM X f r) (hr:∀xs H Q,r' xs H Q->r xs H Q):bM X f r':=λÀ s σ H xs us Q I rx q=>h À s σ H xs us Q I rx (hr _ _ _ q)
def LW.mono {id:String}{r r':V->List V->Hp->VK->Prop} (h:LW X id r) (hr:∀x xs H Q,r' x xs H Q->r x xs H Q):LW X id r':=λÀ s σ H x xs v us Q I rx rv q=>h À s σ H x xs v us Q I rx rv (hr _ _ _ _ q)
def NN.mono {r r':Rx} (h:NN X r) (hr:∀o i v H Q,r' o i v H Q->r o i v H Q):NN X r':=λÀ s σ H o i v ov iv u Q I ro ri rv q=>h À s σ H o i v ov iv u Q I ro ri rv (hr _ _ _ _ _ q)
section
variable {o:ii}{t:TA}
def ZT (t:TA):TE:=λσ H Q=>t σ H λxs H1=>xs.length<=sizeLine/\kW H1 (.tup xs) Q
def Z0 (t:TA):TE:=λσ H Q=>t σ H λxs H1=>xs.length<=sizeLine/\kW H1 (.lst xs) Q
def SJ {x1} (h:PA X es t):PE X (.Tuple es x1 pos) (ZT t):=by
 intro À s σ H Q I hq;refine wpAny_Tuple_spliced (bT (h pos À s σ H _ I hq) λus s1 ⟨xs,H1,I1,r,z,q⟩=>⟨by rw [<- r.length];exact z,?_⟩);have hf:=I1.bA.fresh (An _);refine⟨.ref s1.heap.objs.size,upd H1 s1.heap.objs.size (.tup xs),I1.laid (t':=s1.toks) (λb u e=>Ag _ e) (An _) ?_,rfl,q.at _ hf⟩;exact⟨z,us,r,⟨_,Ap _ rfl,rfl,_,rfl⟩⟩
def SN (h:PA X es t):PE X (.List es pos) (Z0 t):=by
 intro À s σ H Q I hq;refine wpAny_List_spliced (bT (h pos À s σ H _ I hq) λus s1 ⟨xs,H1,I1,r,z,q⟩=>⟨by rw [<- r.length];exact z,?_⟩);have hf:=I1.bA.fresh (An _);refine⟨.ref s1.heap.objs.size,upd H1 s1.heap.objs.size (.lst xs),I1.laid (t':=s1.toks) (λb u e=>Ag _ e) (An _) ?_,rfl,q.at _ hf⟩;exact⟨z,us,0,r,Ap _ rfl⟩
def Vb (K:Ab):R2:=λx y H Q=>match x with
 | .int i=>∃j,y=.int j/\Q (.int (i+j)) H
 | .str i=>∃j,y=.str j/\i.length+j.length<=sizeLine/\Q (.str (i++j)) H
 | .ref a=>(∃b xs zs,y=.ref b/\H a=ap (.lst xs)/\H b=ap (.lst zs)/\xs.length+zs.length<=sizeLine/\kW H (.lst (xs++zs)) Q)\/Ve K x y H Q
 | _=>False
def S3:iW X (r9 .Add) (Vb X.K):=by
 refine ((Xj.or Iw).or (Xi.or K1)).mono λx y H Q h=>?_;cases x with
 | int i=>obtain⟨j,rfl,q⟩:=h;exact .inl (.inl ⟨i,j,rfl,rfl,q⟩)
 | str i=>obtain⟨j,rfl,hl,q⟩:=h;exact .inl (.inr ⟨i,j,rfl,rfl,hl,q⟩)
 | ref a=>
  rcases h with⟨b,xs,zs,rfl,h1,h2,hz,q⟩ | h
  ·exact .inr (.inl ⟨a,b,xs,zs,rfl,rfl,h1,h2,hz,λp hp=>q.at p hp⟩)
  ·exact .inr (.inr h)
 | _=>exact h.elim
def SX:iW X (r9 .Mult) (rI wP λi j=>.int (i*j)):=opI λ_ _ _ _ _ _ _ hc q=>mul_int q hc
def JX:bM X (.type "list") (λxs H Q=>∃p ys,xs=[.ref p]/\(c9 X.K H p ys\/dX X.K H p ys)/\kW H (.lst ys) Q):=zr.mono λxs H Q ⟨p,ys,e,h,q⟩=>⟨p,ys,e,h,λl hl=>q.at l hl⟩
def OW:V->List V->Hp->VK->Prop:=λx vs H Q=>∃l xs y,x=.ref l/\vs=[y]/\H l=ap (.lst xs)/\xs.length < sizeLine/\z0 H l (.lst (xs++[y])) (Q .aG)
def IE:LW X "list.append" OW:=Mv.mono λx xs H Q ⟨l,ys,y,e1,e2,h,hz,q⟩=>⟨l,ys,y,e1,e2,h,hz,q.at⟩
def Mn (K:Ab):V->List V->Hp->VK->Prop:=λx vs H Q=>∃l b xs zs,x=.ref l/\vs=[.ref b]/\H l=ap (.lst xs)/\dX K H b zs/\xs.length+zs.length<=sizeLine/\z0 H l (.lst (xs++zs)) (Q .aG)
def Gm:LW X "list.extend" (Mn X.K):=ID.mono λx xs H Q ⟨l,b,ys,zs,e1,e2,h1,h2,hz,q⟩=>⟨l,b,ys,zs,e1,e2,h1,h2,hz,q.at⟩
def aan:V->List V->Hp->VK->Prop:=λx vs H Q=>∃l xs y,x=.ref l/\vs=[]/\H l=ap (.lst (xs++[y]))/\z0 H l (.lst xs) (Q y)
def Tc:LW X "list.pop" aan:=Xv.mono λx xs H Q ⟨l,ys,y,e1,e2,h,q⟩=>⟨l,ys++[y],y,e1,e2,h,by simp,by rw [List.dropLast_concat];exact q.at⟩
def WK:Rx:=λo i v H Q=>∃p xs k j,o=.ref p/\i=.int k/\H p=ap (.lst xs)/\wq xs.length k=ap j/\z0 H p (.lst (xs.set j v)) Q
def Mf:NN X WK:=set_list.mono λo i v H Q ⟨p,xs,k,j,e1,e2,h,hj,q⟩=>⟨p,xs,k,j,e1,e2,h,hj,q.at⟩
end
section
variable (K:Ab) (hK:X.K=K) {o:ii}{to:TE}{t:TA}{name:Str}{Zb:String}{r:V->List V->Hp->VK->Prop}{l:ii}
include hK
def TN:RN X (rIx K):=hK▸XY
def S2:iW X (r9 .Add) (Vb K):=hK▸S3
def WO (K:Ab):List V->Hp->VK->Prop:=λxs H Q=>∃x n,xs=[x]/\acy K x H n/\Q (.int n) H
def wN:bM X (.builtin "len") (WO K):=hK▸Rf
def OT (K:Ab):List V->Hp->VK->Prop:=λxs H Q=>∃p ys,xs=[.ref p]/\(c9 K H p ys\/dX K H p ys)/\kW H (.lst ys) Q
def JW:bM X (.type "list") (OT K):=hK▸JX
def aax (K:Ab):List V->Hp->VK->Prop:=λxs H Q=>∃(p:ce) (bs:List Bool),xs=[.ref p]/\c9 K H p (bs.map V.bl)/\Q (.bl (bs.all id)) H
def ND (hc:X.calm=true):bM X (.builtin "all") (aax K):=hK▸J0 hc
def WN (K:Ab):R2:=λx y H Q=>∃p q xs,x=.ref p/\y=.ref q/\c9 K H p xs/\c9 K H q []/\Q (.bl (!xs.isEmpty)) H
def Iu (hu:X.A.units < o0):iW X (lw .NotEq) (WN K):=hK▸Ms hu
def aei (K:Ab) (ta:TE):TT:=λσ H Q=>ta σ H λx H'=>∃k,YU K x H' k/\Q k H'
def vR (ha:PE X a ta) (he:∀Ç,isTrue a X.env Ç=(do let v <- Ç;standAt a.pos;BT [v] (truthy v))):PT X a (aei K ta):=hK▸O0 ha he
def O7 (hl:PE X l tl):PI X tg l (Vy K tl):=hK▸SE hl
def SO (pa:PlainAttrs T) (slot:Slot T name Zb) (X7:typeOf (.builtin Zb)=pure (.type "method_descriptor")) (hm:MtR X Zb r) (ho:PE X o to)
  (eZ:nw o name X.env (kw o X.env)=kw o X.env:=by rfl) (eY:RP Ä bK:=by rfl):PE X (.Call (.Attribute o name Ä) [] [] bK) (Z5 K T r to):=hK▸W7 pa slot X7 hm ho eZ eY
def sT (pa:PlainAttrs T) (slot:Slot T name Zb) (X7:typeOf (.builtin Zb)=pure (.type "method_descriptor")) (hm:MtR X Zb r) (ho:PE X o to) (ha:PA X (e::es) t)
  (eZ:nw o name X.env (kw o X.env)=kw o X.env:=by rfl)
  (ql:Y0 X bK (e::es):=by rfl)
  (eY:RP Ä bK:=by rfl) (hs:ic X e es:=by rfl) (fm:mj X bK es:=by rfl) :
  PE X (.Call (.Attribute o name Ä) (e::es) [] bK) (tBM K T r to t):=hK▸aaE pa slot X7 hm ho ha eZ ql eY hs fm
omit hK
end
structure U0 (P:sK) (w:tz) (K:Ab) (mg:Str->Option bn) (base:lf) (x:Str) (k:Nat) (ps:List Str) (sp:Sp) where
 f:ce
 fd:Fa
 ok:jq P w K mg base mT k f fd ps sp
 bi:Binds K fd ps []
 kp:DR K (.ref f)=true
 at':mg x=ap (.ref f)
section
variable {t:TA}
def Z4 (sp:Sp) (t:TA):TE:=λσ H Q=>t σ H λvs H1=>sp vs H1 Q E0
def Pf (G:U0 X.prog X.w X.K X.mg X.base x k ps sp) (hr:cO k' X.A) (hk:k<=k') (hg:Gl X x) (ha:PA X (e::es) t) (oI:jr x:=by decide)
  (he:ic X e es:=by rfl) (dI:mj X pos es:=by rfl) :
  PE X (.Call (.Name x p) (e::es) [] pos) (Z4 sp t):=by
 intro À s σ H Q I h;refine BD (Lf I hg G.at' ?_ oI);refine PySem.W.callWith_K (h₀:=X.base) I.ok.mod.kin G.kp (bT (ha pos À s σ H _ I h) λus s1 ⟨vs,H1,I1,r,q⟩=>⟨I1.wo,?_⟩) he dI;refine WB (dvs:=[]) (ds:=[]) G.ok (hr.mono hk) G.bi .nil aaG I1 r ?_;rw [Cz];exact q
end
section
theorem Rn {xs:List α} (h0:0<=i) (h1:i < xs.length):∃v,dC xs i=ap v/\xs[i.toNat]?=ap v:=by
 have hk:i.toNat < xs.length:=by omega
 have q:=cK (by rw [Ad hk]);have e:((i.toNat:Nat):Int)=i:=by omega
 rw [e] at q;exact⟨_,q,by rw [Ad hk]⟩
def Vj {j:Int} (h1:-18446744073709551616 < i) (h2:i < 18446744073709551616):wP i j:=U1.ok (.inl ⟨h1,h2⟩)
def mul_r {j:Int} (h1:-18446744073709551616 < j) (h2:j < 18446744073709551616):wP i j:=U1.ok (.inr ⟨h1,h2⟩)
end
def bF (h:n<=1000):n<=sizeLine:=DN (Me h)
section
variable (K:Ab) (hK:X.K=K)
include hK
def WS (K:Ab):R2:=λx y H Q=>∃p q xs,x=.ref p/\y=.ref q/\c9 K H p xs/\c9 K H q []/\Q (.bl xs.isEmpty) H
def Iv (hu:X.A.units < o0):iW X (lw .Eq) (WS K):=by
 subst hK;intro À s σ H x y v u Q I rx ry h;obtain⟨p,q,xs,rfl,rfl,hp,hq,k⟩:=h;cases rx;cases ry;obtain⟨ar,r,pl,hz⟩:=I.list hp;obtain⟨cT,r2,ç,hz2⟩:=I.list hq;cases r2;cases xs with
 | nil=>
  cases r;refine EK (FA (e:=λ_=>true) pl.isList ç.isList rfl hu λj h1=>absurd h1 (by simp)) ?_;exact⟨.bl true,H,I,rfl,k⟩
 | cons y ys=>
  have hl:=r.length;refine EK (Eg pl.isList ç.isList (by simp at hl ⊢;intro z;subst z;simp at hl) hu) ?_;exact⟨.bl false,H,I,rfl,k⟩
omit hK
end
end L2
variable {p1:Ca}
namespace L2
open PySem PySem.Spec PyProof.Rows
theorem Vals.sQ:∀{xs:List V}{us:List bn},Vals xs us->Vals xs.reverse us.reverse
 | _,_,.nil=>.nil
 | _,_,.cons h t=>by rw [CH,CH];exact (Vals.sQ t).append (.cons h .nil)
def XC:Fk (.type "list_reverseiterator") (BH "__len__")=pure bm:=by kernel_rfl
def Ti:Fk (.type "list_reverseiterator") (BH "__length_hint__")=pure (ap (.builtin "list_reverseiterator.__length_hint__")):=by kernel_rfl
def R9:splitId "list_reverseiterator.__length_hint__"=ap ("list_reverseiterator","__length_hint__"):=by kernel_rfl
def R4:isSubtype (.type "list_reverseiterator") (.type "list_reverseiterator")=pure true:=by kernel_rfl
def Qk {r:ce}{Q:Bool->cr->Prop} (h:s.heap.IsRevIter r l i) (q:Q false s):db (dL prog w) A (Builtin.List.listLengthHint (Ay r)) Q E s:=by
 refine Aa (EL h.typeIs XC ?_);refine Aa (EL h.typeIs Ti ?_);dsimp only;rw [R9];dsimp only;refine Aa (Dk h.typeIs R4 ?_);rw [if_neg ⋯];exact Ae q
def vc {r S:ce} (hA:A.handled=bm) (h:s.heap.IsRevIter r l (items.size-1)) (hl:s.heap.IsList l items) (T9:l≠r) (ļ:S≠r) (hSl:S≠l) (hz:items.size<=sizeLine)
  (hS:s.heap.get? S=ap {cls:=BU "list",data:=E3 #[]})
  (q:∀(h':lf) (tk:Nat) (Æ:Array bn) (c:Nat),(∀b o,b≠S->b≠r->s.heap.get? b=ap o->h'.get? b=ap o)->h'.get? S=ap {cls:=BU "list",data:=E3 Æ c}->ItemsOf (λi v=>items[items.size-1-i]?=ap v) Æ items.size->R (.ok (.ret .none)) {s with heap:=h',toks:=tk}) :
  db (dL prog w) A.in1 (v4.«list.__init__» {pos:=[Ay S,Ay r]})
   (λfin s'=>match fin with | E2 f=>R (Except.ok f) s' | Fin.again c'=>c'.quiet=true/\Da (dL prog w) A c' R s') (λe s'=>R (Except.error e) s') s:=by
 unfold v4.«list.__init__»;refine Aa (wpAny_listItems hS rfl ?_);refine Aa ?_;refine Cw hS rfl ?_ (by simp) (by simp);refine Aa (Ct ?_);have k1:∀b o,b≠S->s.heap.get? b=ap o->(s.heap.update S (Bm λ_=>#[])).get? b=ap o:=λb o hb e=>by rw [BI _ _ (BB hb)];exact e
 have hS1:=BS (Bm λ_=>#[]) hS rfl;generalize s.heap.update S (Bm λ_=>#[])=h1 at k1 hS1 ⊢;have Đ:h1.IsRevIter r l (items.size-1):=let ⟨o,e,p⟩:=h;⟨o,k1 _ _ (BB ļ) e,p⟩;have ĵ:h1.IsList l items:=let ⟨o,e,p⟩:=hl;⟨o,k1 _ _ (BB hSl) e,p⟩;unfold Builtin.List.listExtendWith;refine Aa (Cu (T:="list_reverseiterator") Đ.typeIs ?_);rw [if_neg (by
  have e1:Builtin.List.listSameRef (Ay S) (Ay r)=false:=by
   unfold Builtin.List.listSameRef;simpa using ļ
  rw [e1];decide)]
 refine Aa (wpAny_pyIter_revIter Đ ?_);refine Aa (Bf (Qk Đ ?_));rw [if_neg ⋯];refine Ae ⟨ut F.plain_extend_loop _,?_⟩;refine codeAny_extend_loopS (Walks.toS (Walks.listRev (A:=A.in1) hA r l T9 items)) hz S (by simp [ļ,hSl]) .none items.size 0 _ #[] _ (Fv _) (Bd _) ⟨Bd _,by simpa using Đ,ĵ⟩ hS1 (ItemsOf.nil _) ?_;intro s' Æ c mv e io;rw [mv.eq_with];exact q s'.heap s'.toks Æ c (λb o n1 n2 e'=>mv.heap b o (by simp [n1,n2]) (k1 b o n1 e')) e io
def vC {r:ce} (hA:A.handled=bm) (h:s.heap.IsRevIter r l (items.size-1)) (hl:s.heap.IsList l items) (T9:l≠r) (hz:items.size<=sizeLine)
  (q:∀(h':lf) (tk:Nat) (Æ:Array bn) (c:Nat),(∀b o,b≠r->s.heap.get? b=ap o->h'.get? b=ap o)->h'.get? s.heap.objs.size=ap {cls:=BU "list",data:=E3 Æ c}->ItemsOf (λi v=>items[items.size-1-i]?=ap v) Æ items.size->Q (.ref s.heap.objs.size) {s with heap:=h',toks:=tk}) :
  db (dL prog w) A (call (BU "list") [Ay r]) Q E s:=by
 have lr:=let ⟨_,e,_⟩:=h;Ar e;have ll:=let ⟨_,e,_⟩:=hl;Ar e;refine callType_codes F.called_list (F.typeCall_list_1 _) F.entry_list_init (code_list_new (Q₁:=λv s₁=>v=.ref s.heap.objs.size/\s₁={s with heap:=s.heap.push {cls:=BU "list",data:=E3 #[]}}) _ ⟨rfl,rfl⟩) ?_;rintro obj s₁ ⟨rfl,rfl⟩;refine⟨⟨_,Ap _ rfl,rfl⟩,F.args_list_init_2 _ _,?_⟩;have kp:∀b o,s.heap.get? b=ap o->(s.heap.push {cls:=BU "list",data:=E3 #[]}).get? b=ap o:=λb o e=>Ag _ e;refine vc (A:=A.in1) (items:=items) (l:=l) hA (let ⟨o,e,p⟩:=h;⟨o,kp _ _ e,p⟩) (let ⟨o,e,p⟩:=hl;⟨o,kp _ _ e,p⟩) T9 (λz=>by rw [z] at lr;exact AX _ lr) (λz=>by rw [z] at ll;exact AX _ ll) hz (Ap _ rfl) ?_;intro h' tk Æ c k e io;exact⟨rfl,q h' tk Æ c (λb o n e'=>k b o (λz=>by rw [z] at e';exact AX _ (Ar e')) n (kp b o e')) e io⟩
def tLR (K:Ab) (te:TE):TE:=λσ H Q=>te σ H λx H1=>∃p ys,x=.ref p/\c9 K H1 p ys/\kW H1 (.lst ys.reverse) Q
section
variable (K:Ab) (hK:X.K=K) {q1 q2:Pos}
include hK
theorem Iq (hc:X.calm=true) (ĸ:Gl X "list") (Ĕ:X.mg "list"=bm) (ķ:Gl X "reversed") (Zd:X.mg "reversed"=bm) (he:PE X e te)
  (HI:f8 [.Call (.Name "reversed" q1) [e] [] q2] X.env=(false,kw (.Call (.Name "reversed" q1) [e] [] q2) X.env)::f8 [] X.env:=by rfl) (rR:ic X e []:=by rfl) :
  PE X (.Call (.Name "list" p1) [.Call (.Name "reversed" q1) [e] [] q2] [] p2) (tLR K te):=by
 intro À s σ H Q I h;subst hK;refine BD (iL I ĸ Ĕ boot_list ?_ ⋯ ⋯);refine Bh ?_ HI rfl;refine Cf ?_;refine BD (iL I ķ Zd boot_reversed ?_ ⋯ ⋯);refine Bh ?_ rR rfl;rw [rR];refine Cf (bT (he À s σ H _ I h) λu s1 ⟨x,H1,I1,r1,pa,ys,ex,hS,q⟩=>CF ?_);subst ex;cases r1;obtain⟨ar,rv,pl,hz⟩:=I1.list hS;have Â:=rv.length;have lp:=let ⟨_,e,_⟩:=pl.isList;Ar e;refine call_reversed_list pl.isList ?_;refine CF ?_;have kp:∀b o,s1.heap.get? b=ap o->(s1.heap.push (revObj pa (ar.toArray.size-1))).get? b=ap o:=λb o e=>Ag _ e;refine vC (items:=ar.toArray) (l:=pa) (r:=s1.heap.objs.size) (I1.ok.hd hc) ⟨_,Ap _ rfl,rfl,rfl⟩ (let ⟨o,e,p⟩:=pl.isList;⟨o,kp _ _ e,p⟩) (λz=>by rw [z] at lp;exact AX _ lp) (by rw [Ai];omega) ?_;intro h' tk Æ c k e io;have kk:∀b o,s1.heap.get? b=ap o->h'.get? b=ap o:=λb o eb=>k b o (λz=>by rw [z] at eb;exact AX _ (Ar eb)) (kp b o eb);have ea:Æ=ar.reverse.toArray:=by
  obtain⟨z1,z2⟩:=io;apply Array.ext
  ·rw [z1,Ai,Ai,BL]
  ·intro j h1 h2;have:=z2 j Æ[j] (CU h1);rw [Ai] at this;have hj:j < ar.length:=by rw [z1,Ai] at h1;exact h1
   rw [EY] at this;have e3:ar.reverse[j]?=ap Æ[j]:=by rw [List.getElem?_reverse hj];exact this
   rw [Dx];exact (Option.some.inj (((Ad (by rw [BL];exact hj)).symm.trans e3))).symm
 subst ea;have rR:s1.heap.objs.size<=(s1.heap.push (revObj pa (ar.toArray.size-1))).objs.size:=by simp [Heap.push]
 refine⟨.ref _,upd H1 _ (.lst ys.reverse),I1.laid (t':=tk) kk rR ?_,rfl,q.at _ (I1.bA.fresh rR)⟩;exact⟨by rw [BL];exact hz,ar.reverse,c,rv.sQ,e⟩
end
end L2
namespace My
open PySem PySem.Spec PyProof.Rows L2
def Wd (x:Str):Prop:=1<=x.length/\x.length<=8/\∀c∈x.cps.toList,97<=c/\c < 123
def Part (x:Str) (n:Nat):Prop:=x.length<=n/\∀c∈x.cps.toList,97<=c/\c < 123
theorem vd {d st:Int} (h:st=1\/st=3\/st=5\/st=7\/st=9\/st=11) (hn:n<=26):((AJ n).map λk:Nat=>ap (97+((d+st*(0+(k:Int))) % 26).toNat)).Nodup:=by
 unfold List.Nodup;rw [Ef];refine List.Pairwise.imp_of_mem ?_ C9;intro a b ha hb Qr hz;have Ė:=A6.mp hb;have M4:=Option.some.inj hz;rcases h with rfl | rfl | rfl | rfl | rfl | rfl <;> omega
def xI {g:α->β}{l:List α} (h:(l.map g).Nodup):l.Nodup:=(Ef.mp h).imp λh e=>h (congrArg g e)
def IP:∀k:_root_.Fin 26,dC ("abcdefghijklmnopqrstuvwxyz":Str).cps.toList (k.val:Int)=ap (97+k.val):=by decide +kernel
theorem MJ {n:Int} (h0:0<=n) (h1:n < 26):dC ("abcdefghijklmnopqrstuvwxyz":Str).cps.toList n=ap (97+n.toNat):=by
 have e:=IP ⟨n.toNat,by omega⟩;have e2:((n.toNat:Nat):Int)=n:=by omega
 rw [e2] at e;exact e
inductive Tr where
 | leaf (x:Str)
 | node (l r:Tr)
def Tr.ay:Tr->List Str
 | .leaf x=>[x]
 | .node l r=>l.ay++r.ay
def Tr.size:Tr->Nat
 | .leaf _=>1
 | .node l r=>l.size+r.size+1
def Tr.depth:Tr->Nat
 | .leaf _=>0
 | .node l r=>max l.depth r.depth+1
def Tr.Ws (t:Tr):Prop:=∀x∈t.ay,Wd x
theorem Tr.jK:∀t:Tr,1<=t.ay.length
 | .leaf _=>An _
 | .node l r=>by have:=l.jK;show 1<=(l.ay++r.ay).length;rw [Ah];omega
theorem Tr.oW:∀t:Tr,t.depth < t.ay.length
 | .leaf _=>Eo 0
 | .node l r=>by
  have h1:=l.oW;have h2:=r.oW;have h3:=l.jK;have h4:=r.jK;show max l.depth r.depth+1 < (l.ay++r.ay).length;rw [Ah];omega
theorem Tr.size_eq:∀t:Tr,t.size+1=2*t.ay.length
 | .leaf _=>rfl
 | .node l r=>by
  have h1:=l.size_eq;have h2:=r.size_eq;show l.size+r.size+1+1=2*(l.ay++r.ay).length;rw [Ah];omega
def fc (ts:List Tr):Nat:=(ts.map Tr.size).sum
def gr (a b:List Tr):fc (a++b)=fc a+fc b:=by unfold fc;rw [Aw,List.sum_append]
def pN (t:Tr):fc [t]=t.size:=by simp [fc]
theorem Tr.size_pos:∀t:Tr,1<=t.size
 | .leaf _=>An _
 | .node l r=>by show 1<=l.size+r.size+1;omega
theorem vY:∀ts:List Tr,ts.length<=fc ts
 | []=>An _
 | t::r=>by have:=vY r;have:=t.size_pos;show r.length+1<=t.size+fc r;omega
def Tr.post:Tr->List Tr
 | .leaf x=>[.leaf x]
 | .node l r=>l.post++r.post++[.node l r]
def Tr.kS:∀t:Tr,t.post.length=t.size
 | .leaf _=>rfl
 | .node l r=>by show (l.post++r.post++[_]).length=l.size+r.size+1;rw [Ah,Ah,l.kS,r.kS];rfl
def i8 (ts:List Tr):List Tr:=(ts.map Tr.post).flatten
def jD (a b:List Tr):i8 (a++b)=i8 a++i8 b:=by unfold i8;rw [Aw,List.flatten_append]
def pT (t:Tr):i8 [t]=t.post:=by simp [i8]
def Mo (t u:Tr):i8 [t,u]=t.post++u.post:=by simp [i8]
inductive Ent where
 | word (x:Str)
 | pair (a b:Nat)
def Tr.nd:Tr->Nat->List Ent
 | .leaf x,_=>[.word x]
 | .node l r,o=>l.nd o++r.nd (o+l.size)++[.pair (o+l.size-1) (o+l.size+r.size-1)]
def Tr.bc:∀(t:Tr) (o:Nat),(t.nd o).length=t.size
 | .leaf _,_=>rfl
 | .node l r,o=>by show (l.nd o++r.nd (o+l.size)++[_]).length=l.size+r.size+1;rw [Ah,Ah,l.bc,r.bc];rfl
def run:List Tr->List Ent->List Nat->Option (List Ent×List Nat)
 | [],Á,ls=>ap (Á,ls)
 | .leaf x::k,Á,ls=>run k (Á++[.word x]) (Á.length::ls)
 | .node _ _::k,Á,b::a::ls=>run k (Á++[.pair a b]) (Á.length::ls)
 | .node _ _::_,_,_=>bm
theorem sN:∀(t:Tr) (k:List Tr) (Á:List Ent) (ls:List Nat),run (t.post++k) Á ls=run k (Á++t.nd Á.length) ((Á.length+t.size-1)::ls)
 | .leaf x,k,Á,ls=>rfl
 | .node l r,k,Á,ls=>by
  have e1:(Tr.node l r).post++k=l.post++(r.post++(Tr.node l r::k)):=by show l.post++r.post++[_]++k=_;simp
  rw [e1,sN l,sN r];have e2:(Á++l.nd Á.length).length=Á.length+l.size:=by rw [Ah,l.bc]
  rw [e2];show run k _ _=run k _ _;have e3:(Á++l.nd Á.length++r.nd (Á.length+l.size)).length=Á.length+(Tr.node l r).size-1:=by
   rw [Ah,Ah,l.bc,r.bc];show _=Á.length+(l.size+r.size+1)-1;omega
  rw [e3];have e4:Á++(Tr.node l r).nd Á.length=Á++l.nd Á.length++r.nd (Á.length+l.size)++[.pair (Á.length+l.size-1) (Á.length+l.size+r.size-1)]:=by
   show Á++(l.nd Á.length++r.nd (Á.length+l.size)++[_])=_;simp
  rw [e4]
def Ml (t:Tr):run t.post [] []=ap (t.nd 0,[t.size-1]):=by
 have:=sN t [] [] [];rw [Cz] at this;rw [this];show ap ([]++t.nd 0,[0+t.size-1])=_;simp
end My
variable {xs:List L2.V}{x:A5}{σ:L2.St}{i:Nat}
namespace L2
open PySem PySem.Spec PyProof.Rows
def iy {t:ce} (h:s.heap.IsTupleIter it t i) (ht:s.heap.IsTuple t items) (hx:items[i]?=ap x)
  (q:∀h':lf,h'.IsTupleIter it t (i+1)->B9 it s.heap h'->Q x {s with heap:=h'}):db (dL prog w) A (Builtin.SmallTypes.nextOf (.ref it)) Q E s:=by
 unfold Builtin.SmallTypes.nextOf;refine Aa (AU h.typeIs Ce (Bb Ce h.typeIs DL ?_ (DA _)));obtain⟨o,ho,hc,hd⟩:=id h;obtain⟨ot,ĳ,htc,n,ĭ⟩:=id ht;show db _ _ (field (.ref it) 0 >>= λseq=>_) _ _ s;refine Aa (AY ho hd rfl ?_);refine Aa (AY ho hd rfl ?_);refine Aa (Bs ĳ ĭ ?_);show db _ _ (match items[i]? with | some x=>(do ww (.ref it) 1 (t0 ((i:Int)+1));ret x) | none=>_) _ _ s;rw [hx];refine Aa (DZ ho hd (show 1 < 2 by decide) ?_);refine Ae ⟨x,rfl,Ae (q _ ⟨_,BS _ ho (by rw [ET (C1 hd _)]),by rw [Obj.cls_mapFields];exact hc,by rw [C1 hd];rfl⟩ (B9.update ..))⟩
def R6 {Q:α->cr->Prop} (hA:A.handled=bm)
  (q:∀(h':lf) (e:ce),(∀b o,s.heap.get? b=ap o->h'.get? b=ap o)->(∃o,h'.get? e=ap o/\o.cls=.type "StopIteration")->E (.ref e) {s with heap:=h'}):db (dL prog w) A (Builtin.SmallTypes.stopIteration (α:=α)) Q E s:=by
 refine Aa ?_;refine Aa (CN ?_ (by show 0<=sizeLine;decide));refine Aa (Cs (a:=AR) rfl ?_);refine AO ?_ (sizeOk_excFields ..);unfold raiseNew;refine Aa (wpAny_handled ?_);rw [hA];refine wpAny_throw (q _ _ (λb o e=>Ag _ (Ag _ e)) ⟨_,Ap _ rfl,rfl⟩)
def i9 {t:ce} (hA:A.handled=bm) (h:s.heap.IsTupleIter it t i) (ht:s.heap.IsTuple t items) (hx:items[i]?=bm)
  (q:∀(h':lf) (e:ce),FD it s.heap h'->(∃o,h'.get? e=ap o/\o.cls=.type "StopIteration")->E (.ref e) {s with heap:=h'}):db (dL prog w) A (Builtin.SmallTypes.nextOf (.ref it)) Q E s:=by
 unfold Builtin.SmallTypes.nextOf;refine Aa (AU h.typeIs Ce (Bb Ce h.typeIs DL ?_ (DA _)));obtain⟨o,ho,hc,hd⟩:=id h;obtain⟨ot,ĳ,htc,n,ĭ⟩:=id ht;show db _ _ (field (.ref it) 0 >>= λseq=>_) _ _ s;refine Aa (AY ho hd rfl ?_);refine Aa (AY ho hd rfl ?_);refine Aa (Bs ĳ ĭ ?_);show db _ _ (match items[i]? with | some x=>(do ww (.ref it) 1 (t0 ((i:Int)+1));ret x) | none=>(do rule _;ww (.ref it) 0 .none;Builtin.SmallTypes.stopIteration)) _ _ s;rw [hx];refine Aa (CM ?_);refine Aa (DZ ho hd (show 0 < 2 by decide) ?_);refine R6 (A:=A.in1) hA λh' e k ex=>q h' e (λb o n eb=>k b o ?_) ex;rw [(B9.update _ _ _).2 b n];exact eb
def Inv.sC {t':Nat}{a:ce} (I:Inv X À σ H s) (hf:∀b∈ch,vG X À H b) (k:∀b u,b∉ch->s.heap.get? b=ap u->h'.get? b=ap u)
  (hp:s.heap.objs.size<=a) (new:a9 X.prog X.w (upd H a o) h' a o):Inv X À σ (upd H a o) {s with heap:=h',toks:=t'}:=by
 have hn:=I.bA.fresh hp;have Vi:∀b u,H b=ap u->b∉ch:=λb u e z=>by rw [(hf b z).1] at e;cases e
 have nL:X.env.locals∉ch:=λz=>(hf _ z).2.1 rfl;refine I.step (g':=s.gens) (d':=s.drawn) (ch:=ch) (λb hb=>⟨(hf b hb).2.2.2.1,(hf b hb).2.1,(hf b hb).2.2.2.2.1,(hf b hb).2.2.2.2.2⟩) (λb u _ _ hc e _=>k b u hc e) (λb u _ _ hc e _=>⟨u.slots,k b u hc e⟩)
  (λb u _ e n=>by rw [av (AA (AG (Ar e) hp))];exact n) (λb u hc e=>⟨u,k b u hc e⟩) (λb xs e=>by rw [av (bz e hn)];exact e) (λb u xs e=>by rw [av (bz e hn)];exact e)
  (λb ps e=>⟨#[],by rw [av (bz e hn),e];simp⟩) (λm hm=>?_) (λb u e=>?_) I.bare
 ·obtain⟨o',es,ep,ho,r⟩:=hm;exact⟨o',es,ep,k _ o' nL ho,r⟩
 ·by_cases hb:b=a
  ·subst hb;rw [aM] at e;cases e;exact new
  ·rw [av hb] at e;refine (I.bA b u e).xk (λc v hc q=>k c v ?_ q) (λc q=>by rw [av (bz q hn)];exact q) λc xs q=>by rw [av (bz q hn)];exact q
   rcases hc with z | z
   ·rw [z];exact Vi b u e
   ·exact Vi c _ z
def Inv.xf {t':Nat} (I:Inv X À σ H s) (hf:∀b∈ch,vG X À H b) (k:∀b u,b∉ch->s.heap.get? b=ap u->h'.get? b=ap u) :
  Inv X À σ H {s with heap:=h',toks:=t'}:=by
 have Vi:∀b u,H b=ap u->b∉ch:=λb u e z=>by rw [(hf b z).1] at e;cases e
 have nL:X.env.locals∉ch:=λz=>(hf _ z).2.1 rfl;refine I.step (g':=s.gens) (d':=s.drawn) (ch:=ch) (λb hb=>⟨(hf b hb).2.2.2.1,(hf b hb).2.1,(hf b hb).2.2.2.2.1,(hf b hb).2.2.2.2.2⟩) (λb u _ _ hc e _=>k b u hc e) (λb u _ _ hc e _=>⟨u.slots,k b u hc e⟩)
  (λ_ _ _ _ n=>n) (λb u hc e=>⟨u,k b u hc e⟩) (λ_ _ e=>e) (λ_ _ _ e=>e) (λb ps e=>⟨#[],by rw [e];simp⟩) (λm hm=>?_) (λb u e=>?_) I.bare
 ·obtain⟨o',es,ep,ho,r⟩:=hm;exact⟨o',es,ep,k _ o' nL ho,r⟩
 ·refine (I.bA b u e).xk (λc v hc q=>k c v ?_ q) (λ_ q=>q) λ_ _ q=>q;rcases hc with z | z
  ·rw [z];exact Vi b u e
  ·exact Vi c _ z
def nG (h:Vals xs us):∀{i:Nat}{x:V},xs[i]?=ap x->∃u,us[i]?=ap u/\RelV x u:=by
 induction h with
 | nil=>intro i x e;simp at e
 | cons r t ih=>
  intro i x e;cases i with
  | zero=>simp at e;subst e;exact⟨_,rfl,r⟩
  | succ i=>exact ih (by simpa using e)
end L2
variable {e:BC}{Í:A5}{Ï:List B7}
namespace L2
open PySem PySem.Spec PyProof.Rows
def rk {E:bn->cr->Prop}{t:ce} (NU:e≠it) (Ď:t≠e) (T3:t≠it)
  (hz:IsEnum s.heap e it i Í) (hi:s.heap.IsTupleIter it t i) (ht:s.heap.IsTuple t items) (hx:items[i]?=ap x)
  (q:∀(h':lf) (tk:Nat),IsEnumOut h' e it (i+1:Nat) x s.heap.objs.size->h'.IsTupleIter it t (i+1)->IsPair h' s.heap.objs.size (.int i s.toks) x->(∀c o,c≠e->c≠it->s.heap.get? c=ap o->h'.get? c=ap o)->Q (.ref s.heap.objs.size) {s with heap:=h',toks:=tk}) :
  db (dL prog w) A (v4.«enumerate.__next__» {pos:=[.ref e]}) (λfin s'=>∃v,fin=E2 (FG v)/\Q v s') E s:=by
 show db _ _ (field (.ref e) 2 >>= λr=>_) _ _ s;refine Aa (AY hz rfl rfl ?_);refine Aa (iy hi ht hx λh1 j1 b1=>?_);have z1:=(b1.2 _ NU).trans hz;refine Aa (AY z1 rfl rfl ?_);refine Aa (AY z1 rfl rfl ?_);refine Aa (wpAny_mkInt ?_);refine Aa (A3 z1 (show 3 < 6 by decide) λh2 z2 b2=>?_);refine Aa (A3 z2 (show 4 < 6 by decide) λh3 z3 b3=>?_);have sz3:=b3.1.trans (b2.1.trans b1.1);have Î:∀b,b≠e->b≠it->h3.get? b=s.heap.get? b:=λb n1 n2=>(b3.2 b n1).trans ((b2.2 b n1).trans (b1.2 b n2));refine Aa (CN ?_ (by show 2<=sizeLine;decide));have kp:∀b o,h3.get? b=ap o->(h3.push {cls:=.type "tuple",data:=.seq [DQ i s.toks,x].toArray}).get? b=ap o:=λb o e=>Ag _ e;have Xr:(h3.push {cls:=.type "tuple",data:=.seq [DQ i s.toks,x].toArray}).get? h3.objs.size=ap {cls:=.type "tuple",data:=.seq #[.int i s.toks,x]}:=Ap _ rfl;generalize h3.push {cls:=.type "tuple",data:=.seq [DQ i s.toks,x].toArray}=h4 at kp Xr ⊢;have z4:h4.get? e=ap {cls:=.type "enumerate",data:=.fields #[.none,.bool false,.ref it,t0 (i+1),.none,Í]}:=kp _ _ z3;refine Aa ?_;refine Aa (AY z4 rfl rfl ?_);refine Ae ?_;refine Aa (CM ?_);refine Aa (AY z4 rfl rfl ?_);refine Aa (A3 z4 (show 5 < 6 by decide) λh5 z5 b5=>?_);refine Aa ?_;refine Aa (A3 z5 (show 0 < 6 by decide) λh6 z6 b6=>?_);refine A3 z6 (show 1 < 6 by decide) λh7 z7 b7=>?_;refine Aa (Ct ?_);have Yi:∀b,b≠e->h7.get? b=h4.get? b:=λb n=>(b7.2 b n).trans ((b6.2 b n).trans (b5.2 b n));have ne:s.heap.objs.size≠e:=λz=>by have:=Ar hz;rw [<- z] at this;exact AX _ this
 refine Ae ⟨.ref h3.objs.size,rfl,?_⟩;rw [sz3] at z7 Xr ⊢;refine q h7 _ ?_ ?_ ?_ ?_
 ·exact z7
 ·obtain⟨o,eo,p⟩:=j1;refine⟨o,?_,p⟩;rw [Yi _ (BB NU)];exact kp _ _ ((b3.2 _ (BB NU)).trans ((b2.2 _ (BB NU)).trans eo))
 ·rw [IsPair,Yi _ ne];exact Xr
 ·intro c o n1 n2 ec;rw [Yi _ n1];exact kp _ _ ((Î _ n1 n2).trans ec)
def uj {t:ce}{Q:PySem.Fin->cr->Prop} (hA:A.handled=bm)
  (hz:IsEnum s.heap e it i Í) (hi:s.heap.IsTupleIter it t i) (ht:s.heap.IsTuple t items) (hx:items[i]?=bm)
  (q:∀(h':lf) (x:ce),(∀c o,c≠it->s.heap.get? c=ap o->h'.get? c=ap o)->(∃o,h'.get? x=ap o/\o.cls=.type "StopIteration")->E (.ref x) {s with heap:=h'}) :
  db (dL prog w) A (v4.«enumerate.__next__» {pos:=[.ref e]}) Q E s:=by
 show db _ _ (field (.ref e) 2 >>= λr=>_) _ _ s;refine Aa (AY hz rfl rfl ?_);exact Aa (i9 hA hi ht hx λh' x k ex=>q h' x (λc o n e'=>k c o n e') ex)
def nW {t:ce}{Q:Option bn->cr->Prop} (NU:e≠it) (Ď:t≠e) (T3:t≠it)
  (hz:IsEnum s.heap e it i Í) (hi:s.heap.IsTupleIter it t i) (ht:s.heap.IsTuple t items) (hx:items[i]?=ap x)
  (q:∀(h':lf) (tk:Nat),IsEnumOut h' e it (i+1:Nat) x s.heap.objs.size->h'.IsTupleIter it t (i+1)->IsPair h' s.heap.objs.size (.int i s.toks) x->(∀c o,c≠e->c≠it->s.heap.get? c=ap o->h'.get? c=ap o)->Q (ap (.ref s.heap.objs.size)) {s with heap:=h',toks:=tk}) :
  db (dL prog w) A (pyNext (.ref e)) Q E s:=by
 have ty:s.TypeIs (.ref e) "enumerate":=⟨_,hz,rfl⟩;refine Aa (CZ (AU ty CB (Bb CB ty Eu ?_ (En _))));exact rk NU Ď T3 hz hi ht hx λh' tk a b c d=>Ae (q h' tk a b c d)
def pS {t:ce}{Q:Option bn->cr->Prop} (hA:A.handled=bm)
  (hz:IsEnum s.heap e it i Í) (hi:s.heap.IsTupleIter it t i) (ht:s.heap.IsTuple t items) (hx:items[i]?=bm)
  (q:∀h':lf,(∀c o,c≠it->s.heap.get? c=ap o->h'.get? c=ap o)->Q bm {s with heap:=h'}) :
  db (dL prog w) A (pyNext (.ref e)) Q E s:=by
 have ty:s.TypeIs (.ref e) "enumerate":=⟨_,hz,rfl⟩;refine Aa (CZ (AU ty CB (Bb CB ty Eu ?_ (En _))));refine uj (A:=A.in1) hA hz hi ht hx λh' x k ex=>?_;obtain⟨o,eo,hc⟩:=ex;refine Aa (Dk (T:="StopIteration") ⟨o,eo,hc⟩ isSubtype_stop ?_);exact Ae (q h' k)
def qW (t:ce) (items:Array bn):Meets (v4.«enumerate.__new__» {pos:=[.type "enumerate",.ref t]}) (λ_ R s=>s.heap.IsTuple t items/\
  ∀h':lf,IsEnum h' (s.heap.objs.size+1) s.heap.objs.size (0:Nat) .none->h'.IsTupleIter s.heap.objs.size t 0->(∀b o,s.heap.get? b=ap o->h'.get? b=ap o)->R (.ok (.ret (.ref (s.heap.objs.size+1)))) {s with heap:=h'}):=
 .of_wp λprog w A R s h=>by
  obtain⟨h1,q⟩:=h;refine Aa ?_;refine Aa (Cs (a:=true) rfl ?_);refine Aa (Cs sub_enumerate ?_);refine Ae ?_;refine Aa ?_;refine Aa (wpAny_stack_any λst=>Ae ?_);have fin:db (dL prog w) A.in1 (pyIter (.ref t) >>= λit=>(Builtin.SmallTypes.newRecord (.type "enumerate") (Builtin.SmallTypes.ownedTupleFields++[it,t0 0,.none,.none]) >>= λr=>ret r)) (λfin s'=>∃v,fin=E2 (FG v)/\R (Except.ok (FG v)) s') (λe s'=>R (Except.error e) s') s:=by
   refine Aa (D1 h1 ?_);have k1:∀b o,s.heap.get? b=ap o->(s.heap.push {cls:=.type "tuple_iterator",data:=.fields #[.ref t,.int 0 0]}).get? b=ap o:=λb o e=>Ag _ e;have g1:(s.heap.push {cls:=.type "tuple_iterator",data:=.fields #[.ref t,.int 0 0]}).get? s.heap.objs.size=ap {cls:=.type "tuple_iterator",data:=.fields #[.ref t,.int 0 0]}:=Ap _ rfl;have z1:(s.heap.push {cls:=.type "tuple_iterator",data:=.fields #[.ref t,.int 0 0]}).objs.size=s.heap.objs.size+1:=Cn ..;generalize s.heap.push {cls:=.type "tuple_iterator",data:=.fields #[.ref t,.int 0 0]}=yr at k1 g1 z1 ⊢;show db _ _ (newObj (.type "enumerate") (.fields #[.none,.bool false,.ref s.heap.objs.size,t0 0,.none,.none]) >>= λr=>ret r) _ _ _;refine Aa (AO ?_ (by simp [sizeOk];decide));have g2:(yr.push {cls:=.type "enumerate",data:=.fields #[.none,.bool false,.ref s.heap.objs.size,t0 0,.none,.none]}).get? yr.objs.size=ap {cls:=.type "enumerate",data:=.fields #[.none,.bool false,.ref s.heap.objs.size,t0 0,.none,.none]}:=Ap _ rfl;refine Ae ⟨.ref yr.objs.size,rfl,?_⟩;rw [z1] at g2 ⊢;exact q _ g2 ⟨_,Ag _ g1,rfl,rfl⟩ λb o e=>Ag _ (k1 _ _ e)
  refine wpAny_ite_split (λ_=>?_) (λ_=>?_)
  ·exact Aa (Cs (a:=(Ay t,bm)) rfl fin)
  ·exact Aa (Cs (a:=(Ay t,bm)) rfl fin)
def JY {t:ce} (h1:s.heap.IsTuple t items)
  (q:∀h':lf,IsEnum h' (s.heap.objs.size+1) s.heap.objs.size (0:Nat) .none->h'.IsTupleIter s.heap.objs.size t 0->(∀b o,s.heap.get? b=ap o->h'.get? b=ap o)->Q (.ref (s.heap.objs.size+1)) {s with heap:=h'}) :
  db (dL prog w) A (call (.type "enumerate") [.ref t]) Q E s:=
 callType_new F.called_enumerate ⋯ (F.typeCall_enumerate_1 _) (F.newCall_enumerate_1 _) (λo=>F.args_object_init_2 o _) F.entry_enumerate_new (qW t items) ⟨h1,λh' z i k=>⟨⟨_,z,rfl⟩,q h' z i k⟩⟩
def Ite (K:Ab) (a:ce):It where
 go:=λi H=>∃xs x,dX K H a xs/\xs[i]?=ap x
 U2:=λi H v H'=>∃p x,v=.ref p/\H p=bm/\H'=upd H p (.tup [.int i,x])/\∀xs,dX K H a xs->xs[i]?=ap x
 stop:=λi H=>∃xs,dX K H a xs/\xs.length<=i
theorem L4 {K:Ab}{kk:Nat}{t:ce} (NU:e≠it) (Ď:t≠e) (T3:t≠it):Turn P w K (.Tuple Ï kk pos) (Ite K t) [e,it] e (λi h=>(∃Í,IsEnum h e it (i:Nat) Í)/\h.IsTupleIter it t i) where
 mem:=by simp
 obj:=λi h st b hb=>by
  simp only [Ax,Bv,or_false] at hb;rcases hb with rfl | rfl
  ·obtain⟨⟨_,e⟩,_⟩:=st;exact⟨_,e,λv z=>by cases z⟩
  ·obtain⟨_,⟨o,e,_,d⟩⟩:=st;exact⟨o,e,λv z=>by rw [d] at z;cases z⟩
 keep:=λi h h' st k=>⟨let ⟨o,e'⟩:=st.1;⟨o,k e (by simp) _ e'⟩,let ⟨o,e',p⟩:=st.2;⟨o,k it (by simp) _ e',p⟩⟩
 item:=by
  intro X hP hw hK hc i À s σ H E I hf st hg;subst hP hw hK;obtain⟨xs,x,hx,gx⟩:=hg;obtain⟨ar,rx,tx,_⟩:=I.tuple hx;obtain⟨u,gu,ru⟩:=nG rx gx;obtain⟨⟨Í,hz⟩,hi⟩:=st;refine nW NU Ď T3 hz hi tx (by simpa using gu) λh' tk zo j np k=>?_;refine⟨_,rfl,?_⟩;refine D2 zo λh2 z2 b2=>?_;have le:=Ar hz;have li:=let ⟨_,e',_⟩:=hi;Ar e';have lt:∀b∈[e,it],b < s.heap.objs.size:=λb hb=>by
   simp only [Ax,Bv,or_false] at hb;rcases hb with rfl | rfl
   ·exact le
   ·exact li
  have nz:s.heap.objs.size≠e:=λz=>AX _ (by have:=le;rw [<- z] at this;exact this);have ï:∀b o,b∉[e,it]->s.heap.get? b=ap o->h2.get? b=ap o:=λb o hb e'=>by
   have M4:b≠e:=λq=>hb (by simp [q]);rw [b2.2 b M4];exact k b o M4 (λq=>hb (by simp [q])) e'
  have ë:h2.get? s.heap.objs.size=ap {cls:=.type "tuple",data:=.seq #[.int i s.toks,u]}:=(b2.2 _ nz).trans np;have ø:=I.bA.fresh (An s.heap.objs.size);refine⟨.ref s.heap.objs.size,upd H s.heap.objs.size (.tup [.int i,x]),I.sC (t':=tk) hf ï (An _) ⟨by show 2<=sizeLine;decide,[.int i s.toks,u],.cons ⟨_,rfl⟩ (.cons ru .nil),⟨_,ë,rfl,_,rfl⟩⟩,rfl,⟨_,x,rfl,ø,rfl,λxs' h'=>by rw [I.lN h' hx];exact gx⟩,⟨⟨_,z2⟩,let ⟨o,e',p⟩:=j;⟨o,(b2.2 _ (BB NU)).trans e',p⟩⟩,λb hb=>?_⟩;rw [av (AA (lt b hb))];exact (hf b hb).1
 done:=by
  intro X hP hw hK hc i À s σ H E I hf st hg;subst hP hw hK;obtain⟨xs,hx,hl⟩:=hg;obtain⟨ar,rx,tx,_⟩:=I.tuple hx;have el:=rx.length;obtain⟨⟨Í,hz⟩,hi⟩:=st;refine pS (I.ok.hd hc) hz hi tx (by simp;omega) λh' k=>⟨rfl,I.xf (t':=s.toks) hf λb o hb e'=>k b o (λz=>hb (by simp [z])) e'⟩
 self:=λA i s Q E st h=>let ⟨_,e'⟩:=st.1;C5 e' h
end L2
namespace My
open PySem PySem.Spec PyProof.Rows L2
def Rq (l:List V) (i:Nat):Ent->List V
 | .word _=>l
 | .pair a b=>(l.set a (.int i)).set b (.int i)
def ah:List Ent->Nat->List V->List V
 | [],_,l=>l
 | e::es,i,l=>ah es (i+1) (Rq l i e)
theorem zx:∀(es:List Ent) (e:Ent) (i:Nat) (l:List V),ah (es++[e]) i l=Rq (ah es i l) (i+es.length) e
 | [],e,i,l=>rfl
 | x::es,e,i,l=>by
  show ah (es++[e]) (i+1) (Rq l i x)=Rq (ah es (i+1) (Rq l i x)) (i+(es.length+1)) e;rw [zx es e];congr 1;omega
def UM (l:List V) (i:Nat) (e:Ent):(Rq l i e).length=l.length:=by cases e with
 | word=>rfl
 | pair=>show ((l.set _ _).set _ _).length=_;rw [BO,BO]
theorem J4:∀(es:List Ent) (i:Nat) (l:List V),(ah es i l).length=l.length
 | [],_,_=>rfl
 | e::es,i,l=>by show (ah es (i+1) (Rq l i e)).length=_;rw [J4 es,UM]
end My
namespace L2
open PySem PySem.Spec PyProof.Rows
def Itd (lo:Int) (n:Nat):It:=⟨λi _=>i < n,λi H x H'=>H'=H/\x=.int (lo-i),λi _=>n<=i⟩
theorem Fl {K:Ab} (it:ce) (lo:Int) (n:Nat):Turn P w K tg (Itd lo n) [it] it (λi h=>IsRangeIter h it (lo+(i:Nat)*(-1)) ((n:Int)-(i:Nat)) (-1)) where
 mem:=by simp
 obj:=λi h st b hb=>by
  have e:b=it:=by simpa using hb
  subst e;exact⟨_,st,λv z=>by
   have z':=z;cases z'⟩
 keep:=λi h h' st k=>k it (by simp) _ st
 item:=by
  intro X hP hw hK hc i À s σ H E I hf st hg;subst hP hw hK;obtain⟨f0,f1,f2,f3,f4,f5⟩:=hf it (by simp);have W:=Walks.range (prog:=X.prog) (w:=X.w) (I.ok.hd hc) it lo (-1) n;refine W.item i s _ _ hg st λv h' tk hv rF kk=>?_;obtain⟨t,rfl⟩:=hv;have I1:Inv X À σ H {s with heap:=h',toks:=tk}:=I.turned (λb o hb e=>kk b o (by simpa using hb) e) f0 f1 f3 f4 f5;refine⟨_,rfl,GR (s:={s with heap:=h',toks:=tk}) (n:="range_iterator") rF rfl rfl ⋯ ⟨.int (lo-i),H,I1,⟨t,?_⟩,⟨rfl,rfl⟩,rF,λb hb=>(hf b hb).1⟩⟩;rw [show lo+(i:Int)*(-1)=lo-i by omega]
 done:=by
  intro X hP hw hK hc i À s σ H E I hf st hg;obtain⟨f0,f1,f2,f3,f4,f5⟩:=hf it (by simp);exact wpAny_pyNext_range_end (I.ok.hd hc) st (by have:n<=i:=hg;omega) λh' eb=>⟨rfl,I.turned (t':=s.toks) (λb o hb e=>eb b o hb e) f0 f1 f3 f4 f5⟩
 self:=λ_ _ _ _ _ st h=>wpAny_pyIter_rangeiter st h
section
theorem Mm {σ:St}{R:It->Hp->Prop}{lo hi:Int}{t u v:Tok}{tk:Nat} (I:Inv X À σ H s) (h1:-(2 ^ 62)<=lo) (h2:lo < 2 ^ 62) (h3:-(2 ^ 62)<=hi) (h4:hi < 2 ^ 62)
  (q:R (Itd lo (lo-hi).toNat) H):db (dL X.prog X.w) X.A (pyIter (.ref s.heap.objs.size)) (PIE X À σ tg R) E {s with heap:=s.heap.push {cls:=.type "range",data:=.fields #[.int lo t,.int hi u,.int (-1) v]},toks:=tk}:=by
 refine wpAny_pyIter_range (IsRange.new ..) (PySem.W.small_down h1 h2 h3 h4) ?_;have I1:Inv X À σ H {s with heap:=s.heap.push {cls:=.type "range",data:=.fields #[.int lo t,.int hi u,.int (-1) v]},toks:=tk}:=I.kept λb o e=>Ag _ e;refine⟨(s.heap.push {cls:=.type "range",data:=.fields #[.int lo t,.int hi u,.int (-1) v]}).objs.size,[(s.heap.push {cls:=.type "range",data:=.fields #[.int lo t,.int hi u,.int (-1) v]}).objs.size],_,_,H,rfl,
  I1.kept (t':=tk) λb o e=>Ag _ e,Fl _ lo (lo-hi).toNat,?_,λb hb=>?_,q⟩
 ·have e1:lo+((0:Nat):Int)*(-1)=lo:=by simp
  have e2:(((lo-hi).toNat:Nat):Int)-((0:Nat):Int)=Builtin.Range.rangeSize lo hi (-1):=by rw [PySem.W.rangeSize_down];split <;> omega
  show IsRangeIter _ _ (lo+((0:Nat):Int)*(-1)) ((((lo-hi).toNat:Nat):Int)-((0:Nat):Int)) (-1);rw [e1,e2];exact Ap _ rfl
 ·have e:b=(s.heap.push {cls:=.type "range",data:=.fields #[.int lo t,.int hi u,.int (-1) v]}).objs.size:=by simpa using hb
  subst e;exact I1.yL (An _) (I1.bA.fresh (An _))
def abg (ta:TA):TI:=λσ H R=>ta σ H λvs H1=>∃i j:Int,vs=[.int i,.int j,.int (-1)]/\(-(2 ^ 62)<=i/\i < 2 ^ 62/\-(2 ^ 62)<=j/\j < 2 ^ 62)/\R (Itd i (i-j).toNat) H1
def Mq {c:ii}{ta:TA} (hg:Gl X "range") (hm:X.mg "range"=bm) (ha:PA X [a,b,c] ta) (hs:f8 [a,b,c] X.env=[(false,kw a X.env),(false,kw b X.env),(false,kw c X.env)]:=by rfl) (rR:f8 [b,c] X.env=[(false,kw b X.env),(false,kw c X.env)]:=by rfl) :
  PI X tg (.Call (.Name "range" p) [a,b,c] [] pos) (abg ta):=by
 intro À s σ H R I h;refine Call_ (iL I hg hm boot_range (Bh (bT (ha pos À s σ H _ I h) λus s1 ⟨vs,H1,I1,r1,q1⟩=>?_) (by show f8 _ _=_;rw [hs,rR]) (by rw [rR];rfl)));obtain⟨i,j,e,⟨q1,q2,q3,q4⟩,q⟩:=q1;subst e;cases r1 with
 | cons r rr=>
  cases rr with
  | cons r' rr=>
   cases rr with
   | cons r'' rr=>
    cases rr;obtain⟨t,rfl⟩:=r;obtain⟨t',rfl⟩:=r';obtain⟨t'',rfl⟩:=r'';refine call_range_3 ⋯ (Mm I1 q1 q2 q3 q4 q) (.inl ?_);unfold Builtin.divisionGoesByPylong;have e1:decide ((if ((-1:Int)==0)=true then 0 else (-1:Int).natAbs.log2 / 30+1) > 300)=false:=by decide
    simp only [e1,Fc]
end
def acA (K:Ab) (a:ce):It where
 go:=λi H=>∃xs x,c9 K H a xs/\xs[i]?=ap x
 U2:=λi H v H'=>∃p x,v=.ref p/\H p=bm/\H'=upd H p (.tup [.int i,x])/\∀xs,c9 K H a xs->xs[i]?=ap x
 stop:=λi H=>∃xs,c9 K H a xs/\xs.length<=i
theorem H0 {K:Ab}{kk:Nat}{t:ce} (NU:e≠it):Turn P w K (.Tuple Ï kk pos) (acA K t) [e,it] e (λi h=>(∃Í,IsEnum h e it (i:Nat) Í)/\h.IsListIter it t i) where
 mem:=by simp
 obj:=λi h st b hb=>by
  simp only [Ax,Bv,or_false] at hb;rcases hb with rfl | rfl
  ·obtain⟨⟨_,e⟩,_⟩:=st;exact⟨_,e,λv z=>by cases z⟩
  ·obtain⟨_,⟨o,e,_,d⟩⟩:=st;exact⟨o,e,λv z=>by rw [d] at z;cases z⟩
 keep:=λi h h' st k=>⟨let ⟨o,e'⟩:=st.1;⟨o,k e (by simp) _ e'⟩,let ⟨o,e',p⟩:=st.2;⟨o,k it (by simp) _ e',p⟩⟩
 item:=by
  intro X hP hw hK hc i À s σ H E I hf st hg;subst hP hw hK;obtain⟨xs,x,hx,gx⟩:=hg;obtain⟨ar,rx,tx,_⟩:=I.list hx;obtain⟨u,gu,ru⟩:=nG rx gx;obtain⟨⟨Í,hz⟩,hi⟩:=st;refine wpAny_pyNext_enum_item hz hi tx.isList (by simpa using gu) NU λh' zo j np _ k=>?_;refine⟨_,rfl,?_⟩;refine D2 zo λh2 z2 b2=>?_;have le:=Ar hz;have li:=let ⟨_,e',_⟩:=hi;Ar e';have lt:∀b∈[e,it],b < s.heap.objs.size:=λb hb=>by
   simp only [Ax,Bv,or_false] at hb;rcases hb with rfl | rfl
   ·exact le
   ·exact li
  have nz:s.heap.objs.size≠e:=λz=>AX _ (by have:=le;rw [<- z] at this;exact this);have ï:∀b o,b∉[e,it]->s.heap.get? b=ap o->h2.get? b=ap o:=λb o hb e'=>by
   have M4:b≠e:=λq=>hb (by simp [q]);rw [b2.2 b M4];exact k b o M4 (λq=>hb (by simp [q])) e'
  have ë:h2.get? s.heap.objs.size=ap {cls:=.type "tuple",data:=.seq #[.int i s.toks,u]}:=(b2.2 _ nz).trans np;have ø:=I.bA.fresh (An s.heap.objs.size);refine⟨.ref s.heap.objs.size,upd H s.heap.objs.size (.tup [.int i,x]),I.sC (t':=s.toks+1) hf ï (An _) ⟨by show 2<=sizeLine;decide,[.int i s.toks,u],.cons ⟨_,rfl⟩ (.cons ru .nil),⟨_,ë,rfl,_,rfl⟩⟩,rfl,⟨_,x,rfl,ø,rfl,λxs' h'=>by rw [I.Gx h' hx];exact gx⟩,⟨⟨_,z2⟩,let ⟨o,e',p⟩:=j;⟨o,(b2.2 _ (BB NU)).trans e',p⟩⟩,λb hb=>?_⟩;rw [av (AA (lt b hb))];exact (hf b hb).1
 done:=by
  intro X hP hw hK hc i À s σ H E I hf st hg;subst hP hw hK;obtain⟨xs,hx,hl⟩:=hg;obtain⟨ar,rx,tx,_⟩:=I.list hx;have el:=rx.length;obtain⟨⟨Í,hz⟩,hi⟩:=st;refine wpAny_pyNext_enum_end (I.ok.hd hc) hz hi tx.isList (by simp;omega) λh' k=>⟨rfl,I.xf (t':=s.toks) hf λb o hb e'=>k b o (λz=>hb (by simp [z])) e'⟩
 self:=λA i s Q E st h=>let ⟨_,e'⟩:=st.1;C5 e' h
end L2
namespace My
open PySem PySem.Spec PyProof.Rows L2
def en:Tr->Nat->Nat->Ent
 | .leaf x,_,_=>.word x
 | .node l r,o,j=>if j < l.size then en l o j else if j < l.size+r.size then en r (o+l.size) (j-l.size) else .pair (o+l.size-1) (o+l.size+r.size-1)
def up:Tr->Nat->Nat->List Nat->List Nat
 | .leaf _,o,_,ab=>o::ab
 | .node l r,o,j,ab=>if j < l.size then up l o j ((o+l.size+r.size)::ab) else if j < l.size+r.size then up r (o+l.size) (j-l.size) ((o+l.size+r.size)::ab) else (o+l.size+r.size)::ab
def kJ:Tr->Nat->Nat->V->V
 | .leaf _,_,_,p=>p
 | .node l r,o,j,p=>if j < l.size then kJ l o j (.int (o+l.size+r.size:Nat)) else if j < l.size+r.size then kJ r (o+l.size) (j-l.size) (.int (o+l.size+r.size:Nat)) else p
def be:Tr->Nat->Nat->List Nat
 | .leaf _,o,_=>[o]
 | .node l r,o,j=>if j < l.size then be l o j else if j < l.size+r.size then be r (o+l.size) (j-l.size) else be l o (l.size-1)++be r (o+l.size) (r.size-1)
theorem iz:∀(t:Tr) (o j:Nat),j < t.size->(t.nd o)[j]?=ap (en t o j)
 | .leaf x,o,j,h=>by
  have:j=0:=by have:j < 1:=h;omega
  subst this;rfl
 | .node l r,o,j,h=>by
  have es:(Tr.node l r).size=l.size+r.size+1:=rfl;have hn:(Tr.node l r).nd o=l.nd o++r.nd (o+l.size)++[.pair (o+l.size-1) (o+l.size+r.size-1)]:=rfl;have ln:=l.bc o;have rn:=r.bc (o+l.size);unfold en;by_cases c1:j < l.size
  ·rw [if_pos c1,hn,Az,AQ ∅];exact iz l o j c1
  ·rw [if_neg c1];by_cases c2:j < l.size+r.size
   ·rw [if_pos c2,hn,Az,A1 ∅,AQ ∅,ln];exact iz r _ _ ∅
   ·rw [if_neg c2,hn,A1 (by rw [Ah];omega),Ah,ln,rn];have:j-(l.size+r.size)=0:=by omega
    rw [this];rfl
theorem Rk:∀(t:Tr) (o j:Nat),j < t.size->(∃x,en t o j=.word x/\be t o j=[o+j])\/∃a b,en t o j=.pair (o+a) (o+b)/\a < j/\b < j/\be t o j=be t o a++be t o b
 | .leaf x,o,j,h=>by
  have:j=0:=by have:j < 1:=h;omega
  subst this;exact .inl ⟨x,rfl,rfl⟩
 | .node l r,o,j,h=>by
  have es:(Tr.node l r).size=l.size+r.size+1:=rfl;have lp:=l.size_pos;have rp:=r.size_pos;by_cases c1:j < l.size
  ·have e1:en (.node l r) o j=en l o j:=by rw [en,if_pos c1]
   have e2:∀k,k < l.size->be (.node l r) o k=be l o k:=λk hk=>by rw [be,if_pos hk]
   rw [e1];rcases Rk l o j c1 with⟨x,q1,q2⟩ | ⟨a,b,q1,q2,q3,q4⟩
   ·exact .inl ⟨x,q1,by rw [e2 j c1];exact q2⟩
   ·exact .inr ⟨a,b,q1,q2,q3,by rw [e2 j c1,e2 a ∅,e2 b ∅];exact q4⟩
  ·by_cases c2:j < l.size+r.size
   ·have e1:en (.node l r) o j=en r (o+l.size) (j-l.size):=by rw [en,if_neg c1,if_pos c2]
    have e2:∀k,k < r.size->be (.node l r) o (l.size+k)=be r (o+l.size) k:=λk hk=>by
     rw [be,if_neg ∅,if_pos ∅];congr 1;omega
    have ej:j=l.size+(j-l.size):=by omega
    rw [e1];rcases Rk r (o+l.size) (j-l.size) ∅ with⟨x,q1,q2⟩ | ⟨a,b,q1,q2,q3,q4⟩
    ·refine .inl ⟨x,q1,?_⟩;rw [ej,e2 _ ∅,q2];congr 1;omega
    ·refine .inr ⟨l.size+a,l.size+b,?_,by omega,by omega,?_⟩
     ·rw [q1,Bk,Bk]
     ·rw [e2 a ∅,e2 b ∅,ej,e2 _ ∅,q4]
   ·have ej:j=l.size+r.size:=by omega
    refine .inr ⟨l.size-1,l.size+r.size-1,?_,by omega,by omega,?_⟩
    ·rw [en,if_neg c1,if_neg c2];congr 1 <;> omega
    ·rw [be,if_neg c1,if_neg c2,be,if_pos ∅,be,if_neg ∅,if_pos ∅];congr 2;omega
theorem sA:∀(t:Tr) (o j:Nat) (p:V) (ab:List Nat),j < t.size->(j=t.size-1/\kJ t o j p=p/\up t o j ab=(o+j)::ab)\/∃a,j < a/\a < t.size/\kJ t o j p=.int (o+a:Nat)/\up t o j ab=(o+j)::up t o a ab
 | .leaf x,o,j,p,ab,h=>by
  have:j=0:=by have:j < 1:=h;omega
  subst this;exact .inl ⟨rfl,rfl,rfl⟩
 | .node l r,o,j,p,ab,h=>by
  have es:(Tr.node l r).size=l.size+r.size+1:=rfl;have lp:=l.size_pos;have rp:=r.size_pos;have er:up (.node l r) o (l.size+r.size) ab=(o+l.size+r.size)::ab:=by rw [up,if_neg ∅,if_neg ∅]
  by_cases c1:j < l.size
  ·have e1:kJ (.node l r) o j p=kJ l o j (.int (o+l.size+r.size:Nat)):=by rw [kJ,if_pos c1]
   have e2:∀k,k < l.size->up (.node l r) o k ab=up l o k ((o+l.size+r.size)::ab):=λk hk=>by rw [up,if_pos hk]
   rw [e1,e2 j c1];rcases sA l o j (.int (o+l.size+r.size:Nat)) ((o+l.size+r.size)::ab) c1 with⟨q1,q2,q3⟩ | ⟨a,q1,q2,q3,q4⟩
   ·refine .inr ⟨l.size+r.size,by omega,by omega,by rw [q2,Bk],by rw [q3,er]⟩
   ·exact .inr ⟨a,q1,by omega,q3,by rw [q4,e2 a q2]⟩
  ·by_cases c2:j < l.size+r.size
   ·have e1:kJ (.node l r) o j p=kJ r (o+l.size) (j-l.size) (.int (o+l.size+r.size:Nat)):=by rw [kJ,if_neg c1,if_pos c2]
    have e2:∀k,k < r.size->up (.node l r) o (l.size+k) ab=up r (o+l.size) k ((o+l.size+r.size)::ab):=λk hk=>by
     rw [up,if_neg ∅,if_pos ∅];congr 1;omega
    obtain⟨i,rfl⟩:∃i,j=l.size+i:=⟨j-l.size,by omega⟩;have ei:l.size+i-l.size=i:=by omega
    rw [e1,e2 i ∅,ei];rcases sA r (o+l.size) i (.int (o+l.size+r.size:Nat)) ((o+l.size+r.size)::ab) ∅ with⟨q1,q2,q3⟩ | ⟨a,q1,q2,q3,q4⟩
    ·refine .inr ⟨l.size+r.size,by omega,by omega,by rw [q2,Bk],by rw [q3,er,Bk]⟩
    ·exact .inr ⟨l.size+a,by omega,by omega,by rw [q3,Bk],by rw [q4,e2 a q2,Bk]⟩
   ·have ej:j=l.size+r.size:=by omega
    refine .inl ⟨by omega,by rw [kJ,if_neg c1,if_neg c2],?_⟩;rw [ej,er,Bk]
def mP:Tr->Nat->V->List V
 | .leaf _,_,p=>[p]
 | .node l r,o,p=>mP l o (.int (o+l.size+r.size:Nat))++mP r (o+l.size) (.int (o+l.size+r.size:Nat))++[p]
theorem kf:∀(t:Tr) (o:Nat) (p:V),(mP t o p).length=t.size
 | .leaf _,_,_=>rfl
 | .node l r,o,p=>by
  unfold mP;rw [Ah,Ah,kf l,kf r];rfl
theorem LS (t:Tr) (o:Nat) (p q:V) (A B:List V):(A++mP t o p++B).set (A.length+t.size-1) q=A++mP t o q++B:=by
 have key:∃I,mP t o p=I++[p]/\mP t o q=I++[q]:=by
  cases t with
  | leaf _=>exact⟨[],rfl,rfl⟩
  | node l r=>exact⟨_,rfl,rfl⟩
 obtain⟨I,e1,e2⟩:=key;have h1:=kf t o p;rw [e1,Ah] at h1;have gZ:I.length+1=t.size:=h1;rw [e1,e2];have ei:A.length+t.size-1=(A++I).length:=by rw [Ah];omega
 rw [ei,show A++(I++[p])++B=(A++I)++p::B by simp,List.set_append_right _ _ (An _),C6];simp
theorem Rp:∀(es fs:List Ent) (i:Nat) (l:List V),ah (es++fs) i l=ah fs (i+es.length) (ah es i l)
 | [],fs,i,l=>rfl
 | e::es,fs,i,l=>by
  show ah (es++fs) (i+1) (Rq l i e)=ah fs (i+(es.length+1)) (ah es (i+1) (Rq l i e));rw [Rp es fs];congr 1;omega
theorem J5:∀(t:Tr) (A B:List V),ah (t.nd A.length) A.length (A++Am t.size .aG++B)=A++mP t A.length .aG++B
 | .leaf x,A,B=>rfl
 | .node l r,A,B=>by
  have es:(Tr.node l r).size=l.size+r.size+1:=rfl;have hn:(Tr.node l r).nd A.length=l.nd A.length++r.nd (A.length+l.size)++[.pair (A.length+l.size-1) (A.length+l.size+r.size-1)]:=rfl;have ln:=l.bc A.length;have rn:=r.bc (A.length+l.size);have h1:=J5 l A (Am r.size .aG++([V.aG]++B));have e0:A++Am (Tr.node l r).size V.aG++B=A++Am l.size .aG++(Am r.size .aG++([V.aG]++B)):=by
   rw [es,<- Dc,<- Dc];simp only [Az];rfl
  rw [hn,zx,Rp,e0,h1,ln];have la:(A++mP l A.length V.aG).length=A.length+l.size:=by rw [Ah,kf]
  have h2:=J5 r (A++mP l A.length V.aG) ([V.aG]++B);rw [la] at h2;have e1:A++mP l A.length V.aG++(Am r.size V.aG++([V.aG]++B))=A++mP l A.length V.aG++Am r.size V.aG++([V.aG]++B):=by simp [Az]
  rw [e1,h2,Ah,ln,rn];show ((_:List V).set (A.length+l.size-1) _).set (A.length+l.size+r.size-1) _=_;have s1:=LS l A.length .aG (.int (A.length+(l.size+r.size):Nat)) A (mP r (A.length+l.size) V.aG++([V.aG]++B));have e2:A++mP l A.length V.aG++mP r (A.length+l.size) V.aG++([V.aG]++B)=A++mP l A.length V.aG++(mP r (A.length+l.size) V.aG++([V.aG]++B)):=by simp [Az]
  rw [e2,s1];have lb:(A++mP l A.length (V.int (A.length+(l.size+r.size):Nat))).length=A.length+l.size:=by rw [Ah,kf]
  have s2:=LS r (A.length+l.size) .aG (.int (A.length+(l.size+r.size):Nat)) (A++mP l A.length (V.int (A.length+(l.size+r.size):Nat))) ([V.aG]++B);rw [lb] at s2;have e3:A++mP l A.length (V.int (A.length+(l.size+r.size):Nat))++(mP r (A.length+l.size) V.aG++([V.aG]++B))=A++mP l A.length (V.int (A.length+(l.size+r.size):Nat))++mP r (A.length+l.size) V.aG++([V.aG]++B):=by simp [Az]
  rw [e3,s2];have e4:mP (.node l r) A.length .aG=mP l A.length (.int (A.length+l.size+r.size:Nat))++mP r (A.length+l.size) (.int (A.length+l.size+r.size:Nat))++[.aG]:=rfl;rw [e4,Bk A.length l.size r.size];simp [Az]
theorem zv:∀(t:Tr) (o j:Nat) (p:V),j < t.size->(mP t o p)[j]?=ap (kJ t o j p)
 | .leaf x,o,j,p,h=>by
  have:j=0:=by have:j < 1:=h;omega
  subst this;rfl
 | .node l r,o,j,p,h=>by
  have es:(Tr.node l r).size=l.size+r.size+1:=rfl;have ln:=kf l o (.int (o+l.size+r.size:Nat));have rn:=kf r (o+l.size) (.int (o+l.size+r.size:Nat));unfold mP kJ;by_cases c1:j < l.size
  ·rw [if_pos c1,Az,AQ ∅];exact zv l _ _ _ c1
  ·rw [if_neg c1];by_cases c2:j < l.size+r.size
   ·rw [if_pos c2,Az,A1 ∅,AQ ∅,ln];exact zv r _ _ _ ∅
   ·rw [if_neg c2,A1 (by rw [Ah];omega),Ah,ln,rn];have:j-(l.size+r.size)=0:=by omega
    rw [this];rfl
def YQ (t:Tr) (h:j < t.size):(ah (t.nd 0) 0 (Am t.size .aG))[j]?=ap (kJ t 0 j .aG):=by
 have q:=J5 t [] [];have e:([]:List V)++Am t.size .aG++[]=Am t.size .aG:=by simp
 have e2:([]:List V)++mP t ([]:List V).length .aG++[]=mP t 0 .aG:=by simp
 rw [e,e2] at q;have q':ah (t.nd 0) 0 (Am t.size .aG)=mP t 0 .aG:=q;rw [q'];exact zv t 0 j .aG h
end My
variable {H1:L2.Hp}{ι:List BC}
namespace PL
section
open PySem PySem.Spec PyProof.Rows L2
variable {K:Ab}
def V1 (K:Ab) (H:Hp) (a:ce) (xs:List V):Prop:=(∃o,H a=ap (.cE o (.lst xs)))\/
  ∃(o:Obj) (ar:Array bn) (n:Nat),K.lookup a=ap o/\o.cls=.type "list"/\o.dict=bm/\o.data=.seq ar n/\ar.size<=sizeLine/\Vals xs ar.toList
def V1.sq {a:ce} (h:V1 K H a xs):c9 K H a xs:=h.elim (λh=>.inl (.inr h)) .inr
structure bj (K:Ab) (H H':Hp):Prop where
 t:∀p vs,H p=ap (.tup vs)->H' p=ap (.tup vs)
 z:∀p o u,H p=ap (.cE o u)->H' p=ap (.cE o u)
def bj.f {H H':Hp} (t:bj K H H') (p:ce) (vs:List V) (h:V1 K H p vs):V1 K H' p vs:=h.elim (λ⟨o,h⟩=>.inl ⟨o,t.z _ _ _ h⟩) .inr
def bj.refl (H:Hp):bj K H H:=⟨λ_ _ h=>h,λ_ _ _ h=>h⟩
def bj.trans (a:bj K H H1) (b:bj K H1 H2):bj K H H2:=⟨λp vs h=>b.t p vs (a.t p vs h),λp o w h=>b.z p o w (a.z p o w h)⟩
def _root_.L2.lJ.eG (s:lJ H H'):bj K H H':=⟨λp vs h=>s _ _ h,λp o u h=>s _ _ h⟩
inductive PV where
 | aG | bl (b:Bool) | int (i:Int) | str (x:Str) | tup (l:List PV) | ref (n:Nat) | ty (n:String) | cl (l:List PV) | dv (ks vs:List PV)
def kP:Key->PV
 | .inl i=>.int i
 | .inr x=>.str x
inductive PO where
 | lst (xs:List PV) | dk (kvs:List (Key×PV)) | dt (kvs:List (List Key×PV)) | opq (φ:List V->Prop)
abbrev PH:=List PO
abbrev zU:=List (Option PV)
mutual
inductive VR (K:Ab) (ι:List ce) (H:Hp):V->PV->Prop
 | aG:VR K ι H .aG .aG
 | bl (b:Bool):VR K ι H (.bl b) (.bl b)
 | int (i:Int):VR K ι H (.int i) (.int i)
 | str (x:Str):VR K ι H (.str x) (.str x)
 | ty (n:String):VR K ι H (.ty n) (.ty n)
 | tup {p:ce}{vs:List V}{l:List PV} (h:H p=ap (.tup vs)) (r:aE K ι H vs l):VR K ι H (.ref p) (.tup l)
 | ref {n:Nat}{a:ce} (h:ι[n]?=ap a):VR K ι H (.ref a) (.ref n)
 | cl {a:ce}{vs:List V}{l:List PV} (h:V1 K H a vs) (r:aE K ι H vs l):VR K ι H (.ref a) (.cl l)
 | dk {a:ce}{o:Obj}{kvs:List (Key×V)}{ks l:List PV} (h:H a=ap (.cE o (.dK kvs))) (e:ks=kvs.map λkv=>kP kv.1) (r:aE K ι H (kvs.map (·.2)) l):VR K ι H (.ref a) (.dv ks l)
 | dt {a:ce}{o:Obj}{kvs:List (List Key×V)}{ks l:List PV} (h:H a=ap (.cE o (.dT kvs))) (e:ks=kvs.map λkv=>.tup (kv.1.map kP)) (r:aE K ι H (kvs.map (·.2)) l):VR K ι H (.ref a) (.dv ks l)
inductive aE (K:Ab) (ι:List ce) (H:Hp):List V->List PV->Prop
 | nil:aE K ι H [] []
 | cons {v:V}{p:PV}{vs:List V}{ps:List PV} (r:VR K ι H v p) (t:aE K ι H vs ps):aE K ι H (v::vs) (p::ps)
end
section
variable {ι':List ce}
mutual
theorem VR.mono (ht:bj K H H') (hi:∀(n:Nat) (a:ce),ι[n]?=ap a->ι'[n]?=ap a):∀{v:V}{p:PV},VR K ι H v p->VR K ι' H' v p
 | _,_,.aG=>.aG
 | _,_,.bl b=>.bl b
 | _,_,.int i=>.int i
 | _,_,.str x=>.str x
 | _,_,.ty n=>.ty n
 | _,_,.tup h r=>.tup (ht.t _ _ h) (aE.mono ht hi r)
 | _,_,.cl h r=>.cl (ht.f _ _ h) (aE.mono ht hi r)
 | _,_,.dk h e r=>.dk (ht.z _ _ _ h) e (aE.mono ht hi r)
 | _,_,.dt h e r=>.dt (ht.z _ _ _ h) e (aE.mono ht hi r)
 | _,_,.ref h=>.ref (hi _ _ h)
theorem aE.mono (ht:bj K H H') (hi:∀(n:Nat) (a:ce),ι[n]?=ap a->ι'[n]?=ap a):∀{vs:List V}{ps:List PV},aE K ι H vs ps->aE K ι' H' vs ps
 | _,_,.nil=>.nil
 | _,_,.cons r t=>.cons (VR.mono ht hi r) (aE.mono ht hi t)
end
theorem aE.length:∀{vs:List V}{ps:List PV},aE K ι H vs ps->vs.length=ps.length
 | _,_,.nil=>rfl
 | _,_,.cons _ t=>by rw [Aq,Aq,aE.length t]
theorem aE.get:∀{vs:List V}{ps:List PV}{i:Nat}{p:PV},aE K ι H vs ps->ps[i]?=ap p->∃v,vs[i]?=ap v/\VR K ι H v p
 | _,_,_,_,.nil,e=>by simp at e
 | _,_,0,_,.cons r _,e=>by simp at e;subst e;exact⟨_,rfl,r⟩
 | _,_,i+1,p,.cons _ t,e=>by
  obtain⟨v,h1,h2⟩:=aE.get (i:=i) (p:=p) t (by simpa using e);exact⟨v,by simpa using h1,h2⟩
theorem aE.abN:∀{vs:List V}{ps:List PV}{i:Nat}{v:V},aE K ι H vs ps->vs[i]?=ap v->∃p,ps[i]?=ap p/\VR K ι H v p
 | _,_,_,_,.nil,e=>by simp at e
 | _,_,0,_,.cons r _,e=>by simp at e;subst e;exact⟨_,rfl,r⟩
 | _,_,i+1,p,.cons _ t,e=>by
  obtain⟨v,h1,h2⟩:=aE.abN (i:=i) (v:=p) t (by simpa using e);exact⟨v,by simpa using h1,h2⟩
theorem aE.set {p:PV} (r:VR K ι H v p):∀{vs:List V}{ps:List PV} (i:Nat),aE K ι H vs ps->aE K ι H (vs.set i v) (ps.set i p)
 | _,_,_,.nil=>.nil
 | _,_,0,.cons _ t=>.cons r t
 | _,_,i+1,.cons q t=>.cons q (aE.set r i t)
theorem aE.append:∀{xs ys:List V}{us ws:List PV},aE K ι H xs us->aE K ι H ys ws->aE K ι H (xs++ys) (us++ws)
 | _,_,_,_,.nil,s=>s
 | _,_,_,_,.cons r t,s=>.cons r (aE.append t s)
theorem aE.take:∀{xs:List V}{us:List PV} (n:Nat),aE K ι H xs us->aE K ι H (xs.take n) (us.take n)
 | _,_,0,_=>.nil
 | _,_,_+1,.nil=>.nil
 | _,_,n+1,.cons r t=>.cons r (aE.take n t)
theorem aE.drop:∀{xs:List V}{us:List PV} (n:Nat),aE K ι H xs us->aE K ι H (xs.drop n) (us.drop n)
 | _,_,0,r=>r
 | _,_,_+1,.nil=>.nil
 | _,_,n+1,.cons _ t=>aE.drop n t
theorem aE.reverse:∀{xs:List V}{us:List PV},aE K ι H xs us->aE K ι H xs.reverse us.reverse
 | _,_,.nil=>.nil
 | _,_,.cons r t=>by rw [CH,CH];exact (aE.reverse t).append (.cons r .nil)
def aE.one {p:PV} (r:VR K ι H v p):aE K ι H [v] [p]:=.cons r .nil
end
structure Go (ι ι':List ce) (H H':Hp):Prop where
 ext:∃m,ι'=ι++m
 new:∀a,a∈ι'->a∉ι->H a=bm
 keep:∀a o,a∉ι->H a=ap o->H' a=ap o
def Go.refl (ι:List ce) (H:Hp):Go ι ι H H:=⟨⟨[],by simp⟩,λa h n=>absurd h n,λ_ _ _ h=>h⟩
def OR (K:Ab) (ι:List ce) (H:Hp) (a:ce):PO->Prop
 | .lst xs=>∃vs,H a=ap (.lst vs)/\aE K ι H vs xs
 | .dk kvs=>∃vs:List (Key×V),H a=ap (.dK vs)/\vs.map (·.1)=kvs.map (·.1)/\aE K ι H (vs.map (·.2)) (kvs.map (·.2))
 | .dt kvs=>∃vs:List (List Key×V),H a=ap (.dT vs)/\vs.map (·.1)=kvs.map (·.1)/\aE K ι H (vs.map (·.2)) (kvs.map (·.2))
 | .opq φ=>∃vs,H a=ap (.lst vs)/\φ vs
structure HR (K:Ab) (ι:List ce) (H:Hp) (h:PH):Prop where
 nd:ι.Nodup
 len:ι.length=h.length
 obj:∀(n:Nat) (a:ce) (o:PO),ι[n]?=ap a->h[n]?=ap o->OR K ι H a o
end
end PL
variable {e:B7}
namespace PL
section
open PySem PySem.Spec PyProof.Rows L2
variable {K:Ab}
abbrev QV:=PV->PH->Prop
structure ME where
 run:zU->PH->QV->Prop
 mono:∀{ps h}{Q Q':QV},(∀v h',Q v h'->Q' v h')->run ps h Q->run ps h Q'
structure MT where
 run:zU->PH->(Bool->PH->Prop)->Prop
 mono:∀{ps h}{Q Q':Bool->PH->Prop},(∀v h',Q v h'->Q' v h')->run ps h Q->run ps h Q'
structure MA where
 run:zU->PH->(List PV->PH->Prop)->Prop
 mono:∀{ps h}{Q Q':List PV->PH->Prop},(∀v h',Q v h'->Q' v h')->run ps h Q->run ps h Q'
structure ML where
 run:zU->PH->(List PV->PH->Prop)->Prop
 mono:∀{ps h}{Q Q':List PV->PH->Prop},(∀v h',Q v h'->Q' v h')->run ps h Q->run ps h Q'
structure Src where
 items:List PV
 ok:PH->Prop
 fz:Bool
structure MI where
 run:zU->PH->(Src->PH->Prop)->Prop
 mono:∀{ps h}{Q Q':Src->PH->Prop},(∀v h',Q v h'->Q' v h')->run ps h Q->run ps h Q'
structure PD where
 nx:zU->PH->Prop
 rt:QV
 bk:zU->PH->Prop
 ct:zU->PH->Prop
structure PD.Le (D D':PD):Prop where
 nx:∀ps h,D.nx ps h->D'.nx ps h
 rt:∀v h,D.rt v h->D'.rt v h
 bk:∀ps h,D.bk ps h->D'.bk ps h
 ct:∀ps h,D.ct ps h->D'.ct ps h
structure MS where
 run:PD->zU->PH->Prop
 mono:∀{D D' ps h},PD.Le D D'->run D ps h->run D' ps h
structure MG where
 run:PV->zU->PH->(zU->PH->Prop)->Prop
 mono:∀{v ps h}{Q Q':zU->PH->Prop},(∀ps h,Q ps h->Q' ps h)->run v ps h Q->run v ps h Q'
def pQ (K:Ab) (ι:List ce) (H:Hp) (Q:VK):QV:=λp h'=>∀ι' v H',Go ι ι' H H'->HR K ι' H' h'->VR K ι' H' v p->Q v H'
def PE.imp {t t':TE} (h:PE X e t) (f:∀σ H Q,t' σ H Q->t σ H Q):PE X e t':=λÀ s σ H Q I q=>h À s σ H Q I (f _ _ _ q)
def PT.imp {t t':TT} (h:PT X e t) (f:∀σ H Q,t' σ H Q->t σ H Q):PT X e t':=λÀ s σ H Q I q=>h À s σ H Q I (f _ _ _ q)
def PW.imp {t t':TT} (h:PW X e t) (f:∀σ H Q,t' σ H Q->t σ H Q):PW X e t':=λw À s σ H Q I q=>h w À s σ H Q I (f _ _ _ q)
def PA.imp {e:List ii}{t t':TA} (h:PA X e t) (f:∀σ H Q,t' σ H Q->t σ H Q):PA X e t':=λpos À s σ H Q I q=>h pos À s σ H Q I (f _ _ _ q)
def PS.imp {e:sn}{t t':TS} (h:PS X e t) (f:∀D σ H,t' D σ H->t D σ H):PS X e t':=λÀ s σ H D I q=>h À s σ H D I (f _ _ _ q)
def sd.imp {e:List sn}{t t':TS} (h:sd X e t) (f:∀D σ H,t' D σ H->t D σ H):sd X e t':=λÀ s σ H D I q=>h À s σ H D I (f _ _ _ q)
def PG.imp {t t':TG} (h:PG X e t) (f:∀v σ H Q,t' v σ H Q->t v σ H Q):PG X e t':=λÀ s σ H v u Q I r q=>h À s σ H v u Q I r (f _ _ _ _ q)
def PI.imp {t t':TI} (h:PI X tg e t) (f:∀σ H Q,t' σ H Q->t σ H Q):PI X tg e t':=λÀ s σ H R I q=>h À s σ H R I (f _ _ _ q)
section
abbrev P2:=PV->PV->PH->QV->Prop
structure M2 where
 f:P2
 mono:∀{x y h}{Q Q':QV},(∀v h',Q v h'->Q' v h')->f x y h Q->f x y h Q'
def M2.Ok (K:Ab) (r:R2) (m:M2):Prop:=∀{ι H h u v x y Q},HR K ι H h->VR K ι H u x->VR K ι H v y->m.f x y h (pQ K ι H Q)->r u v H Q
end
end
section
open PySem PySem.Spec PyProof.Rows L2
variable {K:Ab}
section
def k8:∀{vs:List V}{l:List PV},aE K ι H vs l->(!l.isEmpty)=!vs.isEmpty
 | _,_,.nil=>rfl
 | _,_,.cons _ _=>rfl
structure MQ where
 run:zU->PH->(Src->PH->Prop)->Prop
 mono:∀{ps h}{Q Q':Src->PH->Prop},(∀v h',Q v h'->Q' v h')->run ps h Q->run ps h Q'
end
end
open PySem PySem.Spec PyProof.Rows L2
section
structure MGs where
 run:List PV->zU->PH->(zU->PH->Prop)->Prop
 mono:∀{v ps h}{Q Q':zU->PH->Prop},(∀ps h,Q ps h->Q' ps h)->run v ps h Q->run v ps h Q'
end
section
variable {K:Ab}
section
structure zV where
 f:List PV->PH->QV->Prop
 mono:∀{l h}{Q Q':QV},(∀v h',Q v h'->Q' v h')->f l h Q->f l h Q'
def zV.Ok (K:Ab) (r:List V->Hp->VK->Prop) (m:zV):Prop:=∀{ι H h vs l Q},HR K ι H h->aE K ι H vs l->m.f l h (pQ K ι H Q)->r vs H Q
end
end
end PL
variable {g':Int->Int->L2.V}{g:Int->Int->PL.PV}
namespace PL
section
open PySem PySem.Spec PyProof.Rows L2
variable {K:Ab}
def aI (g:Int->Int->PV):M2:=⟨λx y h Q=>match x,y with | .int i,.int j=>Q (g i j) h | _,_=>False,λf q=>by
 revert q
 split
 ·exact f _ _
 ·exact λz=>z⟩
def YT (C:Int->Int->Prop) (g:Int->Int->PV):M2:=⟨λx y h Q=>match x,y with | .int i,.int j=>C i j/\Q (g i j) h | _,_=>False,λf q=>by
 revert q
 split
 ·exact λq=>⟨q.1,f _ _ q.2⟩
 ·exact λz=>z⟩
def Hu (hg:∀ι H i j,VR K ι H (g' i j) (g i j)):M2.Ok K (So g') (aI g):=by
 intro ι H h u v x y Q hr hu hv q;unfold aI at q;dsimp only at q;revert q
 split
 ·intro q;cases hu;cases hv;exact⟨_,_,rfl,rfl,q ι _ H (Go.refl _ _) hr (hg _ _ _ _)⟩
 ·exact Bp
def zy {C:Int->Int->Prop} (hg:∀ι H i j,VR K ι H (g' i j) (g i j)):M2.Ok K (rI C g') (YT C g):=by
 intro ι H h u v x y Q hr hu hv q;unfold YT at q;dsimp only at q;revert q
 split
 ·intro q;cases hu;cases hv;exact⟨_,_,rfl,rfl,q.1,q.2 ι _ H (Go.refl _ _) hr (hg _ _ _ _)⟩
 ·exact Bp
def xH:=aI λi j=>.int (i-j)
def pV:=YT wP λi j=>.int (i*j)
def oDiv:=YT NP λi j=>.int (i / j)
def oMod:=YT (λ_ j=>0 < j) λi j=>.int (i % j)
def Pm:=YT RB λi j=>.int (i ^ j.toNat)
def oLt:=aI λi j=>.bl (decide (i < j))
def oLe:=aI λi j=>.bl (decide (i<=j))
def oGt:=aI λi j=>.bl (decide (j < i))
def oGe:=aI λi j=>.bl (decide (j<=i))
section
def aE.jF:∀{vs:List V}{l:List PV},aE K ι H vs l->(vs=[]↔l=[])
 | _,_,.nil=>by simp
 | _,_,.cons _ _=>by simp
end
mutual
def PV.dat:PV->Bool
 | .tup l=>ux l
 | .ref _=>false
 | .ty _=>false
 | .cl _=>false
 | .dv _ _=>false
 | _=>true
def ux:List PV->Bool
 | []=>true
 | x::l=>x.dat&&ux l
end
end
section
open PySem PySem.Spec PyProof.Rows L2
variable {K:Ab}
section
def PV.fe:PV->Bool
 | .aG=>true
 | _=>false
def qV:M2:=⟨λx y h Q=>match y with | .aG=>Q (.bl x.fe) h | _=>False,λf q=>by
 revert q
 split
 ·exact f _ _
 ·exact λz=>z⟩
def vS:M2:=⟨λx y h Q=>match y with | .aG=>Q (.bl (!x.fe)) h | _=>False,λf q=>by
 revert q
 split
 ·exact f _ _
 ·exact λz=>z⟩
def wx {x:PV} (h:VR K ι H v x):decide (v=.aG)=x.fe:=by cases h <;> simp [PV.fe]
def S8:M2.Ok K (λx y H Q=>y=.aG/\Q (.bl (decide (x=.aG))) H) qV:=by
 intro ι H h u v x y Q hr hu hv q;cases hv with
 | aG=>exact⟨rfl,q ι _ H (Go.refl _ _) hr (by rw [wx hu];exact .bl _)⟩
 | _=>exact q.elim
def Pn:M2.Ok K (λx y H Q=>y=.aG/\Q (.bl (!decide (x=.aG))) H) vS:=by
 intro ι H h u v x y Q hr hu hv q;cases hv with
 | aG=>exact⟨rfl,q ι _ H (Go.refl _ _) hr (by rw [wx hu];exact .bl _)⟩
 | _=>exact q.elim
def aeK:M2:=⟨λx y h Q=>match x,y with | .bl i,.bl j=>Q (.bl (i==j)) h | _,_=>False,λf q=>by
 revert q
 split
 ·exact f _ _
 ·exact λz=>z⟩
def rL:M2:=⟨λx y h Q=>match x,y with | .bl i,.bl j=>Q (.bl (!(i==j))) h | _,_=>False,λf q=>by
 revert q
 split
 ·exact f _ _
 ·exact λz=>z⟩
def Iz:M2.Ok K (λx y H Q=>∃i j,x=.bl i/\y=.bl j/\Q (.bl (!(i==j))) H) rL:=by
 intro ι H h u v x y Q hr hu hv q;cases hu <;> first
  | exact q.elim
  | (cases hv <;> first | exact q.elim | exact⟨_,_,rfl,rfl,q ι _ H (Go.refl _ _) hr (.bl _)⟩)
end
end
end PL
variable {l:List PL.PV}
namespace PL
section
open PySem PySem.Spec PyProof.Rows L2
variable {K:Ab}
section
def OL {v':V}{w:bn} (h:RelV v w) (h':RelV v' w):v=v':=Option.some.inj (h.abs.symm.trans h'.abs)
end
section
variable {c:ii}
def mIx (a:MQ) (b:ME):ME:=⟨λps h Q=>a.run ps h λS h1=>b.run ps h1 λy h2=>match y with
 | .int k=>S.ok h2/\match dC S.items k with | some v=>Q v h2 | none=>False
 | _=>False,λf q=>a.mono (λ_ _ q=>b.mono (λ_ _ q=>by
  revert q
  split
  ·rintro⟨q0,q⟩;refine⟨q0,?_⟩;revert q
   split
   ·exact f _ _
   ·exact λz=>z
  ·exact λz=>z) q) q⟩
def aE.dC (r:aE K ι H vs l) {k:Int}{p:PV} (e:L2.dC l k=ap p):∃v,L2.dC vs k=ap v/\VR K ι H v p:=by
 unfold L2.dC at e ⊢;rw [r.length];cases z:wq l.length k with
 | none=>rw [z] at e;cases e
 | some j=>
  rw [z] at e;exact r.get e
def Po:M2:=⟨λx y h Q=>match x,y with
 | .str z,.int k=>z.length<=sizeLine/\match L2.dC z.cps.toList k with | some c=>Q (.str ⟨#[c]⟩) h | none=>False
 | _,_=>False,λf q=>by
  revert q
  split
  ·rintro⟨q0,q⟩;refine⟨q0,?_⟩;revert q
   split
   ·exact f _ _
   ·exact λz=>z
  ·exact λz=>z⟩
def S7:M2.Ok K WQ Po:=by
 intro ι H h u v x y Q hr hu hv q;unfold Po at q;dsimp only at q;revert q
 split
 ·rename_i z k;rintro⟨q0,q⟩;cases hu;cases hv;cases e:L2.dC z.cps.toList k with
  | none=>rw [e] at q;exact q.elim
  | some c=>rw [e] at q;exact⟨z,k,c,rfl,rfl,q0,e,q ι _ H (Go.refl _ _) hr (.str _)⟩
 ·exact Bp
def cJ:zV:=⟨λl h Q=>match l with
 | [.str y]=>y.length<=sizeLine/\Q (.int y.length) h
 | [.tup l]=>Q (.int l.length) h
 | [.cl l]=>Q (.int l.length) h
 | [.ref n]=>match h[n]? with
  | some (.lst xs)=>Q (.int xs.length) h
  | _=>False
 | _=>False,λf q=>by
  revert q
  split
  ·exact λq=>⟨q.1,f _ _ q.2⟩
  ·exact f _ _
  ·exact f _ _
  ·split
   ·exact f _ _
   ·exact λz=>z
  ·exact λz=>z⟩
def UD (K:Ab):zV.Ok K (WO K) cJ:=by
 intro ι H h vs l Q hr hv q;unfold cJ at q;dsimp only at q;revert q
 split
 ·intro q;cases hv with
  | cons x t=>cases t;cases x;exact⟨_,_,rfl,⟨q.1,rfl⟩,q.2 ι _ H (Go.refl _ _) hr (.int _)⟩
 ·intro q;cases hv with
  | cons x t=>
   cases t;cases x with
   | tup e r=>exact⟨_,_,rfl,.inr ⟨_,dX.of e,r.length.symm⟩,q ι _ H (Go.refl _ _) hr (.int _)⟩
 ·intro q;cases hv with
  | cons x t=>
   cases t;cases x with
   | cl e r=>exact⟨_,_,rfl,.inl ⟨_,e.sq,r.length.symm⟩,q ι _ H (Go.refl _ _) hr (.int _)⟩
 ·rename_i n;cases hv with
  | cons x t=>
   cases t;cases x with
   | @ref _ a e=>
   split
   ·rename_i xs hn;intro q;obtain⟨ws,e1,e2⟩:=hr.obj n a _ e hn;exact⟨_,_,rfl,.inl ⟨ws,c9.of e1,e2.length.symm⟩,q ι _ H (Go.refl _ _) hr (.int _)⟩
   ·exact Bp
 ·exact Bp
inductive Kd where
 | str | tup | int | bool
def Kd.name:Kd->String
 | .str=>"str" | .tup=>"tuple" | .int=>"int" | .bool=>"bool"
def Kd.is:Kd->PV->Bool
 | .str,.str _=>true
 | .tup,.tup _=>true
 | .int,.int _=>true
 | .int,.bl _=>true
 | .bool,.bl _=>true
 | _,_=>false
def aas (K:Ab):List V->Hp->VK->Prop:=λxs H Q=>∃x c t b,xs=[x,.ty c]/\(mw K H x t\/(t=.type "tuple"/\∃a vs,x=.ref a/\dX K H a vs))/\Br K t (.type c)=ap b/\Q (.bl b) H
def Nz (K:Ab) (hK:X.K=K):bM X (.builtin "isinstance") (aas K):=by
 subst hK;intro À s σ H xs us Q I r h;obtain⟨x,c,t,b,rfl,ty | ⟨rfl,a,vs,rfl,hT⟩,e,q⟩:=h
 ·exact qR À s σ H _ us Q I r ⟨x,c,t,b,rfl,ty,e,q⟩
 ·obtain⟨u,w,rfl,r1,r2⟩:=vals2 r;cases r1;cases r2;obtain⟨ar,_,⟨o,h1,h2,_⟩,_⟩:=I.tuple hT;exact Ba Fp I.wo ⟨o,h1,h2⟩ e (λz=>nomatch z) λtk=>⟨.bl b,H,I.tok _,rfl,q⟩
def rN (K:Ab):(∀k:Kd,Br K (.type "NoneType") (.type k.name)=ap false)/\(∀k:Kd,Br K (.type "list") (.type k.name)=ap false)/\(∀k:Kd,Br K (.type "dict") (.type k.name)=ap false):=
 ⟨λk=>by cases k <;> kernel_rfl,λk=>by cases k <;> kernel_rfl,λk=>by cases k <;> kernel_rfl⟩
def XO (K:Ab) (b:Bool) (k:Kd):Br K (.type "bool") (.type k.name)=ap (k.is (.bl b)):=by cases k <;> kernel_rfl
def TB (K:Ab) (b:Int) (k:Kd):Br K (.type "int") (.type k.name)=ap (k.is (.int b)):=by cases k <;> kernel_rfl
def Tz (K:Ab) (b:Str) (k:Kd):Br K (.type "str") (.type k.name)=ap (k.is (.str b)):=by cases k <;> kernel_rfl
def Tx (K:Ab) (b:List PV) (k:Kd):Br K (.type "tuple") (.type k.name)=ap (k.is (.tup b)):=by cases k <;> kernel_rfl
def Ho:zV:=⟨λl h Q=>match l with | [.int i]=>Q (.int (if i < 0 then -i else i)) h | _=>False,λf q=>by
 revert q
 split
 ·exact f _ _
 ·exact λz=>z⟩
def UG:zV.Ok K (λxs H Q=>∃i,xs=[.int i]/\Q (.int (if i < 0 then -i else i)) H) Ho:=by
 intro ι H h vs l Q hr hv q;unfold Ho at q;dsimp only at q;revert q
 split
 ·intro q;cases hv with
  | cons x t=>cases t;cases x;exact⟨_,rfl,q ι _ H (Go.refl _ _) hr (.int _)⟩
 ·exact Bp
def J1:zV:=⟨λl h Q=>match l with | [.int i]=>Q (.int i) h | [.bl k]=>Q (.int (if k then 1 else 0)) h | _=>False,λf q=>by
 revert q
 split
 ·exact f _ _
 ·exact f _ _
 ·exact λz=>z⟩
def UE:zV.Ok K (λxs H Q=>(∃i,xs=[.int i]/\Q (.int i) H)\/∃k,xs=[.bl k]/\Q (.int (if k then 1 else 0)) H) J1:=by
 intro ι H h vs l Q hr hv q;unfold J1 at q;dsimp only at q;revert q
 split
 ·intro q;cases hv with
  | cons x t=>cases t;cases x;exact .inl ⟨_,rfl,q ι _ H (Go.refl _ _) hr (.int _)⟩
 ·intro q;cases hv with
  | cons x t=>cases t;cases x;exact .inr ⟨_,rfl,q ι _ H (Go.refl _ _) hr (.int _)⟩
 ·exact Bp
def NH:zV:=⟨λl h Q=>match l with | [.int i,.int j]=>Q (.int (if j > i then j else i)) h | _=>False,λf q=>by
 revert q
 split
 ·exact f _ _
 ·exact λz=>z⟩
def NG:zV:=⟨λl h Q=>match l with | [.int i,.int j]=>Q (.int (if j < i then j else i)) h | _=>False,λf q=>by
 revert q
 split
 ·exact f _ _
 ·exact λz=>z⟩
def UC:zV.Ok K (λxs H Q=>∃i j,xs=[.int i,.int j]/\Q (.int (if j > i then j else i)) H) NH:=by
 intro ι H h vs l Q hr hv q;unfold NH at q;dsimp only at q;revert q
 split
 ·intro q;cases hv with
  | cons x t=>cases t with
   | cons y t=>cases t;cases x;cases y;exact⟨_,_,rfl,q ι _ H (Go.refl _ _) hr (.int _)⟩
 ·exact Bp
def UB:zV.Ok K (λxs H Q=>∃i j,xs=[.int i,.int j]/\Q (.int (if j < i then j else i)) H) NG:=by
 intro ι H h vs l Q hr hv q;unfold NG at q;dsimp only at q;revert q
 split
 ·intro q;cases hv with
  | cons x t=>cases t with
   | cons y t=>cases t;cases x;cases y;exact⟨_,_,rfl,q ι _ H (Go.refl _ _) hr (.int _)⟩
 ·exact Bp
end
end
end PL
variable {o:B7}
namespace PL
section
open PySem PySem.Spec PyProof.Rows L2
variable {K:Ab}
section
def OP (K:Ab):List V->Hp->VK->Prop:=λxs H Q=>∃p ys,xs=[.ref p]/\((c9 K H p ys/\kW H (.tup ys) Q)\/(dX K H p ys/\Q (.ref p) H))
def Nw (K:Ab) (hK:X.K=K):bM X (.type "tuple") (OP K):=by
 subst hK;exact vB.mono λxs H Q ⟨p,ys,e,h⟩=>⟨p,ys,e,h.imp (λ⟨h1,h2⟩=>⟨h1,λl hl=>h2.at l hl⟩) λz=>z⟩
theorem wQ:∀{bs:List Bool}{vs:List V},aE K ι H vs (bs.map PV.bl)->vs=bs.map V.bl
 | [],_,h=>by cases h;rfl
 | b::bs,_,h=>by
  cases h with
  | cons x t=>cases x;rw [wQ t];rfl
structure MQL where
 run:zU->PH->(Src->PH->Prop)->Prop
 mono:∀{ps h}{Q Q':Src->PH->Prop},(∀v h',Q v h'->Q' v h')->run ps h Q->run ps h Q'
structure MO where
 run:zU->PH->(Option Int->PH->Prop)->Prop
 mono:∀{ps h}{Q Q':Option Int->PH->Prop},(∀v h',Q v h'->Q' v h')->run ps h Q->run ps h Q'
def PO.imp {e:Option ii}{t t':TO} (h:L2.PO X e t) (f:∀σ H Q,t' σ H Q->t σ H Q):L2.PO X e t':=λÀ s σ H Q I q=>h À s σ H Q I (f _ _ _ q)
def nk (xs:List PV) (lo hi:Option Int):List PV:=(xs.drop (HT.dE xs.length 0 lo)).take (HT.dE xs.length xs.length hi-HT.dE xs.length 0 lo)
def aE.cut (r:aE K ι H vs l) (lo hi:Option Int):aE K ι H (zq vs lo hi) (nk l lo hi):=by
 unfold zq nk;rw [r.length];exact (r.drop _).take _
end
end
end PL
variable {t1:L2.TE}{tp:Ca}
namespace PL
section
open PySem PySem.Spec PyProof.Rows L2
variable {K:Ab}
section
variable {c:ii}
def jk (lo:Int) (n:Nat):List PV:=(AJ n).map λ(i:Nat)=>.int (lo+(i:Int))
def jh (lo:Int) (n:Nat):(jk lo n).length=n:=by unfold jk;simp
def qk {lo:Int}{p:PV} (h:(jk lo n)[i]?=ap p):i < n/\p=.int (lo+i):=by
 unfold jk at h;rw [Aj] at h;cases z:(AJ n)[i]? with
 | none=>rw [z] at h;cases h
 | some k=>
  rw [z] at h;obtain⟨h1,h2⟩:=Ak.mp z;simp at h1 h2;subst h2;exact⟨h1,(Option.some.inj h).symm⟩
def qP (lo:Int) (n:Nat):List PV:=(AJ n).map λ(i:Nat)=>.int (lo-(i:Int))
def wJ (lo:Int) (n:Nat):(qP lo n).length=n:=by unfold qP;simp
def wK {lo:Int}{p:PV} (h:(qP lo n)[i]?=ap p):i < n/\p=.int (lo-i):=by
 unfold qP at h;rw [Aj] at h;cases z:(AJ n)[i]? with
 | none=>rw [z] at h;cases h
 | some k=>
  rw [z] at h;obtain⟨h1,h2⟩:=Ak.mp z;simp at h1 h2;subst h2;exact⟨h1,(Option.some.inj h).symm⟩
def Se (i:Int):Prop:=-(2 ^ 62)<=i/\i < 2 ^ 62
def acZ (m:MA):MI:=⟨λps h Q=>m.run ps h λl h1=>match l with | [.int j]=>Se j/\Q ⟨jk 0 j.toNat,λ_=>True,false⟩ h1 | _=>False,λf q=>m.mono (λl h1 q=>by
 revert q
 split
 ·exact λq=>⟨q.1,f _ _ q.2⟩
 ·exact λz=>z) q⟩
def dW (k:Nat):List PV->List PV
 | []=>[]
 | x::l=>.tup [.int (k:Int),x]::dW (k+1) l
theorem cx:∀(k:Nat) (l:List PV),(dW k l).length=l.length
 | _,[]=>rfl
 | k,x::l=>by rw [dW,Aq,Aq,cx]
theorem gI:∀{k:Nat}{l:List PV}{i:Nat}{p:PV},(dW k l)[i]?=ap p->∃x,l[i]?=ap x/\p=.tup [.int ((k+i:Nat):Int),x]
 | _,[],_,_,h=>by simp [dW] at h
 | k,x::l,0,p,h=>by simp [dW] at h;subst h;exact⟨x,rfl,by simp⟩
 | k,x::l,i+1,p,h=>by
  obtain⟨y,h1,h2⟩:=gI (k:=k+1) (l:=l) (i:=i) (p:=p) (by simpa [dW] using h);exact⟨y,by simpa using h1,by rw [h2,show k+1+i=k+(i+1) by omega]⟩
def X2 (K:Ab) (t1:TE):TI:=λσ H R=>t1 σ H λx H1=>∃a,x=.ref a/\(((∃xs,c9 K H1 a xs)/\R (acA K a) H1)\/((∃xs,dX K H1 a xs)/\R (Ite K a) H1))
def O8 {X:Cx} (K:Ab) (hK:X.K=K) {e1:ii}{kk:Nat} (hg:Gl X "enumerate") (hm:X.mg "enumerate"=bm) (h1:PE X e1 t1)
  (HI:ic X e1 []:=by rfl):PI X (.Tuple Ï kk tp) (.Call (.Name "enumerate" p1) [e1] [] p2) (X2 K t1):=by
 subst hK;intro À s σ H R I h;refine BD (iL I hg hm boot_enumerate ?_ ⋯ ⋯);refine Bh ?_ HI rfl;rw [HI];refine Cf (bT (h1 À s σ H _ I h) λu1 s1 ⟨x,H1,I1,r1,a,ex,hh⟩=>CF ?_);subst ex;cases r1;have d1:s1.heap.objs.size+1≠s1.heap.objs.size:=Nat.succ_ne_self _;rcases hh with⟨⟨xs,hx⟩,q⟩ | ⟨⟨xs,hx⟩,q⟩
 ·obtain⟨ar,rx,tx,_⟩:=I1.list hx;refine call_enumerate_list tx.isList λh' ze hi _ k=>?_;refine C5 ze ?_;refine⟨_,_,_,_,H1,rfl,I1.kept (t':=s1.toks) k,H0 d1,⟨⟨_,ze⟩,hi⟩,λc hc=>?_,q⟩;have Ü:s1.heap.objs.size<=c:=by
   simp only [Ax,Bv,or_false] at hc;rcases hc with rfl | rfl
   ·exact BE _ _
   ·exact An _
  exact I1.yL Ü (I1.bA.fresh Ü)
 ·obtain⟨ar,rx,tx,_⟩:=I1.tuple hx;have l1:=let ⟨_,e,_⟩:=tx;Ar e;refine JY tx λh' ze hi k=>?_;refine C5 ze ?_;refine⟨_,_,_,_,H1,rfl,I1.kept (t':=s1.toks) k,L4 d1 (AA (AG l1 (BE _ 1))) (AA l1),⟨⟨_,ze⟩,hi⟩,λc hc=>?_,q⟩;have Ü:s1.heap.objs.size<=c:=by
   simp only [Ax,Bv,or_false] at hc;rcases hc with rfl | rfl
   ·exact BE _ _
   ·exact An _
  exact I1.yL Ü (I1.bA.fresh Ü)
def pE:List PV->List PV->List PV
 | x::l,y::m=>.tup [x,y]::pE l m
 | _,_=>[]
theorem sf:∀{l m:List PV}{i:Nat}{p:PV},(pE l m)[i]?=ap p->∃x y,l[i]?=ap x/\m[i]?=ap y/\p=.tup [x,y]
 | [],m,i,p,h=>by simp [pE] at h
 | x::l,[],i,p,h=>by simp [pE] at h
 | x::l,y::m,0,p,h=>by simp [pE] at h;subst h;exact⟨x,y,rfl,rfl,rfl⟩
 | x::l,y::m,i+1,p,h=>by
  obtain⟨u,w,h1,h2,h3⟩:=sf (l:=l) (m:=m) (i:=i) (p:=p) (by simpa [pE] using h);exact⟨u,w,by simpa using h1,by simpa using h2,h3⟩
end
end
end PL
variable {op:PySem.CmpOp}{p3 p4:Ca}
namespace PL
open PySem PySem.Spec PyProof.Rows L2
section
variable {K:Ab}
section
structure JC (X:Cx) (K:Ab) (op:CmpOp) (b:ii) (m:M2):Prop where
 p:∃r,iW X (lw op) r/\M2.Ok K r m
 k:pr op b=false
def Lk:JC X K .Lt b oLt:=⟨⟨_,aaJ,Hu λ_ _ _ _=>.bl _⟩,jE _⟩
def Vv:JC X K .LtE b oLe:=⟨⟨_,aaK,Hu λ_ _ _ _=>.bl _⟩,jE _⟩
def abd:JC X K .Gt b oGt:=⟨⟨_,aaL,Hu λ_ _ _ _=>.bl _⟩,jE _⟩
def abe:JC X K .GtE b oGe:=⟨⟨_,aaM,Hu λ_ _ _ _=>.bl _⟩,jE _⟩
def qi:JC X K .Is b qV:=⟨⟨_,Xg,S8⟩,jE _⟩
def Lj:JC X K .IsNot b vS:=⟨⟨_,SV,Pn⟩,jE _⟩
def MW:JC X K .IsNot b rL:=⟨⟨_,Ge,Iz⟩,jE _⟩
end
end
theorem Hi:∀{l:List PV},ux l=true↔∀x∈l,x.dat=true
 | []=>by simp [ux]
 | x::l=>by rw [ux,AL,Hi];simp
section
variable {K:Ab}
section
variable {c:ii}
def QU (h:aE K ι H vs l):vs.isEmpty=l.isEmpty:=by cases h <;> rfl
def aE.rep (h:aE K ι H vs l):∀k:Nat,aE K ι H (Am k vs).flatten (Am k l).flatten
 | 0=>.nil
 | k+1=>by
  rw [Bw,Bw,B5,B5];exact h.append (h.rep k)
def OQ:V->List V->Hp->VK->Prop:=λx vs H Q=>∃(l:ce) (ns:List Int) (k:Int),x=.ref l/\vs=[.int k]/\H l=ap (.lst (ns.map V.int))/\k∈ns/\z0 H l (.lst ((ns.erase k).map V.int)) (Q .aG)
theorem ints_get:∀{us:List bn}{ns:List Int},tt us ns->∀(i:Nat) (hi:i < us.length),∃n t,ns[i]?=ap n/\us[i]=.int n t
 | _,_,.nil,i,hi=>by simp at hi
 | _,_,.cons _ _ r,i,hi=>by
  cases i with
  | zero=>exact⟨_,_,rfl,rfl⟩
  | succ i=>exact ints_get r i (by simpa using hi)
theorem Qg {k:Int}:∀{ns:List Int}{m:Nat},ns[m]?=ap k->ns.idxOf k<=m
 | [],m,h=>by simp at h
 | a::ns,0,h=>by
  have:a=k:=by simpa using h
  subst this;simp
 | a::ns,m+1,h=>by
  have:=Qg (ns:=ns) (m:=m) (by simpa using h);rw [List.idxOf_cons];by_cases c:a=k
  ·have:(a==k)=true:=by simpa using c
   rw [this];exact Bd _
  ·have c2:(a==k)=false:=by simpa using c
   rw [c2];exact Nat.succ_le_succ this
theorem wF (f:α->β):∀(l:List α) (j:Nat),(l.eraseIdx j).map f=(l.map f).eraseIdx j
 | [],_=>rfl
 | a::l,0=>rfl
 | a::l,j+1=>by
  show f a::(l.eraseIdx j).map f=f a::(l.map f).eraseIdx j;rw [wF f l j]
def isK (k:Int):bn->Bool
 | .int a _=>a==k
 | _=>false
def uR (r:Vals vs us):∀j,Vals (vs.eraseIdx j) (us.eraseIdx j):=by
 induction r with
 | nil=>intro j;exact .nil
 | cons h r ih=>
  intro j;cases j with
  | zero=>exact r
  | succ j=>exact .cons h (ih j)
theorem IC:LW X "list.remove" OQ:=by
 intro À s σ H x vs v us Q I rx rv h;obtain⟨l,ns,k,rfl,rfl,hH,hk,q⟩:=h;cases rx;obtain⟨u,rfl,ru⟩:=rv.one;obtain⟨t,rfl⟩:=ru;obtain⟨z,ar,n,r,hl,e⟩:=I.qX hH;have hi:=intsAre_of r;have Â:ns.length=ar.length:=by rw [Af] at hl;omega
 have hj:=BF hk;have hej:ns.erase k=ns.eraseIdx (ns.idxOf k):=by rw [List.erase_eq_eraseIdx_of_idxOf rfl]
 refine sB F.slot_list_remove ⟨_,e,rfl⟩ F.entry_list_remove (F.args_list_remove_2 _ _) (MeetsSeq.list_remove l ar.toArray n (.int k t) (isK k) (λy hy=>?_) (ns.idxOf k) (by rw [Ai];omega) ?_ (λm hm iA=>?_) (by rw [Ai];omega)) ⟨e,?_⟩
 ·have X4:y∈ar:=by simpa using hy
  obtain⟨i,Zg⟩:=CP X4;obtain⟨h1,h2⟩:=Ak.mp Zg;obtain⟨n',t',g1,g2⟩:=ints_get hi i h1;rw [<- h2,g2];exact MeetsSeq.EqGives.int _ _ _ _
 ·have h1:ns.idxOf k < ar.length:=by omega
  obtain⟨n',t',g1,g2⟩:=ints_get hi (ns.idxOf k) h1;have g3:ns[ns.idxOf k]?=ap k:=by rw [Ad hj,List.getElem_idxOf hj]
  rw [g3] at g1;cases g1;rw [Dx,g2];simp [isK]
 ·have h1:m < ar.length:=by rw [Ai] at hm;exact hm
  obtain⟨n',t',g1,g2⟩:=ints_get hi m h1;rw [Dx,g2];have:n'≠k:=λz=>by
   subst z;have:=Qg g1;omega
  simp [isK,this]
 ·refine⟨.aG,_,I.IK (its':=ar.eraseIdx (ns.idxOf k)) (ys:=(ns.erase k).map V.int) hH e (by simp [Array.toList_eraseIdxIfInBounds,<- Array.toList_inj]) ?_ ?_,rfl,q.at⟩
  ·rw [hej,wF];exact uR r _
  ·rw [hej,Af,E9]
   split <;> omega
theorem jL:∀{ns:List Int}{vs:List V},aE K ι H vs (ns.map PV.int)->vs=ns.map V.int
 | [],_,h=>by cases h;rfl
 | b::bs,_,h=>by
  cases h with
  | cons x t=>cases x;rw [jL t];rfl
theorem oE (ι:List ce) (H:Hp):∀ns:List Int,aE K ι H (ns.map V.int) (ns.map PV.int)
 | []=>.nil
 | n::ns=>.cons (.int n) (oE ι H ns)
def WJ (K:Ab):List V->Hp->VK->Prop:=λxs H Q=>∃(p:ce) (ns:List Int),xs=[.ref p]/\c9 K H p (ns.map V.int)/\ns.length < 64/\∀ms:List Int,ms.Perm ns->ms.Pairwise (·<=·)->kW H (.lst (ms.map V.int)) Q
theorem JV (K:Ab) (hK:X.K=K):bM X (.builtin "sorted") (WJ K):=by
 subst hK;intro À s σ H xs us Q I r h;obtain⟨p,ns,rfl,hq,þ,q⟩:=h;obtain⟨u,rfl,rx⟩:=vals1 r;cases rx;obtain⟨ar,r',pl,hz⟩:=I.list hq;have hi:=intsAre_of r';have hl:=r'.length;rw [Af] at hl hz;refine PyProof.Rows.sorted_ints pl.isList hi ∅ λout ms a1 a2 a3=>?_;obtain⟨e,he⟩:=sortedAll_at s.heap ar out;refine⟨.ref (s.heap.objs.size+1),_,I.laid (t':=s.toks) (λ_ _=>sortedAll_old) (Dw _) (show a9 X.prog X.w _ _ _ (.lst (ms.map V.int)) from⟨?_,out.toList,e,pH a1,?_⟩),rfl,(q ms a2 a3).at _ (I.bA.fresh (Dw _))⟩
 ·rw [Af,a2.length_eq];exact hz
 ·rw [Array.toArray_toList];exact he
end
end
end PL
variable {xs:Array A5}{a:BC}{o:FC}
namespace L2
open PySem PySem.Spec PyProof.Rows
def mY {name:Str}{Q:Option bn->cr->Prop}
  (hx:s.heap.get? a=ap o) (hc:o.cls=.type "list") (oJ:o.data=.seq xs k) (hd:o.dict=bm) (abv:Fk (.type "list") name=pure bm) (abu:(["__module__","__name__","__qualname__","__doc__","__annotations__"]:List Str).contains name=false) (hA:A.handled=bm)
  (h:∀h' tk e,Heap.NewExcOf s.heap h' e "AttributeError"->Q bm {s with heap:=h',toks:=tk}) (hsz:name.length+100<=sizeLine:=by size_fits) :
  db (dL prog w) A (getAttr? (.ref a) name) Q E s:=by
 obtain⟨c,dct,dat,sl⟩:=o;simp only at hc oJ hd;subst hc oJ hd;obtain⟨hp,g,d,tk,os⟩:=s;have hT:∀ā,(⟨hp,g,d,ā,os⟩:cr).TypeIs (.ref a) "list":=λ_=>⟨_,hx,rfl⟩;have f1:=sub_AttributeError;have f3:=CY.lookup;have f4:=CY.bind (.ref a);have f5:=am_list_getattr_none
 repeat (any_goals (first | assumption | exact hT _ | ((with_reducible show db _ _ (call (Value.builtin "list.__getattribute__") _ _) _ _ _);refine sB CY (hT _) am_entry_list_getattribute (F.args_list_getattribute_2 _ _) (meets_getattribute_miss_list a xs k sl name _ abv abu hsz) ⟨hx,hA,λh' ā e wz=>?_⟩) | wp_step))
 obtain⟨t',u',he⟩:=wz.there;unfold getattributeRaised
 repeat (any_goals (first | assumption | wp_step))
 exact h _ _ _ wz.of
end L2
variable {b d:BC}{v:A5}
namespace L2
open PySem PySem.Spec PyProof.Rows
def iC:entryFor table "dict.update.loop"=ap v4.«dict.update.loop»:=entryFor_of_fast (by kernel_rfl)
def iu:plainId "dict.update.loop"=true:=by decide +kernel
section
variable {K:Type} [DecidableEq K] {knd:KeyKind prog w K}
def zP (knd:KeyKind prog w K) (h:lf) (it d:ce) (v:bn) (x:List K×ce×bn):Prop:=
 ∃pa o n,v=.ref pa/\pa≠it/\pa≠d/\x.2.1≠it/\x.2.1≠d/\h.get? pa=ap o/\o.cls=.type "tuple"/\o.data=.seq #[.ref x.2.1,x.2.2] n/\(lm knd).is h x.1 x.2.1
def xh {k:List K} (x:(lm knd).is h k b) (kp:∀o,h.get? b=ap o->h'.get? b=ap o):(lm knd).is h' k b:=by
 obtain⟨o,ar,n,h1,h2⟩:=x;exact⟨o,ar,n,kp _ h1,h2⟩
def zP.keep {x:List K×ce×bn} (p:zP knd h it d v x) (kp:∀b o,b≠it->b≠d->h.get? b=ap o->h'.get? b=ap o):zP knd h' it d v x:=by
 obtain⟨pa,o,n,e,n1,n2,n3,n4,h1,h2,h3,h4⟩:=p;exact⟨pa,o,n,e,n1,n2,n3,n4,kp _ _ n1 n2 h1,h2,h3,xh h4 λo q=>kp _ _ n3 n4 q⟩
def zk {xs:List (List K×ce×bn)} (m:h.DictOfH (lm knd) d xs) (hd:d≠it) (hx:∀x∈xs,x.2.1≠it) (kp:∀b o,b≠it->h.get? b=ap o->h'.get? b=ap o):h'.DictOfH (lm knd) d xs:=by
 obtain⟨o,es,ep,ho,hc,Ļ,he,his,hn⟩:=m;exact⟨o,es,ep,kp _ _ hd ho,hc,Ļ,he,λx q=>xh (his x q) λo z=>kp _ _ (hx x q) z,hn⟩
def FP {xs:List (List K×ce×bn)}{k:List K} (hx:∀x∈xs,x.2.1≠it) (hb:b≠it):∀x∈zn xs k b v,x.2.1≠it:=by
 intro x q;unfold zn at q
 split at q
 ·obtain⟨y,hy,rfl⟩:=Av.mp q;have e:(putAt k v y).2.1=y.2.1:=by unfold putAt;split <;> rfl
  rw [e];exact hx y hy
 ·rcases AW.mp q with q | q
  ·exact hx x q
  ·rw [AN.mp q];exact hb
def FQ {xs:List (List K×ce×bn)}{k:List K}:(zn xs k b v).length<=xs.length+1:=by
 unfold zn
 split <;> simp
theorem zZ (hA:A.handled=bm) (hu:A.units+1 < o0) {l:ce} (hz:items.size+items.size<=sizeLine) (ĺ:d≠it) (hli:l≠it) (hld:l≠d) :
  ∀(k i:Nat) (ys xs:List (List K×ce×bn)) (s:cr),items.size-i=k->i<=items.size->ys.length=items.size-i->xs.length<=i->s.heap.IsListIter it l i->s.heap.IsList l items->s.heap.DictOfH (lm knd) d xs->(∀x∈xs,x.2.1≠it)->
   (∀j x,ys[j]?=ap x->∃v,items[i+j]?=ap v/\zP knd s.heap it d v x)->
   (∀h' tk,h'.DictOfH (lm knd) d (ys.foldl (λa y=>zn a y.1 y.2.1 y.2.2) xs)->(∀b o,b≠it->b≠d->s.heap.get? b=ap o->h'.get? b=ap o)->R (.ok (.ret .none)) {s with heap:=h',toks:=tk})->
   Da (dL prog w) A (.builtin "dict.update.loop" ⟨[.ref d,.ref it,t0 i,.none],[]⟩) R s:=by
 intro k
 induction k with
 | zero=>
  intro i ys xs s hk hi hy hxl Ò hl hd hx hp q;have e0:ys=[]:=B1 ∅;subst e0;refine FS iC ?_;refine Aa (wpAny_pyNext_list_end (A:=A.in1) hA Ò hl (by rw [EG];omega) λh' ex=>?_);have kp:=ex;exact Aa (Ae (Ae (q h' s.toks (zk hd ĺ hx kp) λb o n1 _ e=>kp b o n1 e)))
 | succ k ih=>
  intro i ys xs s hk hi hy hxl Ò hl hd hx hp q
  match ys,hy,hp,q with
  | [],hy,_,_=>exact absurd hy (by simp only [Bn];omega)
  | y::ys,hy,hp,q=>
  obtain⟨v,hv,pa⟩:=hp 0 y rfl;refine FS iC ?_;refine Aa (wpAny_pyNext_list_item Ò hl (by simpa using hv) λh1 afB sb=>?_);have Tw:∀b o,b≠it->s.heap.get? b=ap o->h1.get? b=ap o:=λb o hb e=>(sb.2 b hb).trans e;have pa1:=pa.keep λb o n1 _ e=>Tw b o n1 e;have û:=zk hd ĺ hx Tw;have ĵ:h1.IsList l items:=let ⟨o,e,p⟩:=hl;⟨o,Tw _ _ hli e,p⟩;obtain⟨p,o,n,rfl,n1,n2,n3,n4,g1,g2,g3,g4⟩:=pa1;refine Aa (Bf (Aa (DY ?_)));refine Aa (Cu (T:="tuple") ⟨_,g1,g2⟩ ?_);refine Aa (Bs g1 g3 (Ae ?_));refine Bf (wpAny_dictSet_heap (knd:=lm knd) (tupleKind_room_in1 hu) g4 û (λh2 Ó sb2=>?_) ∅);have Ħ:∀b o,b≠d->h1.get? b=ap o->h2.get? b=ap o:=λb o hb e=>(sb2.2 b hb).trans e;refine Ae ⟨ut iu _,?_⟩;have kp:∀b o,b≠it->b≠d->s.heap.get? b=ap o->h2.get? b=ap o:=λb o a1 a2 e=>Ħ _ _ a2 (Tw _ _ a1 e);refine ih (i+1) ys (zn xs y.1 y.2.1 y.2.2) _ ∅ ∅ (by rw [Aq] at hy;omega) (Bu FQ ∅) ?_ ?_ Ó (FP hx n3) (λj x hj=>?_) (λh' tk dd k3=>?_)
  ·obtain⟨o',e1,e2⟩:=afB;exact⟨o',Ħ _ _ (BB ĺ) e1,e2⟩
  ·obtain⟨o',e1,e2⟩:=ĵ;exact⟨o',Ħ _ _ hld e1,e2⟩
  ·obtain⟨v',h3,h4⟩:=hp (j+1) x hj;exact⟨v',by rw [show i+1+j=i+(j+1) by omega];exact h3,h4.keep kp⟩
  ·exact q h' tk dd λb o a1 a2 e=>k3 b o a1 a2 (kp b o a1 a2 e)
end
def xO:Fk (.type "list") (BH "keys")=pure bm:=am_miss_of_fast (by decide +kernel)
section
variable {K:Type} [DecidableEq K] {knd:KeyKind prog w K}
theorem rq {l:ce}{ys:List (List K×ce×bn)} (hA:A.handled=bm) (hu:A.units+2 < o0) (ho:s.heap.get? l=ap o) (hc:o.cls=.type "list") (oJ:o.data=.seq items n) (hd:o.dict=bm)
  (hz:items.size+items.size<=sizeLine) (hy:ys.length=items.size)
  (hp:∀(j:Nat) (x:List K×ce×bn),ys[j]?=ap x->∃(pa:ce) (op:Obj) (m:Nat),items[j]?=ap (Ay pa)/\s.heap.get? pa=ap op/\op.cls=.type "tuple"/\op.data=.seq #[Ay x.2.1,x.2.2] m/\(lm knd).is s.heap x.1 x.2.1)
  (q:∀h' tk,(∀b o,s.heap.get? b=ap o->h'.get? b=ap o)->h'.DictOfH (lm knd) s.heap.objs.size (ys.foldl (λa y=>zn a y.1 y.2.1 y.2.2) [])->Q (.ref s.heap.objs.size) {s with heap:=h',toks:=tk}) :
  db (dL prog w) A (call (.type "dict") [.ref l]) Q E s:=by
 refine callType_codes (Q₁:=λobj s₁=>obj=.ref s.heap.objs.size/\s₁={s with heap:=s.heap.push {cls:=.type "dict",data:=.dict #[]}}) F.kt_called_dict (F.kt_typeCall_dict_1 _) F.entry_dict_init (kt_code_dict_new _ ⟨rfl,rfl⟩) ?_;rintro obj s₁ ⟨rfl,rfl⟩;have ċ:∀b o,s.heap.get? b=ap o->(s.heap.push {cls:=.type "dict",data:=.dict #[]}).get? b=ap o:=λb o e=>Ag _ e;have T8:(s.heap.push {cls:=.type "dict",data:=.dict #[]}).DictOf knd s.heap.objs.size []:=Heap.DictOf.new s.heap;have abt:(s.heap.push {cls:=.type "dict",data:=.dict #[]}).DictOfH (lm knd) s.heap.objs.size []:=⟨_,#[],0,Ap _ rfl,⟨rfl,rfl,rfl⟩,rfl,rfl,λx hx=>absurd hx (Bv),D5⟩;have ls:∀b o,s.heap.get? b=ap o->b≠s.heap.objs.size:=λb o e z=>by subst z;exact AX _ (Ar e)
 refine⟨T8.typeIs,F.args_dict_init_2 _ _,?_⟩;refine Aa ?_;refine Aa (wpAny_notOrdered_dict T8.typeIs ?_);refine Ae ?_;refine Aa (Cu (T:="list") ⟨_,ċ _ _ ho,hc⟩ ?_);refine Aa (mY (ċ _ _ ho) hc oJ hd xO (by decide +kernel) hA (λh1 tk e nx=>?_) ⋯);refine Aa (CM (Aa ?_));refine CG (items:=items) ⟨_,nx.keeps _ _ (ċ _ _ ho),hc,n,oJ⟩ ?_;have hsz:=Ar (nx.keeps _ _ (Ap s.heap rfl));have Tw:∀b o,s.heap.get? b=ap o->(h1.push {cls:=.type "list_iterator",data:=.fields #[.ref l,.int 0 0]}).get? b=ap o:=λb o e=>Ag _ (nx.keeps _ _ (ċ _ _ e));have ni:∀b o,s.heap.get? b=ap o->b≠h1.objs.size:=λb o e z=>by
  have h3:=Ar e;subst z;exact AX _ (Nat.lt_trans h3 hsz)
 refine Ae ⟨ut iu _,?_⟩;refine zZ (A:=A.in1) (knd:=knd) hA (by show A.units+1+1 < _;omega) (items:=items) (d:=s.heap.objs.size) (it:=h1.objs.size) (l:=l) hz (AA hsz) (ni _ _ ho) (ls _ _ ho) items.size 0 ys [] _ (Fv _) (Bd _) (by rw [hy];rfl) (An _)
  ⟨_,Ap _ rfl,rfl,rfl⟩ ⟨_,Tw _ _ ho,hc,n,oJ⟩ ?_ (λx hx=>nomatch hx) (λj x hj=>?_) (λh' ā dd kp=>?_)
 ·refine zk (it:=h1.objs.size) abt (AA hsz) (λx hx=>nomatch hx) λb o _ e=>Ag _ (nx.keeps _ _ e)
 ·obtain⟨pa,op,m,e1,e2,e3,e4,e5⟩:=hp j x hj;have kb:∃ob,s.heap.get? x.2.1=ap ob:=let ⟨ob,_,_,z,_⟩:=e5;⟨ob,z⟩;obtain⟨ob,eb⟩:=kb;exact⟨.ref pa,by rw [AI];exact e1,pa,op,m,rfl,ni _ _ e2,ls _ _ e2,ni _ _ eb,ls _ _ eb,Tw _ _ e2,e3,e4,xh e5 λo z=>Tw _ _ z⟩
 ·exact⟨rfl,q h' ā (λb o e=>kp b o (ni _ _ e) (ls _ _ e) (Tw _ _ e)) dd⟩
end
structure Pz where
 pa:ce
 k:List Key
 b:ce
 v:V
def Pz.At (H:Hp) (z:Pz):Prop:=H z.pa=ap (.tup [.ref z.b,z.v])/\H z.b=ap (.tup (z.k.map kV))
def WT (K:Ab):List V->Hp->VK->Prop:=λxs H Q=>∃(p:ce) (zs:List Pz),xs=[.ref p]/\c9 K H p (zs.map λz=>.ref z.pa)/\(∀z∈zs,z.At H)/\(zs.map (·.k)).Nodup/\zs.length<=1000/\kW H (.dT (zs.map λz=>(z.k,z.v))) Q
theorem qL {K:Type} [DecidableEq K]:∀(ys xs:List (K×ce×bn)),((xs++ys).map (·.1)).Nodup->ys.foldl (λa y=>zn a y.1 y.2.1 y.2.2) xs=xs++ys
 | [],xs,_=>by simp
 | y::ys,xs,h=>by
  have hn:atKey xs y.1=bm:=by
   cases e:atKey xs y.1 with
   | none=>rfl
   | some p=>
    exfalso;rw [Aw,Ao] at h;have h2:=(List.nodup_append.mp h).2.2;have hm:y.1∈xs.map (·.1):=by
     by_cases hc:y.1∈xs.map (·.1)
     ·exact hc
     ·rw [atKey_none_of_get (λj q hj=>?_)] at e
      ·cases e
      ·exact hc (Av.mpr ⟨_,A7 hj,rfl⟩)
    exact h2 _ hm _ Bt rfl
  rw [C0,storedH_new hn,qL ys (xs++[(y.1,y.2.1,y.2.2)]) (by simpa using h)];simp
section
theorem JZ (K:Ab) (hK:X.K=K) (hc:X.calm=true) (hu:X.A.units+2 < o0):bM X (.type "dict") (WT K):=by
 subst hK;intro À s σ H xs us Q I r h;obtain⟨p,zs,rfl,hq,hz,hn,hl,q⟩:=h;obtain⟨u,rfl,rx⟩:=vals1 r;cases rx;obtain⟨ar,rv,pl,hsz⟩:=I.list hq;obtain⟨o,n,ho,Zj,hd,oJ⟩:=pl;have Ā:∀(zs:List Pz) (ar:List bn),(∀z∈zs,z.At H)->Vals (zs.map λz=>V.ref z.pa) ar->∃ys:List (List Key×ce×bn),ys.map (·.1)=zs.map (·.k)/\KT H (zs.map λz=>(z.k,z.v)) ys/\
   ∀(j:Nat) (x:List Key×ce×bn),ys[j]?=ap x->∃(pa:ce) (op:Obj) (m:Nat),ar[j]?=ap (Ay pa)/\s.heap.get? pa=ap op/\op.cls=.type "tuple"/\op.data=.seq #[Ay x.2.1,x.2.2] m/\(lm (bN X.prog X.w)).is s.heap x.1 x.2.1:=by
  intro zs
  induction zs with
  | nil=>intro ar _ _;exact⟨[],rfl,.nil,λj x h=>by simp at h⟩
  | cons z zs ih=>
   intro ar ha hv;cases hv with
   | @cons _ u _ us ru rus=>
   cases ru;obtain⟨ys,e1,e2,e3⟩:=ih us (λy hy=>ha y (AZ _ hy)) rus;obtain⟨a1,a2⟩:=ha z Bt;obtain⟨_,its',r',op,h1,h2,m,h3⟩:=(show a9 X.prog X.w H s.heap z.pa (.tup [.ref z.b,z.v]) from I.bA _ _ a1);obtain⟨w,rfl,xw⟩:∃w,its'=[Ay z.b,w]/\RelV z.v w:=by
    cases r' with
    | cons q1 q2=>cases q1;cases q2 with
     | cons q3 q4=>cases q4;exact⟨_,rfl,q3⟩
   refine⟨(z.k,z.b,w)::ys,by rw [Ao,Ao,e1],.cons ⟨rfl,a2,xw⟩ e2,λj x hj=>?_⟩;cases j with
   | zero=>
    cases hj;exact⟨z.pa,op,m,rfl,h1,h2,h3,xT I.bA a2⟩
   | succ j=>exact e3 j x hj
 obtain⟨ys,e1,e2,e3⟩:=Ā zs ar hz rv;have Â:=rv.length;rw [Af] at Â;have č:ys.length=zs.length:=by have:=congrArg BP e1;simpa using this
 have hs:(1000:Nat)+1000<=sizeLine:=by decide
 refine rq (knd:=bN X.prog X.w) (items:=ar.toArray) (ys:=ys) (I.ok.hd hc) hu ho Zj oJ hd (by rw [Ai];omega) (by rw [Ai];omega) (λj x hj=>?_) (λh' tk kp dd=>?_)
 ·obtain⟨pa,op,m,g1,g2⟩:=e3 j x hj;exact⟨pa,op,m,by rw [EY];exact g1,g2⟩
 ·rw [qL ys [] (by rw [ER,e1];exact hn),ER] at dd;obtain⟨od,es,ep,đ,h2,h3,h4,_,h5⟩:=dd;have afL:=beq_eq_false_iff_ne.mpr (BB (AA I.big));have fr:=I.bA.fresh (An s.heap.objs.size);refine⟨.ref s.heap.objs.size,_,I.laid (t':=tk) kp (An _) (show a9 X.prog X.w (upd H s.heap.objs.size (.dT (zs.map λz=>(z.k,z.v)))) h' _ (.dT _) from⟨?_,afL,ys,?_,od,es,ep,đ,h2,h3,h4,h5⟩),rfl,q.at _ fr⟩
  ·rw [Af];exact Bu hl ⋯
  ·refine e2.keeps λc xs ec=>?_;rw [av (λz=>by subst z;rw [fr] at ec;cases ec)];exact ec
end
end L2
variable {es:Array PySem.DictEntry}{ep:Nat}
namespace L2
open PySem PySem.Spec PyProof.Rows
section
def UR (h:lf) (d:ce) (es:Array DictEntry) (ep:Nat):Prop:=∃o,h.get? d=ap o/\o.ExactDict/\o.data=.dict es ep
theorem Pq {Q:Option bn->cr->Prop} (Ò:s.heap.IsKeyIter it d i es.size ep) (hm:UR s.heap d es ep) (hi:i < es.size)
  (q:∀h',h'.IsKeyIter it d (i+1) es.size ep->B9 it s.heap h'->Q (ap es[i].key) {s with heap:=h'}):db (dL prog w) A (pyNext (.ref it)) Q E s:=by
 have ty:=Ò.typeIs;obtain⟨o,ho,hc,hd⟩:=id Ò;obtain⟨od,T7,-,VD⟩:=hm;have abA:(s.heap.update it (Obj.mapFields (·.setIfInBounds 1 (t0 ((i:Int)+1))))).IsKeyIter it d (i+1) es.size ep:=⟨_,BS _ ho (ET (C1 hd _)),(Obj.cls_mapFields ..).trans hc,by rw [C1 hd];simp [t0]⟩;refine Aa (CZ (AU (name:=BH "__next__") ty BA (Bb BA ty Dq ?_ (Di _))));refine Aa (Ae (Aa (Aa ?_)))
 first | refine Aa (BX ty (Ae ?_)) | refine Aa (Ck ty (Ae ?_))
 refine Aa (wpAny_fieldsOf ho hd ?_);show db _ _ (if (Ay d==AR)=true then _ else _) _ _ s;rw [if_neg (λz:(Ay d==AR)=true=>A4 z)];refine Aa (Ae (Aa (Ee T7 VD ?_)));rw [if_neg (by simp)];refine Aa (Ae (Aa (EM T7 VD ?_)));rw [if_neg (by simp)];refine Ae ?_;have i0:¬((i:Int) < 0):=by omega
 simp only [i0,if_false,A2,CU hi];refine Aa ?_
 first | refine Aa (BX ty (Ae ?_)) | refine Aa (Ck ty (Ae ?_))
 refine Aa (wpAny_isOneOf_keyiter ty ?_);show db _ _ (ww (.ref it) 1 (t0 ((i:Int)+1)) >>= _) _ _ s;refine Aa (DZ ho hd (by simp) (Aa (Bf (Aa (wpAny_isOneOf_keyiter (s:={s with heap:=s.heap.update it (Obj.mapFields (·.setIfInBounds 1 (t0 ((i:Int)+1))))}) abA.typeIs ?_)))));exact Ae (Ae ⟨_,rfl,Ae (q _ abA (B9.update ..))⟩)
theorem Ul {Q:Option bn->cr->Prop} (hh:A.handled=bm) (Ò:s.heap.IsKeyIter it d i es.size ep) (hm:UR s.heap d es ep) (hi:es.size<=i)
  (q:∀h',FD it s.heap h'->Q bm {s with heap:=h'}):db (dL prog w) A (pyNext (.ref it)) Q E s:=by
 have ty:=Ò.typeIs;obtain⟨o,ho,hc,hd⟩:=id Ò;obtain⟨od,T7,-,VD⟩:=hm;refine Aa (CZ (AU (name:=BH "__next__") ty BA (Bb BA ty Dq ?_ (Di _))));refine Aa (Ae (Aa (Aa ?_)))
 first | refine Aa (BX ty (Ae ?_)) | refine Aa (Ck ty (Ae ?_))
 refine Aa (wpAny_fieldsOf ho hd ?_);show db _ _ (if (Ay d==AR)=true then _ else _) _ _ s;rw [if_neg (λz:(Ay d==AR)=true=>A4 z)];refine Aa (Ae (Aa (Ee T7 VD ?_)));rw [if_neg (by simp)];refine Aa (Ae (Aa (EM T7 VD ?_)));rw [if_neg (by simp)];refine Ae ?_;have i0:¬((i:Int) < 0):=by omega
 simp only [i0,if_false,A2,EG hi];refine Aa ?_
 first | refine Aa (BX ty (Ae ?_)) | refine Aa (Ck ty (Ae ?_))
 show db _ _ (ww (.ref it) 0 .none >>= _) _ _ s;refine Aa (DZ ho hd (by simp) ?_);refine Aa ?_;refine Aa (AO (Aa (m:=firstArgMember _ _) (Cs (a:=AR) (by first | rfl | (simp only [firstArgMember];rfl)) (AO ?_ (by size_fits)))) (by size_fits));unfold raiseNew;refine Aa (wpAny_handled ?_);rw [show A.in1.handled=bm from hh];refine Aa (Ae (wpAny_throw ?_));refine Aa (Dk (T:="StopIteration") (b:=true) ⟨_,Ap _ rfl,rfl⟩ isSubtype_stop ?_);exact Ae (q _ (((B9.update ..).extBut.push _).push _))
def Qa (hs:(d==ss)=false) (hm:UR s.heap d es ep)
  (q:Q (.ref s.heap.objs.size) {s with heap:=s.heap.push {cls:=.type "dict_keyiterator",data:=.fields #[.ref d,.int 0 0,.int es.size 0,.int ep 0]}}):db (dL prog w) A (pyIter (.ref d)) Q E s:=by
 obtain⟨od,T7,hx,VD⟩:=hm;have ty:s.TypeIs (.ref d) "dict":=⟨_,T7,hx.1⟩;refine wpAny_pyIter_slot ty F.slot_dict_iter (Bb F.slot_dict_iter ty F.entry_dict_iter ?_ (F.args_dict_iter_1 _));refine Aa ?_;refine Aa (wpAny_notOrdered_dict ty ?_);refine Ae ?_;show db _ _ (Builtin.Dict.showsAll d >>= _) _ _ s;unfold Builtin.Dict.showsAll;rw [if_neg (by rw [hs];exact A4)];refine Aa (Ae (Aa (Ee T7 VD (Aa (EM T7 VD ?_)))));exact Aa (AO (Ae ⟨_,rfl,"dict_keyiterator",_,⟨_,Ap _ rfl,rfl⟩,BA.lookup,q⟩))
end
end L2
variable {u:L2.HO}
namespace L2
open PySem PySem.Spec PyProof.Rows
section
variable {σ:St}
def Inv.freeze (I:Inv X À σ H s) (e:H a=ap (.dT kvs)):∃o,Inv X À σ (upd H a (.cE o (.dT kvs))) s:=by
 obtain⟨z,hs,xs,r,o,es,ep,h1,h2,h3,h4,h5⟩:=(show a9 X.prog X.w H s.heap a (.dT kvs) from I.bA a _ e);refine⟨o,?_⟩;have q:=I.write (x:=a) (e:=a) (o:=.cE o (.dT kvs)) (h':=s.heap) (t':=s.toks) (by rw [e];exact Cd) (.inl rfl) (λb u _ z=>z) ⟨o,h1⟩
  ⟨h1,z,hs,xs,KT.keeps r λb ys eb=>by rw [av (K8 eb e (λz=>nomatch z))];exact eb,o,es,ep,h1,h2,h3,h4,h5⟩
 exact q
def Inv.aeg (I:Inv X À σ H s) (e:H a=ap (.cE o u)) (h0:∀o u,X.H₀ a≠ap (.cE o u)) (hu:a9 X.prog X.w (upd H a u) s.heap a u) (bA:mi X.prog X.w (upd H a u) s.heap):Inv X À σ (upd H a u) s:=by
 have ne:∀b v,H b=v->v≠ap (.cE o u)->b≠a:=λb v q n z=>by subst z;exact n (q.symm.trans e)
 refine⟨I.ok,I.os,I.bare,⟨I.base.keep,I.base.slot,λb ob q n hx=>?_,I.base.there,λb xs q=>?_,λb ob xs q=>?_,λb ps q=>?_⟩,I.loc,I.cell,?_,λx c q=>?_,λp hp=>?_,bA,I.len⟩
 ·have:=I.base.free b ob q n hx;rw [av (ne b _ this (by simp))];exact this
 ·have:=I.base.eI b xs q;rw [av (ne b _ this (by simp))];exact this
 ·have:=I.base.uc b ob xs q;have hb:b≠a:=λz=>by subst z;exact h0 _ _ q
  rw [av hb];exact this
 ·obtain⟨m,this⟩:=I.base.xi b ps q;exact⟨m,by rw [av (ne b _ this (by simp))];exact this⟩
 ·rw [av (ne _ _ I.free (by simp))];exact I.free
 ·rw [av (ne _ _ (I.kD x c q) (by simp))];exact I.kD x c q
 ·obtain⟨p1,p2,p3⟩:=I.pin p hp;exact⟨p1,by rw [av (ne _ _ p2 (by simp))];exact p2,p3⟩
def Qj (ok:mi P w H h) (e:H a=ap (.cE o u)):mi P w (upd H a u) h:=λb u' q=>by
 have ne:∀c v,H c=ap v->v≠.cE o u->upd H a u c=ap v:=λc v z n=>by
  rw [av (λy=>by subst y;rw [e] at z;cases z;exact n rfl)];exact z
 by_cases hb:b=a
 ·subst hb;rw [aM] at q;cases q;exact a9.xk (ok b _ e).2 (λ_ _ _ z=>z) (λc z=>ne c _ z (by simp)) λc xs z=>ne c _ z (by simp)
 ·rw [av hb] at q;exact a9.xk (ok b _ q) (λ_ _ _ z=>z) (λc z=>ne c _ z (by simp)) λc xs z=>ne c _ z (by simp)
end
def acB (a:ce) (o:Obj):It:=
 ⟨λi H=>∃kvs,H a=ap (.cE o (.dT kvs))/\i < kvs.length,λi H x H'=>H'=H/\∀kvs,H a=ap (.cE o (.dT kvs))->∃b k v,x=.ref b/\kvs[i]?=ap (k,v)/\H b=ap (.tup (k.map kV)),λi H=>∃kvs,H a=ap (.cE o (.dT kvs))/\kvs.length<=i⟩
theorem Qy (x:a9 P w H h a (.cE o (.dT kvs))) (hd:o.data=.dict es ep) :
  UR h a es ep/\es.size=kvs.length/\∀(i:Nat) (hi:i < es.size),∃b k v,es[i].key=.ref b/\kvs[i]?=ap (k,v)/\H b=ap (.tup (k.map kV)):=by
 obtain⟨e,z,hs,xs,r,o',ė,ę,h1,h2,h3,h4,h5⟩:=x;rw [e] at h1;cases h1;rw [hd] at h3;cases h3;have hl:es.size=xs.length:=by have:=congrArg BP h4;simpa using this
 refine⟨⟨o,e,h2,hd⟩,hl.trans (Paired.length r).symm,λi hi=>?_⟩;have hx:xs[i]?=ap (xs[i]'∅):=Ad _;have pg:∀{l:List (List Key×V)}{m:List (List Key×ce×bn)}{i:Nat}{q:List Key×ce×bn},KT H l m->m[i]?=ap q->∃v,l[i]?=ap (q.1,v)/\H q.2.1=ap (.tup (q.1.map kV)):=by
  intro l m i q t
  induction t generalizing i with
  | nil=>intro h;simp at h
  | @cons p q' ps qs hq t ih=>
   intro h;cases i with
   | zero=>
    cases h;obtain⟨p1,p2⟩:=p;have e1:=hq.1;subst e1;exact⟨p2,rfl,hq.2.1⟩
   | succ i=>exact ih (by simpa using h)
 obtain⟨v,g1,g2⟩:=pg r hx;refine⟨_,_,v,?_,g1,g2⟩;have:es[i]=entryOfKey (lm (bN P w)) (xs[i]'∅):=by
  have h6:es.toList[i]?=ap (entryOfKey (lm (bN P w)) (xs[i]'∅)):=by rw [h4,Aj,hx];rfl
  rw [Dg,CU hi] at h6;exact Option.some.inj h6
 rw [this];rfl
theorem L5 {K:Ab} (a it:ce) (o:Obj) (hd:o.data=.dict es ep):Turn P w K tg (acB a o) [it] it (λi h=>h.IsKeyIter it a i es.size ep) where
 mem:=by simp
 obj:=λi h st b hb=>by
  have e:b=it:=by simpa using hb
  subst e;obtain⟨o,e,c,d⟩:=st;exact⟨o,e,λv z=>by rw [d] at z;cases z⟩
 keep:=λi h h' st k=>st.at λo e=>k it (by simp) o e
 item:=by
  intro X hP hw hK hc i À s σ H E I hf st hg;subst hP hw hK;obtain⟨kvs,hq,hx⟩:=hg;obtain⟨ģ,hl,ky⟩:=Qy (I.bA a _ hq) hd;obtain⟨b,k,v,k1,k2,k3⟩:=ky i ∅;obtain⟨f0,f1,f2,f3,f4,f5⟩:=hf it (by simp);refine Pq st ģ ∅ λh' rF sb=>?_;have I1:Inv X À σ H {s with heap:=h'}:=I.turned (t':=s.toks) (λb o hb e=>(sb.2 b hb).trans e) f0 f1 f3 f4 f5;obtain⟨oi,e,c,d⟩:=id rF;refine⟨_,rfl,GR (s:={s with heap:=h'}) e c d ⋯ ⟨.ref b,H,I1,k1,⟨rfl,λaiY đ=>?_⟩,rF,λb hb=>(hf b hb).1⟩⟩;rw [hq] at đ;cases đ;exact⟨b,k,v,rfl,k2,k3⟩
 done:=by
  intro X hP hw hK hc i À s σ H E I hf st hg;obtain⟨kvs,hq,hx⟩:=hg;obtain⟨ģ,hl,ky⟩:=Qy (I.bA a _ hq) hd;obtain⟨f0,f1,f2,f3,f4,f5⟩:=hf it (by simp);exact Ul (I.ok.hd hc) st ģ ∅ λh' eb=>⟨rfl,I.turned (t':=s.toks) (λb o hb e=>eb b o hb e) f0 f1 f3 f4 f5⟩
 self:=λ_ _ _ _ _ st h=>wpAny_pyIter_keyiter st h
def X3 (tl:TE):TI:=λσ H R=>tl σ H λx H1=>∃a o kvs,x=.ref a/\H1 a=ap (.cE o (.dT kvs))/\R (acB a o) H1
def O9 {l:ii} (hl:PE X l tl):PI X tg l (X3 tl):=by
 intro À s σ H R I h;refine bT (hl À s σ H _ I h) λv s1 ⟨x,H1,I1,r1,q1⟩=>?_;obtain⟨a,o,kvs,e,hq,q⟩:=q1;subst e;cases r1;obtain⟨eo,z,hs,xs,r,o',es,ep,h1,h2,h3,h4,h5⟩:=(show a9 X.prog X.w H1 s1.heap a (.cE o (.dT kvs)) from I1.bA a _ hq);rw [eo] at h1;cases h1;refine Qa hs ⟨o,eo,h2,h3⟩ ?_;refine⟨s1.heap.objs.size,[s1.heap.objs.size],_,_,H1,rfl,I1.kept (t':=s1.toks) λb o e=>Ag _ e,L5 a _ o h3,⟨_,Ap _ rfl,rfl,rfl⟩,λb hb=>?_,q⟩;have e:b=s1.heap.objs.size:=by simpa using hb
 subst e;exact I1.yL (An _) (I1.bA.fresh (An _))
end L2
variable {v:PL.PV}{φ:List L2.V->Prop}
noncomputable section
namespace FL
section
open PySem PySem.Spec PyProof.Rows L2 PL
variable {K:Ab}
structure W (α:Type) where
 run:(α->Prop)->Prop
 mono:∀{Q Q':α->Prop},(∀a,Q a->Q' a)->run Q->run Q'
namespace W
variable {α β γ:Type}
def ext' {a b:W α} (h:∀Q,a.run Q↔b.run Q):a=b:=by
 cases a;cases b;congr;funext Q;exact propext (h Q)
noncomputable def ret (a:α):W α:=⟨λQ=>Q a,λh q=>h _ q⟩
noncomputable def bind (w:W α) (k:α->W β):W β:=⟨λQ=>w.run λa=>(k a).run Q,λh q=>w.mono (λa q=>(k a).mono h q) q⟩
def fail:W α:=⟨λ_=>False,λ_ q=>q⟩
def fB (p:Prop) (w:W α):W α:=⟨λQ=>p/\w.run Q,λh q=>⟨q.1,w.mono h q.2⟩⟩
def any (p:α->Prop):W α:=⟨λQ=>∀a,p a->Q a,λh q a pa=>h a (q a pa)⟩
def K4:Option α->W α
 | some a=>ret a
 | none=>fail
@[simp] theorem af (a:α) (k:α->W β):bind (ret a) k=k a:=(rfl)
@[simp] theorem bind_assoc (w:W α) (f:α->W β) (g:β->W γ):bind (bind w f) g=bind w λa=>bind (f a) g:=(rfl)
@[simp] theorem acs (w:W α):bind w ret=w:=(rfl)
@[simp] theorem Zp (k:α->W β):bind fail k=fail:=(rfl)
@[simp] theorem ai (a:α) (Q:α->Prop):(ret a).run Q=Q a:=(rfl)
@[simp] theorem run_bind (w:W α) (k:α->W β) (Q:β->Prop):(bind w k).run Q=w.run λa=>(k a).run Q:=(rfl)
@[simp] theorem aah (Q:α->Prop):(fail:W α).run Q=False:=(rfl)
@[simp] theorem acP (p Q:α->Prop):(any p).run Q=∀a,p a->Q a:=(rfl)
@[simp] theorem Si (p:Prop) (w:W α) (Q:α->Prop):(fB p w).run Q=(p/\w.run Q):=(rfl)
@[simp] theorem Ra (p:Prop) (w:W α) (k:α->W β):bind (fB p w) k=fB p (bind w k):=(rfl)
def aq {p:Prop}{w:W α} (h:p):fB p w=w:=ext' λQ=>⟨λq=>q.2,λq=>⟨h,q⟩⟩
@[simp] theorem acn {w:W α}:fB True w=w:=aq trivial
@[simp] theorem aF (a:α):K4 (ap a)=ret a:=(rfl)
@[simp] theorem aaP:K4 (bm:Option α)=fail:=(rfl)
end W
inductive SL where
 | val (v:PV) | adr (b:ce) | ol (q:Option ce) (l:List PV) | oll (bs:List ce) (ls:List (List PV)) | od (kvs:List (Key×PV)) | ot (kvs:List (List Key×PV)) | mn (φ:List V->Prop)
abbrev bh:=List (Option SL)
def SL.own:SL->Bool
 | .val _=>false
 | .adr _=>false
 | _=>true
def SL.Vx:SL->List ce
 | .oll bs _=>bs
 | _=>[]
def SL.has (s:SL) (x a:ce):Prop:=a=x\/a∈s.Vx
def kF (K:Ab) (H:Hp) (a:ce):SL->Prop
 | .val _=>False
 | .adr b=>a=b
 | .oll bs ls=>H a=ap (.lst (bs.map V.ref))/\a∉bs/\bs.Nodup/\bs.length=ls.length/\∀(j:Nat) (b:ce) (l:List PV),bs[j]?=ap b->ls[j]?=ap l->∃ws,H b=ap (.lst ws)/\aE K [] H ws l
 | .ol q l=>(∀b,q=ap b->a=b)/\∃vs,H a=ap (.lst vs)/\aE K [] H vs l
 | .od kvs=>∃vs:List (Key×V),H a=ap (.dK vs)/\vs.map (·.1)=kvs.map (·.1)/\aE K [] H (vs.map (·.2)) (kvs.map (·.2))
 | .ot kvs=>∃vs:List (List Key×V),H a=ap (.dT vs)/\vs.map (·.1)=kvs.map (·.1)/\aE K [] H (vs.map (·.2)) (kvs.map (·.2))
 | .mn φ=>∃vs,H a=ap (.lst vs)/\φ vs
def w9 (K:Ab) (H:Hp) (u:V) (s:SL):Prop:=(∃v,s=.val v/\VR K [] H u v)\/∃a,u=.ref a/\kF K H a s
def dY (σ:L2.St) (fs:bh) (a:ce):Prop:=∃(i:Nat) (s:SL) (x:ce),fs[i]?=ap (ap s)/\s.own=true/\σ[i]?=ap (ap (.ref x))/\s.has x a
def iG (σ:L2.St) (fs:bh) (φ:List V->Prop) (a:ce):Prop:=∃i:Nat,fs[i]?=ap (ap (.mn φ))/\σ[i]?=ap (ap (.ref a))
structure aU (K:Ab) (H:Hp) (σ:L2.St) (fs:bh):Prop where
 len:σ.length=fs.length
 at':∀(i:Nat) (s:SL),fs[i]?=ap (ap s)->∃u,σ[i]?=ap (ap u)/\w9 K H u s
 nd:∀(i j:Nat) (s t:SL) (x y a:ce),fs[i]?=ap (ap s)->fs[j]?=ap (ap t)->s.own=true->t.own=true->σ[i]?=ap (ap (.ref x))->σ[j]?=ap (ap (.ref y))->s.has x a->t.has y a->i=j
structure cQ (σ:L2.St) (fs:bh) (H:Hp) (σ':L2.St) (bB:bh) (H':Hp):Prop where
 keep:∀a o,H a=ap o->¬dY σ fs a->H' a=ap o/\¬dY σ' bB a
 there:∀a,H' a=bm->H a=bm
 pk:∀a φ,iG σ fs φ a->iG σ' bB φ a\/(¬dY σ' bB a/\∃vs,H' a=ap (.lst vs)/\φ vs)
structure cV (σ:L2.St) (fs:bh) (H H':Hp):Prop where
 keep:∀a o,H a=ap o->(∀φ,¬iG σ fs φ a)->H' a=ap o
 there:∀a,H' a=bm->H a=bm
section
variable {σ σ' σ1 σ2:L2.St}{fs bB Ue cD:bh}{H H' H1 H2:Hp}
def iG.xG (p:iG σ fs φ a):dY σ fs a:=let ⟨i,e1,e2⟩:=p;⟨i,_,_,e1,rfl,e2,.inl rfl⟩
def cV.refl:cV σ fs H H:=⟨λ_ _ h _=>h,λ_ h=>h⟩
def cV.trans (a:cV σ fs H H1) (b:cV σ fs H1 H2):cV σ fs H H2:=⟨λx o h n=>b.keep x o (a.keep x o h n) n,λx h=>a.there x (b.there x h)⟩
def cV.f (g:cV σ fs H H'):cQ σ fs H σ fs H':=⟨λa o h n=>⟨g.keep a o h λφ p=>n p.xG,n⟩,g.there,λa φ p=>.inl p⟩
def cV.wj (g:cV σ fs H H') {o:HO} (h:H a=ap o) (n:¬dY σ fs a):H' a=ap o:=g.keep a o h λφ p=>n p.xG
def cV.same (h:lJ H H'):cV σ fs H H':=⟨λa o e _=>h a o e,λa e=>(by
 cases z:H a with
 | none=>rfl
 | some o=>rw [h a o z] at e;cases e)⟩
def kF.ex {c:ce}{s:SL} (h:kF K H a s) (ho:s.own=true) (hc:s.has a c):∃o,H c=ap o/\(∀vs,o≠.tup vs)/\∀ob u,o≠.cE ob u:=by
 cases s with
 | val _=>exact h.elim
 | adr _=>cases ho
 | ol q l=>obtain⟨_,vs,e,_⟩:=h;rcases hc with rfl | hc;exact⟨_,e,by simp,by simp⟩;cases hc
 | oll bs ls=>
  obtain⟨e,_,_,hl,hb⟩:=h;rcases hc with rfl | hc
  ·exact⟨_,e,by simp,by simp⟩
  ·obtain⟨j,hj⟩:=CP (show c∈bs from hc);have h1:=(Ak.mp hj).1;obtain⟨ws,e,_⟩:=hb j c _ hj (Ad (by rw [<- hl];exact h1));exact⟨_,e,by simp,by simp⟩
 | od l=>obtain⟨vs,e,_⟩:=h;rcases hc with rfl | hc;exact⟨_,e,by simp,by simp⟩;cases hc
 | ot l=>obtain⟨vs,e,_⟩:=h;rcases hc with rfl | hc;exact⟨_,e,by simp,by simp⟩;cases hc
 | mn l=>obtain⟨vs,e,_⟩:=h;rcases hc with rfl | hc;exact⟨_,e,by simp,by simp⟩;cases hc
def aU.ownAt (s:aU K H σ fs) {t:SL} (h1:fs[i]?=ap (ap t)) (h2:t.own=true) (h3:σ[i]?=ap (ap (.ref a))):kF K H a t:=by
 obtain⟨u,e,r⟩:=s.at' i t h1;rw [h3] at e;cases e;rcases r with⟨v,rfl,_⟩ | ⟨b,e,r⟩
 ·cases h2
 ·cases e;exact r
def aU.xG (s:aU K H σ fs) (h:dY σ fs a):∃o,H a=ap o/\(∀vs,o≠.tup vs)/\∀ob u,o≠.cE ob u:=by
 obtain⟨i,t,x,h1,h2,h3,h4⟩:=h;exact (s.ownAt h1 h2 h3).ex h2 h4
def aU.noOwn (s:aU K H σ fs) (h:H a=bm):¬dY σ fs a:=λz=>by
 obtain⟨o,e,_⟩:=s.xG z;rw [h] at e;cases e
def aU.Xp (s:aU K H σ fs) (h:H a=ap (.tup vs)):¬dY σ fs a:=λz=>by
 obtain⟨o,e,n,_⟩:=s.xG z;rw [h] at e;cases e;exact n vs rfl
def aU.Xq (s:aU K H σ fs) (h:H a=ap (.cE ob u)):¬dY σ fs a:=λz=>by
 obtain⟨o,e,_,n⟩:=s.xG z;rw [h] at e;cases e;exact n ob u rfl
def cQ.refl:cQ σ fs H σ fs H:=⟨λ_ _ h n=>⟨h,n⟩,λ_ h=>h,λ_ _ h=>.inl h⟩
def cQ.trans (a:cQ σ fs H σ1 Ue H1) (b:cQ σ1 Ue H1 σ2 cD H2):cQ σ fs H σ2 cD H2:=
 ⟨λx o h n=>let ⟨h1,n1⟩:=a.keep x o h n;b.keep x o h1 n1,λx h=>a.there x (b.there x h),λx φ h=>(a.pk x φ h).elim (b.pk x φ) λ⟨n,vs,e,p⟩=>.inr (let ⟨h1,n1⟩:=b.keep x _ e n;⟨n1,vs,h1,p⟩)⟩
def cQ.eI (g:cQ σ fs H σ' bB H') (s:aU K H σ fs):bj K H H':=
 ⟨λa vs h=>(g.keep a _ h (s.Xp h)).1,λa o u h=>(g.keep a _ h (s.Xq h)).1⟩
def VR.tk {u:V} (t:bj K H H') (r:VR K [] H u v):VR K [] H' u v:=r.mono t λ_ _ e=>e
def aE.tk {u:List V}{v:List PV} (t:bj K H H') (r:aE K [] H u v):aE K [] H' u v:=r.mono t λ_ _ e=>e
def cQ.vr (g:cQ σ fs H σ' bB H') (s:aU K H σ fs) {u:V} (r:VR K [] H u v):VR K [] H' u v:=VR.tk (g.eI s) r
def cV.eI (g:cV σ fs H H') (s:aU K H σ fs):bj K H H':=g.f.eI s
def cV.vr (g:cV σ fs H H') (s:aU K H σ fs) {u:V} (r:VR K [] H u v):VR K [] H' u v:=VR.tk (g.eI s) r
def cV.N6 (g:cV σ fs H H') (s:aU K H σ fs) {u:List V}{v:List PV} (r:aE K [] H u v):aE K [] H' u v:=aE.tk (g.eI s) r
def kF.mono {s:SL} (t:bj K H H') (e:∀c o,s.own=true->s.has a c->H c=ap o->H' c=ap o) (h:kF K H a s):kF K H' a s:=by
 cases s with
 | val _=>exact h
 | adr _=>exact h
 | ol _ l=>obtain⟨z,vs,q,r⟩:=h;exact⟨z,vs,e _ _ rfl (.inl rfl) q,aE.tk t r⟩
 | oll bs ls=>
  obtain⟨z,h1,h2,h3,h4⟩:=h;refine⟨e _ _ rfl (.inl rfl) z,h1,h2,h3,λj b l hb hl=>?_⟩;obtain⟨ws,q,r⟩:=h4 j b l hb hl;exact⟨ws,e _ _ rfl (.inr (A7 hb)) q,aE.tk t r⟩
 | od l=>obtain⟨vs,q,k,r⟩:=h;exact⟨vs,e _ _ rfl (.inl rfl) q,k,aE.tk t r⟩
 | ot l=>obtain⟨vs,q,k,r⟩:=h;exact⟨vs,e _ _ rfl (.inl rfl) q,k,aE.tk t r⟩
 | mn φ=>obtain⟨vs,q,k⟩:=h;exact⟨vs,e _ _ rfl (.inl rfl) q,k⟩
def w9.mono {u:V}{s:SL} (t:bj K H H') (e:∀x a o,u=.ref x->s.own=true->s.has x a->H a=ap o->H' a=ap o) (h:w9 K H u s):w9 K H' u s:=by
 rcases h with⟨v,q,r⟩ | ⟨a,q,r⟩
 ·exact .inl ⟨v,q,VR.tk t r⟩
 ·exact .inr ⟨a,q,r.mono t (λc o z y w=>e a c o q z y w)⟩
def aU.same (s:aU K H σ fs) (h:lJ H H'):aU K H' σ fs:=⟨s.len,λi t e=>let ⟨u,h1,h2⟩:=s.at' i t e;⟨u,h1,h2.mono h.eG (λ_ a o _ _ _ z=>h a o z)⟩,s.nd⟩
def cQ.same (h:lJ H H') (s:aU K H σ fs):cQ σ fs H σ fs H':=⟨λa o e n=>⟨h a o e,n⟩,λa e=>(by
 cases z:H a with
 | none=>rfl
 | some o=>rw [h a o z] at e;cases e),λa φ p=>.inl p⟩
inductive iH:bh->bh->Prop
 | nil:iH [] []
 | drop {s:Option SL}{a b:bh} (h:iH a b):iH (s::a) (bm::b)
 | keep {s:Option SL}{a b:bh} (h:iH a b):iH (s::a) (s::b)
theorem iH.at {a b:bh} (h:iH a b):∀(i:Nat) (s:SL),b[i]?=ap (ap s)->a[i]?=ap (ap s):=by
 induction h with
 | nil=>intro i s e;simp at e
 | drop h ih=>intro i s e;cases i with | zero=>simp at e | succ i=>simp at e ⊢;exact ih i s e
 | keep h ih=>intro i s e;cases i with | zero=>simpa using e | succ i=>simp at e ⊢;exact ih i s e
theorem iH.length {a b:bh} (h:iH a b):a.length=b.length:=by induction h <;> simp_all
theorem iH.refl:∀a:bh,iH a a
 | []=>.nil
 | _::a=>.keep (iH.refl a)
def aU.le (s:aU K H σ fs) (h:iH fs bB):aU K H σ bB:=⟨s.len.trans h.length,λi t e=>s.at' i t (h.at i t e),λi j t u x y a e1 e2=>s.nd i j t u x y a (h.at i t e1) (h.at j u e2)⟩
def dY.le (h:iH fs bB) (o:dY σ bB a):dY σ fs a:=let ⟨i,t,x,e1,e2,e3⟩:=o;⟨i,t,x,h.at i t e1,e2,e3⟩
def cQ.le (s:aU K H σ fs) (h:iH fs bB):cQ σ fs H σ bB H:=⟨λa o e n=>⟨e,λz=>n (z.le h)⟩,λ_ e=>e,λa φ p=>by
 obtain⟨i,e1,e2⟩:=p;by_cases c:dY σ bB a
 ·obtain⟨j,t,x,c1,c2,c3,c4⟩:=c;have ij:=s.nd i j _ t a x a e1 (h.at j t c1) rfl c2 e2 c3 (.inl rfl) c4;subst ij;have:=h.at i t c1;rw [e1] at this;cases this;exact .inl ⟨i,c1,e2⟩
 ·obtain⟨vs,q,r⟩:=s.ownAt e1 rfl e2;exact .inr ⟨c,vs,q,r⟩⟩
def cX {l:List (Option α)}{x y:α} (h:(l.set i (ap x))[j]?=ap (ap y)):(j=i/\y=x)\/(j≠i/\l[j]?=ap (ap y)):=by
 by_cases c:j=i
 ·subst c;rw [List.getElem?_set] at h;simp at h;exact .inl ⟨rfl,h.2.symm⟩
 ·rw [BZ (λz=>c z.symm)] at h;exact .inr ⟨c,h⟩
def cI {l:List α}{x:α} (h:i < l.length):(l.set i x)[i]?=ap x:=by rw [List.getElem?_set];simp [h]
def aO {l:List α}{x:α} (h:j≠i):(l.set i x)[j]?=l[j]?:=BZ (λz=>h z.symm)
def aU.put (s:aU K H σ fs) {u:V}{t:SL} (hr:w9 K H u t) (hf:∀x a,u=.ref x->t.own=true->t.has x a->∀(j:Nat) (w:SL) (y:ce),j≠i->fs[j]?=ap (ap w)->w.own=true->σ[j]?=ap (ap (.ref y))->¬w.has y a):aU K H (σ.set i (ap u)) (fs.set i (ap t)):=by
 refine⟨by simp [s.len],λj w e=>?_,λj k w x b1 b2 a e1 e2 o1 o2 q1 q2 z1 z2=>?_⟩
 ·rcases cX e with⟨rfl,rfl⟩ | ⟨n,e⟩
  ·have hl:j < σ.length:=by
    have:=(Ak.mp e).1;rw [BO] at this;rw [s.len];exact this
   exact⟨u,cI hl,hr⟩
  ·obtain⟨v,h1,h2⟩:=s.at' j w e;exact⟨v,by rw [aO n];exact h1,h2⟩
 ·rcases cX e1 with⟨y1,y2⟩ | ⟨n1,f1⟩ <;> rcases cX e2 with⟨y3,y4⟩ | ⟨n2,f2⟩
  ·exact y1.trans y3.symm
  ·subst y1;subst y2;rw [aO n2] at q2;have hl:j < σ.length:=by have:=(Ak.mp q1).1;simpa using this
   rw [cI hl] at q1;cases q1;exact absurd z2 (hf _ a rfl o1 z1 k x b2 n2 f2 o2 q2)
  ·subst y3;subst y4;rw [aO n1] at q1;have hl:k < σ.length:=by have:=(Ak.mp q2).1;simpa using this
   rw [cI hl] at q2;cases q2;exact absurd z1 (hf _ a rfl o2 z2 j w b1 n1 f1 o1 q1)
  ·rw [aO n1] at q1;rw [aO n2] at q2;exact s.nd j k w x b1 b2 a f1 f2 o1 o2 q1 q2 z1 z2
def aU.fJ (s:aU K H σ fs) {u:V} (hr:VR K [] H u v) (i:Nat):aU K H (σ.set i (ap u)) (fs.set i (ap (.val v))):=s.put (.inl ⟨v,rfl,hr⟩) λ_ _ _ z=>by cases z
def Gb {u:V}{t:SL} (o:dY (σ.set i (ap u)) (fs.set i (ap t)) a) (hl:σ.length=fs.length):dY σ fs a\/∃x,u=.ref x/\t.own=true/\t.has x a:=by
 obtain⟨j,w,x,e1,e2,e3,e4⟩:=o;rcases cX e1 with⟨rfl,rfl⟩ | ⟨n,e1⟩
 ·have h2:j < σ.length:=by have:=(Ak.mp e3).1;simpa using this
  rw [cI h2] at e3;cases e3;exact .inr ⟨x,rfl,e2,e4⟩
 ·rw [aO n] at e3;exact .inl ⟨j,w,x,e1,e2,e3,e4⟩
def KP (s:aU K H σ fs) {u:V}{t:SL} (p:iG σ fs φ a) (hu:∀x,u=.ref x->t.own=true->t.has x a->t=.mn φ):iG (σ.set i (ap u)) (fs.set i (ap t)) φ a\/¬dY (σ.set i (ap u)) (fs.set i (ap t)) a:=by
 obtain⟨j,e1,e2⟩:=p;by_cases c:j=i
 ·subst c;by_cases c2:∃x,u=.ref x/\t.own=true/\t.has x a
  ·obtain⟨x,c3,c4,c5⟩:=c2;have hl:=(Ak.mp e2).1;have RI:=(Ak.mp e1).1;have et:=hu x c3 c4 c5;subst et;rcases c5 with rfl | c5
   ·exact .inl ⟨j,by rw [cI RI],by rw [cI hl,c3]⟩
   ·cases c5
  ·refine .inr λo=>?_;obtain⟨k,w,y,q1,q2,q3,q4⟩:=o;rcases cX q1 with⟨rfl,rfl⟩ | ⟨n,q1⟩
   ·have hl:=(Ak.mp e2).1;rw [cI hl] at q3;cases q3;exact c2 ⟨y,rfl,q2,q4⟩
   ·rw [aO n] at q3;exact n (s.nd k j w _ y a a q1 e1 q2 rfl q3 e2 q4 (.inl rfl))
 ·exact .inl ⟨j,by rw [aO c];exact e1,by rw [aO c];exact e2⟩
def cQ.fJ (s:aU K H σ fs) (u:V) (v:PV) (i:Nat):cQ σ fs H (σ.set i (ap u)) (fs.set i (ap (.val v))) H:=
 ⟨λa o e n=>⟨e,λz=>(Gb z s.len).elim n λ⟨_,_,z,_⟩=>by cases z⟩,λ_ e=>e,λa φ p=>(KP s p (λ_ _ z=>by cases z)).imp id λn=>⟨n,by
  obtain⟨j,e1,e2⟩:=p;obtain⟨vs,q,r⟩:=s.ownAt e1 rfl e2;exact⟨vs,q,r⟩⟩⟩
def aU.OZ (s:aU K H σ fs) {t:SL} (hr:kF K H a t) (hn:∀c,t.has a c->¬dY σ fs c) (i:Nat):aU K H (σ.set i (ap (.ref a))) (fs.set i (ap t)):=s.put (.inr ⟨a,rfl,hr⟩) λx c e _ hc j w y n e1 e2 e3 z=>by
 cases e;exact hn c hc ⟨j,w,y,e1,e2,e3,z⟩
def yw {t:SL} (hi:t.Vx=[]) {c:ce} (h:t.has a c):c=a:=by
 rcases h with h | h
 ·exact h
 ·rw [hi] at h;cases h
def aU.xx (s:aU K H σ fs) {t:SL} (hr:kF K H a t) (hn:¬dY σ fs a) (i:Nat) (hi:t.Vx=[]:=by rfl):aU K H (σ.set i (ap (.ref a))) (fs.set i (ap t)):=s.OZ hr (λc hc=>by rw [yw hi hc];exact hn) i
def cQ.OZ (s:aU K H1 σ fs) (g:cQ σ fs H σ fs H1) {t:SL} (hn:∀c,t.has a c->¬dY σ fs c) (h0:∀c,t.has a c->H c=bm) (i:Nat):cQ σ fs H (σ.set i (ap (.ref a))) (fs.set i (ap t)) H1:=by
 refine⟨λb o e n=>⟨(g.keep b o e n).1,λz=>(Gb z s.len).elim n λ⟨x,z,_,y⟩=>?_⟩,g.there,λb φ p=>?_⟩
 ·cases z;rw [h0 b y] at e;cases e
 ·obtain⟨j,e1,e2⟩:=p;obtain⟨vs,q,r⟩:=s.ownAt e1 rfl e2;refine (KP (t:=t) s ⟨j,e1,e2⟩ (λx z o y=>?_)).imp id λn=>⟨n,vs,q,r⟩;cases z;exact absurd ⟨j,_,_,e1,rfl,e2,.inl rfl⟩ (hn b y)
def cQ.xx (s:aU K H1 σ fs) (g:cQ σ fs H σ fs H1) {t:SL} (hn:¬dY σ fs a) (h0:H a=bm) (i:Nat) (hi:t.Vx=[]:=by rfl):cQ σ fs H (σ.set i (ap (.ref a))) (fs.set i (ap t)) H1:=cQ.OZ s g (λc hc=>by rw [yw hi hc];exact hn) (λc hc=>by rw [yw hi hc];exact h0) i
def Gd (s:aU K H σ fs) {t t':SL}{c:ce} (e1:fs[i]?=ap (ap t)) (o:t.own=true) (np:∀φ,t≠.mn φ) (e2:σ[i]?=ap (ap (.ref a))) (hc:t.has a c) (Zj:t'.has a c) (vk:∀b,t'.has a b->t.has a b) (o':t'.own=true) (sx:ph c H H') (ht:bj K H H'->kF K H' a t'):aU K H' σ (fs.set i (ap t'))/\cQ σ fs H σ (fs.set i (ap t')) H':=by
 have oa:=s.ownAt e1 o e2;obtain⟨ob,q,n1,n2⟩:=oa.ex o hc;have tk:bj K H H':=⟨λb vs z=>sx b _ (λy=>by subst y;rw [q] at z;cases z;exact n1 _ rfl) z,λb o u z=>sx b _ (λy=>by subst y;rw [q] at z;cases z;exact n2 _ _ rfl) z⟩;have Y5:=ht tk;have hi:i < fs.length:=(Ak.mp e1).1;have SS:∀b,dY σ (fs.set i (ap t')) b->dY σ fs b:=λb z=>by
  obtain⟨j,w,x,z1,z2,z3,z4⟩:=z;rcases cX z1 with⟨rfl,rfl⟩ | ⟨n,z1⟩
  ·rw [e2] at z3;cases z3;exact⟨j,t,a,e1,o,e2,vk b z4⟩
  ·exact⟨j,w,x,z1,z2,z3,z4⟩
 refine⟨⟨by simp [s.len],λj w e=>?_,λj k w x b1 b2 b z1 z2 o1 o2 q1 q2 y1 y2=>?_⟩,⟨λb ob e n=>⟨sx b ob (λz=>by subst z;exact n ⟨i,t,a,e1,o,e2,hc⟩) e,λz=>n (SS b z)⟩,λb e=>?_,λb φ p=>?_⟩⟩
 ·rcases cX e with⟨rfl,rfl⟩ | ⟨n,e⟩
  ·exact⟨_,e2,.inr ⟨a,rfl,Y5⟩⟩
  ·obtain⟨u,h1,h2⟩:=s.at' j w e;refine⟨u,h1,h2.mono tk (λx b ob eb ow hb z=>sx b ob (λy=>?_) z)⟩;subst y;subst eb;exact n (s.nd j i w t x a b e e1 ow o h1 e2 hb hc)
 ·have f:∀{j:Nat}{w:SL}{y:ce},(fs.set i (ap t'))[j]?=ap (ap w)->w.own=true->σ[j]?=ap (ap (.ref y))->w.has y b->∃w',fs[j]?=ap (ap w')/\w'.own=true/\w'.has y b:=λ{j w y} z ow qy hy=>by
   rcases cX z with⟨rfl,rfl⟩ | ⟨n,z⟩
   ·rw [e2] at qy;cases qy;exact⟨t,e1,o,vk b hy⟩
   ·exact⟨w,z,ow,hy⟩
  obtain⟨w',a1,a2,a3⟩:=f z1 o1 q1 y1;obtain⟨x',c1,c2,c3⟩:=f z2 o2 q2 y2;exact s.nd j k w' x' b1 b2 b a1 c1 a2 c2 q1 q2 a3 c3
 ·cases z:H b with
  | none=>rfl
  | some ob=>
   by_cases cc:b=c
   ·subst cc;obtain⟨o2,y,_⟩:=Y5.ex o' Zj;rw [e] at y;cases y
   ·rw [sx b ob cc z] at e;cases e
 ·obtain⟨j,p1,p2⟩:=p;have ji:j≠i:=λz=>by subst z;rw [e1] at p1;cases p1;exact np φ rfl
  exact .inl ⟨j,by rw [aO ji];exact p1,p2⟩
def ff (s:aU K H σ fs) {t t':SL} (e1:fs[i]?=ap (ap t)) (o:t.own=true) (np:∀φ,t≠.mn φ) (e2:σ[i]?=ap (ap (.ref a))) (sx:ph a H H') (ht:bj K H H'->kF K H' a t') (hi:t'.Vx=t.Vx:=by rfl) (o':t'.own=true:=by rfl):aU K H' σ (fs.set i (ap t'))/\cQ σ fs H σ (fs.set i (ap t')) H':=
 Gd s e1 o np e2 (.inl rfl) (.inl rfl) (λb h=>by unfold SL.has at h ⊢;rw [hi] at h;exact h) o' sx ht
end
end
end FL
open FL.W renaming bind→am,ret→bd,run_bind→ci,af→ga,ai→gl,aq→mo,ext'→u8,aF→wv
local macro_rules | `($a\$b)=>`(am (bd $a) $b)
variable {x:B3}{u:L2.V}{o b:B7}{fs bB:FL.bh}{es:List B7}{σ':L2.St}{wa wb wc:FL.W PL.PV}{wl:FL.W (List PL.PV)}
namespace FL
section
open PySem PySem.Spec PyProof.Rows L2 PL
variable {K:Ab}
def fE (K:Ab) (fs:bh) (w:W PV):TE:=λσ H Q=>aU K H σ fs/\w.run λv=>∀u H',cV σ fs H H'->aU K H' σ fs->VR K [] H' u v->Q u H'
def fT (K:Ab) (fs:bh) (w:W Bool):TT:=λσ H Q=>aU K H σ fs/\w.run λb=>∀H',cV σ fs H H'->aU K H' σ fs->Q b H'
def fO (K:Ab) (fs:bh) (w:W (Option Int)):TO:=λσ H Q=>aU K H σ fs/\w.run λb=>∀H',cV σ fs H H'->aU K H' σ fs->Q b H'
def fL (K:Ab) (fs:bh) (w:W (List PV)):TE:=λσ H Q=>aU K H σ fs/\w.run λl=>∀a vs H',cV σ fs H H'->aU K H' σ fs->H a=bm->H' a=ap (.lst vs)->aE K [] H' vs l->Q (.ref a) H'
def YW (K:Ab) (H:Hp) (u:V) (l:List PV):Prop:=∃a vs,u=.ref a/\(V1 K H a vs\/H a=ap (.tup vs))/\aE K [] H vs l
def UP (K:Ab) (σ:L2.St) (fs:bh) (H:Hp) (u:V) (l:List PV):Prop:=YW K H u l\/∃a,u=.ref a/\((¬dY σ fs a/\∃vs,H a=ap (.lst vs)/\aE K [] H vs l)\/∃(i:Nat) (q:Option ce),fs[i]?=ap (ap (.ol q l))/\σ[i]?=ap (ap (.ref a)))
def fQ (K:Ab) (fs:bh) (w:W (List PV)):TE:=λσ H Q=>aU K H σ fs/\w.run λl=>∀u H',cV σ fs H H'->aU K H' σ fs->UP K σ fs H' u l->Q u H'
def fI (K:Ab) (fs:bh) (w:W (List PV)):TE:=λσ H Q=>aU K H σ fs/\w.run λl=>∀u H',cV σ fs H H'->aU K H' σ fs->YW K H' u l->Q u H'
inductive AK where
 | v | p (φ:List V->Prop) | f (a:ce)
inductive fZ (K:Ab) (σ:L2.St) (fs:bh) (H:Hp):List V->List AK->List PV->Prop
 | nil:fZ K σ fs H [] [] []
 | v {u:V}{x:PV}{vs:List V}{ks:List AK}{l:List PV} (r:VR K [] H u x) (t:fZ K σ fs H vs ks l):fZ K σ fs H (u::vs) (.v::ks) (x::l)
 | p {a:ce}{φ:List V->Prop}{vs:List V}{ks:List AK}{l:List PV} (r:iG σ fs φ a) (t:fZ K σ fs H vs ks l):fZ K σ fs H (.ref a::vs) (.p φ::ks) l
 | f {a:ce}{vs:List V}{ks:List AK}{l:List PV} (t:fZ K σ fs H vs ks l):fZ K σ fs H (.ref a::vs) (.f a::ks) l
def fA (K:Ab) (fs:bh) (ks:List AK) (w:W (List PV)):TA:=λσ H Q=>aU K H σ fs/\w.run λl=>∀vs H',cV σ fs H H'->aU K H' σ fs->fZ K σ fs H' vs ks l->Q vs H'
structure EF (X:Cx) (K:Ab) (fs:bh) (e:ii) (w:W PV):Prop where p:PE X e (fE K fs w)
structure LF (X:Cx) (K:Ab) (fs:bh) (e:ii) (w:W (List PV)):Prop where p:PE X e (fL K fs w)
structure QF (X:Cx) (K:Ab) (fs:bh) (e:ii) (w:W (List PV)):Prop where p:PE X e (fQ K fs w)
structure IF (X:Cx) (K:Ab) (fs:bh) (e:ii) (w:W (List PV)):Prop where p:PE X e (fI K fs w)
structure TF (X:Cx) (K:Ab) (fs:bh) (e:ii) (w:W Bool):Prop where p:PT X e (fT K fs w)
structure HL (X:Cx) (K:Ab) (fs:bh) (e:ii) (w:W Bool):Prop where p:PW X e (fT K fs w)
structure OF (X:Cx) (K:Ab) (fs:bh) (e:Option ii) (w:W (Option Int)):Prop where p:L2.PO X e (fO K fs w)
structure AF (X:Cx) (K:Ab) (fs:bh) (es:List ii) (ks:List AK) {R:Type} (B:(List PV->W R)->W R):Prop where
 p:∃w:W (List PV),PA X es (fA K fs ks w)/\∀k,B k=am w k
section
def YW.tk (t:bj K H H') (h:YW K H u l):YW K H' u l:=by
 obtain⟨a,vs,e,q,r⟩:=h;exact⟨a,vs,e,q.imp (t.f _ _) (t.t _ _),aE.tk t r⟩
def UP.go (h:UP K σ fs H u l) (s:aU K H σ fs) (g:cV σ fs H H'):UP K σ fs H' u l:=by
 rcases h with h | ⟨a,e,⟨n,vs,q,r⟩ | q⟩
 ·exact .inl (h.tk (g.eI s))
 ·exact .inr ⟨a,e,.inl ⟨n,vs,(g.wj q n),g.N6 s r⟩⟩
 ·exact .inr ⟨a,e,.inr q⟩
def UP.sq (h:UP K σ fs H u l) (s:aU K H σ fs):∃a vs,u=.ref a/\(c9 K H a vs\/dX K H a vs)/\aE K [] H vs l:=by
 rcases h with⟨a,vs,e,q,r⟩ | ⟨a,e,⟨n,vs,q,r⟩ | ⟨i,_,q1,q2⟩⟩
 ·exact⟨a,vs,e,q.elim (λq=>.inl q.sq) λq=>.inr (dX.of q),r⟩
 ·exact⟨a,vs,e,.inl (c9.of q),r⟩
 ·obtain⟨_,vs,q,r⟩:=s.ownAt q1 rfl q2;exact⟨a,vs,e,.inl (c9.of q),r⟩
end
section
variable {a c:ii}{rest:List ii}{w:W PV}
def aa (i:Nat) (hs:fs[i]?=ap (ap (.val v)):=by rfl) (hN:X.N[i]?=ap x:=by rfl) (hv:Hv X.env.scope x:=by first | exact C2 rfl | exact CC (C2 rfl) | exact CC (CC rfl)) (hd:jr x:=by decide) (jM:HN x:=by decide):EF X K fs (.Name x pos) (.ret v):=
 ⟨PE.imp (eL hN hv hd jM) λσ H Q ⟨sr,q⟩=>by
  obtain⟨u,e1,r⟩:=sr.at' i _ hs;rcases r with⟨w,e,r⟩ | ⟨a,_,r⟩
  ·cases e;exact⟨u,e1,q u H .refl sr r⟩
  ·exact r.elim⟩
def Zq {v:V}{p:PV} (hv:∀H,VR K [] H v p) (h:PE X e (tC v)):EF X K fs e (.ret p):=⟨PE.imp h λσ H Q ⟨sr,q⟩=>q v H .refl sr (hv _)⟩
def ak {i j}:EF X K fs (.Constant (.int i) j pos) (.ret (.int i)):=Zq (λ_=>.int i) W6
def Ut {b j}:EF X K fs (.Constant (.bool b) j pos) (.ret (.bl b)):=Zq (λ_=>.bl b) aaF
def gm {j}:EF X K fs (.Constant .none j pos) (.ret .aG):=Zq (λ_=>.aG) Pd
def wG {x j}:EF X K fs (.Constant (.str x) j pos) (.ret (.str x)):=Zq (λ_=>.str x) W3
def yZ {i:Int}{t:Tok} (hm:X.mg x=ap (.int i t)) (hg:Gl X x) (hd:jr x:=by decide):EF X K fs (.Name x pos) (.ret (.int i)):=Zq (λ_=>.int i) (rH hg hm ⟨_,rfl⟩ hd)
def yY {i:Str}{t:Tok} (hm:X.mg x=ap (.str i t)) (hg:Gl X x) (hd:jr x:=by decide):EF X K fs (.Name x pos) (.ret (.str i)):=Zq (λ_=>.str i) (rH hg hm ⟨_,rfl⟩ hd)
def of2 (m:M2) (x y:PV):W PV:=⟨λQ=>m.f x y [] λz h=>h=[]/\Q z,λf q=>m.mono (λ_ _ q=>⟨q.1,f _ q.2⟩) q⟩
def hr0 (H:Hp):HR K [] H []:=⟨D5,rfl,λn a o e _=>by simp at e⟩
def pq0 {Q:VK}{z:PV}{h:PH} (sr:aU K H σ fs) (q:h=[]/\∀u H',cV σ fs H H'->aU K H' σ fs->VR K [] H' u z->Q u H'):pQ K [] H Q z h:=λι' v H' g r x=>by
 obtain⟨e,q⟩:=q;subst e;have:ι'=[]:=B1 r.len;subst this;have sm:lJ H H':=λa o z=>g.keep a o (by simp) z;exact q v H' (cV.same sm) (sr.same sm) x
def Xm {r:R2}{m:M2} (hm:M2.Ok K r m) {Q:VK}{v:V}{x y:PV} (sr:aU K H σ fs) (hu:VR K [] H u x) (hv:VR K [] H v y) (q:(of2 m x y).run λz=>∀u H',cV σ fs H H'->aU K H' σ fs->VR K [] H' u z->Q u H'):r u v H Q:=
 hm (hr0 H) hu hv (m.mono (λz h q=>pq0 sr q) q)
def Lz {r:R2}{m:M2} (hm:M2.Ok K r m):∀σ H Q,fE K fs (.bind wa λx=>.bind wb λy=>of2 m x y) σ H Q->Wk r (fE K fs wa) (fE K fs wb) σ H Q:=λσ H Q ⟨sr,q⟩=>
 ⟨sr,wa.mono (λx q1 u1 H1 g1 s1 v1=>⟨s1,wb.mono (λy q2 u2 H2 g2 s2 v2=>Xm hm s2 (g2.vr s1 v1) v2 ((of2 m x y).mono (λz q u3 H3 g3 s3 v3=>q u3 H3 ((g1.trans g2).trans g3) s3 v3) q2)) q1⟩) q⟩
def QZ {op:Operator}{r:R2}{m:M2} (ho:iW X (r9 op) r) (hm:M2.Ok K r m) (ha:EF X K fs a wa) (hb:EF X K fs b wb):EF X K fs (.BinOp a op b pos) (.bind wa λx=>.bind wb λy=>of2 m x y):=⟨PE.imp (KS ho ha.p hb.p) (Lz hm)⟩
def uk (ha:EF X K fs a wa) (hb:EF X K fs b wb):EF X K fs (.BinOp a .Sub b pos) (.bind wa λx=>.bind wb λy=>of2 xH x y):=QZ Xb (Hu λ_ _ _ _=>.int _) ha hb
def uo (ha:EF X K fs a wa) (hb:EF X K fs b wb):EF X K fs (.BinOp a .Mult b pos) (.bind wa λx=>.bind wb λy=>of2 pV x y):=QZ SX (zy λ_ _ _ _=>.int _) ha hb
def VS (ha:EF X K fs a wa) (hb:EF X K fs b wb):EF X K fs (.BinOp a .FloorDiv b pos) (.bind wa λx=>.bind wb λy=>of2 oDiv x y):=QZ SY (zy λ_ _ _ _=>.int _) ha hb
def qN (ha:EF X K fs a wa) (hb:EF X K fs b wb):EF X K fs (.BinOp a .Mod b pos) (.bind wa λx=>.bind wb λy=>of2 oMod x y):=QZ Xf (zy λ_ _ _ _=>.int _) ha hb
def VQ (ha:EF X K fs a wa) (hb:EF X K fs b wb):EF X K fs (.BinOp a .Pow b pos) (.bind wa λx=>.bind wb λy=>of2 Pm x y):=QZ Xd (zy λ_ _ _ _=>.int _) ha hb
def Mu:PV->W PV
 | .int i=>.ret (.int (-i))
 | _=>.fail
def LD (ha:EF X K fs a wa):EF X K fs (.UnaryOp .USub a pos) (.bind wa Mu):=⟨PE.imp (aaB Wf ha.p) λσ H Q ⟨sr,q⟩=>⟨sr,wa.mono (λx q1 u1 H1 g1 s1 v1=>by
 cases v1 with
 | int i=>exact⟨_,rfl,q1 _ H1 g1 s1 (.int _)⟩
 | _=>exact q1.elim) q⟩⟩
def asB:PV->W Bool
 | .bl b=>.ret b
 | _=>.fail
def qO {m:M2} (hc:JC X K op b m) (ha:EF X K fs a wa) (hb:EF X K fs b wb):EF X K fs (.Compare a [op] [b] pos) (.bind wa λx=>.bind wb λy=>of2 m x y):=let ⟨_,h1,h2⟩:=hc.p;⟨PE.imp (KW h1 ha.p hb.p hc.k) (Lz h2)⟩
def ab5 {w:W PV}:∀σ H Q,fT K fs (.bind w asB) σ H Q->(fE K fs w) σ H λx H'=>∃k,x=.bl k/\Q k H':=λσ H Q ⟨sr,q⟩=>⟨sr,w.mono (λx q1 u1 H1 g1 s1 v1=>by
 cases v1 with
 | bl b=>exact⟨b,rfl,q1 H1 g1 s1⟩
 | _=>exact q1.elim) q⟩
def cm {m:M2} (hc:JC X K op b m) (ha:EF X K fs a wa) (hb:EF X K fs b wb):TF X K fs (.Compare a [op] [b] pos) (.bind wa λx=>.bind wb λy=>.bind (of2 m x y) asB):=let ⟨_,h1,h2⟩:=hc.p
 ⟨PT.imp (nX h1 ha.p hb.p hc.k) λσ H Q q=>Lz h2 σ H _ (ab5 (w:=.bind wa λx=>.bind wb λy=>of2 m x y) σ H Q q)⟩
def Rb (z:PV) (w:W PV):W PV:=match z with
 | .bl true=>w
 | .bl false=>.ret (.bl false)
 | _=>.fail
def UK (x:PV) (w:W PV):W PV:=match x with
 | .bl true=>w
 | .bl false=>.ret (.bl false)
 | _=>.fail
def orW (x:PV) (w:W PV):W PV:=match x with
 | .bl true=>.ret (.bl true)
 | .bl false=>w
 | _=>.fail
def Xn:PV->W PV
 | .bl b=>.ret (.bl (!b))
 | _=>.fail
def wH (ha:EF X K fs a wa) (hb:EF X K fs (.BoolOp .And (b::rest) pos) wb):EF X K fs (.BoolOp .And (a::b::rest) pos) (.bind wa λx=>UK x wb):=⟨PE.imp (W8 ha.p hb.p) λσ H Q ⟨sr,q⟩=>⟨sr,wa.mono (λx q1 u1 H1 g1 s1 v1=>by
 cases v1 with
 | bl k=>
  cases k with
  | true=>exact⟨true,rfl,by rw [if_pos rfl];exact⟨s1,wb.mono (λ_ q u H' g s v=>q u H' (g1.trans g) s v) q1⟩⟩
  | false=>exact⟨false,rfl,by rw [if_neg A4];exact q1 _ H1 g1 s1 (.bl _)⟩
 | _=>exact q1.elim) q⟩⟩
def agd (ha:EF X K fs a wa) (hb:EF X K fs (.BoolOp .Or (b::rest) pos) wb):EF X K fs (.BoolOp .Or (a::b::rest) pos) (.bind wa λx=>orW x wb):=⟨PE.imp (aaC ha.p hb.p) λσ H Q ⟨sr,q⟩=>⟨sr,wa.mono (λx q1 u1 H1 g1 s1 v1=>by
 cases v1 with
 | bl k=>
  cases k with
  | true=>exact⟨true,rfl,by rw [if_pos rfl];exact q1 _ H1 g1 s1 (.bl _)⟩
  | false=>exact⟨false,rfl,by rw [if_neg A4];exact⟨s1,wb.mono (λ_ q u H' g s v=>q u H' (g1.trans g) s v) q1⟩⟩
 | _=>exact q1.elim) q⟩⟩
def um {op} (h:EF X K fs a wa):EF X K fs (.BoolOp op [a] pos) wa:=⟨W4 h.p⟩
def acb (ha:EF X K fs a wa):EF X K fs (.UnaryOp .Not a pos) (.bind wa Xn):=⟨PE.imp (W5 ha.p) λσ H Q ⟨sr,q⟩=>⟨sr,wa.mono (λx q1 u1 H1 g1 s1 v1=>by
 cases v1 with
 | bl k=>exact⟨_,rfl,q1 _ H1 g1 s1 (.bl _)⟩
 | _=>exact q1.elim) q⟩⟩
variable {ta tb tc:W Bool}
def lM (h:TF X K fs a ta):HL X K fs (.BoolOp .And [a] pos) ta:=⟨Su h.p⟩
def N9 (h:TF X K fs a ta):HL X K fs (.BoolOp .Or [a] pos) ta:=⟨WU h.p⟩
def pI (ha:TF X K fs a ta) (hb:HL X K fs (.BoolOp .And (b::rest) pos) tb):HL X K fs (.BoolOp .And (a::b::rest) pos) (.bind ta λk=>if k=true then tb else .ret false):=⟨PW.imp (WV ha.p hb.p) λσ H Q ⟨sr,q⟩=>⟨sr,ta.mono (λk q1 H1 g1 s1=>by
 cases k with
 | true=>exact ym ⟨s1,tb.mono (λ_ q H' g s=>q H' (g1.trans g) s) q1⟩
 | false=>exact yn (q1 H1 g1 s1)) q⟩⟩
def U4 (ha:TF X K fs a ta) (hb:HL X K fs (.BoolOp .Or (b::rest) pos) tb):HL X K fs (.BoolOp .Or (a::b::rest) pos) (.bind ta λk=>if k=true then .ret true else tb):=⟨PW.imp (aay ha.p hb.p) λσ H Q ⟨sr,q⟩=>⟨sr,ta.mono (λk q1 H1 g1 s1=>by
 cases k with
 | true=>exact ym (q1 H1 g1 s1)
 | false=>exact yn ⟨s1,tb.mono (λ_ q H' g s=>q H' (g1.trans g) s) q1⟩) q⟩⟩
def HL.t (h:HL X K fs a ta):TF X K fs a ta:=⟨PW.pt h.p⟩
def FN (ha:TF X K fs a ta):TF X K fs (.UnaryOp .Not a pos) (.bind ta λk=>.ret (!k)):=⟨PT.imp (WW ha.p) λσ H Q ⟨sr,q⟩=>⟨sr,q⟩⟩
def qr (hc:TF X K fs c tc) (ha:EF X K fs a wa) (hb:EF X K fs b wb):EF X K fs (.IfExp c a b pos) (.bind tc λk=>if k=true then wa else wb):=⟨PE.imp (F8 hc.p ha.p hb.p) λσ H Q ⟨sr,q⟩=>⟨sr,tc.mono (λk q1 H1 g1 s1=>by
 cases k with
 | true=>exact ym ⟨s1,wa.mono (λ_ q u H' g s v=>q u H' (g1.trans g) s v) q1⟩
 | false=>exact yn ⟨s1,wb.mono (λ_ q u H' g s v=>q u H' (g1.trans g) s v) q1⟩) q⟩⟩
def XI {la lb:W (List PV)} (hc:TF X K fs c tc) (ha:LF X K fs a la) (hb:LF X K fs b lb):LF X K fs (.IfExp c a b pos) (.bind tc λk=>if k=true then la else lb):=⟨PE.imp (F8 hc.p ha.p hb.p) λσ H Q ⟨sr,q⟩=>⟨sr,tc.mono (λk q1 H1 g1 s1=>by
 cases k with
 | true=>exact ym ⟨s1,la.mono (λ_ q a vs H' g s n e v=>q a vs H' (g1.trans g) s (g1.there a n) e v) q1⟩
 | false=>exact yn ⟨s1,lb.mono (λ_ q a vs H' g s n e v=>q a vs H' (g1.trans g) s (g1.there a n) e v) q1⟩) q⟩⟩
def ju:PV->W Bool
 | .aG=>.ret false
 | .bl b=>.ret b
 | .int i=>.ret (i != 0)
 | .str y=>.fB (y.length<=sizeLine) (.ret ((y.length:Int) != 0))
 | .tup l=>.ret (!l.isEmpty)
 | .cl l=>.ret (!l.isEmpty)
 | _=>.fail
def iZ (hK:X.K=K) (ha:EF X K fs a wa) (he:∀Ç,isTrue a X.env Ç=(do let v <- Ç;standAt a.pos;BT [v] (truthy v))):TF X K fs a (.bind wa ju):=⟨PT.imp (vR K hK ha.p he) λσ H Q ⟨sr,q⟩=>⟨sr,wa.mono (λx q1 u1 H1 g1 s1 v1=>by
 cases v1 with
 | aG=>exact⟨false,rfl,q1 H1 g1 s1⟩
 | bl b=>exact⟨b,rfl,q1 H1 g1 s1⟩
 | int i=>exact⟨_,rfl,q1 H1 g1 s1⟩
 | str y=>exact⟨_,⟨q1.1,rfl⟩,q1.2 H1 g1 s1⟩
 | ty _=>exact q1.elim
 | dk _ _ _=>exact q1.elim
 | dt _ _ _=>exact q1.elim
 | ref _=>exact q1.elim
 | @tup p vs l e rs=>
  refine⟨!vs.isEmpty,.inr (.inl ⟨_,dX.of e,rfl⟩),?_⟩;rw [<- k8 rs];exact q1 H1 g1 s1
 | @cl p vs l e rs=>
  refine⟨!vs.isEmpty,.inl ⟨_,e.sq,rfl⟩,?_⟩;rw [<- k8 rs];exact q1 H1 g1 s1) q⟩⟩
def ZP (hK:X.K=K) (ha:QF X K fs a wl) (he:∀Ç,isTrue a X.env Ç=(do let v <- Ç;standAt a.pos;BT [v] (truthy v))):TF X K fs a (.bind wl λl=>.ret (!l.isEmpty)):=⟨PT.imp (vR K hK ha.p he) λσ H Q ⟨sr,q⟩=>⟨sr,wl.mono (λl q1 u1 H1 g1 s1 v1=>by
 obtain⟨b,vs,rfl,h,rs⟩:=v1.sq s1;refine⟨!vs.isEmpty,?_,?_⟩
 ·exact h.elim (λh=>.inl ⟨_,h,rfl⟩) λh=>.inr (.inl ⟨_,h,rfl⟩)
 ·rw [<- k8 rs];exact q1 H1 g1 s1) q⟩⟩
variable {R:Type}{ks:List AK}{B:(List PV->W R)->W R}
def aj:AF X K fs [] [] (R:=R) (λk=>k []):=⟨.ret [],PA.imp ck λσ H Q ⟨sr,q⟩=>q [] H .refl sr .nil,λk=>rfl⟩
def ae (ha:EF X K fs e w) (hr:AF X K fs es ks B) (hs:ic X e es:=by rfl):AF X K fs (e::es) (.v::ks) (λk=>.bind w λx=>B λl=>k (x::l)):=by
 obtain⟨wr,hp,hB⟩:=hr.p;refine⟨.bind w λx=>.bind wr λl=>.ret (x::l),PA.imp (aZ ha.p hp hs) λσ H Q ⟨sr,q⟩=>?_,λk=>?_⟩
 ·exact⟨sr,w.mono (λx q1 u1 H1 g1 s1 v1=>⟨s1,wr.mono (λl q2 vs H2 g2 s2 v2=>q2 _ H2 (g1.trans g2) s2 (.v (g2.vr s1 v1) v2)) q1⟩) q⟩
 ·have:(λx=>B λl=>k (x::l))=λx=>am wr λl=>k (x::l):=funext λx=>hB _;rw [this];rfl
def bE (i:Nat) (hr:AF X K fs es ks B) (hs:fs[i]?=ap (ap (.mn φ)):=by rfl) (hN:X.N[i]?=ap x:=by rfl) (hv:Hv X.env.scope x:=by first | exact C2 rfl | exact CC (C2 rfl) | exact CC (CC rfl)) (hd:jr x:=by decide) (jM:HN x:=by decide)
  (rQ:f8 (.Name x pos::es) X.env=(false,kw (.Name x pos) X.env)::f8 es X.env:=by rfl):AF X K fs (.Name x pos::es) (.p φ::ks) B:=by
 obtain⟨wr,hp,hB⟩:=hr.p;refine⟨wr,PA.imp (aZ (eL hN hv hd jM) hp rQ) λσ H Q ⟨sr,q⟩=>?_,hB⟩;obtain⟨u,e1,r⟩:=sr.at' i _ hs;rcases r with⟨v,e,_⟩ | ⟨a,e,r⟩
 ·cases e
 ·subst e;exact⟨_,e1,sr,wr.mono (λl q2 vs H2 g2 s2 v2=>q2 _ H2 g2 s2 (.p ⟨i,hs,e1⟩ v2)) q⟩
theorem fZ.N6:∀{vs:List V}{n:Nat}{l:List PV},fZ K σ fs H vs (Am n .v) l->aE K [] H vs l/\l.length=n
 | _,0,_,.nil=>⟨.nil,rfl⟩
 | _,n+1,_,.v r t=>⟨.cons r (fZ.N6 t).1,by rw [Aq,(fZ.N6 t).2]⟩
def aca {x1}{B:(List PV->W PV)->W PV} (h:AF X K fs es (Am n .v) B) (hn:n<=1000:=by decide):EF X K fs (.Tuple es x1 pos) (B λl=>.ret (.tup l)):=by
 obtain⟨w,hp,hB⟩:=h.p;rw [hB];refine⟨PE.imp (SJ hp) λσ H Q ⟨sr,q⟩=>⟨sr,w.mono (λl q1 vs H1 g1 s1 v1=>?_) q⟩⟩;obtain⟨v2,hl⟩:=v1.N6;refine⟨by rw [v2.length,hl];exact bF hn,λp H2 s2 e2 n2=>?_⟩;exact q1 _ H2 (g1.trans (cV.same s2)) (s1.same s2) (.tup e2 (aE.tk s2.eG v2))
def Vo {B:(List PV->W (List PV))->W (List PV)} (h:AF X K fs es (Am n .v) B) (hn:n<=1000:=by decide):LF X K fs (.List es pos) (B λl=>.ret l):=by
 obtain⟨w,hp,hB⟩:=h.p;rw [hB];refine⟨PE.imp (SN hp) λσ H Q ⟨sr,q⟩=>⟨sr,w.mono (λl q1 vs H1 g1 s1 v1=>?_) q⟩⟩;obtain⟨v2,hl⟩:=v1.N6;refine⟨by rw [v2.length,hl];exact bF hn,λp H2 s2 e2 n2=>?_⟩;exact q1 _ _ H2 (g1.trans (cV.same s2)) (s1.same s2) (g1.there p n2) e2 (aE.tk s2.eG v2)
end
end
end FL
namespace L2
open PySem PySem.Spec PyProof.Rows
def Inv.Ls {σ:St} (I:Inv X À σ H s) (e:H a=ap (.lst vs)):∃o,Inv X À σ (upd H a (.cE o (.lst vs))) s:=by
 obtain⟨z,ar,n,r,h1⟩:=(show a9 X.prog X.w H s.heap a (.lst vs) from I.bA a _ e);exact⟨_,I.write (x:=a) (e:=a) (o:=.cE _ (.lst vs)) (h':=s.heap) (t':=s.toks) (by rw [e];exact Cd) (.inl rfl) (λb u _ z=>z) ⟨_,h1⟩ ⟨h1,z,ar,n,r,h1⟩⟩
def Inv.Lu {σ:St}{kvs:List (Key×V)} (I:Inv X À σ H s) (e:H a=ap (.dK kvs)):∃o,Inv X À σ (upd H a (.cE o (.dK kvs))) s:=by
 obtain⟨z,hs,vs,r,o,es,ep,h1,h2⟩:=(show a9 X.prog X.w H s.heap a (.dK kvs) from I.bA a _ e);exact⟨o,I.write (x:=a) (e:=a) (o:=.cE o (.dK kvs)) (h':=s.heap) (t':=s.toks) (by rw [e];exact Cd) (.inl rfl) (λb u _ z=>z) ⟨o,h1⟩ ⟨h1,z,hs,vs,r,o,es,ep,h1,h2⟩⟩
end L2
variable {t:FL.SL}{m:PL.zV}{ks:List FL.AK}{B:(List PL.PV->FL.W PL.PV)->FL.W PL.PV}{wm:FL.W (List PL.PV)}{q0:Option BC}
namespace FL
section
open PySem PySem.Spec PyProof.Rows L2 PL
variable {K:Ab}
section
def rE (o':HO) (e:H a=ap (.lst vs)):bj K H (upd H a o'):=⟨λb ws q=>by rw [av (K8 q e (by intro z;cases z))];exact q,λb o u q=>by rw [av (K8 q e (by intro z;cases z))];exact q⟩
def dvK (kvs:List (Key×PV)):PV:=.dv (kvs.map λkv=>kP kv.1) (kvs.map (·.2))
def zj (kvs:List (List Key×PV)):PV:=.dv (kvs.map λkv=>.tup (kv.1.map kP)) (kvs.map (·.2))
def gJ {oh:HO} (o':HO) (e:H a=ap oh) (n1:∀vs,oh≠.tup vs) (n2:∀o u,oh≠.cE o u):bj K H (upd H a o'):=⟨λb ws q=>by rw [av (λz=>by subst z;rw [e] at q;cases q;exact n1 _ rfl)];exact q,λb o u q=>by rw [av (λz=>by subst z;rw [e] at q;cases q;exact n2 _ _ rfl)];exact q⟩
def Vp {vs:List (List Key×V)}{kvs:List (List Key×PV)} (h:vs.map (·.1)=kvs.map (·.1)):(kvs.map λkv=>PV.tup (kv.1.map kP))=vs.map λkv=>PV.tup (kv.1.map kP):=by
 have:=congrArg (FJ λk:List Key=>PV.tup (k.map kP)) h;rw [AB,AB] at this;exact this.symm
def Vq {vs:List (Key×V)}{kvs:List (Key×PV)} (h:vs.map (·.1)=kvs.map (·.1)):(kvs.map λkv=>kP kv.1)=vs.map λkv=>kP kv.1:=by
 have:=congrArg (FJ kP) h;rw [AB,AB] at this;exact this.symm
def SL.bw:SL->Bool
 | .ol _ _=>true
 | .od _=>true
 | .ot _=>true
 | _=>false
def SL.bv:SL->PV
 | .ol _ l=>.cl l
 | .od kvs=>dvK kvs
 | .ot kvs=>zj kvs
 | _=>.aG
def SL.Rh (h:t.bw=true):t.own=true:=by cases t <;> first | rfl | cases h
def abT (I:Inv X À σ' H s) (oa:kF K H a t) (hb:t.bw=true):∃ob o,H a=ap o/\(∀vs,o≠.tup vs)/\(∀ob u,o≠.cE ob u)/\Inv X À σ' (upd H a (.cE ob o)) s/\VR K [] (upd H a (.cE ob o)) (.ref a) t.bv:=by
 cases t with
 | ol q l=>
  obtain⟨_,vs,e,r⟩:=oa;obtain⟨ob,I2⟩:=I.Ls e;exact⟨ob,_,e,by simp,by simp,I2,.cl (.inl ⟨ob,aM⟩) (aE.tk (gJ _ e (by simp) (by simp)) r)⟩
 | od l=>
  obtain⟨vs,e,k,r⟩:=oa;obtain⟨ob,I2⟩:=I.Lu e;exact⟨ob,_,e,by simp,by simp,I2,.dk aM (Vq k) (aE.tk (gJ _ e (by simp) (by simp)) r)⟩
 | ot l=>
  obtain⟨vs,e,k,r⟩:=oa;obtain⟨ob,I2⟩:=I.freeze e;exact⟨ob,_,e,by simp,by simp,I2,.dt aM (Vp k) (aE.tk (gJ _ e (by simp) (by simp)) r)⟩
 | _=>cases hb
def aU.abR {o u:HO} (sr:aU K H σ fs) (hs:fs[i]?=ap (ap t)) (ho:t.own=true) (e1:σ[i]?=ap (ap (.ref a))) (h1:H a=ap o) (n1:∀vs,o≠.tup vs) (n2:∀ob u,o≠.cE ob u) (vr:VR K [] (upd H a u) (.ref a) v):aU K (upd H a u) σ (fs.set i (ap (.val v))):=by
 refine⟨by simp [sr.len],λj t' z=>?_,λj k t' u b1 b2 b z1 z2 o1 o2=>?_⟩
 ·rcases cX z with⟨rfl,rfl⟩ | ⟨n,z⟩
  ·exact⟨_,e1,.inl ⟨_,rfl,vr⟩⟩
  ·obtain⟨u,k1,k2⟩:=sr.at' j t' z;exact⟨u,k1,k2.mono (gJ _ h1 n1 n2) (λx b o eb ow hb zz=>by
    subst eb;rw [av (λy=>by subst y;exact n (sr.nd j i t' _ x b b z hs ow ho k1 e1 hb (.inl rfl)))];exact zz)⟩
 ·rcases cX z1 with⟨rfl,rfl⟩ | ⟨n1,z1⟩
  ·cases o1
  ·rcases cX z2 with⟨rfl,rfl⟩ | ⟨n2,z2⟩
   ·cases o2
   ·exact sr.nd j k t' u b1 b2 b z1 z2 o1 o2
def aU.side (s:aU K H σ fs) (n:¬dY σ fs a) (e:H a=ap (.lst vs)) (o':HO):aU K (upd H a o') σ fs:=⟨s.len,λi t q=>by
 obtain⟨u,h1,h2⟩:=s.at' i t q;exact⟨u,h1,h2.mono (rE o' e) (λx b o eb ow hb z=>by subst eb;rw [av (λy:b=a=>n ⟨i,t,x,q,ow,h1,y▸hb⟩)];exact z)⟩,s.nd⟩
def cV.side (g:cV σ fs H H1) (h0:H a=bm) (o':HO):cV σ fs H (upd H1 a o'):=⟨λb o e n=>by rw [av (bz e h0)];exact g.keep b o e n,λb e=>by
 by_cases c:b=a
 ·subst c;exact h0
 ·rw [av c] at e;exact g.there b e⟩
end
section
variable {a:ii}{w:W PV}
def hJ (h:LF X K fs e wl):EF X K fs e (.bind wl λl=>.ret (.cl l)):=⟨λÀ s σ H Q I ⟨sr,q⟩=>by
 refine bT (h.p À s σ H (λu H1=>∃a vs l,u=.ref a/\cV σ fs H H1/\aU K H1 σ fs/\H a=bm/\H1 a=ap (.lst vs)/\aE K [] H1 vs l/\∀u H',cV σ fs H H'->aU K H' σ fs->VR K [] H' u (.cl l)->Q u H') I ⟨sr,wl.mono (λl q1 a vs H1 g1 s1 n e v=>⟨a,vs,l,rfl,g1,s1,n,e,v,q1⟩) q⟩) λu s1 ⟨v,H1,I1,r1,a,vs,l,e,g1,Sg,n,ea,vr,q1⟩=>?_;subst e;obtain⟨ob,I2⟩:=I1.Ls ea;exact⟨.ref a,_,I2,r1,q1 _ _ (g1.side n _) (Sg.side (λz=>sr.noOwn n z) ea _) (.cl (.inl ⟨ob,aM⟩) (aE.tk (rE _ ea) vr))⟩⟩
def aB:PV->W (List PV)
 | .tup l=>.ret l
 | .cl l=>.ret l
 | _=>.fail
def bP (h:EF X K fs e w):IF X K fs e (.bind w aB):=⟨PE.imp h.p λσ H Q ⟨sr,q⟩=>⟨sr,w.mono (λx q1 u1 H1 g1 s1 v1=>by
 cases v1 with
 | tup e r=>exact q1 _ H1 g1 s1 ⟨_,_,rfl,.inr e,r⟩
 | cl e r=>exact q1 _ H1 g1 s1 ⟨_,_,rfl,.inl e,r⟩
 | _=>exact q1.elim) q⟩⟩
def Ln (h:LF X K fs e wl):IF X K fs e wl:=bP (hJ h)
theorem IF.q (h:IF X K fs e wl):QF X K fs e wl:=⟨PE.imp h.p λσ H Q ⟨sr,q⟩=>⟨sr,wl.mono (λl q1 u1 H1 g1 s1 v1=>q1 u1 H1 g1 s1 (.inl v1)) q⟩⟩
def aD (h:EF X K fs e w):QF X K fs e (.bind w aB):=(bP h).q
def nV (h:LF X K fs e wl):QF X K fs e wl:=⟨PE.imp h.p λσ H Q ⟨sr,q⟩=>⟨sr,wl.mono (λl q1 a vs H1 g1 s1 n e v=>q1 _ H1 g1 s1 (.inr ⟨a,rfl,.inl ⟨sr.noOwn n,vs,e,v⟩⟩)) q⟩⟩
def cv (i:Nat) (hs:fs[i]?=ap (ap (.ol q0 l)):=by rfl) (hN:X.N[i]?=ap x:=by rfl) (hv:Hv X.env.scope x:=by first | exact C2 rfl | exact CC (C2 rfl) | exact CC (CC rfl)) (hd:jr x:=by decide) (jM:HN x:=by decide):QF X K fs (.Name x pos) (.ret l):=
 ⟨PE.imp (eL hN hv hd jM) λσ H Q ⟨sr,q⟩=>by
  obtain⟨u,e1,r⟩:=sr.at' i _ hs;rcases r with⟨w,e,r⟩ | ⟨a,e,r⟩
  ·cases e
  ·subst e;exact⟨_,e1,q _ H .refl sr (.inr ⟨a,rfl,.inr ⟨i,q0,hs,e1⟩⟩)⟩⟩
def Vw (l:List PV):PV->W PV
 | .int i=>.K4 (dC l i)
 | _=>.fail
def aQ (hK:X.K=K) (ha:QF X K fs a wl) (hb:EF X K fs b wb) (hs:zO b:=by exact λ_ _=>rfl):EF X K fs (.Subscript a b pos) (.bind wl λl=>.bind wb λy=>Vw l y):=⟨PE.imp (Vf (TN K hK) ha.p hb.p hs) λσ H Q ⟨sr,q⟩=>⟨sr,wl.mono (λl q1 u1 H1 g1 s1 v1=>⟨s1,wb.mono (λy q2 u2 H2 g2 s2 v2=>by
 cases v2 with
 | int i=>
  have q2:(W.K4 (dC l i)).run _:=q2;cases z:dC l i with
  | none=>rw [z] at q2;exact q2.elim
  | some x=>
   rw [z] at q2;obtain⟨ad,vs,rfl,h,rs⟩:=(v1.go s1 g2).sq s2;obtain⟨v,e1,e2⟩:=aE.dC rs z;have q3:=q2 v H2 (g1.trans g2) s2 e2;exact h.elim (λh=>.inl ⟨ad,vs,i,v,rfl,rfl,h,e1,q3⟩) λh=>.inr (.inl ⟨ad,vs,i,v,rfl,rfl,h,e1,q3⟩)
 | _=>exact q2.elim) q1⟩) q⟩⟩
def acg (ha:EF X K fs a wa) (hb:EF X K fs b wb) (hs:zO b):EF X K fs (.Subscript a b pos) (.bind wa λx=>.bind wb λy=>of2 Po x y):=⟨PE.imp (Vf P9 ha.p hb.p hs) (Lz S7)⟩
def n8 (m:zV) (l:List PV):W PV:=⟨λQ=>m.f l [] λz h=>h=[]/\Q z,λf q=>m.mono (λ_ _ q=>⟨q.1,f _ q.2⟩) q⟩
section
variable {id:String}{r:List V->Hp->VK->Prop}
def Pl (hm:zV.Ok K r m) {Q:VK}{us:List V} (sr:aU K H σ fs) (hu:aE K [] H us l) (q:(n8 m l).run λz=>∀u H',cV σ fs H H'->aU K H' σ fs->VR K [] H' u z->Q u H'):r us H Q:=hm (hr0 H) hu (m.mono (λz h q=>pq0 sr q) q)
def rX (hc:bM X (.builtin id) r) (hB:zV.Ok K r m) (hg:Gl X x) (hm:X.mg x=bm) (hv:lc x=ap (.builtin id)) (ha:AF X K fs (e::es) (Am n .v) B) (hn:x≠"__name__":=by decide) (oI:jr x:=by decide)
  (he:ic X e es:=by rfl) (dI:mj X pos es:=by rfl):EF X K fs (.Call (.Name x p) (e::es) [] pos) (B (n8 m)):=by
 obtain⟨w,hp,Ŀ⟩:=ha.p;rw [Ŀ];exact⟨PE.imp (eM hc hg hm hv hp hn oI he dI) λσ H Q ⟨sr,q⟩=>⟨sr,w.mono (λl q1 vs H1 g1 s1 v1=>Pl hB s1 v1.N6.1 ((n8 m l).mono (λz q u H' g s v=>q u H' (g1.trans g) s v) q1)) q⟩⟩
def Q3 (hc:bM X (.type id) r) (hB:zV.Ok K r m) (hg:Gl X x) (hm:X.mg x=bm) (hv:lc x=ap (.type id)) (ha:AF X K fs (e::es) (Am n .v) B) (hn:x≠"__name__":=by decide) (oI:jr x:=by decide)
  (he:ic X e es:=by rfl) (dI:mj X pos es:=by rfl):EF X K fs (.Call (.Name x p) (e::es) [] pos) (B (n8 m)):=by
 obtain⟨w,hp,Ŀ⟩:=ha.p;rw [Ŀ];exact⟨PE.imp (lQ hc hg hm hv hp hn oI he dI) λσ H Q ⟨sr,q⟩=>⟨sr,w.mono (λl q1 vs H1 g1 s1 v1=>Pl hB s1 v1.N6.1 ((n8 m l).mono (λz q u H' g s v=>q u H' (g1.trans g) s v) q1)) q⟩⟩
def CQ (K:Ab) (r:List V->Hp->VK->Prop) (m:List PV->W PV):Prop:=∀{fs:bh}{σ:L2.St}{H:Hp}{Q:VK}{u:V}{l:List PV},aU K H σ fs->UP K σ fs H u l->((m l).run λz=>∀u H',cV σ fs H H'->aU K H' σ fs->VR K [] H' u z->Q u H')->r [u] H Q
def CL (K:Ab) (r:List V->Hp->VK->Prop) (m:List PV->W (List PV)):Prop:=∀{fs:bh}{σ:L2.St}{H:Hp}{Q:VK}{u:V}{l:List PV},aU K H σ fs->UP K σ fs H u l->((m l).run λz=>∀a vs H',cV σ fs H H'->aU K H' σ fs->H a=bm->H' a=ap (.lst vs)->aE K [] H' vs z->Q (.ref a) H')->r [u] H Q
def Q4 {m:List PV->W PV} (hc:bM X (.builtin id) r) (hB:CQ K r m) (hg:Gl X x) (hm:X.mg x=bm) (hv:lc x=ap (.builtin id)) (ha:QF X K fs e wl) (hn:x≠"__name__":=by decide) (oI:jr x:=by decide)
  (he:ic X e []:=by rfl) (dI:mj X pos []:=by rfl):EF X K fs (.Call (.Name x p) [e] [] pos) (.bind wl m):=⟨PE.imp (eM hc hg hm hv (aZ ha.p ck he) hn oI he dI) λσ H Q ⟨sr,q⟩=>⟨sr,wl.mono (λl q1 u H1 g1 s1 v1=>hB s1 v1 ((m l).mono (λz q u H' g s v=>q u H' (g1.trans g) s v) q1)) q⟩⟩
def Nm {m:List PV->W PV} (hc:bM X (.type id) r) (hB:CQ K r m) (hg:Gl X x) (hm:X.mg x=bm) (hv:lc x=ap (.type id)) (ha:QF X K fs e wl) (hn:x≠"__name__":=by decide) (oI:jr x:=by decide)
  (he:ic X e []:=by rfl) (dI:mj X pos []:=by rfl):EF X K fs (.Call (.Name x p) [e] [] pos) (.bind wl m):=⟨PE.imp (lQ hc hg hm hv (aZ ha.p ck he) hn oI he dI) λσ H Q ⟨sr,q⟩=>⟨sr,wl.mono (λl q1 u H1 g1 s1 v1=>hB s1 v1 ((m l).mono (λz q u H' g s v=>q u H' (g1.trans g) s v) q1)) q⟩⟩
def ac2 {m:List PV->W (List PV)} (hc:bM X (.builtin id) r) (hB:CL K r m) (hg:Gl X x) (hm:X.mg x=bm) (hv:lc x=ap (.builtin id)) (ha:QF X K fs e wl) (hn:x≠"__name__":=by decide) (oI:jr x:=by decide)
  (he:ic X e []:=by rfl) (dI:mj X pos []:=by rfl):LF X K fs (.Call (.Name x p) [e] [] pos) (.bind wl m):=⟨PE.imp (eM hc hg hm hv (aZ ha.p ck he) hn oI he dI) λσ H Q ⟨sr,q⟩=>⟨sr,wl.mono (λl q1 u H1 g1 s1 v1=>hB s1 v1 ((m l).mono (λz q a vs H' g s n e v=>q a vs H' (g1.trans g) s (g1.there a n) e v) q1)) q⟩⟩
def PN {m:List PV->W (List PV)} (hc:bM X (.type id) r) (hB:CL K r m) (hg:Gl X x) (hm:X.mg x=bm) (hv:lc x=ap (.type id)) (ha:QF X K fs e wl) (hn:x≠"__name__":=by decide) (oI:jr x:=by decide)
  (he:ic X e []:=by rfl) (dI:mj X pos []:=by rfl):LF X K fs (.Call (.Name x p) [e] [] pos) (.bind wl m):=⟨PE.imp (lQ hc hg hm hv (aZ ha.p ck he) hn oI he dI) λσ H Q ⟨sr,q⟩=>⟨sr,wl.mono (λl q1 u H1 g1 s1 v1=>hB s1 v1 ((m l).mono (λz q a vs H' g s n e v=>q a vs H' (g1.trans g) s (g1.there a n) e v) q1)) q⟩⟩
end
def Gz (l:List PV):W PV:=.ret (.int l.length)
def Tn (K:Ab):CQ K (WO K) Gz:=λ{fs σ H Q u l} s v q=>by
 obtain⟨a,vs,rfl,h,rs⟩:=v.sq s;refine⟨_,vs.length,rfl,?_,?_⟩
 ·exact h.elim (λh=>.inl ⟨_,h,rfl⟩) λh=>.inr ⟨_,h,rfl⟩
 ·rw [rs.length];exact q _ H .refl s (.int _)
def mm (l:List PV):W PV:=.ret (.tup l)
def R1 (K:Ab):CQ K (OP K) mm:=λ{fs σ H Q u l} s v q=>by
 have fresh:∀{a:ce}{vs:List V},c9 K H a vs->aE K [] H vs l->OP K [.ref a] H Q:=λ{a vs} h rs=>⟨a,vs,rfl,.inl ⟨h,λp H2 s2 e2 n2=>q _ H2 (cV.same s2) (s.same s2) (.tup e2 (aE.tk s2.eG rs))⟩⟩;rcases v with⟨a,vs,rfl,h | h,rs⟩ | ⟨a,rfl,⟨n,vs,h,rs⟩ | ⟨i,_,q1,q2⟩⟩
 ·exact fresh h.sq rs
 ·exact⟨a,vs,rfl,.inr ⟨dX.of h,q _ H .refl s (.tup h rs)⟩⟩
 ·exact fresh (c9.of h) rs
 ·obtain⟨_,vs,h,rs⟩:=s.ownAt q1 rfl q2;exact fresh (c9.of h) rs
end
end
end FL
variable {R:Type}{m:List PL.PV->FL.W PL.PV}
namespace FL
section
open PySem PySem.Spec PyProof.Rows L2 PL
variable {K:Ab}
def zN (vs:List V) (ks:List AK) (φ:List V->Prop) (a:ce):Prop:=∃i:Nat,ks[i]?=ap (.p φ)/\vs[i]?=ap (.ref a)
structure GoC (vs:List V) (ks:List AK) (H H':Hp):Prop where
 keep:∀a o,H a=ap o->(∀φ,¬zN vs ks φ a)->H' a=ap o
 there:∀a,H' a=bm->H a=bm
 WZ:∀a φ,zN vs ks φ a->∃ws,H' a=ap (.lst ws)/\φ ws
inductive iY (K:Ab) (H:Hp):List V->List AK->List PV->Prop
 | nil:iY K H [] [] []
 | v {u:V}{x:PV}{vs:List V}{ks:List AK}{l:List PV} (r:VR K [] H u x) (t:iY K H vs ks l):iY K H (u::vs) (.v::ks) (x::l)
 | p {a:ce}{φ:List V->Prop}{ws vs:List V}{ks:List AK}{l:List PV} (e:H a=ap (.lst ws)) (r:φ ws) (t:iY K H vs ks l):iY K H (.ref a::vs) (.p φ::ks) l
 | f {a:ce}{vs:List V}{ks:List AK}{l:List PV} (t:iY K H vs ks l):iY K H (.ref a::vs) (.f a::ks) l
def f6 (K:Ab) (ks:List AK) (m:List PV->W PV):Sp:=λvs H Q _=>∃l,iY K H vs ks l/\(m l).run λv=>∀u H',GoC vs ks H H'->VR K [] H' u v->Q u H'
def fD (K:Ab) (ks:List AK) (m:List PV->W (List PV)):Sp:=λvs H Q _=>∃l,iY K H vs ks l/\(m l).run λz=>∀a ws H',GoC vs ks H H'->H a=bm->H' a=ap (.lst ws)->aE K [] H' ws z->Q (.ref a) H'
def UZ (R:Type):Nat->Type
 | 0=>W R
 | n+1=>PV->UZ R n
def cq:(n:Nat)->UZ R n->List PV->W R
 | 0,m,[]=>m
 | n+1,m,x::l=>cq n (m x) l
 | 0,_,_::_=>.fail
 | _+1,_,[]=>.fail
section
def fZ.mn (h:fZ K σ fs H vs ks l) (p:zN vs ks φ a):iG σ fs φ a:=by
 obtain⟨i,e1,e2⟩:=p
 induction h generalizing i with
 | nil=>simp at e1
 | v r t ih=>cases i with | zero=>simp at e1 | succ i=>exact ih i (by simpa using e1) (by simpa using e2)
 | p r t ih=>
  cases i with
  | zero=>simp at e1 e2;subst e1;subst e2;exact r
  | succ i=>exact ih i (by simpa using e1) (by simpa using e2)
 | f t ih=>cases i with | zero=>simp at e1 | succ i=>exact ih i (by simpa using e1) (by simpa using e2)
def fZ.c (h:fZ K σ fs H vs ks l) (s:aU K H σ fs):iY K H vs ks l:=by
 induction h with
 | nil=>exact .nil
 | v r t ih=>exact .v r ih
 | p r t ih=>
  obtain⟨i,e1,e2⟩:=r;obtain⟨ws,q,x⟩:=s.ownAt e1 rfl e2;exact .p q x ih
 | f t ih=>exact .f ih
def GoC.caller (g:GoC vs ks H H') (h:fZ K σ fs H vs ks l) (s:aU K H σ fs):aU K H' σ fs/\cV σ fs H H':=by
 have gf:cV σ fs H H':=⟨λa o e n=>g.keep a o e λφ p=>n φ (h.mn p),g.there⟩;have tk:=gf.eI s;refine⟨⟨s.len,λi t e=>?_,s.nd⟩,gf⟩;obtain⟨u,h1,h2⟩:=s.at' i t e;refine⟨u,h1,?_⟩;rcases h2 with⟨v,q,r⟩ | ⟨a,q,r⟩
 ·exact .inl ⟨v,q,VR.tk tk r⟩
 ·subst q;refine .inr ⟨a,rfl,?_⟩;by_cases c:(∃φ,zN vs ks φ a)/\t.own=true
  ·obtain⟨⟨φ,p⟩,ow⟩:=c;obtain⟨j,e1,e2⟩:=h.mn p;have ij:=s.nd i j t _ a a a e e1 ow rfl h1 e2 (.inl rfl) (.inl rfl);subst ij;rw [e] at e1;cases e1;exact g.WZ a φ p
  ·refine r.mono tk (λb o ow hb z=>g.keep b o z λφ p=>?_);obtain⟨j,e1,e2⟩:=h.mn p;have ij:=s.nd i j t _ a b b e e1 ow rfl h1 e2 hb (.inl rfl);subst ij;rw [h1] at e2;cases e2;exact c ⟨⟨φ,p⟩,ow⟩
end
section
def YC (G:U0 X.prog X.w X.K X.mg X.base x k ps (f6 K ks m)) (hr:cO k' X.A) (hk:k<=k') (hg:Gl X x) (ha:AF X K fs (e::es) ks B) (oI:jr x:=by decide)
  (he:ic X e es:=by rfl) (dI:mj X pos es:=by rfl):EF X K fs (.Call (.Name x p) (e::es) [] pos) (B m):=by
 obtain⟨w,hp,hB⟩:=ha.p;rw [hB];exact⟨PE.imp (Pf G hr hk hg hp oI he dI) λσ H Q ⟨sr,q⟩=>⟨sr,w.mono (λl q1 vs H1 g1 s1 v1=>⟨l,v1.c s1,(m l).mono (λz q2 u H2 g2 r2=>let ⟨s2,g3⟩:=g2.caller v1 s1;q2 u H2 (g1.trans g3) s2 r2) q1⟩) q⟩⟩
def XJ {m:List PV->W (List PV)}{B:(List PV->W (List PV))->W (List PV)} (G:U0 X.prog X.w X.K X.mg X.base x k ps (fD K ks m)) (hr:cO k' X.A) (hk:k<=k') (hg:Gl X x) (ha:AF X K fs (e::es) ks B) (oI:jr x:=by decide)
  (he:ic X e es:=by rfl) (dI:mj X pos es:=by rfl):LF X K fs (.Call (.Name x p) (e::es) [] pos) (B m):=by
 obtain⟨w,hp,hB⟩:=ha.p;rw [hB];exact⟨PE.imp (Pf G hr hk hg hp oI he dI) λσ H Q ⟨sr,q⟩=>⟨sr,w.mono (λl q1 vs H1 g1 s1 v1=>⟨l,v1.c s1,(m l).mono (λz q2 a ws H2 g2 n2 e2 r2=>let ⟨s2,g3⟩:=g2.caller v1 s1;q2 a ws H2 (g1.trans g3) s2 (g1.there a n2) e2 r2) q1⟩) q⟩⟩
end
end
end FL
variable {x:Bool}{T:Type}{p':Ca}
namespace FL
section
open PySem PySem.Spec PyProof.Rows L2 PL
variable {K:Ab}
inductive End where
 | nx (fs:bh) | nc (fs:bh) | ct (fs:bh) | rt (v:PV) | rl (l:List PV) | bk (fs:bh) | ro (v:PV) (a:ce) (l:List PV)
def zR (σ:L2.St) (fs:bh) (H:Hp) (a:ce):Prop:=H a=bm\/∃(i:Nat) (s:SL) (x:ce),fs[i]?=ap (ap s)/\s.own=true/\(∀φ,s≠.mn φ)/\σ[i]?=ap (ap (.ref x))/\s.has x a
def bL (K:Ab) (x:Bool) (σ:L2.St) (fs:bh) (H:Hp) (D:Ends):End->Prop
 | .nx bB=>x=false->∀σ' H',cQ σ fs H σ' bB H'->aU K H' σ' bB->D.nx σ' H'
 | .nc bB=>∀σ' H',cQ σ fs H σ' bB H'->aU K H' σ' bB->(x=false->D.nx σ' H')/\D.ct σ' H'
 | .ct bB=>∀σ' H',cQ σ fs H σ' bB H'->aU K H' σ' bB->D.ct σ' H'
 | .bk bB=>∀σ' H',cQ σ fs H σ' bB H'->aU K H' σ' bB->D.bk σ' H'
 | .rt v=>∀u σ' bB H',cQ σ fs H σ' bB H'->aU K H' σ' bB->VR K [] H' u v->D.rt u H'
 | .ro v a l=>∀u σ' bB H',cQ σ fs H σ' bB H'->aU K H' σ' bB->(∃i:Nat,bB[i]?=ap (ap (.ol (ap a) l)))->VR K [] H' u v->D.rt u H'
 | .rl l=>∀a ws σ' bB H',cQ σ fs H σ' bB H'->aU K H' σ' bB->zR σ fs H a->H' a=ap (.lst ws)->aE K [] H' ws l->D.rt (.ref a) H'
def fS (K:Ab) (x:Bool) (fs:bh) (w:W T) (out:T->End):TS:=λD σ H=>aU K H σ fs/\w.run λt=>bL K x σ fs H D (out t)
structure SF (X:Cx) (K:Ab) (x:Bool) (fs:bh) (Wr:List sn) {T:Type} (w:W T) (out:T->End):Prop where p:sd X Wr (fS K x fs w out)
section
variable {σ1:L2.St}{Ue:bh}
def zR.go (g:cQ σ fs H σ1 Ue H1) (s:aU K H σ fs) (s1:aU K H1 σ1 Ue) (h:zR σ1 Ue H1 a):zR σ fs H a:=by
 rcases h with h | ⟨i,t,x,e1,e2,np,e3,e4⟩
 ·exact .inl (g.there a h)
 ·cases z:H a with
  | none=>exact .inl z
  | some o=>
   by_cases c:dY σ fs a
   ·obtain⟨j,t',y,c1,c2,c3,c4⟩:=c;by_cases d:∃φ,t'=.mn φ
    ·obtain⟨φ,rfl⟩:=d;rcases c4 with rfl | c4
     ·rcases g.pk a φ ⟨j,c1,c3⟩ with⟨k,k1,k2⟩ | ⟨n,_⟩
      ·have:=s1.nd i k t _ x a a e1 k1 e2 rfl e3 k2 e4 (.inl rfl);subst this;rw [e1] at k1;cases k1;exact absurd rfl (np φ)
      ·exact absurd ⟨i,t,x,e1,e2,e3,e4⟩ n
     ·cases c4
    ·exact .inr ⟨j,t',y,c1,c2,λφ e=>d ⟨φ,e⟩,c3,c4⟩
   ·exact absurd ⟨i,t,x,e1,e2,e3,e4⟩ (g.keep a o z c).2
def bL.go (g:cQ σ fs H σ1 Ue H1) (s:aU K H σ fs) (s1:aU K H1 σ1 Ue) {E:End} (h:bL K x σ fs H D E):bL K x σ1 Ue H1 D E:=by
 cases E with
 | nx bB=>exact λhx σ' H' g' s'=>h hx σ' H' (g.trans g') s'
 | nc bB=>exact λσ' H' g' s'=>h σ' H' (g.trans g') s'
 | bk bB=>exact λσ' H' g' s'=>h σ' H' (g.trans g') s'
 | ct bB=>exact λσ' H' g' s'=>h σ' H' (g.trans g') s'
 | rt v=>exact λu σ' bB H' g' s' r=>h u σ' bB H' (g.trans g') s' r
 | ro v a l=>exact λu σ' bB H' g' s' o r=>h u σ' bB H' (g.trans g') s' o r
 | rl l=>exact λa ws σ' bB H' g' s' f e r=>h a ws σ' bB H' (g.trans g') s' (f.go g s s1) e r
def bL.exit {D':Ends} (h1:D'.rt=D.rt) (h2:D'.ct=D.ct) (h3:D'.bk=D.bk) {E:End} (h:bL K x σ fs H D E):bL K true σ fs H D' E:=by
 cases E with
 | nx bB=>exact λhx=>nomatch hx
 | nc bB=>exact λσ' H' g' s'=>⟨λhx=>(nomatch hx),h2▸(h σ' H' g' s').2⟩
 | bk bB=>exact λσ' H' g' s'=>h3▸h σ' H' g' s'
 | ct bB=>exact λσ' H' g' s'=>h2▸h σ' H' g' s'
 | rt v=>exact λu σ' bB H' g' s' r=>h1▸h u σ' bB H' g' s' r
 | ro v a l=>exact λu σ' bB H' g' s' o r=>h1▸h u σ' bB H' g' s' o r
 | rl l=>exact λa ws σ' bB H' g' s' f e r=>h1▸h a ws σ' bB H' g' s' f e r
end
section
variable {X:Cx}{a b c e o:ii}{pos p:Pos}{fs bB:bh}{st:sn}{Wr rest sa sb:List sn}{T T1:Type}{w wk:W T}{out:T->End}{we:W PV}{wl:W (List PV)}{x:Bool}
def End.Qc:End->Prop
 | .rt _=>True
 | .rl _=>True
 | .ro _ _ _=>True
 | _=>False
def bL.aeI {D':Ends}{y:Bool}{E:End} (ho:E.Qc) (e:D'.rt=D.rt) (h:bL K x σ fs H D E):bL K y σ fs H D' E:=by
 cases E with
 | rt v=>exact λu σ' bB H' g s r=>e▸h u σ' bB H' g s r
 | rl v=>exact λa ws σ' bB H' g s f ea r=>e▸h a ws σ' bB H' g s f ea r
 | ro v a l=>exact λu σ' bB H' g s o r=>e▸h u σ' bB H' g s o r
 | _=>exact ho.elim
def z9 (X:Cx) (K:Ab) (x:Bool) (rest:List sn) {T:Type} (out:T->End):TS:=λD σ H=>∃bB w',SF X K x bB rest w' out/\fS K x bB w' out D σ H
def Sl:sd X rest (z9 X K x rest out):=λÀ s σ H D I ⟨bB,w',h,q⟩=>h.p À s σ H D I q
def Pr:sd X rest Wl:=λ_ _ _ _ _ _ h=>h.elim
def SF.step {t:TS} (h:PS X st t) (hq:∀D σ H,fS K x fs w out D σ H->t {D with nx:=z9 X K x rest out D} σ H):SF X K x fs (st::rest) w out:=⟨sd.imp (F1 h Sl) λD σ H q=>hq D σ H q⟩
def SF.last {t:TS} (h:PS X st t) (hq:∀D σ H,fS K x fs w out D σ H->t {D with nx:=λ_ _=>False} σ H):SF X K x fs (st::rest) w out:=⟨sd.imp (F1 h Pr) λD σ H q=>hq D σ H q⟩
def SF.nil {t:T} (h:out t=.nx bB) (hl:iH fs bB):SF X K false fs [] (.ret t) out:=⟨sd.imp xy λD σ H ⟨sr,q⟩=>by
 have q:bL K false σ fs H D (out t):=q;rw [h] at q;exact q rfl σ H (cQ.le sr hl) (sr.le hl)⟩
def SF.f9 {t:T} (h:out t=.nc bB) (hl:iH fs bB):SF X K false fs [] (.ret t) out:=⟨sd.imp xy λD σ H ⟨sr,q⟩=>by
 have q:bL K false σ fs H D (out t):=q;rw [h] at q;exact (q σ H (cQ.le sr hl) (sr.le hl)).1 rfl⟩
def SF.cont {t:T} (h:out t=.nc bB\/out t=.ct bB) (hl:iH fs bB):SF X K x fs (.Continue pos::rest) (.ret t) out:=SF.last F3 λD σ H ⟨sr,q⟩=>by
 have q:bL K x σ fs H D (out t):=q;rcases h with h | h
 ·rw [h] at q;exact (q σ H (cQ.le sr hl) (sr.le hl)).2
 ·rw [h] at q;exact q σ H (cQ.le sr hl) (sr.le hl)
def SF.ret {k:PV->T} (he:EF X K fs e we) (h:∀v,out (k v)=.rt v):SF X K x fs (.Return (ap e) pos::rest) (.bind we λv=>.ret (k v)) out:=SF.last (xA he.p) λD σ H ⟨sr,q⟩=>⟨sr,we.mono (λv q1 u H1 g1 s1 v1=>by
 have q1:bL K x σ fs H D (out (k v)):=q1;rw [h] at q1;exact q1 u σ fs H1 g1.f s1 v1) q⟩
def SF.cy {out:PV->End} (he:EF X K fs e we) (h:∀v,out v=.rt v):SF X K x fs (.Return (ap e) pos::rest) we out:=SF.ret (k:=λv=>v) he h
def SF.aeA {k:List PV->T} (he:LF X K fs e wl) (h:∀l,out (k l)=.rl l):SF X K x fs (.Return (ap e) pos::rest) (.bind wl λl=>.ret (k l)) out:=SF.last (xA he.p) λD σ H ⟨sr,q⟩=>⟨sr,wl.mono (λl q1 a ws H1 g1 s1 n e v1=>by
 have q1:bL K x σ fs H D (out (k l)):=q1;rw [h] at q1;exact q1 a ws σ fs H1 g1.f s1 (.inl n) e v1) q⟩
def SF.ir {out:List PV->End} (he:LF X K fs e wl) (h:∀v,out v=.rl v):SF X K x fs (.Return (ap e) pos::rest) wl out:=SF.aeA (k:=λv=>v) he h
def SF.WD (i:Nat) {y:Str}{t:T} (hs:fs[i]?=ap (ap (.ol q0 l))) (h:out t=.rl l) (hN:X.N[i]?=ap y:=by rfl) (hv:Hv X.env.scope y:=by first | exact C2 rfl | exact CC (C2 rfl) | exact CC (CC rfl)) (hd:jr y:=by decide) (jM:HN y:=by decide):SF X K x fs (.Return (ap (.Name y p)) pos::rest) (.ret t) out:=SF.last (xA (eL hN hv hd jM)) λD σ H ⟨sr,q⟩=>by
 have q:bL K x σ fs H D (out t):=q;rw [h] at q;obtain⟨u,e1,r⟩:=sr.at' i _ hs;rcases r with⟨v,e,_⟩ | ⟨a,e,r⟩
 ·cases e
 ·subst e;obtain⟨_,ws,q1,q2⟩:=r;exact⟨_,e1,q a ws σ fs H .refl sr (.inr ⟨i,_,_,hs,rfl,by simp,e1,.inl rfl⟩) q1 q2⟩
def SF.aaj (i:Nat) {ad:ce}{k:PV->T} (hs:fs[i]?=ap (ap (.ol (ap ad) l))) (he:EF X K fs e we) (h:∀v,out (k v)=.ro v ad l):SF X K x fs (.Return (ap e) pos::rest) (.bind we λv=>.ret (k v)) out:=SF.last (xA he.p) λD σ H ⟨sr,q⟩=>⟨sr,we.mono (λv q1 u H1 g1 s1 v1=>by
 have q1:bL K x σ fs H D (out (k v)):=q1;rw [h] at q1;exact q1 u σ fs H1 g1.f s1 ⟨i,hs⟩ v1) q⟩
def SF.expr {k:PV->W T} (he:EF X K fs e we) (hr:∀v,SF X K x fs rest (k v) out) (hs:im e bm pos.line X.env=pure false:=by rfl):SF X K x fs (.Expr e pos::rest) (.bind we k) out:=SF.step (rG he.p hs) λD σ H ⟨sr,q⟩=>
 ⟨sr,we.mono (λv q1 u H1 g1 s1 v1=>⟨fs,k v,hr v,s1,(k v).mono (λt q2=>q2.go g1.f sr s1) q1⟩) q⟩
def SF.set {y:Str}{k:PV->W T} (hN:X.N.Nodup) (hi:X.N[i]?=ap y) (hx:Loc X.env.scope y) (he:EF X K fs e we) (hr:∀v,SF X K x (fs.set i (ap (.val v))) rest (k v) out) (hs:im e (ap (.Name y p')) pos.line X.env=pure false:=by rfl)
  (hf:NX X y:=by first | exact .inl rfl | exact .inr rfl | assumption):SF X K x fs (.Assign [.Name y p'] e pos::rest) (.bind we k) out:=SF.step (sR hN hi hx he.p hs hf) λD σ H ⟨sr,q⟩=>
 ⟨sr,we.mono (λv q1 u H1 g1 s1 v1=>⟨_,k v,hr v,s1.fJ v1 i,(k v).mono (λt q2=>q2.go (g1.f.trans (cQ.fJ s1 u v i)) sr (s1.fJ v1 i)) q1⟩) q⟩
def SF.aey {y:Str}{k:List PV->W T} (hN:X.N.Nodup) (hi:X.N[i]?=ap y) (hx:Loc X.env.scope y) (he:LF X K fs e wl) (hr:∀l,SF X K x (fs.set i (ap (.ol bm l))) rest (k l) out) (hs:im e (ap (.Name y p')) pos.line X.env=pure false:=by rfl)
  (hf:NX X y:=by first | exact .inl rfl | exact .inr rfl | assumption):SF X K x fs (.Assign [.Name y p'] e pos::rest) (.bind wl k) out:=SF.step (sR hN hi hx he.p hs hf) λD σ H ⟨sr,q⟩=>by
 refine⟨sr,wl.mono (λl q1 a ws H1 g1 s1 n e v1=>?_) q⟩;have no:=sr.noOwn n;have s2:=s1.xx (t:=.ol bm l) ⟨by simp,ws,e,v1⟩ no i;exact⟨_,k l,hr l,s2,(k l).mono (λt q2=>q2.go (cQ.xx s1 g1.f no n i) sr s2) q1⟩
def SF.cE (i:Nat) {t:SL} (hs:fs[i]?=ap (ap t)) (hr:SF X K x (fs.set i (ap (.val t.bv))) Wr w out) (hb:t.bw=true:=by rfl):SF X K x fs Wr w out:=⟨λÀ s σ H D I ⟨sr,q⟩=>by
 obtain⟨u,e1,r⟩:=sr.at' i _ hs;have ho:=SL.Rh hb;rcases r with⟨v,e,_⟩ | ⟨a,e,oa⟩
 ·subst e;cases hb
 ·subst e;obtain⟨ob,o,h1,n1,n2,I2,vr⟩:=abT I oa hb;have ow:∀b,dY σ (fs.set i (ap (.val t.bv))) b->dY σ fs b:=λb z=>by
   obtain⟨j,t,x,z1,z2,z3,z4⟩:=z;rcases cX z1 with⟨rfl,rfl⟩ | ⟨n,z1⟩
   ·cases z2
   ·exact⟨j,t,x,z1,z2,z3,z4⟩
  have s2:=sr.abR hs ho e1 h1 n1 n2 vr;have g2:cQ σ fs H σ (fs.set i (ap (.val t.bv))) (upd H a (.cE ob o)):=by
   refine⟨λb o z n=>⟨?_,λy=>n (ow b y)⟩,λb z=>?_,λb φ z=>?_⟩
   ·rw [av (λy=>by subst y;exact n ⟨i,_,_,hs,ho,e1,.inl rfl⟩)];exact z
   ·by_cases c:b=a
    ·subst c;rw [aM] at z;cases z
    ·rw [av c] at z;exact z
   ·obtain⟨j,z1,z2⟩:=z;have:j≠i:=λy=>by subst y;rw [hs] at z1;cases z1;cases hb
    exact .inl ⟨j,by rw [aO this];exact z1,z2⟩
  exact hr.p À s σ _ D I2 ⟨s2,w.mono (λt q3=>q3.go g2 sr s2) q⟩⟩
variable {tc:W Bool}
def SF.ifT (hc:TF X K fs c tc) (ha:SF X K x fs sa w out) (hb:SF X K x fs sb wk out):SF X K x fs [.If c sa sb pos] (.bind tc λb=>if b=true then w else wk) out:=⟨sd.imp (Sw (O2 hc.p ha.p hb.p)) λD σ H ⟨sr,q⟩=>⟨sr,tc.mono (λk q1 H1 g1 s1=>by
 cases k with
 | true=>exact ym ⟨s1,w.mono (λt q2=>q2.go g1.f sr s1) q1⟩
 | false=>exact yn ⟨s1,wk.mono (λt q2=>q2.go g1.f sr s1) q1⟩) q⟩⟩
def SF.RH (hc:TF X K fs c tc) (ha:SF X K true fs sa w out) (hb:SF X K x fs rest wk out):SF X K x fs (.If c sa [] pos::rest) (.bind tc λb=>if b=true then w else wk) out:=SF.step (O2 hc.p ha.p xy) λD σ H ⟨sr,q⟩=>⟨sr,tc.mono (λk q1 H1 g1 s1=>by
 cases k with
 | true=>exact ym ⟨s1,w.mono (λt q2=>bL.exit (D:=D) (D':={D with nx:=z9 X K x rest out D}) rfl rfl rfl (q2.go g1.f sr s1)) q1⟩
 | false=>exact yn ⟨fs,wk,hb,s1,wk.mono (λt q2=>q2.go g1.f sr s1) q1⟩) q⟩
def Y1 (X:Cx) (K:Ab) (x:Bool) (rest:List sn) {T:Type} (w:W T) (out:T->End):End->Prop
 | .nx bB=>SF X K x bB rest w out
 | .nc bB=>False
 | .bk bB=>∃t,w=.ret t/\out t=.bk bB
 | .ct bB=>∃t,w=.ret t/\(out t=.ct bB\/out t=.nc bB)
 | .rt v=>∃t,w=.ret t/\out t=.rt v
 | .rl l=>∃t,w=.ret t/\out t=.rl l
 | .ro v a l=>∃t,w=.ret t/\out t=.ro v a l
def Y1.r {E:End} (sr:aU K H σ fs) (h:Y1 X K x rest w out E) (q:w.run λt=>bL K x σ fs H D (out t)):bL K false σ fs H {D with nx:=z9 X K x rest out D} E:=by
 cases E with
 | nx bB=>exact λ_ σ' H' g' s'=>⟨bB,w,h,s',w.mono (λt q2=>q2.go g' sr s') q⟩
 | nc bB=>exact h.elim
 | bk bB=>
  obtain⟨t,rfl,h⟩:=h;have q:bL K x σ fs H D (out t):=q;rw [h] at q;exact q
 | ct bB=>
  obtain⟨t,rfl,h⟩:=h;have q:bL K x σ fs H D (out t):=q;rcases h with h | h
  ·rw [h] at q;exact q
  ·rw [h] at q;exact λσ' H' g s=>(q σ' H' g s).2
 | rt v=>
  obtain⟨t,rfl,h⟩:=h;have q:bL K x σ fs H D (out t):=q;rw [h] at q;exact q
 | rl v=>
  obtain⟨t,rfl,h⟩:=h;have q:bL K x σ fs H D (out t):=q;rw [h] at q;exact q
 | ro v a l=>
  obtain⟨t,rfl,h⟩:=h;have q:bL K x σ fs H D (out t):=q;rw [h] at q;exact q
variable {w1 w2:W T1}{out1:T1->End}{k:T1->W T}
def SF.ifS (hc:TF X K fs c tc) (ha:SF X K false fs sa w1 out1) (hb:SF X K false fs sb w2 out1) (hr:∀t,Y1 X K x rest (k t) out (out1 t)):SF X K x fs (.If c sa sb pos::rest) (.bind tc λb=>.bind (if b=true then w1 else w2) k) out:=SF.step (O2 hc.p ha.p hb.p) λD σ H ⟨sr,q⟩=>⟨sr,tc.mono (λb q1 H1 g1 s1=>by
 have fin:∀t,(k t).run (λt=>bL K x σ fs H D (out t))->bL K false σ fs H {D with nx:=z9 X K x rest out D} (out1 t):=λt q=>(hr t).r sr q;cases b with
 | true=>exact ym ⟨s1,w1.mono (λt q2=>(fin t q2).go g1.f sr s1) q1⟩
 | false=>exact yn ⟨s1,w2.mono (λt q2=>(fin t q2).go g1.f sr s1) q1⟩) q⟩
end
end
end FL
variable {is:List Nat}
namespace FL
section
open PySem PySem.Spec PyProof.Rows L2 PL
variable {K:Ab}
def JF (K:Ab) (H:Hp) (J:It) (l:List PV):Prop:=l.length<=sizeLine/\∀H',bj K H H'->(∀(i:Nat) (p:PV),l[i]?=ap p->J.go i H'/\∀x H2,J.U2 i H' x H2->lJ H' H2/\VR K [] H2 x p)/\J.stop l.length H'
def JF.tk {J:It} (t:bj K H H') (h:JF K H J l):JF K H' J l:=⟨h.1,λH2 t2=>h.2 H2 (bj.trans t t2)⟩
def fIt (K:Ab) (fs:bh) (w:W (List PV)):TI:=λσ H R=>aU K H σ fs/\w.run λl=>∀J H',cV σ fs H H'->aU K H' σ fs->JF K H' J l->R J H'
structure rB (X:Cx) (K:Ab) (fs:bh) (tg e:ii) (w:W (List PV)):Prop where p:PI X tg e (fIt K fs w)
section
variable {a c:ii}
def UU {ad:ce} (h:V1 K H ad vs) (r:aE K [] H vs l) (hz:l.length<=sizeLine):JF K H (Itl K ad) l:=⟨hz,λH' t=>by
 have e1:=(t.f _ _ h).sq;have e2:=aE.tk t r;refine⟨λi p hp=>?_,vs,e1,by rw [e2.length];exact An _⟩;obtain⟨v,h3,h4⟩:=e2.get hp;refine⟨⟨vs,v,e1,h3⟩,λx H3 y=>?_⟩;obtain⟨rfl,y⟩:=y;have:=y vs e1;rw [h3] at this;cases this;exact⟨lJ.refl _,h4⟩⟩
def YY {ad:ce} (h:H ad=ap (.tup vs)) (r:aE K [] H vs l) (hz:l.length<=sizeLine):JF K H (Itt K ad) l:=⟨hz,λH' t=>by
 have e1:=dX.of (K:=K) (t.t _ _ h);have e2:=aE.tk t r;refine⟨λi p hp=>?_,vs,e1,by rw [e2.length];exact An _⟩;obtain⟨v,h3,h4⟩:=e2.get hp;refine⟨⟨vs,v,e1,h3⟩,λx H3 y=>?_⟩;obtain⟨rfl,y⟩:=y;have:=y vs e1;rw [h3] at this;cases this;exact⟨lJ.refl _,h4⟩⟩
def bJ (hK:X.K=K) (h:IF X K fs e wl):rB X K fs tg e wl:=⟨by
 subst hK;intro À s σ H R I ⟨sr,q⟩;refine bT (h.p À s σ H (λu H1=>∃l,YW X.K H1 u l/\∀J,JF X.K H1 J l->R J H1) I ⟨sr,wl.mono (λl q1 u H1 g1 s1 v1=>⟨l,v1,λJ j=>q1 J H1 g1 s1 j⟩) q⟩) λv s1 ⟨x,H1,I1,r1,l,⟨ad,vs,e,hh,rs⟩,q1⟩=>?_;subst e;cases r1;rcases hh with hh | hh
 ·obtain⟨ar,rv,pl,hz⟩:=I1.list hh.sq;refine CG pl.isList ?_;refine⟨s1.heap.objs.size,[s1.heap.objs.size],_,_,H1,rfl,I1.kept (t':=s1.toks) λb o e=>Ag _ e,vI ad _,⟨_,Ap _ rfl,rfl,rfl⟩,λb hb=>?_,q1 _ (UU hh rs (by rw [<- rs.length];exact hz))⟩;have e:b=s1.heap.objs.size:=by simpa using hb
  subst e;exact I1.yL (An _) (I1.bA.fresh (An _))
 ·obtain⟨ar,rv,pl,hz⟩:=I1.tuple (dX.of hh);refine D1 (show s1.heap.IsTuple ad ar.toArray from pl) ?_;refine⟨s1.heap.objs.size,[s1.heap.objs.size],_,_,H1,rfl,I1.kept (t':=s1.toks) λb o e=>Ag _ e,HY ad _,⟨_,Ap _ rfl,rfl,rfl⟩,λb hb=>?_,q1 _ (YY hh rs (by rw [<- rs.length];exact hz))⟩;have e:b=s1.heap.objs.size:=by simpa using hb
  subst e;exact I1.yL (An _) (I1.bA.fresh (An _))⟩
def okN (i j:Int):Prop:=-(2 ^ 62)<=i/\i < 2 ^ 62/\-(2 ^ 62)<=j/\j < 2 ^ 62/\(j-i).toNat<=sizeLine
def fH:PV->W (List PV)
 | .int j=>.fB (okN 0 j) (.ret (jk 0 j.toNat))
 | _=>.fail
def OK:PV->PV->PV->W (List PV)
 | .int i,.int j,.int k=>.fB (k = -1/\okN j i) (.ret (qP i (i-j).toNat))
 | _,_,_=>.fail
def YZ (lo:Int) (n:Nat) (hz:n<=sizeLine):JF K H (Itr lo n) (jk lo n):=⟨by rw [jh];exact hz,λH' t=>⟨λi p hp=>by
  obtain⟨h1,rfl⟩:=qk hp;refine⟨h1,λx H2 y=>?_⟩;obtain⟨rfl,rfl⟩:=y;exact⟨lJ.refl _,.int _⟩,by show n<=(jk lo n).length;rw [jh];exact An _⟩⟩
theorem cZ (hg:Gl X "range") (hm:X.mg "range"=bm) (ha:EF X K fs a wa) (hs:f8 [a] X.env=[(false,kw a X.env)]:=by rfl):rB X K fs tg (.Call (.Name "range" p) [a] [] pos) (.bind wa fH):=
 ⟨PI.imp (Mr hg hm (aZ ha.p ck hs) hs) λσ H R ⟨sr,q⟩=>⟨sr,wa.mono (λx q1 u1 H1 g1 s1 v1=>by
  cases v1 with
  | int j=>exact⟨_,rfl,q1.1.2.2.1,q1.1.2.2.2.1,q1.2 _ H1 g1 s1 (YZ _ _ (by have:=q1.1.2.2.2.2;omega))⟩
  | _=>exact q1.elim) q⟩⟩
def TR (hg:Gl X "range") (hm:X.mg "range"=bm) (ha:EF X K fs a wa) (hb:EF X K fs b wb) (hc:EF X K fs c wc) (hs:f8 [a,b,c] X.env=[(false,kw a X.env),(false,kw b X.env),(false,kw c X.env)]:=by rfl) (rR:f8 [b,c] X.env=[(false,kw b X.env),(false,kw c X.env)]:=by rfl) (hs3:f8 [c] X.env=[(false,kw c X.env)]:=by rfl):rB X K fs tg (.Call (.Name "range" p) [a,b,c] [] pos) (.bind wa λx=>.bind wb λy=>.bind wc λz=>OK x y z):=
 ⟨PI.imp (Mq hg hm (aZ ha.p (aZ hb.p (aZ hc.p ck hs3) (by show f8 _ _=_;rw [rR,hs3])) (by show f8 _ _=_;rw [hs,rR])) hs rR) λσ H R ⟨sr,q⟩=>⟨sr,wa.mono (λx q1 u1 H1 g1 s1 v1=>⟨s1,wb.mono (λy q2 u2 H2 g2 s2 v2=>⟨s2,wc.mono (λz q3 u3 H3 g3 s3 v3=>by
  cases v1 with
  | int i=>
   cases v2 with
   | int j=>
    cases v3 with
    | int k=>
     obtain⟨⟨rfl,k1,k2,k3,k4,k5⟩,q3⟩:=q3;refine⟨_,_,rfl,⟨k3,k4,k1,k2⟩,q3 _ H3 ((g1.trans g2).trans g3) s3 ⟨by rw [wJ];exact k5,λH' t=>⟨λi p hp=>?_,?_⟩⟩⟩
     ·obtain⟨h1,rfl⟩:=wK hp;refine⟨h1,λx H2 y=>?_⟩;obtain⟨rfl,rfl⟩:=y;exact⟨lJ.refl _,.int _⟩
     ·exact Nat.le_of_eq (wJ _ _).symm
    | _=>exact q3.elim
   | _=>exact q3.elim
  | _=>exact q3.elim) q2⟩) q1⟩) q⟩⟩
def oD (hK:X.K=K) {kk:Nat} (hg:Gl X "enumerate") (hm:X.mg "enumerate"=bm) (h:IF X K fs e wl) (HI:ic X e []:=by rfl):rB X K fs (.Tuple Ï kk tp) (.Call (.Name "enumerate" p1) [e] [] p2) (.bind wl λl=>.fB (l.length<=sizeLine) (.ret (dW 0 l))):=
 ⟨PI.imp (O8 K hK hg hm h.p HI) λσ H R ⟨sr,q⟩=>⟨sr,wl.mono (λl q1 u1 H1 g1 s1 v1=>by
  obtain⟨ad,vs,rfl,hh,rs⟩:=v1;have yl:∀{H':Hp}{i:Nat}{x v:V}{y:PV}{pp:ce},H' pp=bm->VR K [] H' v y->lJ H' (upd H' pp (.tup [.int (i:Int),v]))/\VR K [] (upd H' pp (.tup [.int (i:Int),v])) (.ref pp) (.tup [.int ((0+i:Nat):Int),y]):=λ{H' i x v y pp} hn h4=>
   have sm:=i7 hn (.tup [.int (i:Int),v])
   ⟨sm,.tup aM (.cons (by rw [AI];exact .int _) (.cons (VR.tk sm.eG h4) .nil))⟩
  refine⟨ad,rfl,?_⟩;rcases hh with hh | hh
  ·refine .inl ⟨⟨vs,hh.sq⟩,q1.2 _ H1 g1 s1 ⟨by rw [cx];exact q1.1,λH' t=>⟨λi p hp=>?_,vs,(t.f _ _ hh).sq,by rw [rs.length,cx];exact An _⟩⟩⟩;obtain⟨y,hy,rfl⟩:=gI hp;obtain⟨v,h3,h4⟩:=(aE.tk t rs).get hy;refine⟨⟨vs,v,(t.f _ _ hh).sq,h3⟩,λx H3 z=>?_⟩;obtain⟨pp,x0,rfl,hn,rfl,hz⟩:=z;have:=hz vs (t.f _ _ hh).sq;rw [h3] at this;cases this;exact yl (x:=.aG) hn h4
  ·refine .inr ⟨⟨vs,dX.of hh⟩,q1.2 _ H1 g1 s1 ⟨by rw [cx];exact q1.1,λH' t=>⟨λi p hp=>?_,vs,dX.of (t.t _ _ hh),by rw [rs.length,cx];exact An _⟩⟩⟩;obtain⟨y,hy,rfl⟩:=gI hp;obtain⟨v,h3,h4⟩:=(aE.tk t rs).get hy;refine⟨⟨vs,v,dX.of (t.t _ _ hh),h3⟩,λx H3 z=>?_⟩;obtain⟨pp,x0,rfl,hn,rfl,hz⟩:=z;have:=hz vs (dX.of (t.t _ _ hh));rw [h3] at this;cases this;exact yl (x:=.aG) hn h4) q⟩⟩
end
def sI:List Nat->List V->L2.St->L2.St
 | i::is,u::us,σ=>sI is us (σ.set i (ap u))
 | _,_,σ=>σ
def fG (K:Ab) (fs:bh) (is:List Nat) (wt:PV->W T) (cD:T->bh):TG:=λv σ H Q=>∃p,aU K H σ fs/\VR K [] H v p/\(wt p).run λt=>∀us,cQ σ fs H (sI is us σ) (cD t) H->aU K H (sI is us σ) (cD t)->Q (sI is us σ) H
structure GF (X:Cx) (K:Ab) (fs:bh) (tg:ii) (is:List Nat) {T:Type} (wt:PV->W T) (cD:T->bh):Prop where p:PG X tg (fG K fs is wt cD)
def vH:PV->W (PV×PV)
 | .tup [a,b]=>.ret (a,b)
 | _=>.fail
def ZN:PV->W (PV×PV×PV×PV)
 | .tup [a,b,c,d]=>.ret (a,b,c,d)
 | _=>.fail
section
def VG (h:PG X tg (eB i)):GF X K fs tg [i] .ret (λp=>fs.set i (ap (.val p))):=⟨PG.imp h λv σ H Q ⟨p,sr,r,q⟩=>q [v] (cQ.fJ sr v p i) (sr.fJ r i)⟩
def RL (hK:X.K=K) (h:PG X tg (Yj X.K 2 (t6 (eB i) (t6 (eB j) Yk)))):GF X K fs tg [i,j] vH (λt=>(fs.set i (ap (.val t.1))).set j (ap (.val t.2))):=⟨PG.imp h λv σ H Q ⟨p,sr,r,q⟩=>by
 unfold vH at q
 split at q
 ·cases r with
  | tup e rs=>
   cases rs with
   | cons ra t=>
   cases t with
   | cons rb t=>
   cases t;have s1:=sr.fJ ra i;exact⟨_,_,rfl,dX.of e,rfl,_,_,rfl,_,_,rfl,rfl,q [_,_] ((cQ.fJ sr _ _ i).trans (cQ.fJ s1 _ _ j)) (s1.fJ rb j)⟩
 ·exact q.elim⟩
def g_4 {l:Nat} (hK:X.K=K) (h:PG X tg (Yj X.K 4 (t6 (eB i) (t6 (eB j) (t6 (eB k) (t6 (eB l) Yk)))))):GF X K fs tg [i,j,k,l] ZN (λt=>(((fs.set i (ap (.val t.1))).set j (ap (.val t.2.1))).set k (ap (.val t.2.2.1))).set l (ap (.val t.2.2.2))):=⟨PG.imp h λv σ H Q ⟨p,sr,r,q⟩=>by
 unfold ZN at q
 split at q
 ·cases r with
  | tup e rs=>
   cases rs with
   | cons ra t=>
   cases t with
   | cons rb t=>
   cases t with
   | cons rc t=>
   cases t with
   | cons rd t=>
   cases t;have s1:=sr.fJ ra i;have s2:=s1.fJ rb j;have s3:=s2.fJ rc k;exact⟨_,_,rfl,dX.of e,rfl,_,_,rfl,_,_,rfl,_,_,rfl,_,_,rfl,rfl,q [_,_,_,_] ((((cQ.fJ sr _ _ i).trans (cQ.fJ s1 _ _ j)).trans (cQ.fJ s2 _ _ k)).trans (cQ.fJ s3 _ _ l)) (s3.fJ rd l)⟩
 ·exact q.elim⟩
end
section
variable {S T:Type}
def cz:List PV->S->(PV->S->W S)->W S
 | [],s,_=>.ret s
 | x::r,s,f=>.bind (f x s) λs'=>cz r s' f
inductive Lp (S T:Type) where
 | go (s:S) | out (t:T)
def mq:List PV->S->(PV->S->W (Lp S T))->W (Lp S T)
 | [],s,_=>.ret (.go s)
 | x::r,s,f=>.bind (f x s) λo=>match o with
  | .go s'=>mq r s' f
  | .out t=>.ret (.out t)
def Na (k:S->W T) (inj:R->T):Lp S R->W T
 | .go s=>k s
 | .out r=>.ret (inj r)
@[simp] theorem afU (k:S->W T) (inj:R->T) (s:S):Na k inj (.go s)=k s:=(rfl)
@[simp] theorem adm (k:S->W T) (inj:R->T) (r:R):Na k inj (.out r)=.ret (inj r):=(rfl)
def lpE (hd:S->bh) (out:R->End):Lp S R->End
 | .go s=>.nc (hd s)
 | .out r=>out r
def mU (c:S->W Bool) (b:S->W S):Nat->S->W S
 | 0,_=>.fail
 | n+1,s=>.bind (c s) λk=>if k=true then .bind (b s) (mU c b n) else .ret s
def HW (c:S->W Bool) (b:S->W S) (s:S):W S:=⟨λQ=>∃n,(mU c b n s).run Q,λh ⟨n,q⟩=>⟨n,(mU c b n s).mono h q⟩⟩
end
section
variable {c:ii}{rest:List sn}{S T T2:Type}{hd:S->bh}{s0:S}{wt:PV->W T2}{cD:S->T2->bh}{k:S->W T}{out:T->End}{R:Type}{inj:R->T}
theorem SF.for {f:PV->S->W S}{wb:T2->S->W S} (hp:wn (dL X.prog X.w) X.A X.env X.xe) (hc:X.calm=true) (hi:rB X K fs tg iter wl) (hl:iH fs (hd s0)) (hg:∀s,GF X K (hd s) tg is wt (cD s)) (hf:∀p s,f p s=.bind (wt p) λt=>wb t s)
  (hb:∀s t,SF X K false (cD s t) body (wb t s) λs'=>.nc (hd s')) (hr:∀s,SF X K x (hd s) rest (k s) out) (hs:uN X iter:=by intro _;rfl) :
  SF X K x fs (.For tg iter body [] pos::rest) (.bind wl λl=>.bind (cz l s0 f) k) out:=by
 refine SF.step (Im (g:=λv σ H Q=>∃s,fG K (hd s) is wt (cD s) v σ H Q) (tb:=λD σ H=>∃s t,fS K false (cD s t) (wb t s) (λs'=>.nc (hd s')) D σ H) hp hc hi.p (λÀ s σ H v u Q I r ⟨s1,q⟩=>(hg s1).p À s σ H v u Q I r q) (λÀ s σ H D I ⟨s1,t1,q⟩=>(hb s1 t1).p À s σ H D I q) hs) λD σ H ⟨sr,q⟩=>?_;refine⟨sr,wl.mono (λl q1 J H1 g1 s1 jf=>?_) q⟩;refine⟨λi m σ' H'=>∃s,aU K H' σ' (hd s)/\cQ σ fs H σ' (hd s) H'/\JF K H' J l/\m=l.length-i/\i<=l.length/\(cz (l.drop i) s f).run λs'=>(k s').run λt=>bL K x σ fs H D (out t),⟨l.length,s0,s1.le hl,g1.f.trans (cQ.le s1 hl),jf,by simp,Bd _,by simpa using q1⟩,?_⟩;rintro i m σ2 H2 ⟨s,s2,g2,TL,rfl,hi,q2⟩;obtain⟨j1,j2⟩:=TL.2 H2 (bj.refl H2);by_cases iA:i < l.length
 ·obtain⟨go,yl⟩:=j1 i _ (Ad iA);have ed:=Bl iA;rw [ed] at q2;refine .inr ⟨go,λσ3 H3=>∃s',aU K H3 σ3 (hd s')/\cQ σ fs H σ3 (hd s') H3/\JF K H3 J l/\(cz (l.drop (i+1)) s' f).run λs'=>(k s').run λt=>bL K x σ fs H D (out t),λσ3 H3 ⟨s',a1,a2,a3,a4⟩=>⟨l.length-(i+1),by omega,s',a1,a2,a3,rfl,iA,a4⟩,λv H3 y=>?_⟩;obtain⟨sm,vx⟩:=yl v H3 y;have q2:(f l[i] s).run λs'=>(cz (l.drop (i+1)) s' f).run λs'=>(k s').run λt=>bL K x σ fs H D (out t):=q2;rw [hf] at q2;have s3:=s2.same sm;have g3:=g2.trans (cQ.same sm s2);refine⟨s,_,s3,vx,(wt l[i]).mono (λt q4 us g4 s4=>?_) q2⟩;refine⟨s,t,s4,(wb t s).mono (λs' q5 σ5 H5 g5 s5=>?_) q4⟩;have fin:∃s',aU K H5 σ5 (hd s')/\cQ σ fs H σ5 (hd s') H5/\JF K H5 J l/\(cz (l.drop (i+1)) s' f).run λs'=>(k s').run λt=>bL K x σ fs H D (out t):=⟨s',s5,(g3.trans g4).trans g5,TL.tk (bj.trans sm.eG (bj.trans (g4.eI s3) (g5.eI s4))),q5⟩;exact⟨λ_=>fin,fin⟩
 ·have e:i=l.length:=by omega
  subst e;rw [Dn] at q2;exact .inl ⟨j2,hd s,k s,hr s,s2,(k s).mono (λt q3=>q3.go g2 sr s2) q2⟩
theorem SF.mq {f:PV->S->W (Lp S R)}{wb:T2->S->W (Lp S R)} (hp:wn (dL X.prog X.w) X.A X.env X.xe) (hc:X.calm=true) (hi:rB X K fs tg iter wl) (hl:iH fs (hd s0)) (hg:∀s,GF X K (hd s) tg is wt (cD s)) (hf:∀p s,f p s=.bind (wt p) λt=>wb t s)
  (ho:∀t,(out (inj t)).Qc)
  (hb:∀s t,SF X K false (cD s t) body (wb t s) (lpE hd λr=>out (inj r))) (hr:∀s,SF X K x (hd s) rest (k s) out) (hs:uN X iter:=by intro _;rfl) :
  SF X K x fs (.For tg iter body [] pos::rest) (.bind wl λl=>.bind (FL.mq l s0 f) (Na k inj)) out:=by
 refine SF.step (Im (g:=λv σ H Q=>∃s,fG K (hd s) is wt (cD s) v σ H Q) (tb:=λD σ H=>∃s t,fS K false (cD s t) (wb t s) (lpE hd λr=>out (inj r)) D σ H) hp hc hi.p (λÀ s σ H v u Q I r ⟨s1,q⟩=>(hg s1).p À s σ H v u Q I r q) (λÀ s σ H D I ⟨s1,t1,q⟩=>(hb s1 t1).p À s σ H D I q) hs) λD σ H ⟨sr,q⟩=>?_;refine⟨sr,wl.mono (λl q1 J H1 g1 s1 jf=>?_) q⟩;have lo:∀(D':Ends) (y:Bool) (t:R),D'.rt=D.rt->bL K x σ fs H D (out (inj t))->bL K y σ fs H D' (out (inj t)):=λD' y t e h=>bL.aeI (ho t) e h;refine⟨λi m σ' H'=>∃s,aU K H' σ' (hd s)/\cQ σ fs H σ' (hd s) H'/\JF K H' J l/\m=l.length-i/\i<=l.length/\(FL.mq (l.drop i) s f).run λo=>(Na k inj o).run λt=>bL K x σ fs H D (out t),⟨l.length,s0,s1.le hl,g1.f.trans (cQ.le s1 hl),jf,by simp,Bd _,by simpa using q1⟩,?_⟩;rintro i m σ2 H2 ⟨s,s2,g2,TL,rfl,hi,q2⟩;obtain⟨j1,j2⟩:=TL.2 H2 (bj.refl H2);by_cases iA:i < l.length
 ·obtain⟨go,yl⟩:=j1 i _ (Ad iA);have ed:=Bl iA;rw [ed] at q2;refine .inr ⟨go,λσ3 H3=>∃s',aU K H3 σ3 (hd s')/\cQ σ fs H σ3 (hd s') H3/\JF K H3 J l/\(FL.mq (l.drop (i+1)) s' f).run λo=>(Na k inj o).run λt=>bL K x σ fs H D (out t),λσ3 H3 ⟨s',a1,a2,a3,a4⟩=>⟨l.length-(i+1),by omega,s',a1,a2,a3,rfl,iA,a4⟩,λv H3 y=>?_⟩;obtain⟨sm,vx⟩:=yl v H3 y;have q2:(f l[i] s).run λo=>(match o with | .go s'=>FL.mq (l.drop (i+1)) s' f | .out t=>bd (.out t)).run λo=>(Na k inj o).run λt=>bL K x σ fs H D (out t):=q2;rw [hf] at q2;have s3:=s2.same sm;have g3:=g2.trans (cQ.same sm s2);refine⟨s,_,s3,vx,(wt l[i]).mono (λt q4 us g4 s4=>?_) q2⟩;refine⟨s,t,s4,(wb t s).mono (λo q5=>?_) q4⟩;cases o with
  | out t5=>
   refine bL.go (g3.trans g4) sr s4 (lo _ false t5 ?_ q5);rfl
  | go s'=>
   intro σ5 H5 g5 s5;have fin:∃s',aU K H5 σ5 (hd s')/\cQ σ fs H σ5 (hd s') H5/\JF K H5 J l/\(FL.mq (l.drop (i+1)) s' f).run λo=>(Na k inj o).run λt=>bL K x σ fs H D (out t):=⟨s',s5,(g3.trans g4).trans g5,TL.tk (bj.trans sm.eG (bj.trans (g4.eI s3) (g5.eI s4))),q5⟩;exact⟨λ_=>fin,fin⟩
 ·have e:i=l.length:=by omega
  subst e;rw [Dn] at q2;exact .inl ⟨j2,hd s,k s,hr s,s2,(k s).mono (λt q3=>q3.go g2 sr s2) q2⟩
def SF.ZK {cw:S->W Bool}{b:S->W S} (hp:wn (dL X.prog X.w) X.A X.env X.xe) (hl:iH fs (hd s0)) (hc:∀s,TF X K (hd s) c (cw s)) (hb:∀s,SF X K false (hd s) body (b s) λs'=>.nc (hd s')) (hr:∀s,SF X K x (hd s) rest (k s) out) :
  SF X K x fs (.While c body [] pos::rest) (.bind (HW cw b s0) k) out:=by
 refine SF.step (O1 (tc:=λσ H Q=>∃s,fT K (hd s) (cw s) σ H Q) (tb:=λD σ H=>∃s,fS K false (hd s) (b s) (λs'=>.nc (hd s')) D σ H) hp (λÀ s σ H Q I ⟨s1,q⟩=>(hc s1).p À s σ H Q I q) (λÀ s σ H D I ⟨s1,q⟩=>(hb s1).p À s σ H D I q)) λD σ H ⟨sr,n,q⟩=>?_;refine⟨λm σ' H'=>∃s,aU K H' σ' (hd s)/\cQ σ fs H σ' (hd s) H'/\(mU cw b m s).run λs'=>(k s').run λt=>bL K x σ fs H D (out t),⟨n,s0,sr.le hl,cQ.le sr hl,q⟩,?_⟩;rintro m σ1 H1 ⟨s,s1,g1,q1⟩;cases m with
 | zero=>exact q1.elim
 | succ m=>
  refine⟨s,s1,(cw s).mono (λkk q2 H2 g2 s2=>?_) q1⟩;cases kk with
  | false=>
   refine yn ?_;exact⟨hd s,k s,hr s,s2,(k s).mono (λt q3=>q3.go (g1.trans g2.f) sr s2) q2⟩
  | true=>
   refine ym ?_;refine⟨λσ3 H3=>∃s,aU K H3 σ3 (hd s)/\cQ σ fs H σ3 (hd s) H3/\(mU cw b m s).run λs'=>(k s').run λt=>bL K x σ fs H D (out t),λσ3 H3 a=>⟨m,Eo m,a⟩,s,s2,(b s).mono (λs' q5 σ5 H5 g5 s5=>?_) q2⟩;have fin:∃s,aU K H5 σ5 (hd s)/\cQ σ fs H σ5 (hd s) H5/\(mU cw b m s).run λs'=>(k s').run λt=>bL K x σ fs H D (out t):=⟨s',s5,(g1.trans g2.f).trans g5,q5⟩;exact⟨λ_=>fin,fin⟩
end
end
end FL
variable {f:PL.PV->FL.W (Option PL.PV)}{nB:FL.bh}
namespace FL
section
open PySem PySem.Spec PyProof.Rows L2 PL
variable {K:Ab}
def mJ:List PV->(PV->W (Option PV))->W (List PV)
 | [],_=>.ret []
 | x::r,f=>.bind (f x) λo=>.bind (mJ r f) λl=>.ret (o.toList++l)
def bC:List PV->(PV->W PV)->W (List PV)
 | [],_=>.ret []
 | x::r,f=>.bind (f x) λy=>.bind (bC r f) λl=>.ret (y::l)
theorem xK (f:PV->W PV):∀l,bC l f=mJ l λp=>.bind (f p) λv=>.ret (ap v)
 | []=>rfl
 | x::r=>by
  show am (f x) (λy=>am (bC r f) λl=>bd (y::l))=am (f x) λy=>am (mJ r _) λl=>bd (y::l);rw [xK f r]
def bq (ix:List (Option Nat)) (fs:bh):bh:=ix.map λo=>match o with | some j=>(fs[j]?).getD bm | none=>bm
section
def o7 {s:SL} (h:(bq ix fs)[i]?=ap (ap s)):∃j,ix[i]?=ap (ap j)/\fs[j]?=ap (ap s):=by
 unfold bq at h;rw [Aj] at h;cases q:ix[i]? with
 | none=>rw [q] at h;cases h
 | some o=>
  rw [q] at h;cases o with
  | none=>cases h
  | some j=>
   refine⟨j,rfl,?_⟩;have h:(fs[j]?).getD bm=ap s:=Option.some.inj h;cases z:fs[j]? with
   | none=>rw [z] at h;cases h
   | some y=>rw [z] at h;exact congrArg ap h
def mh (h:ix[i]?=ap (ap j)) (e:σ[j]?=ap (ap u)):(o6 ix σ)[i]?=ap (ap u):=by
 unfold o6;rw [Aj,h];show ap ((σ[j]?).getD bm)=_;rw [e];rfl
def aU.fC (s:aU K H σ fs) (inj:∀i i' j:Nat,ix[i]?=ap (ap j)->ix[i']?=ap (ap j)->i=i'):aU K H (o6 ix σ) (bq ix fs):=by
 refine⟨by unfold o6 bq;simp,λi t e=>?_,λi i' t u x y a e1 e2 o1 o2 q1 q2 z1 z2=>?_⟩
 ·obtain⟨j,h1,h2⟩:=o7 e;obtain⟨u,h3,h4⟩:=s.at' j t h2;exact⟨u,mh h1 h3,h4⟩
 ·obtain⟨j,h1,h2⟩:=o7 e1;obtain⟨j',gZ,rS⟩:=o7 e2;obtain⟨u1,h3,_⟩:=s.at' j t h2;obtain⟨u2,Qt,_⟩:=s.at' j' u rS;rw [mh h1 h3] at q1;rw [mh gZ Qt] at q2;cases q1;cases q2;have:=s.nd j j' t u x y a h2 rS o1 o2 h3 Qt z1 z2;subst this;exact inj i i' j h1 gZ
structure UW (ix:List (Option Nat)) (σ:L2.St) (fs:bh) (σ':L2.St) (bB:bh):Prop where
 own:∀(i:Nat) (t:SL),bB[i]?=ap (ap t)->t.own=true->∃j,ix[i]?=ap (ap j)/\fs[j]?=ap (ap t)/\σ'[i]?=σ[j]?
def UW.xG (h:UW ix σ fs σ' bB) (o:dY σ' bB a):dY σ fs a:=by
 obtain⟨i,t,x,e1,e2,e3,e4⟩:=o;obtain⟨j,h1,h2,h3⟩:=h.own i t e1 e2;exact⟨j,t,x,h2,e2,h3▸e3,e4⟩
def UW.mn (h:UW ix σ fs σ' bB) (o:iG σ' bB φ a):iG σ fs φ a:=by
 obtain⟨i,e1,e3⟩:=o;obtain⟨j,h1,h2,h3⟩:=h.own i _ e1 rfl;exact⟨j,h2,h3▸e3⟩
def UW.out (h:UW ix σ fs σ' bB) (s:aU K H1 σ fs) (g:cV σ' bB H1 H2) (s2:aU K H2 σ' bB):aU K H2 σ fs/\cV σ fs H1 H2:=by
 have gf:cV σ fs H1 H2:=⟨λa o e n=>g.keep a o e λφ z=>n φ (h.mn z),g.there⟩;refine⟨⟨s.len,λj t e=>?_,s.nd⟩,gf⟩;obtain⟨u,h1,h2⟩:=s.at' j t e;refine⟨u,h1,?_⟩;have tk:=gf.eI s;rcases h2 with⟨v,q,r⟩ | ⟨a,q,r⟩
 ·exact .inl ⟨v,q,VR.tk tk r⟩
 ·subst q;refine .inr ⟨a,rfl,?_⟩;by_cases c:∃b,t.own=true/\t.has a b/\dY σ' bB b
  ·obtain⟨b,ow,hb,i,t',x,c1,c2,c3,c4⟩:=c;obtain⟨j',k1,k2,k3⟩:=h.own i t' c1 c2;have jj:=s.nd j j' t t' a x b e k2 ow c2 h1 (k3▸c3) hb c4;subst jj;rw [e] at k2;cases k2;exact s2.ownAt c1 c2 (k3.trans h1)
  ·exact r.mono tk (λb o ow hb z=>g.wj z λy=>c ⟨b,ow,hb,y⟩)
theorem sH:∀{is:List Nat}{us:List V}{σ:L2.St}{i:Nat},i∉is->(sI is us σ)[i]?=σ[i]?
 | [],us,σ,i,_=>by cases us <;> rfl
 | j::is,[],σ,i,_=>rfl
 | j::is,u::us,σ,i,h=>by
  rw [sI,sH (λz=>h (AZ _ z))];exact aO (λz=>h (by rw [z];exact Bt))
end
section
variable {T2:Type}{wt:PV->W T2}{cD:T2->bh}{tf:T2->W Bool}{te:T2->W PV}
structure FF (X:Cx) (K:Ab) (fs:bh) (Ë:List ii) (w:W Bool):Prop where p:Zw X Ë (fT K fs w)
def Jw:FF X K fs [] (.ret true):=⟨λÀ s σ H Q I ⟨sr,q⟩=>SI À s σ H Q I (q H .refl sr)⟩
def yQ {c:ii}{w:W Bool} (h:TF X K fs c w):FF X K fs [c] w:=⟨SH h.p⟩
def rA (is:List Nat) (nB:bh) (cD:T2->bh):Prop:=∀t,(cD t).length=nB.length/\∀(i:Nat) (s:SL),(cD t)[i]?=ap (ap s)->(i∈is/\s.own=false)\/(i∉is/\nB[i]?=ap (ap s))
theorem QJ (S:ax X.env.scope X.N sc N' ix) (hb:nB=bq ix fs) (hf:∀p,f p=.bind (wt p) λt=>.bind (tf t) λk=>if k=true then .bind (te t) λv=>.ret (ap v) else .ret bm) (hl:rA is nB cD) (hr:∀t,iH (cD t) nB) (vk:∀j∈is,ix[j]?=ap bm) :
  ∀σ H Q,fL K fs (.bind wl λl=>mJ l f) σ H Q->tLc ix (fIt K fs wl) (λv σ H Q=>fG K nB is wt cD v σ H Q) (λσ H Q=>∃t,fT K (cD t) (tf t) σ H Q) (λσ H Q=>∃t,fE K (cD t) (te t) σ H Q) σ H Q:=by
 subst hb;rintro σ H Q ⟨sr,q⟩;refine⟨sr,wl.mono (λl q1 J H1 g1 s1 jf D hD=>?_) q⟩;have inj:∀i i' j:Nat,ix[i]?=ap (ap j)->ix[i']?=ap (ap j)->i=i':=λi i' j h1 h2=>by
  have hi:i < N'.length:=by rw [<- S.len];exact (Ak.mp h1).1
  have yu:i' < N'.length:=by rw [<- S.len];exact (Ak.mp h2).1
  have e1:=(S.at h1 (Ad hi)).1;have e2:=(S.at h2 (Ad yu)).1;rw [e1] at e2;exact (List.getElem_inj S.nd).mp (Option.some.inj e2)
 have nD:=s1.noOwn hD;refine⟨λi m σ' ys H'=>∃Æ,aU K H' σ fs/\cV σ fs H H'/\aU K H' σ' (bq ix fs)/\UW ix σ fs σ' (bq ix fs)/\JF K H' J l/\H' D=ap (.lst ys)/\aE K [] H' ys Æ/\Æ.length<=i/\m=l.length-i/\i<=l.length/\
  (mJ (l.drop i) f).run λr=>∀a vs H',cV σ fs H H'->aU K H' σ fs->H a=bm->H' a=ap (.lst vs)->aE K [] H' vs (Æ++r)->Q (.ref a) H',⟨l.length,[],?_⟩,?_⟩
 ·have sm:=i7 hD (.lst []);refine⟨s1.same sm,g1.trans (cV.same sm),(s1.same sm).fC inj,⟨λi t e o=>?_⟩,jf.tk sm.eG,aM,.nil,Bd _,by simp,Bd _,by simpa using q1⟩;obtain⟨j,h1,h2⟩:=o7 e;obtain⟨u,h3,_⟩:=s1.at' j t h2;exact⟨j,h1,h2,by rw [mh h1 h3,h3]⟩
 rintro i m σ2 ys H2 ⟨Æ,sO,gO,s2,Vx,TL,hy,vy,abK,rfl,hi,q2⟩;refine⟨hy,?_⟩;obtain⟨j1,j2⟩:=TL.2 H2 (bj.refl H2);by_cases iA:i < l.length
 ·obtain⟨go,yl⟩:=j1 i _ (Ad iA);have ed:=Bl iA;rw [ed] at q2;refine .inr ⟨go,λv H3 y=>?_⟩;obtain⟨sm,vx⟩:=yl v H3 y;have q2:(f l[i]).run λo=>(mJ (l.drop (i+1)) f).run λr=>∀a vs H',cV σ fs H H'->aU K H' σ fs->H a=bm->H' a=ap (.lst vs)->aE K [] H' vs (Æ++(o.toList++r))->Q (.ref a) H':=q2;rw [hf] at q2;have s3:=s2.same sm;have sO3:=sO.same sm;have gO3:=gO.trans (cV.same sm);have hy3:=sm _ _ hy;have vy3:=aE.tk sm.eG vy;have jf3:=TL.tk sm.eG;refine⟨_,s3,vx,(wt l[i]).mono (λt q4 us g4 s4=>?_) q2⟩;have TY:UW ix σ fs (sI is us σ2) (cD t):=⟨λj u e o=>by
   rcases (hl t).2 j u e with⟨_,z⟩ | ⟨n,z⟩
   ·rw [z] at o;cases o
   ·obtain⟨j',k1,k2,k3⟩:=Vx.own j u z o;exact⟨j',k1,k2,by rw [sH n];exact k3⟩⟩
  refine⟨t,s4,(tf t).mono (λkk q5 H5 g5 s5=>?_) q4⟩;obtain⟨sO5,afX⟩:=TY.out sO3 g5 s5;have gO5:=gO3.trans afX;have tk5:=g5.eI s4;have nD4:¬dY (sI is us σ2) (cD t) D:=λz=>nD (TY.xG z);have hy5:=g5.wj hy3 nD4;have vy5:=aE.tk tk5 vy3;have jf5:=jf3.tk (g5.eI s4);have Ì:∀{H6:Hp},aU K H6 (sI is us σ2) (cD t)->aU K H6 (sI is us σ2) (bq ix fs)/\UW ix σ fs (sI is us σ2) (bq ix fs):=λ{H6} z=>⟨z.le (hr t),⟨λj u e o=>TY.own j u ((hr t).at j u e) o⟩⟩;cases kk with
  | false=>
   refine yn ⟨l.length-(i+1),by omega,Æ,sO5,gO5,(Ì s5).1,(Ì s5).2,jf5,hy5,vy5,by omega,rfl,iA,?_⟩;exact q5
  | true=>
   refine ym ⟨t,s5,(te t).mono (λv6 q6 u6 H6 g6 s6 v6'=>?_) q5⟩;obtain⟨sO6,afW⟩:=TY.out sO5 g6 s6;have gO6:=gO5.trans afW;have tk6:=g6.eI s5;have ò:=g6.wj hy5 nD4;have vy6:=aE.tk tk6 vy5;have tkD:=rE (K:=K) (.lst (ys++[u6])) ò;have hD0:=g1.there D hD;refine⟨ò,by rw [vy6.length];have:=TL.1;omega,l.length-(i+1),by omega,Æ++[v6],sO6.side nD ò _,gO6.side hD0 _,((Ì s6).1).side (λz=>nD ((Ì s6).2.xG z)) ò _,(Ì s6).2,(jf5.tk (g6.eI s5)).tk (rE _ ò),aM,aE.tk tkD (vy6.append (.cons v6' .nil)),by rw [Ah];simp;omega,rfl,iA,?_⟩;refine (mJ (l.drop (i+1)) f).mono (λr q7 a vs H7 g7 s7 n e v7=>q7 a vs H7 g7 s7 n e ?_) q6;simpa using v7
 ·have e:i=l.length:=by omega
  subst e;rw [Dn] at q2;exact .inl ⟨j2,q2 D ys H2 gO sO (g1.there D hD) hy (by simpa using vy)⟩
end
end
end FL
namespace L2
open PySem PySem.Spec PyProof.Rows
def q9 (l:ce) (items:Array bn) (n:Nat) (b:ce) (bR:Array bn) (n2:Nat) (sl:Array (Option bn)) (hc0:¬(!items.isEmpty&&Builtin.List.listTooLong (items.size+bR.size))=true) (hc1:items.size<=sizeLine) (rR:items.size+bR.size<=sizeLine+1) :
  Meets (v4.«list.extend» ⟨[.ref l,.ref b],[]⟩) (λ_ R s=>s.heap.get? l=ap {cls:=.type "list",dict:=bm,data:=.seq items n,slots:=#[]}/\s.heap.get? b=ap {cls:=.type "list",dict:=bm,data:=.seq bR n2,slots:=sl}/\R (.ok (.ret AR)) {s with heap:=s.heap.update l (Bm λx=>x++bR),toks:=s.toks}):=
 .of_wp λprog w A R s h=>by
  obtain⟨hp,g,d,tk,os⟩:=s;obtain⟨hl,hb,h⟩:=h;have f1:=Ex;have f2:=Dj;have f3:=DB;have f4:=Ds;have f5:=Du;have M4:(items++bR).size<=sizeLine+1:=by rw [Array.size_append];exact rR
  wp_walk using (Cw hl rfl (hz:=hc1) (_hz':=M4)),BV hl,BV hb;exact⟨_,rfl,h⟩
def aau (K:Ab):V->List V->Hp->VK->Prop:=λx vs H Q=>∃l b xs zs,x=.ref l/\vs=[.ref b]/\H l=ap (.lst xs)/\(c9 K H b zs\/dX K H b zs)/\xs.length+zs.length<=sizeLine/\z0 H l (.lst (xs++zs)) (Q .aG)
theorem Te (K:Ab) (hK:X.K=K):LW X "list.extend" (aau K):=by
 subst hK;intro À s σ H x vs v us Q I rx rv h;obtain⟨l,b,xs,zs,rfl,rfl,hH,hB | hB,hz,q⟩:=h
 ·cases rx;obtain⟨u,rfl,ru⟩:=rv.one;cases ru;obtain⟨z,ar,n,r,hl,e⟩:=I.qX hH;obtain⟨cT,r2,⟨⟨cls,dd,data,sl⟩,n2,e2,hc,hd,oJ⟩,z2⟩:=I.list hB;simp only at hc hd oJ;subst hc hd oJ;have RI:=r2.length;have hsz:ar.toArray.size+cT.toArray.size<=sizeLine:=by rw [Ai,Ai];omega
  have tT:¬(!ar.toArray.isEmpty&&Builtin.List.listTooLong (ar.toArray.size+cT.toArray.size))=true:=by
   rw [oe hsz,D7];exact A4
  refine sB DV ⟨_,e,rfl⟩ DG (Dr _ _)
   (q9 l ar.toArray n b cT.toArray n2 sl tT (by rw [Ai];omega) ∅) ⟨e,e2,?_⟩
  refine⟨.aG,_,I.IK (its':=ar++cT) hH e (by simp) (r.append r2) ?_,rfl,q.at⟩;rw [Ah];omega
 ·exact Gm À s σ H _ _ v us Q I rx rv ⟨l,b,xs,zs,rfl,rfl,hH,hB,hz,q⟩
end L2
variable {y z:B3}{wi we:FL.W PL.PV}
namespace FL
section
open PySem PySem.Spec PyProof.Rows L2 PL
variable {K:Ab}
section
variable {T2:Type}{wt:PV->W T2}{cD:T2->bh}{tf:T2->W Bool}{te:T2->W PV}
def XH (hc:X.calm=true) (S:ax X.env.scope X.N sc N' ix) (hi:rB X K fs tg iter wl) (hg:∀cl C s2 H2 fp,GF (fC X sc N' cl C s2 H2 fp) K (bq ix fs) tg is wt cD) (ö:∀cl C s2 H2 fp t,FF (fC X sc N' cl C s2 H2 fp) K (cD t) Ë (tf t)) (he:∀cl C s2 H2 fp t,EF (fC X sc N' cl C s2 H2 fp) K (cD t) Å (te t))
  (hf:∀p,f p=.bind (wt p) λt=>.bind (tf t) λk=>if k=true then .bind (te t) λv=>.ret (ap v) else .ret bm) (hl:rA is (bq ix fs) cD/\∀t,iH (cD t) (bq ix fs)) (vk:∀j∈is,ix[j]?=ap bm) (hs:uN X iter:=by intro _;rfl) :
  LF X K fs (.ListComp Å [⟨tg,iter,Ë,0⟩] sc pos) (.bind wl λl=>mJ l f):=
 ⟨PE.imp (aaD hc S hi.p (λcl C s2 H2 fp=>(hg cl C s2 H2 fp).p) (λcl C s2 H2 fp À s σ H Q I ⟨t,q⟩=>(ö cl C s2 H2 fp t).p À s σ H Q I q) (λcl C s2 H2 fp À s σ H Q I ⟨t,q⟩=>(he cl C s2 H2 fp t).p À s σ H Q I q) hs) (QJ S rfl hf hl.1 hl.2 vk)⟩
def Vn {f:PV->W PV} (hc:X.calm=true) (S:ax X.env.scope X.N sc N' ix) (hi:rB X K fs tg iter wl) (hg:∀cl C s2 H2 fp,GF (fC X sc N' cl C s2 H2 fp) K (bq ix fs) tg is wt cD) (he:∀cl C s2 H2 fp t,EF (fC X sc N' cl C s2 H2 fp) K (cD t) Å (te t))
  (hf:∀p,f p=.bind (wt p) te) (hl:rA is (bq ix fs) cD/\∀t,iH (cD t) (bq ix fs)) (vk:∀j∈is,ix[j]?=ap bm) (hs:uN X iter:=by intro _;rfl) :
  LF X K fs (.ListComp Å [⟨tg,iter,[],0⟩] sc pos) (.bind wl λl=>bC l f):=by
 have:(λl=>bC l f)=λl=>mJ l λp=>.bind (wt p) λt=>.bind (.ret true) λk=>if k=true then .bind (te t) λv=>.ret (ap v) else .ret bm:=funext λl=>by
  rw [xK];congr 1;funext p;rw [hf];rfl
 rw [this];exact XH (tf:=λ_=>.ret true) hc S hi hg (λ_ _ _ _ _ _=>Jw) he (λp=>rfl) hl vk hs
def SF.Oy {rest:List sn}{out:T->End}{k:List PV->W T} (hc:X.calm=true) (hN:X.N.Nodup) (yu:X.N[i]?=ap y) (hx:X.env.scope.names.lookup y=ap .local) (S:ax X.env.scope X.N sc N' ix) (hi:rB X K fs tg iter wl) (hg:∀cl C s2 H2 fp,GF (fC X sc N' cl C s2 H2 fp) K (bq ix fs) tg is wt cD) (ö:∀cl C s2 H2 fp t,FF (fC X sc N' cl C s2 H2 fp) K (cD t) Ë (tf t)) (he:∀cl C s2 H2 fp t,EF (fC X sc N' cl C s2 H2 fp) K (cD t) Å (te t))
  (hf:∀p,f p=.bind (wt p) λt=>.bind (tf t) λk=>if k=true then .bind (te t) λv=>.ret (ap v) else .ret bm) (hl:rA is (bq ix fs) cD/\∀t,iH (cD t) (bq ix fs)) (vk:∀j∈is,ix[j]?=ap bm) (hr:∀l,SF X K x (fs.set i (ap (.ol bm l))) rest (k l) out)
  (oG:im (.ListComp Å [⟨tg,iter,Ë,0⟩] sc pos) (ap (.Name y px)) kH.line X.env=pure true:=by rfl) (hs:uN X iter:=by intro _;rfl) :
  SF X K x fs (.Assign [.Name y px] (.ListComp Å [⟨tg,iter,Ë,0⟩] sc pos) kH::rest) (.bind (.bind wl λl=>mJ l f) k) out:=
 SF.step (F2 hc hN yu hx S hi.p (λcl C s2 H2 fp=>(hg cl C s2 H2 fp).p) (λcl C s2 H2 fp À s σ H Q I ⟨t,q⟩=>(ö cl C s2 H2 fp t).p À s σ H Q I q) (λcl C s2 H2 fp À s σ H Q I ⟨t,q⟩=>(he cl C s2 H2 fp t).p À s σ H Q I q) oG hs) λD σ H ⟨sr,q⟩=>
  QJ (K:=K) S rfl hf hl.1 hl.2 vk σ H _ ⟨sr,(am wl λl=>mJ l f).mono (λl q1 a ws H1 g1 s1 n e v1=>by
   have no:=sr.noOwn n;have s2:=s1.xx (t:=.ol bm l) ⟨by simp,ws,e,v1⟩ no i;exact⟨_,k l,hr l,s2,(k l).mono (λt q2=>q2.go (cQ.xx s1 g1.f no n i) sr s2) q1⟩) q⟩
theorem xR:∀{l:bh}{i:Nat} (s:Option SL),l[i]?=ap bm->iH (l.set i s) l
 | [],_,_,h=>by simp at h
 | x::l,0,s,h=>by
  simp at h;subst h;exact .drop (iH.refl l)
 | x::l,i+1,s,h=>by
  rw [List.set_cons_succ];exact .keep (xR s (by simpa using h))
def iH.trans {a b c:bh} (h1:iH a b) (h2:iH b c):iH a c:=by
 induction h1 generalizing c with
 | nil=>exact h2
 | drop h ih=>cases h2 with | drop h2=>exact .drop (ih h2) | keep h2=>exact .drop (ih h2)
 | keep h ih=>cases h2 with | drop h2=>exact .drop (ih h2) | keep h2=>exact .keep (ih h2)
def tL {l:bh}{is:List Nat} (hl:l.length=nB.length/\∀(j:Nat) (s:SL),l[j]?=ap (ap s)->(j∈is/\s.own=false)\/(j∉is/\nB[j]?=ap (ap s))) (hi:nB[i]?=ap bm) :
  (l.set i (ap (.val v))).length=nB.length/\∀(j:Nat) (s:SL),(l.set i (ap (.val v)))[j]?=ap (ap s)->(j∈is++[i]/\s.own=false)\/(j∉is++[i]/\nB[j]?=ap (ap s)):=by
 refine⟨by rw [BO];exact hl.1,λj s e=>?_⟩;rcases cX e with⟨rfl,rfl⟩ | ⟨n,e⟩
 ·exact .inl ⟨by simp,rfl⟩
 ·rcases hl.2 j s e with⟨h1,h2⟩ | ⟨h1,h2⟩
  ·exact .inl ⟨by simp [h1],h2⟩
  ·exact .inr ⟨by simp [h1,n],h2⟩
def Vl (nB:bh):nB.length=nB.length/\∀(j:Nat) (s:SL),nB[j]?=ap (ap s)->(j∈([]:List Nat)/\s.own=false)\/(j∉([]:List Nat)/\nB[j]?=ap (ap s)):=⟨rfl,λj s e=>.inr ⟨by simp,e⟩⟩
def PJ (hi:nB[i]?=ap bm):rA [i] nB (λp=>nB.set i (ap (.val p)))/\∀t,iH (nB.set i (ap (.val t))) nB:=⟨λt=>tL (is:=[]) (Vl nB) hi,λt=>xR _ hi⟩
def Oz {l:bh}{s:Option SL} (h:l[j]?=ap bm) (n:j≠i):(l.set i s)[j]?=ap bm:=by rw [aO n];exact h
def Tp (hi:nB[i]?=ap bm) (hj:nB[j]?=ap bm) (n:j≠i):rA [i,j] nB (λt:PV×PV=>(nB.set i (ap (.val t.1))).set j (ap (.val t.2)))/\∀t:PV×PV,iH ((nB.set i (ap (.val t.1))).set j (ap (.val t.2))) nB:=
 ⟨λt=>tL (is:=[i]) (tL (is:=[]) (Vl nB) hi) hj,λt=>(xR _ (Oz hj n)).trans (xR _ hi)⟩
end
section
variable {rest:List sn}{T:Type}{out:T->End}
def dF (sr:aU K H σ fs) (hs:fs[i]?=ap (ap (.ol q0 l))):∃a ws,σ[i]?=ap (ap (.ref a))/\H a=ap (.lst ws)/\aE K [] H ws l:=by
 obtain⟨u,e1,r⟩:=sr.at' i _ hs;rcases r with⟨v,e,_⟩ | ⟨a,e,z,ws,q1,q2⟩
 ·cases e
 ·subst e;exact⟨a,ws,e1,q1,q2⟩
def nY {sj:List V}{l':List PV} (sr:aU K H σ fs) (hs:fs[i]?=ap (ap (.ol q0 l))) (e1:σ[i]?=ap (ap (.ref a))) (sx:ph a H H') (h':H' a=ap (.lst sj)) (r:aE K [] H sj l'):aU K H' σ (fs.set i (ap (.ol q0 l')))/\cQ σ fs H σ (fs.set i (ap (.ol q0 l'))) H':=
 ff (t':=.ol q0 l') sr hs rfl (by simp) e1 sx λtk=>⟨(sr.ownAt hs rfl e1).1,sj,h',aE.tk tk r⟩
def fY (l:List PV) (v:PV):W (List PV):=.fB (l.length < sizeLine) (.ret (l++[v]))
theorem SF.append (i:Nat) {k:List PV->W T} (hs:fs[i]?=ap (ap (.ol q0 l))) (hK:X.K=K) (hN:X.N[i]?=ap y) (hv:Hv X.env.scope y) (he:EF X K fs e we) (hr:∀l',SF X K x (fs.set i (ap (.ol q0 l'))) rest (k l') out)
  (hd:jr y:=by decide) (jM:HN y:=by decide) (eZ:nw (.Name y p) "append" X.env (kw (.Name y p) X.env)=kw (.Name y p) X.env:=by rfl)
  (ql:Y0 X bK [e]:=by rfl)
  (eY:RP Ä bK:=by rfl) (rQ:ic X e []:=by rfl) (fm:mj X bK []:=by rfl)
  (oG:im (.Call (.Attribute (.Name y p) "append" Ä) [e] [] bK) bm pos.line X.env=pure false:=by rfl) :
  SF X K x fs (.Expr (.Call (.Attribute (.Name y p) "append" Ä) [e] [] bK) pos::rest) (.bind we λv=>.bind (fY l v) k) out:=
 SF.step (rG (sT K hK B2 PySem.F.slot_list_append PySem.F.type_list_append IE (eL hN hv hd jM) (aZ he.p ck rQ) eZ ql eY rQ fm) oG) λD σ H ⟨sr,q⟩=>by
  obtain⟨a,ws,e1,h1,r1⟩:=dF sr hs;refine⟨_,e1,.inl ⟨rfl,_,c9.of h1⟩,sr,we.mono (λv q1 u H1 g1 s1 v1=>?_) q⟩;obtain⟨a',sj,rm,gZ,uZ⟩:=dF s1 hs;rw [e1] at rm;cases rm;refine⟨a,sj,u,rfl,rfl,gZ,by rw [uZ.length];exact q1.1,λH2 sx h2=>?_⟩;obtain⟨s2,g2⟩:=nY s1 hs e1 sx h2 (uZ.append (.one v1));exact⟨_,k _,hr _,s2,(k _).mono (λt q2=>q2.go (g1.f.trans g2) sr s2) q1.2⟩
def Yp (l m:List PV):W (List PV):=.fB (l.length+m.length<=sizeLine) (.ret (l++m))
theorem SF.extend (i:Nat) {k:List PV->W T} (hs:fs[i]?=ap (ap (.ol q0 l))) (hK:X.K=K) (hN:X.N[i]?=ap y) (hv:Hv X.env.scope y) (he:QF X K fs e wl) (hr:∀l',SF X K x (fs.set i (ap (.ol q0 l'))) rest (k l') out)
  (hd:jr y:=by decide) (jM:HN y:=by decide) (eZ:nw (.Name y p) "extend" X.env (kw (.Name y p) X.env)=kw (.Name y p) X.env:=by rfl)
  (ql:Y0 X bK [e]:=by rfl)
  (eY:RP Ä bK:=by rfl) (rQ:ic X e []:=by rfl) (fm:mj X bK []:=by rfl)
  (oG:im (.Call (.Attribute (.Name y p) "extend" Ä) [e] [] bK) bm pos.line X.env=pure false:=by rfl) :
  SF X K x fs (.Expr (.Call (.Attribute (.Name y p) "extend" Ä) [e] [] bK) pos::rest) (.bind wl λm=>.bind (Yp l m) k) out:=
 SF.step (rG (sT K hK B2 PySem.F.slot_list_extend PySem.F.type_list_extend (Te K hK) (eL hN hv hd jM) (aZ he.p ck rQ) eZ ql eY rQ fm) oG) λD σ H ⟨sr,q⟩=>by
  obtain⟨a,ws,e1,h1,r1⟩:=dF sr hs;refine⟨_,e1,.inl ⟨rfl,_,c9.of h1⟩,sr,wl.mono (λm q1 u H1 g1 s1 v1=>?_) q⟩;obtain⟨a',sj,rm,gZ,uZ⟩:=dF s1 hs;rw [e1] at rm;cases rm;obtain⟨b,zs,rfl,hb,rb⟩:=v1.sq s1;refine⟨a,b,sj,zs,rfl,rfl,gZ,hb,by rw [uZ.length,rb.length];exact q1.1,λH2 sx h2=>?_⟩;obtain⟨s2,g2⟩:=nY s1 hs e1 sx h2 (uZ.append rb);exact⟨_,k _,hr _,s2,(k _).mono (λt q2=>q2.go (g1.f.trans g2) sr s2) q1.2⟩
def F5 (l:List PV):W (List PV×PV):=match l.getLast? with
 | some v=>.ret (l.dropLast,v)
 | none=>.fail
def Ow {l:List PV} (h:l.getLast?=ap v):l=l.dropLast++[v]:=by
 rw [List.getLast?_eq_some_iff] at h;obtain⟨ys,rfl⟩:=h;simp
theorem aE.snoc:∀{ws:List V}{l:List PV}{v:PV},aE K [] H ws (l++[v])->∃Y2 u,ws=Y2++[u]/\aE K [] H Y2 l/\VR K [] H u v
 | _,[],_,.cons r .nil=>⟨[],_,rfl,.nil,r⟩
 | _,x::l,v,.cons r t=>by
  obtain⟨Y2,u,rfl,h1,h2⟩:=aE.snoc t;exact⟨_::Y2,u,rfl,.cons r h1,h2⟩
def SF.Io (i j:Nat) {k:List PV×PV->W T} (hs:fs[i]?=ap (ap (.ol q0 l))) (õ:j≠i) (hK:X.K=K) (hN:X.N[i]?=ap y) (hv:Hv X.env.scope y) (Ľ:X.N.Nodup) (hj:X.N[j]?=ap z) (hx:Loc X.env.scope z) (hr:∀t:List PV×PV,SF X K x ((fs.set i (ap (.ol q0 t.1))).set j (ap (.val t.2))) rest (k t) out)
  (hd:jr y:=by decide) (jM:HN y:=by decide) (eZ:nw (.Name y p) "pop" X.env (kw (.Name y p) X.env)=kw (.Name y p) X.env:=by rfl) (eY:RP Ä bK:=by rfl)
  (oG:im (.Call (.Attribute (.Name y p) "pop" Ä) [] [] bK) (ap (.Name z p')) pos.line X.env=pure false:=by rfl) (hf:NX X z:=by first | exact .inl rfl | exact .inr rfl | assumption) :
  SF X K x fs (.Assign [.Name z p'] (.Call (.Attribute (.Name y p) "pop" Ä) [] [] bK) pos::rest) (.bind (F5 l) k) out:=
 SF.step (sR Ľ hj hx (SO K hK B2 EW EU Tc (eL hN hv hd jM) eZ eY) oG hf) λD σ H ⟨sr,q⟩=>by
  obtain⟨a,ws,e1,h1,r1⟩:=dF sr hs;have q:(F5 l).run λt=>(k t).run λt=>bL K x σ fs H D (out t):=q;unfold F5 at q;cases hl:l.getLast? with
  | none=>rw [hl] at q;exact q.elim
  | some v=>
   rw [hl] at q;have el:=Ow hl;rw [el] at r1;obtain⟨Y2,u,rfl,r0,ru⟩:=aE.snoc r1;refine⟨_,e1,.inl ⟨rfl,_,c9.of h1⟩,a,Y2,u,rfl,rfl,h1,λH2 sx h2=>?_⟩;obtain⟨s2,g2⟩:=nY sr hs e1 sx h2 r0;have ru2:VR K [] H2 u v:=g2.vr sr ru;have s3:=s2.fJ ru2 j;exact⟨_,k _,hr (l.dropLast,v),s3,(k _).mono (λt q2=>q2.go (g2.trans (cQ.fJ s2 _ _ j)) sr s3) q⟩
def kI (l:List PV) (i v:PV):W (List PV):=match i with
 | .int k=>match wq l.length k with
  | some j=>.ret (l.set j v)
  | none=>.fail
 | _=>.fail
def SF.Ig (i:Nat) {ei:ii}{k:List PV->W T} (hs:fs[i]?=ap (ap (.ol q0 l))) (hN:X.N[i]?=ap y) (hv:Hv X.env.scope y) (he:EF X K fs e we) (hi:EF X K fs ei wi) (hr:∀l',SF X K x (fs.set i (ap (.ol q0 l'))) rest (k l') out)
  (ha:∀v,EQ (.Subscript (.Name y p) ei xg) X.env v=(do
   let ov <- BT [v] (kw (.Name y p) X.env)
   let iv <- BT [v,ov] (kw ei X.env)
   standAt xg
   BT [v,ov,iv] (setItem ov iv v)
   release [v,ov,iv] []):=by intro _;rfl)
  (hd:jr y:=by decide) (jM:HN y:=by decide) (hss:Db [.Subscript (.Name y p) ei xg] e pos.line X.env=pure false:=by rfl) (hw:Ev [.Subscript (.Name y p) ei xg] e X.env=pure bm:=by rfl)
  (h1:(wS [.Subscript (.Name y p) ei xg] X.env).map (·.2)=[EQ (.Subscript (.Name y p) ei xg) X.env]:=by rfl) :
  SF X K x fs (.Assign [.Subscript (.Name y p) ei xg] e pos::rest) (.bind we λv=>.bind wi λn=>.bind (kI l n v) k) out:=
 SF.step (O3 he.p (W2 (eL hN hv hd jM) hi.p Mf ha) hss hw h1) λD σ H ⟨sr,q⟩=>by
  refine⟨sr,we.mono (λv q1 u H1 g1 s1 v1=>?_) q⟩;obtain⟨a,ws,e1,h1,r1⟩:=dF s1 hs;refine⟨_,e1,s1,wi.mono (λn q2 u2 H2 g2 s2 v2=>?_) q1⟩;obtain⟨a',sj,rm,gZ,uZ⟩:=dF s2 hs;rw [e1] at rm;cases rm;cases v2 with
  | int kk=>
   have q2:(match wq l.length kk with | some j=>bd (l.set j v) | none=>W.fail).run _:=q2;cases hj:wq l.length kk with
   | none=>rw [hj] at q2;exact q2.elim
   | some j=>
    rw [hj] at q2;refine⟨a,sj,kk,j,rfl,rfl,gZ,by rw [uZ.length];exact hj,λH3 sx h3=>?_⟩;obtain⟨s3,g3⟩:=nY s2 hs e1 sx h3 (uZ.set (g2.vr s1 v1) j);exact⟨_,k _,hr _,s3,(k _).mono (λt q3=>q3.go ((g1.trans g2).f.trans g3) sr s3) q2⟩
  | _=>exact q2.elim
end
end
end FL
variable {x:B3}
namespace FL
section
open PySem PySem.Spec PyProof.Rows L2 PL
variable {K:Ab}
def ip:List AK->List PV->bh
 | [],_=>[]
 | .v::ks,x::l=>ap (.val x)::ip ks l
 | .v::_,[]=>[]
 | .p φ::ks,l=>ap (.mn φ)::ip ks l
 | .f a::ks,l=>ap (.adr a)::ip ks l
def ik (ks:List AK) (l:List PV) (n:Nat):bh:=ip ks l++Am (n-ks.length) bm
def jo (ks:List AK):Prop:=∀i j:Nat,(∃φ,ks[i]?=ap (.p φ))->(∃φ,ks[j]?=ap (.p φ))->i=j
theorem lL:∀{n:Nat}{m:UZ R n}{l:List PV}{Q:R->Prop},(cq n m l).run Q->l.length=n
 | 0,_,[],_,_=>rfl
 | 0,_,_::_,_,h=>h.elim
 | n+1,_,[],_,h=>h.elim
 | n+1,m,x::l,Q,h=>by rw [Aq,lL (n:=n) (m:=m x) h]
section
theorem iY.len (h:iY K H vs ks l):vs.length=ks.length:=by induction h <;> simp_all
def iY.slot (h:iY K H vs ks l):(ip ks l).length=vs.length/\∀(i:Nat) (s:SL),(ip ks l)[i]?=ap (ap s)->∃u,vs[i]?=ap u/\w9 K H u s/\(s.own=true->∃φ,s=.mn φ/\ks[i]?=ap (.p φ)):=by
 induction h with
 | nil=>exact⟨rfl,λi s e=>by simp [ip] at e⟩
 | @v u x vs ks l r t ih=>
  refine⟨by simp [ip,ih.1],λi s e=>?_⟩;cases i with
  | zero=>simp [ip] at e;subst e;exact⟨u,rfl,.inl ⟨x,rfl,r⟩,λz=>by cases z⟩
  | succ i=>simp [ip] at e;obtain⟨w,h1,h2,h3⟩:=ih.2 i s e;exact⟨w,by simpa using h1,h2,by simpa using h3⟩
 | @p a φ ws vs ks l e0 r t ih=>
  refine⟨by simp [ip,ih.1],λi s e=>?_⟩;cases i with
  | zero=>simp [ip] at e;subst e;exact⟨_,rfl,.inr ⟨a,rfl,ws,e0,r⟩,λ_=>⟨φ,rfl,rfl⟩⟩
  | succ i=>simp [ip] at e;obtain⟨w,h1,h2,h3⟩:=ih.2 i s e;exact⟨w,by simpa using h1,h2,by simpa using h3⟩
 | @f a vs ks l t ih=>
  refine⟨by simp [ip,ih.1],λi s e=>?_⟩;cases i with
  | zero=>simp [ip] at e;subst e;exact⟨_,rfl,.inr ⟨a,rfl,rfl⟩,λz=>by cases z⟩
  | succ i=>simp [ip] at e;obtain⟨w,h1,h2,h3⟩:=ih.2 i s e;exact⟨w,by simpa using h1,h2,by simpa using h3⟩
def iY.WZ (h:iY K H vs ks l) (e:ks[i]?=ap (.p φ)):(ip ks l)[i]?=ap (ap (.mn φ)):=by
 induction h generalizing i with
 | nil=>simp at e
 | v r t ih=>cases i with | zero=>simp at e | succ i=>simp [ip];exact ih (by simpa using e)
 | p e0 r t ih=>cases i with | zero=>simp at e;subst e;rfl | succ i=>simp [ip];exact ih (by simpa using e)
 | f t ih=>cases i with | zero=>simp at e | succ i=>simp [ip];exact ih (by simpa using e)
theorem o8 {s:SL} (h:(ik ks l n)[i]?=ap (ap s)):(ip ks l)[i]?=ap (ap s):=by
 unfold ik at h;by_cases c:i < (ip ks l).length
 ·rw [AQ c] at h;exact h
 ·rw [A1 ∅,Bq] at h
  split at h <;> cases h
def lO {N:List Str} (h:vs[i]?=ap u):(L2.start N vs)[i]?=ap (ap u):=by
 unfold L2.start;rw [AQ (by rw [Af];exact (Ak.mp h).1),Aj,h];rfl
def vO {N:List Str} (h:(L2.start N vs)[i]?=ap (ap u)):vs[i]?=ap u:=by
 unfold L2.start at h;by_cases c:i < vs.length
 ·rw [AQ (by simpa using c),Aj] at h;cases z:vs[i]? with
  | none=>rw [z] at h;cases h
  | some q=>rw [z] at h;cases h;rfl
 ·rw [A1 (by simpa using c),Bq] at h
  split at h <;> cases h
def iY.beg (h:iY K H vs ks l) (one:jo ks) (N:List Str):aU K H (L2.start N vs) (ik ks l N.length):=by
 obtain⟨hl,hs⟩:=h.slot;refine⟨?_,λi s e=>?_,λi j s t x y a e1 e2 o1 o2 q1 q2 z1 z2=>?_⟩
 ·unfold L2.start ik;rw [Ah,Ah,Af,hl,Bo,Bo,h.len]
 ·obtain⟨u,h1,h2,_⟩:=hs i s (o8 e);exact⟨u,lO h1,h2⟩
 ·obtain⟨_,_,_,h3⟩:=hs i s (o8 e1);obtain⟨_,_,_,h4⟩:=hs j t (o8 e2);obtain⟨φ,_,k1⟩:=h3 o1;obtain⟨ψ,_,k2⟩:=h4 o2;exact one i j ⟨φ,k1⟩ ⟨ψ,k2⟩
def iY.go (h:iY K H vs ks l) {N:List Str} (g:cQ (L2.start N vs) (ik ks l N.length) H σ' bB H') (s':aU K H' σ' bB):GoC vs ks H H':=by
 obtain⟨hl,hs⟩:=h.slot;refine⟨λa o e n=>(g.keep a o e λz=>?_).1,g.there,λa φ p=>?_⟩
 ·obtain⟨i,s,x,e1,e2,e3,e4⟩:=z;obtain⟨u,h1,h2,h3⟩:=hs i s (o8 e1);obtain⟨φ,rfl,k⟩:=h3 e2;rcases e4 with rfl | e4
  ·exact n φ ⟨i,k,vO e3⟩
  ·cases e4
 ·obtain⟨i,e1,e2⟩:=p;have e3:=h.WZ e1;have hi:=(Ak.mp e3).1;have e4:(ik ks l N.length)[i]?=ap (ap (.mn φ)):=by unfold ik;rw [AQ hi];exact e3
  rcases g.pk a φ ⟨i,e4,lO e2⟩ with⟨j,k1,k2⟩ | ⟨_,k⟩
  ·exact s'.ownAt k1 rfl k2
  ·exact k
end
section
variable {st:sn}{f:ce}{N:List Str}
def fnV {m:UZ PV n} (Fn:RO K x qual st f fd) (S:ao N ps (ag st)) (oH:ks.length=ps.length) (one:jo ks)
  (Ã:∀l:List PV,l.length=n->∀(cg:bn) (A:nn) (outer:List Env) (s:cr) (H:Hp) (E:XK),cO k (A.deeper (re qual (ag st) s.heap.objs.size f cg))->SF (ig mT P w K mg base N qual (ag st) f cg A outer s H E).vT K false (ik ks l N.length) (a6 st) (cq n m l) .rt) :
  jq P w K mg base mT (k+1) f fd ps (f6 K ks (cq n m)):=by
 refine Fn.ok S (λvs H Q E h=>?_) (λcg A outer s H vs Q E hr h=>?_)
 ·obtain⟨l,h,_⟩:=h;rw [h.len];exact oH
 obtain⟨l,h,q⟩:=h;refine⟨_,(Ã l (lL q) cg A outer s H E hr).p,h.beg one N,(cq n m l).mono (λv q1 u σ' bB H' g s' r=>q1 u H' (h.go g s') r) q⟩
def fnL {m:UZ (List PV) n} (Fn:RO K x qual st f fd) (S:ao N ps (ag st)) (oH:ks.length=ps.length) (one:jo ks)
  (Ã:∀l:List PV,l.length=n->∀(cg:bn) (A:nn) (outer:List Env) (s:cr) (H:Hp) (E:XK),cO k (A.deeper (re qual (ag st) s.heap.objs.size f cg))->SF (ig mT P w K mg base N qual (ag st) f cg A outer s H E).vT K false (ik ks l N.length) (a6 st) (cq n m l) .rl) :
  jq P w K mg base mT (k+1) f fd ps (fD K ks (cq n m)):=by
 refine Fn.ok S (λvs H Q E h=>?_) (λcg A outer s H vs Q E hr h=>?_)
 ·obtain⟨l,h,_⟩:=h;rw [h.len];exact oH
 obtain⟨l,h,q⟩:=h;have sr:=h.beg one N;refine⟨_,(Ã l (lL q) cg A outer s H E hr).p,sr,(cq n m l).mono (λz q1 a ws σ' bB H' g s' fr e r=>q1 a ws H' (h.go g s') ?_ e r) q⟩;rcases fr with fr | ⟨i,t,x,e1,e2,np,e3,e4⟩
 ·exact fr
 ·obtain⟨_,_,_,h3⟩:=h.slot.2 i t (o8 e1);obtain⟨φ,e,_⟩:=h3 e2;exact absurd e (np φ)
end
def cY:jo []:=λi j ⟨_,h⟩=>by simp at h
def iw (h:jo ks):jo (.v::ks):=λi j ⟨φ,a⟩ ⟨ψ,b⟩=>by
 cases i with
 | zero=>simp at a
 | succ i=>
  cases j with
  | zero=>simp at b
  | succ j=>rw [h i j ⟨φ,by simpa using a⟩ ⟨ψ,by simpa using b⟩]
def au:jo (.p φ::Am n .v):=λi j ⟨χ,a⟩ ⟨ψ,b⟩=>by
 have z:∀{i:Nat}{χ:List V->Prop},(AK.p φ::Am n .v)[i]?=ap (.p χ)->i=0:=λ{i χ} a=>by
  cases i with
  | zero=>rfl
  | succ i=>
   have a:(Am n AK.v)[i]?=ap (.p χ):=by simpa using a
   rw [Bq] at a
   split at a <;> simp at a
 rw [z a,z b]
end
end FL
namespace L2
open PySem PySem.Spec PyProof.Rows
def aaw (K:Ab):R2:=λx y H Q=>∃a b xs zs,x=.ref a/\y=.ref b/\c9 K H a xs/\c9 K H b zs/\xs.length+zs.length<=sizeLine/\kW H (.lst (xs++zs)) Q
theorem S1 (K:Ab) (hK:X.K=K):iW X (r9 .Add) (aaw K):=by
 subst hK;intro À s σ H x y v u Q I rx ry h;obtain⟨l,b,xs,zs,rfl,rfl,hH,hB,hz,q⟩:=h;cases rx;cases ry;obtain⟨ar,r,⟨⟨cls,dd,data,sl⟩,n,ho,hc,hd,oJ⟩,_⟩:=I.list hH;obtain⟨cT,r2,⟨⟨YI,Ux,data2,RD⟩,n2,M6,Qn,Ó,VE⟩,_⟩:=I.list hB;simp only at hc hd oJ Qn Ó VE;subst hc hd oJ Qn Ó VE;have e:ar.toArray++cT.toArray=(ar++cT).toArray:=by simp
 have hl:=r.length;have RI:=r2.length;refine concat_meets ⟨_,ho,rfl⟩ ⟨_,M6,rfl⟩ noFill_list_add seq_list_add PySem.F.slot_list_add PySem.F.entry_list_add (PySem.F.args_list_add_2 _ _) (list_addW l b ar.toArray cT.toArray n n2 bm bm sl RD (by simp;omega)) ⟨ho,M6,?_⟩;rw [e];exact⟨.ref _,_,I.XB (t':=s.toks) (r.append r2) (by rw [Ah];omega),rfl,q.at _ I.fresh⟩
end L2
variable {hi:FL.W (Option Int)}{neg:Bool}
namespace FL
section
open PySem PySem.Spec PyProof.Rows L2 PL
variable {K:Ab}
section
variable {a c:ii}{w:W PV}
def nt (l m:List PV):W (List PV):=.fB (l.length+m.length<=sizeLine) (.ret (l++m))
def fQL (K:Ab) (fs:bh) (w:W (List PV)):TE:=λσ H Q=>aU K H σ fs/\w.run λl=>∀u H',cV σ fs H H'->aU K H' σ fs->UP K σ fs H' u l->(∀Ğ,cV σ fs H' Ğ->aU K Ğ σ fs->∃a vs,u=.ref a/\c9 K Ğ a vs/\aE K [] Ğ vs l)->Q u H'
structure HM (X:Cx) (K:Ab) (fs:bh) (e:ii) (w:W (List PV)):Prop where p:PE X e (fQL K fs w)
def cH (h:LF X K fs e wl):HM X K fs e wl:=⟨PE.imp h.p λσ H Q ⟨sr,q⟩=>⟨sr,wl.mono (λl q1 a vs H1 g1 s1 n e v=>q1 _ H1 g1 s1 (.inr ⟨a,rfl,.inl ⟨sr.noOwn n,vs,e,v⟩⟩) λH2 g2 s2=>⟨a,vs,rfl,c9.of (g2.wj e (sr.noOwn n)),g2.N6 s1 v⟩) q⟩⟩
def OX (i:Nat) (hs:fs[i]?=ap (ap (.ol q0 l)):=by rfl) (hN:X.N[i]?=ap x:=by rfl) (hv:Hv X.env.scope x:=by first | exact C2 rfl | exact CC (C2 rfl) | exact CC (CC rfl)) (hd:jr x:=by decide) (jM:HN x:=by decide):HM X K fs (.Name x pos) (.ret l):=
 ⟨PE.imp (eL hN hv hd jM) λσ H Q ⟨sr,q⟩=>by
  obtain⟨a,ws,e1,h1,r1⟩:=dF sr hs;refine⟨_,e1,q _ H .refl sr (.inr ⟨a,rfl,.inr ⟨i,q0,hs,e1⟩⟩) λH2 g2 s2=>?_⟩;obtain⟨a',sj,rm,gZ,uZ⟩:=dF s2 hs;rw [e1] at rm;cases rm;exact⟨a,sj,rfl,c9.of gZ,uZ⟩⟩
def tB:PV->W (List PV)
 | .cl l=>.ret l
 | _=>.fail
def jC (h:EF X K fs e w):HM X K fs e (.bind w tB):=⟨PE.imp h.p λσ H Q ⟨sr,q⟩=>⟨sr,w.mono (λx q1 u1 H1 g1 s1 v1=>by
 cases v1 with
 | cl e r=>exact q1 _ H1 g1 s1 (.inl ⟨_,_,rfl,.inl e,r⟩) λH2 g2 s2=>⟨_,_,rfl,((g2.eI s1).f _ _ e).sq,g2.N6 s1 r⟩
 | _=>exact q1.elim) q⟩⟩
def mK (hK:X.K=K) (ha:HM X K fs a wl) (hb:HM X K fs b wm):LF X K fs (.BinOp a .Add b pos) (.bind wl λl=>.bind wm λm=>nt l m):=⟨PE.imp (KS (S1 K hK) ha.p hb.p) λσ H Q ⟨sr,q⟩=>⟨sr,wl.mono (λl q1 u1 H1 g1 s1 _ v1=>⟨s1,wm.mono (λm q2 u2 H2 g2 s2 _ v2=>by
 obtain⟨a,vs,rfl,h1,r1⟩:=v1 H2 g2 s2;obtain⟨b,ws,rfl,h2,r2⟩:=v2 H2 .refl s2;refine⟨a,b,vs,ws,rfl,rfl,h1,h2,by rw [r1.length,r2.length];exact q2.1,λp H3 s3 h3 n3=>?_⟩;have gg:=g1.trans g2;exact q2.2 p _ H3 (gg.trans (cV.same s3)) (s2.same s3) (gg.there p n3) h3 (aE.tk s3.eG (r1.append r2))) q1⟩) q⟩⟩
def K7 {Q:VK} (g1:cV σ fs H H1) (s1:aU K H1 σ fs) (r:aE K [] H1 vs l) (q:∀a vs H',cV σ fs H H'->aU K H' σ fs->H a=bm->H' a=ap (.lst vs)->aE K [] H' vs l->Q (.ref a) H'):kW H1 (.lst vs) Q:=λp H2 s2 h2 n2=>q p vs H2 (g1.trans (cV.same s2)) (s1.same s2) (g1.there p n2) h2 (aE.tk s2.eG r)
def Px (K:Ab):CL K (OT K) .ret:=λ{fs σ H Q u l} s v q=>by
 obtain⟨a,vs,rfl,h,rs⟩:=v.sq s;exact⟨a,vs,rfl,h,K7 .refl s rs q⟩
def XG (hK:X.K=K) (hg:Gl X "list") (hm:X.mg "list"=bm) (ha:QF X K fs e wl) (he:ic X e []:=by rfl) (dI:mj X pos []:=by rfl):LF X K fs (.Call (.Name "list" p) [e] [] pos) wl:=PN (m:=.ret) (JW K hK) (Px K) hg hm boot_list ha ⋯ ⋯ he dI
def dB (hK:X.K=K) (hg:Gl X "tuple") (hm:X.mg "tuple"=bm) (ha:QF X K fs e wl) (he:ic X e []:=by rfl) (dI:mj X pos []:=by rfl):EF X K fs (.Call (.Name "tuple" p) [e] [] pos) (.bind wl mm):=Nm (Nw K hK) (R1 K) hg hm boot_tuple ha ⋯ ⋯ he dI
def uq (hK:X.K=K) (hg:Gl X "len") (hm:X.mg "len"=bm) (ha:QF X K fs e wl) (he:ic X e []:=by rfl) (dI:mj X pos []:=by rfl):EF X K fs (.Call (.Name "len" p) [e] [] pos) (.bind wl Gz):=Q4 (wN K hK) (Tn K) hg hm boot_len ha ⋯ ⋯ he dI
def Rr (ha:EF X K fs e w) (he:f8 [e] X.env=(false,kw e X.env)::f8 [] X.env):AF X K fs [e] (Am 1 .v) (R:=R) (λk=>.bind w λx=>k [x]):=ae ha aj he
def cF (hK:X.K=K) (hg:Gl X "len") (hm:X.mg "len"=bm) (ha:EF X K fs e w) (he:ic X e []:=by rfl) (dI:mj X pos []:=by rfl):EF X K fs (.Call (.Name "len" p) [e] [] pos) (.bind w λx=>n8 cJ [x]):=rX (n:=1) (wN K hK) (UD K) hg hm boot_len (Rr ha he) ⋯ ⋯ he dI
def VU (hg:Gl X "abs") (hm:X.mg "abs"=bm) (ha:EF X K fs e w) (he:ic X e []:=by rfl) (dI:mj X pos []:=by rfl):EF X K fs (.Call (.Name "abs" p) [e] [] pos) (.bind w λx=>n8 Ho [x]):=rX (n:=1) Rg UG hg hm boot_abs (Rr ha he) ⋯ ⋯ he dI
def Um (hg:Gl X "int") (hm:X.mg "int"=bm) (ha:EF X K fs e w) (he:ic X e []:=by rfl) (dI:mj X pos []:=by rfl):EF X K fs (.Call (.Name "int" p) [e] [] pos) (.bind w λx=>n8 J1 [x]):=Q3 (n:=1) NC UE hg hm boot_int (Rr ha he) ⋯ ⋯ he dI
def ace (hc:X.calm=true) (hg:Gl X "max") (hm:X.mg "max"=bm) (ha:EF X K fs a wa) (hb:EF X K fs b wb) (he:f8 [a,b] X.env=(false,kw a X.env)::f8 [b] X.env:=by rfl) (Yd:ic X b []:=by rfl) (dI:(wf pos (f8 [b] X.env)).any (·.1)=false:=by rfl):EF X K fs (.Call (.Name "max" p) [a,b] [] pos) (.bind wa λx=>.bind wb λy=>n8 NH [x,y]):=rX (n:=2) (Ny hc) UC hg hm boot_max (ae ha (ae hb aj Yd) he) ⋯ ⋯ he dI
def acd (hc:X.calm=true) (hg:Gl X "min") (hm:X.mg "min"=bm) (ha:EF X K fs a wa) (hb:EF X K fs b wb) (he:f8 [a,b] X.env=(false,kw a X.env)::f8 [b] X.env:=by rfl) (Yd:ic X b []:=by rfl) (dI:(wf pos (f8 [b] X.env)).any (·.1)=false:=by rfl):EF X K fs (.Call (.Name "min" p) [a,b] [] pos) (.bind wa λx=>.bind wb λy=>n8 NG [x,y]):=rX (n:=2) (Nx hc) UB hg hm boot_min (ae ha (ae hb aj Yd) he) ⋯ ⋯ he dI
def aa2 (hK:X.K=K) (hc:X.calm=true) (ĸ:Gl X "list") (Ĕ:X.mg "list"=bm) (ķ:Gl X "reversed") (Zd:X.mg "reversed"=bm) (he:HM X K fs e wl)
  (HI:f8 [.Call (.Name "reversed" p3) [e] [] p4] X.env=(false,kw (.Call (.Name "reversed" p3) [e] [] p4) X.env)::f8 [] X.env:=by rfl) (rR:ic X e []:=by rfl) :
  LF X K fs (.Call (.Name "list" p1) [.Call (.Name "reversed" p3) [e] [] p4] [] p2) (.bind wl λl=>.ret l.reverse):=⟨PE.imp (Iq K hK hc ĸ Ĕ ķ Zd he.p HI rR) λσ H Q ⟨sr,q⟩=>⟨sr,wl.mono (λl q1 u1 H1 g1 s1 _ v1=>by
 obtain⟨a,vs,rfl,h1,r1⟩:=v1 H1 .refl s1;exact⟨a,vs,rfl,h1,K7 g1 s1 r1.reverse q1⟩) q⟩⟩
def bsW:List PV->W (List Bool)
 | []=>.ret []
 | .bl b::r=>.bind (bsW r) λl=>.ret (b::l)
 | _=>.fail
theorem LN:∀{l:List PV}{Q:List Bool->Prop},(bsW l).run Q->∃bs:List Bool,l=bs.map PV.bl/\Q bs
 | [],Q,h=>⟨[],rfl,h⟩
 | .bl b::r,Q,h=>by
  obtain⟨bs,e,q⟩:=LN (l:=r) h;exact⟨b::bs,by rw [e];rfl,q⟩
 | .aG::r,Q,h=>h.elim
 | .int _::r,Q,h=>h.elim
 | .str _::r,Q,h=>h.elim
 | .tup _::r,Q,h=>h.elim
 | .ref _::r,Q,h=>h.elim
 | .ty _::r,Q,h=>h.elim
 | .cl _::r,Q,h=>h.elim
@[simp] theorem LO:∀bs:List Bool,bsW (bs.map PV.bl)=.ret bs
 | []=>rfl
 | b::bs=>by
  show am (bsW (bs.map PV.bl)) _=_;rw [LO bs];rfl
def J3 (l:List PV):W PV:=.bind (bsW l) λbs=>.ret (.bl (bs.all id))
def VT (hK:X.K=K) (hc:X.calm=true) (hg:Gl X "all") (hm:X.mg "all"=bm) (ha:HM X K fs e wl) (he:ic X e []:=by rfl) (dI:mj X pos []:=by rfl):EF X K fs (.Call (.Name "all" p) [e] [] pos) (.bind wl J3):=⟨PE.imp (eM (ND K hK hc) hg hm boot_all (aZ ha.p ck he) ⋯ ⋯ he dI) λσ H Q ⟨sr,q⟩=>⟨sr,wl.mono (λl q1 u1 H1 g1 s1 _ v1=>by
 obtain⟨bs,e,q2⟩:=LN (l:=l) q1;obtain⟨a,vs,rfl,h1,r1⟩:=v1 H1 .refl s1;rw [e] at r1;have:=wQ r1;subst this;exact⟨a,bs,rfl,h1,q2 _ H1 g1 s1 (.bl _)⟩) q⟩⟩
def gz (k:Kd) (x:PV):W PV:=match x with
 | .ref _=>.fail
 | .ty _=>.fail
 | x=>.ret (.bl (k.is x))
def Vd (K:Ab):List V->Hp->VK->Prop:=λxs H Q=>∃x c t b,xs=[x,.ty c]/\(mw K H x t\/(t=.type "tuple"/\∃a vs,x=.ref a/\dX K H a vs)\/(t=.type "list"/\∃a vs,x=.ref a/\c9 K H a vs)\/(t=.type "dict"/\∃a,x=.ref a/\IsD H a))/\Br K t (.type c)=ap b/\Q (.bl b) H
def NA (hK:X.K=K):bM X (.builtin "isinstance") (Vd K):=by
 subst hK;intro À s σ H xs us Q I r h;obtain⟨x,c,t,b,rfl,ty | ty | ⟨rfl,a,vs,rfl,hL⟩ | ⟨rfl,a,rfl,hD⟩,e,q⟩:=h
 ·exact qR À s σ H _ us Q I r ⟨x,c,t,b,rfl,ty,e,q⟩
 ·exact Nz X.K rfl À s σ H _ us Q I r ⟨x,c,t,b,rfl,.inr ty,e,q⟩
 ·obtain⟨u,w,rfl,r1,r2⟩:=vals2 r;cases r1;cases r2;obtain⟨ar,_,⟨o,n,h1,h2,_⟩,_⟩:=I.list hL;exact Ba Ea I.wo ⟨o,h1,h2⟩ e (λz=>nomatch z) λtk=>⟨.bl b,H,I.tok _,rfl,q⟩
 ·obtain⟨u,w,rfl,r1,r2⟩:=vals2 r;cases r1;cases r2;have:∃o,s.heap.get? a=ap o/\o.cls=.type "dict":=by
   rcases hD with⟨kvs,e⟩ | ⟨kvs,e⟩
   ·obtain⟨_,_,vs,_,o,_,_,h1,h2,_⟩:=wL I.bA e;exact⟨o,h1,h2.1⟩
   ·obtain⟨_,_,xs,_,o,_,_,h1,h2,_⟩:=wI I.bA e;exact⟨o,h1,h2.1⟩
  obtain⟨o,h1,h2⟩:=this;exact Ba Eb I.wo ⟨o,h1,h2⟩ e (λz=>nomatch z) λtk=>⟨.bl b,H,I.tok _,rfl,q⟩
def iD (hK:X.K=K) (k:Kd) (hg:Gl X "isinstance") (hm:X.mg "isinstance"=bm) (ha:EF X K fs a wa) (hgx:Gl X x) (hmx:X.mg x=bm) (hv:lc x=ap (.type k.name)) (hn:x≠"__name__":=by decide) (hd:jr x:=by decide)
  (he:f8 [a,.Name x p2] X.env=(false,kw a X.env)::f8 [.Name x p2] X.env:=by rfl) (Yd:f8 [Expr.Name x p2] X.env=(false,kw (.Name x p2) X.env)::f8 [] X.env:=by rfl)
  (dI:(wf pos (f8 [Expr.Name x p2] X.env)).any (·.1)=false:=by rfl):EF X K fs (.Call (.Name "isinstance" p) [a,.Name x p2] [] pos) (.bind wa (gz k)):=
 ⟨PE.imp (eM (NA hK) hg hm boot_isinstance (aZ ha.p (aZ (SQ (v:=.ty k.name) hgx hmx hv rfl hn hd) ck Yd) he) ⋯ ⋯ he dI) λσ H Q ⟨sr,q⟩=>⟨sr,wa.mono (λx q1 u1 H1 g1 s1 v1=>by
  have fin:∀{t:bn}{y:PV},mw K H1 u1 t->Br K t (.type k.name)=ap (k.is y)->Q (.bl (k.is y)) H1->Vd K [u1,.ty k.name] H1 Q:=λty e q=>⟨_,_,_,_,rfl,.inl ty,e,q⟩;cases v1 with
  | aG=>exact fin (y:=.aG) .aG (by rw [(rN K).1 k];cases k <;> rfl) (q1 _ H1 g1 s1 (.bl _))
  | bl b=>exact fin (.bl b) (XO K b k) (q1 _ H1 g1 s1 (.bl _))
  | int b=>exact fin (.int b) (TB K b k) (q1 _ H1 g1 s1 (.bl _))
  | str b=>exact fin (.str b) (Tz K b k) (q1 _ H1 g1 s1 (.bl _))
  | ty n=>exact q1.elim
  | ref n=>exact q1.elim
  | @dk a o kvs ks l e k1 r=>exact⟨_,_,_,_,rfl,.inr (.inr (.inr ⟨rfl,_,rfl,.inl ⟨_,.inr ⟨_,e⟩⟩⟩)),(show _=ap (k.is (.dv ks l)) by rw [(rN K).2.2 k];cases k <;> rfl),q1 _ H1 g1 s1 (.bl _)⟩
  | @dt a o kvs ks l e k1 r=>exact⟨_,_,_,_,rfl,.inr (.inr (.inr ⟨rfl,_,rfl,.inr ⟨_,.inr ⟨_,e⟩⟩⟩)),(show _=ap (k.is (.dv ks l)) by rw [(rN K).2.2 k];cases k <;> rfl),q1 _ H1 g1 s1 (.bl _)⟩
  | @cl p vs l e r=>exact⟨_,_,_,_,rfl,.inr (.inr (.inl ⟨rfl,_,_,rfl,e.sq⟩)),(show _=ap (k.is (.cl l)) by rw [(rN K).2.1 k];cases k <;> rfl),q1 _ H1 g1 s1 (.bl _)⟩
  | @tup p vs l e r=>exact⟨_,_,_,_,rfl,.inr (.inl ⟨rfl,_,_,rfl,dX.of e⟩),Tx K _ k,q1 _ H1 g1 s1 (.bl _)⟩) q⟩⟩
def Sm (l:List PV):PV->W (List PV)
 | .int k=>.fB (-(2 ^ 63)<=k/\k < 2 ^ 63/\l.length*k.toNat<=sizeLine) (.ret (Am k.toNat l).flatten)
 | _=>.fail
def aa3 (ha:LF X K fs a wl) (hb:EF X K fs b wb):LF X K fs (.BinOp a .Mult b pos) (.bind wl λl=>.bind wb λy=>Sm l y):=⟨PE.imp (KS Xc ha.p hb.p) λσ H Q ⟨sr,q⟩=>⟨sr,wl.mono (λl q1 a vs H1 g1 s1 n e v=>⟨s1,wb.mono (λy q2 u2 H2 g2 s2 v2=>by
 cases v2 with
 | int k=>
  have no:=sr.noOwn n;have e2:=(g2.wj e no);have r2:=g2.N6 s1 v;refine⟨a,k,vs,rfl,rfl,e2,q2.1.1,q2.1.2.1,by rw [r2.length];exact q2.1.2.2,λp hp=>?_⟩;have sm:=i7 hp (.lst (Am k.toNat vs).flatten);have gg:=g1.trans g2;exact q2.2 p _ _ (gg.trans (cV.same sm)) (s2.same sm) (gg.there p hp) aM (aE.tk sm.eG (r2.rep k.toNat))
 | _=>exact q2.elim) q1⟩) q⟩⟩
def part:PV->W (Option Int)
 | .int i=>.ret (ap i)
 | _=>.fail
def eO:OF X K fs bm (.ret bm):=⟨PO.imp SA λσ H Q ⟨sr,q⟩=>q H .refl sr⟩
def eN (h:EF X K fs e w):OF X K fs (ap e) (.bind w part):=⟨PO.imp (Sz h.p) λσ H Q ⟨sr,q⟩=>⟨sr,w.mono (λx q1 u1 H1 g1 s1 v1=>by
 cases v1 with
 | int i=>exact⟨_,rfl,q1 H1 g1 s1⟩
 | _=>exact q1.elim) q⟩⟩
def qM (h:HM X K fs e wl):∀σ H Q,fE K fs (.bind wl λl=>.ret (.bl (if neg then !l.isEmpty else l.isEmpty))) σ H Q->Wk (λx y H Q=>∃p q xs,x=.ref p/\y=.ref q/\c9 K H p xs/\c9 K H q []/\Q (.bl (if neg then !xs.isEmpty else xs.isEmpty)) H) (fQL K fs wl) (fL K fs (.ret [])) σ H Q:=λσ H Q ⟨sr,q⟩=>
 ⟨sr,wl.mono (λl q1 u1 H1 g1 s1 _ v1=>⟨s1,λa2 vs2 H2 g2 s2 n2 e2 r2=>by
  cases r2;obtain⟨a,vs,rfl,h1,r1⟩:=v1 H2 g2 s2;refine⟨a,a2,vs,rfl,rfl,h1,c9.of e2,?_⟩;rw [QU r1];exact q1 _ H2 (g1.trans g2) s2 (.bl _)⟩) q⟩
def Vm:LF X K fs (.List [] pos) (.ret []):=Vo (n:=0) aj
theorem ahu (hK:X.K=K) (hu:X.A.units+200 < o0) (h:HM X K fs e wl) (hk:pr .Eq (.List [] p2)=false:=by rfl):EF X K fs (.Compare e [.Eq] [.List [] p2] pos) (.bind wl λl=>.ret (.bl l.isEmpty)):=⟨PE.imp (KW (Iv K hK ∅) h.p Vm.p hk) (qM (neg:=false) h)⟩
theorem ZQ (hK:X.K=K) (hu:X.A.units+200 < o0) (h:HM X K fs e wl) (hk:pr .NotEq (.List [] p2)=false:=by rfl):TF X K fs (.Compare e [.NotEq] [.List [] p2] pos) (.bind wl λl=>.ret (!l.isEmpty)):=⟨PT.imp (nX (Iu K hK ∅) h.p Vm.p hk) λσ H Q q=>qM (neg:=true) h σ H _ (ab5 (w:=.bind wl λl=>.ret (.bl (!l.isEmpty))) σ H Q q)⟩
def mM:List PV->W (List Int)
 | []=>.ret []
 | .int i::r=>.bind (mM r) λl=>.ret (i::l)
 | _=>.fail
theorem gG:∀{l:List PV}{Q:List Int->Prop},(mM l).run Q->∃ns:List Int,l=ns.map PV.int/\Q ns
 | [],Q,h=>⟨[],rfl,h⟩
 | .int b::r,Q,h=>by
  obtain⟨bs,e,q⟩:=gG (l:=r) h;exact⟨b::bs,by rw [e];rfl,q⟩
 | .aG::r,Q,h=>h.elim
 | .bl _::r,Q,h=>h.elim
 | .str _::r,Q,h=>h.elim
 | .tup _::r,Q,h=>h.elim
 | .ref _::r,Q,h=>h.elim
 | .ty _::r,Q,h=>h.elim
 | .cl _::r,Q,h=>h.elim
@[simp] theorem gH:∀bs:List Int,mM (bs.map PV.int)=.ret bs
 | []=>rfl
 | b::bs=>by
  show am (mM (bs.map PV.int)) _=_;rw [gH bs];rfl
end
end
end FL
variable {k2:Nat}
namespace FL
section
open PySem PySem.Spec PyProof.Rows L2 PL
variable {K:Ab}
abbrev b2 (m:M2) (wa wb:W PV):W PV:=.bind wa λx=>.bind wb λy=>of2 m x y
abbrev t2 (m:M2) (wa wb:W PV):W Bool:=.bind wa λx=>.bind wb λy=>.bind (of2 m x y) asB
abbrev c1 (m:zV) (w:W PV):W PV:=.bind w λx=>n8 m [x]
abbrev cB (wl:W (List PV)) (wb:W PV):W PV:=.bind wl λl=>.bind wb λy=>Vw l y
abbrev L7 (a b:W Bool):W Bool:=.bind a λk=>if k=true then b else .ret false
abbrev tor (a b:W Bool):W Bool:=.bind a λk=>if k=true then .ret true else b
abbrev Ob (a:W Bool):W Bool:=.bind a λk=>.ret (!k)
abbrev dR {α:Type} (t:W Bool) (a b:W α):W α:=.bind t λk=>if k=true then a else b
section
variable {a c:ii}{rest:List sn}{S T T2:Type}{hd:S->bh}{s0:S}{w:W PV}{wt:PV->W T2}{cD:S->T2->bh}{k:S->W T}{out:T->End}{x:Bool}
def SF.oQ {f:PV->S->W S} (hp:wn (dL X.prog X.w) X.A X.env X.xe) (hc:X.calm=true) (hi:rB X K fs tg iter wl) (hl:iH fs (hd s0)) (hg:PG X tg (eB i)) (hb:∀s p,SF X K false ((hd s).set i (ap (.val p))) body (f p s) λs'=>.nc (hd s')) (hr:∀s,SF X K x (hd s) rest (k s) out) (hs:uN X iter:=by intro _;rfl) :
  SF X K x fs (.For tg iter body [] pos::rest) (.bind wl λl=>.bind (cz l s0 f) k) out:=SF.for (wt:=.ret) (wb:=λp s=>f p s) hp hc hi hl (λs=>VG hg) (λ_ _=>rfl) hb hr hs
def SF.Ym {wb:T2->S->W S} (hp:wn (dL X.prog X.w) X.A X.env X.xe) (hc:X.calm=true) (hi:rB X K fs tg iter wl) (hl:iH fs (hd s0)) (hg:∀s,GF X K (hd s) tg is wt (cD s)) (hb:∀s t,SF X K false (cD s t) body (wb t s) λs'=>.nc (hd s')) (hr:∀s,SF X K x (hd s) rest (k s) out) (hs:uN X iter:=by intro _;rfl) :
  SF X K x fs (.For tg iter body [] pos::rest) (.bind wl λl=>.bind (cz l s0 λp s=>.bind (wt p) λt=>wb t s) k) out:=SF.for hp hc hi hl hg (λ_ _=>rfl) hb hr hs
def SF.QA {inj:R->T}{f:PV->S->W (Lp S R)} (hp:wn (dL X.prog X.w) X.A X.env X.xe) (hc:X.calm=true) (hi:rB X K fs tg iter wl) (hl:iH fs (hd s0)) (hg:PG X tg (eB i)) (ho:∀t,(out (inj t)).Qc) (hb:∀s p,SF X K false ((hd s).set i (ap (.val p))) body (f p s) (lpE hd λr=>out (inj r))) (hr:∀s,SF X K x (hd s) rest (k s) out) (hs:uN X iter:=by intro _;rfl) :
  SF X K x fs (.For tg iter body [] pos::rest) (.bind wl λl=>.bind (FL.mq l s0 f) (Na k inj)) out:=SF.mq (wt:=.ret) (wb:=λp s=>f p s) hp hc hi hl (λs=>VG hg) (λ_ _=>rfl) ho hb hr hs
def SF.OA {fs3:T2->bh}{k:T2->W T} (he:EF X K fs e we) (hg:GF X K fs tg is wt fs3) (hr:∀t,SF X K x (fs3 t) rest (k t) out) (hs:Db [tg] e pos.line X.env=pure false:=by rfl) (hw:Ev [tg] e X.env=pure bm:=by rfl)
  (h1:(wS [tg] X.env).map (·.2)=[EQ tg X.env]:=by rfl):SF X K x fs (.Assign [tg] e pos::rest) (.bind we λv=>.bind (wt v) k) out:=SF.step (O3 he.p hg.p hs hw h1) λD σ H ⟨sr,q⟩=>
 ⟨sr,we.mono (λv q1 u H1 g1 s1 v1=>⟨v,s1,v1,(wt v).mono (λt q2 us g2 s2=>⟨_,k t,hr t,s2,(k t).mono (λt' q3=>q3.go (g1.f.trans g2) sr s2) q2⟩) q1⟩) q⟩
def SF.par {WX:Pos}{kt:Nat}{k:PV->PV->W T} (hc:X.calm=true) (hN:X.N.Nodup) (hi:X.N[i]?=ap y) (hj:X.N[j]?=ap z) (õ:i≠j) (hx:X.env.scope.names.lookup y=ap .local) (hy:X.env.scope.names.lookup z=ap .local)
  (ha:EF X K fs a wa) (hb:EF X K fs b wb) (hr:∀u v,SF X K x ((fs.set i (ap (.val u))).set j (ap (.val v))) rest (k u v) out)
  (hw:Ev [.Tuple [.Name y px,.Name z py] kt pt] (.Tuple [a,b] k2 WX) X.env=pure (ap [y,z]):=by rfl) (hs:Db [.Tuple [.Name y px,.Name z py] kt pt] (.Tuple [a,b] k2 WX) pos.line X.env=pure false:=by rfl)
  (he:f8 [a,b] X.env=(false,kw a X.env)::f8 [b] X.env:=by rfl) (Yd:ic X b []:=by rfl) :
  SF X K x fs (.Assign [.Tuple [.Name y px,.Name z py] kt pt] (.Tuple [a,b] k2 WX) pos::rest) (.bind wa λu=>.bind wb λv=>k u v) out:=
 SF.step (WY hc hN hi hj õ hx hy (aZ ha.p (aZ hb.p ck Yd) he) hw hs) λD σ H ⟨sr,q⟩=>⟨sr,wa.mono (λu q1 u1 H1 g1 s1 v1=>⟨s1,wb.mono (λv q2 u2 H2 g2 s2 v2=>by
  have s3:=s2.fJ (g2.vr s1 v1) i;have s4:=s3.fJ v2 j;exact⟨_,_,rfl,_,k u v,hr u v,s4,(k u v).mono (λt q3=>q3.go (((g1.trans g2).f.trans (cQ.fJ s2 _ _ i)).trans (cQ.fJ s3 _ _ j)) sr s4) q2⟩) q1⟩) q⟩
def Oc (v:PV):W PV:=.fB (v.dat=true) (.ret v)
def vL (l:List PV):W (List PV):=.fB (ux l=true) (.ret l)
mutual
theorem VR.jS {ι:List ce}{H H':Hp} (t:∀p vs,H p=ap (.tup vs)->H' p=ap (.tup vs)):∀{v:V}{q:PV},VR K ι H v q->q.dat=true->VR K [] H' v q
 | _,_,.aG,_=>.aG
 | _,_,.bl b,_=>.bl b
 | _,_,.int i,_=>.int i
 | _,_,.str x,_=>.str x
 | _,_,.ty n,h=>by rw [PV.dat] at h;cases h
 | _,_,.tup e r,h=>.tup (t _ _ e) (aE.jS t r (by rw [PV.dat] at h;exact h))
 | _,_,.cl e r,h=>by rw [PV.dat] at h;cases h
 | _,_,.dk _ _ _,h=>by rw [PV.dat] at h;cases h
 | _,_,.dt _ _ _,h=>by rw [PV.dat] at h;cases h
 | _,_,.ref e,h=>by rw [PV.dat] at h;cases h
theorem aE.jS {ι:List ce}{H H':Hp} (t:∀p vs,H p=ap (.tup vs)->H' p=ap (.tup vs)):∀{v:List V}{q:List PV},aE K ι H v q->ux q=true->aE K [] H' v q
 | _,_,.nil,_=>.nil
 | _,_,.cons r s,h=>by
  rw [ux,AL] at h;exact .cons (VR.jS t r h.1) (aE.jS t s h.2)
end
def bor (I:Inv X À σ H s) (sr:aU K H σ fs) (hs:fs[i]?=ap (ap t)) (hb:t.bw=true):∃a o ob,Inv X À σ (upd H a (.cE ob o)) s/\aU K (upd H a (.cE ob o)) σ (fs.set i (ap (.val t.bv)))/\
  ∀σ' s' H1,Inv X À σ' H1 s'->cV σ (fs.set i (ap (.val t.bv))) (upd H a (.cE ob o)) H1->aU K H1 σ (fs.set i (ap (.val t.bv)))->Inv X À σ' (upd H1 a o) s'/\cV σ fs H (upd H1 a o)/\aU K (upd H1 a o) σ fs/\(∀p vs,H1 p=ap (.tup vs)->upd H1 a o p=ap (.tup vs))/\∀p vs,p≠a->H1 p=ap (.lst vs)->upd H1 a o p=ap (.lst vs):=by
 have ho:=SL.Rh hb;obtain⟨u,e1,⟨v,e,_⟩ | ⟨a,e,oa⟩⟩:=sr.at' i _ hs
 ·subst e;cases hb
 subst e;obtain⟨ob,o,h1,n1,n2,I2,vr⟩:=abT I oa hb;have h0:∀o u,X.H₀ a≠ap (.cE o u):=λo u z=>by
  have:=I.base.uc a o u z;rw [h1] at this;exact n2 _ _ (Option.some.inj this)
 refine⟨a,o,ob,I2,sr.abR hs ho e1 h1 n1 n2 vr,λσ' s' H1 J g s1=>?_⟩;have pf:∀φ b,iG σ (fs.set i (ap (.val t.bv))) φ b->iG σ fs φ b:=λφ b ⟨j,z1,z3⟩=>by
  rcases cX z1 with⟨_,z⟩ | ⟨n,z1⟩
  ·cases z
  ·exact⟨j,z1,z3⟩
 have npa:∀φ,¬iG σ fs φ a:=λφ ⟨j,z1,z3⟩=>by
  have:=sr.nd j i _ _ a a a z1 hs rfl ho z3 e1 (.inl rfl) (.inl rfl);subst this;rw [hs] at z1;cases z1;cases hb
 have e2:=g.keep a _ aM λφ p=>npa φ (pf φ a p);have hk:=Qj J.bA e2;have ge:cV σ fs H (upd H1 a o):=by
  refine⟨λb o z n=>?_,λb z=>?_⟩
  ·by_cases c:b=a
   ·subst c;rw [h1] at z;cases z;exact aM
   ·rw [av c];exact g.keep b o (by rw [av c];exact z) λφ p=>n φ (pf φ b p)
  ·by_cases c:b=a
   ·subst c;rw [aM] at z;cases z
   ·rw [av c] at z;have:=g.there b z;rw [av c] at this;exact this
 refine⟨J.aeg e2 h0 (hk a _ aM) hk,ge,⟨sr.len,λj t z=>?_,sr.nd⟩,λp vs z=>?_,λp vs n z=>by rw [av n];exact z⟩
 ·obtain⟨u,k1,k2⟩:=sr.at' j t z;refine⟨u,k1,?_⟩;by_cases c:∃φ,t=.mn φ
  ·obtain⟨φ,rfl⟩:=c;have ji:j≠i:=λy=>by subst y;rw [hs] at z;cases z;cases hb
   rcases k2 with⟨v,y,_⟩ | ⟨b,rfl,_⟩
   ·cases y
   ·obtain⟨vs,y1,y2⟩:=s1.ownAt (t:=.mn φ) (i:=j) (by rw [aO ji];exact z) rfl k1;refine .inr ⟨b,rfl,vs,?_,y2⟩;rw [av (λy=>by subst y;exact npa φ ⟨j,z,k1⟩)];exact y1
  ·refine k2.mono (ge.eI sr) (λx b o eb ow hb zz=>ge.keep b o zz λφ ⟨j',p1,p3⟩=>?_);subst eb;have:=sr.nd j j' t _ x b b z p1 ow rfl k1 p3 hb (.inl rfl);subst this;rw [z] at p1;cases p1;exact c ⟨φ,rfl⟩
 ·rw [av (λy=>by subst y;rw [e2] at z;cases z)];exact z
def ach (i:Nat) (hs:fs[i]?=ap (ap t)) (h:EF X K (fs.set i (ap (.val t.bv))) e w) (hb:t.bw=true:=by rfl):EF X K fs e (.bind w Oc):=⟨λÀ s σ H Q I ⟨sr,q⟩=>by
 obtain⟨a,o,ob,I2,s2,Ì⟩:=bor I sr hs hb;refine bT (h.p À s σ _ (λu H1=>∃v,cV σ (fs.set i (ap (.val t.bv))) (upd H a (.cE ob o)) H1/\aU K H1 σ (fs.set i (ap (.val t.bv)))/\VR K [] H1 u v/\v.dat=true/\∀u H',cV σ fs H H'->aU K H' σ fs->VR K [] H' u v->Q u H') I2 ⟨s2,w.mono (λv q1 u H1 g1 s1 v1=>⟨v,g1,s1,v1,q1.1,q1.2⟩) q⟩) λu s1 ⟨x,H1,I1,r1,v,g1,Sg,v1,d,q1⟩=>?_;obtain⟨I3,g3,s3,t3,_⟩:=Ì σ s1 H1 I1 g1 Sg;exact⟨x,_,I3,r1,q1 x _ g3 s3 (VR.jS t3 v1 d)⟩⟩
def aa5 (i:Nat) (hs:fs[i]?=ap (ap t)) (h:LF X K (fs.set i (ap (.val t.bv))) e wl) (hb:t.bw=true:=by rfl):LF X K fs e (.bind wl vL):=⟨λÀ s σ H Q I ⟨sr,q⟩=>by
 obtain⟨a,o,ob,I2,s2,Ì⟩:=bor I sr hs hb;refine bT (h.p À s σ _ (λu H1=>∃b vs l',u=.ref b/\cV σ (fs.set i (ap (.val t.bv))) (upd H a (.cE ob o)) H1/\aU K H1 σ (fs.set i (ap (.val t.bv)))/\upd H a (.cE ob o) b=bm/\H1 b=ap (.lst vs)/\aE K [] H1 vs l'/\ux l'=true/\∀a vs H',cV σ fs H H'->aU K H' σ fs->H a=bm->H' a=ap (.lst vs)->aE K [] H' vs l'->Q (.ref a) H') I2 ⟨s2,wl.mono (λl' q1 b vs H1 g1 s1 n e v1=>⟨b,vs,l',rfl,g1,s1,n,e,v1,q1.1,q1.2⟩) q⟩) λu s1 ⟨x,H1,I1,r1,b,vs,l',e,g1,Sg,n,eb,v1,d,q1⟩=>?_;subst e;obtain⟨I3,g3,s3,t3,k3⟩:=Ì σ s1 H1 I1 g1 Sg;have nb:b≠a:=λy=>by subst y;rw [aM] at n;cases n
 exact⟨_,_,I3,r1,q1 b vs _ g3 s3 (by rw [av nb] at n;exact n) (k3 b vs nb eb) (aE.jS t3 v1 d)⟩⟩
end
end
end FL
variable {G:List Int->Prop}
namespace FL
section
open PySem PySem.Spec PyProof.Rows L2 PL
variable {K:Ab}
def aab (K:Ab) (m:List PV->List PV->W (PV×List PV)):Sp:=λvs H Q _=>∃a NQ ws lo l,vs=.ref a::NQ/\H a=ap (.lst ws)/\aE K [] H ws lo/\aE K [] H NQ l/\(m lo l).run λt=>∀u sj H',ph a H H'->(∀b,H' b=bm->H b=bm)->H' a=ap (.lst sj)->aE K [] H' sj t.2->VR K [] H' u t.1->Q u H'
section
variable {st:sn}{f:ce}{N:List Str}
def Rj (a:ce) (lo l:List PV) (n:Nat):bh:=ap (.ol (ap a) lo)::(l.map λv=>ap (SL.val v))++Am (n-1-l.length) bm
def aE.slot (r:aE K [] H vs l) {s:SL} (h:(l.map λv=>ap (SL.val v))[i]?=ap (ap s)):∃u v,vs[i]?=ap u/\s=.val v/\VR K [] H u v:=by
 rw [Aj] at h;cases e:l[i]? with
 | none=>rw [e] at h;cases h
 | some v=>
  rw [e] at h;obtain⟨u,h1,h2⟩:=r.get e;cases h;exact⟨u,v,h1,rfl,h2⟩
theorem fnO {m:List PV->UZ (PV×List PV) n} (Fn:RO K x qual st f fd) (S:ao N ps (ag st)) (hn:n+1=ps.length)
  (Ã:∀(a:ce) (lo l:List PV),l.length=n->∀(cg:bn) (A:nn) (outer:List Env) (s:cr) (H:Hp) (E:XK),cO k (A.deeper (re qual (ag st) s.heap.objs.size f cg))->SF (ig mT P w K mg base N qual (ag st) f cg A outer s H E).vT K false (Rj a lo l N.length) (a6 st) (cq n (m lo) l) λt=>.ro t.1 a t.2) :
  jq P w K mg base mT (k+1) f fd ps (aab K λlo l=>cq n (m lo) l):=by
 refine Fn.ok S (λvs H Q E h=>?_) (λcg A outer s H vs Q E hr h=>?_)
 ·obtain⟨a,NQ,ws,lo,l,rfl,_,_,r,q⟩:=h;rw [Aq,r.length,lL q];exact hn
 obtain⟨a,NQ,ws,lo,l,rfl,ha,xw,r,q⟩:=h;have hl:=lL q;have hr2:=r.length;have Ub:∀{i:Nat}{s:SL},(Rj a lo l N.length)[i]?=ap (ap s)->(i=0/\s=.ol (ap a) lo)\/∃j u v,i=j+1/\NQ[j]?=ap u/\s=.val v/\VR K [] H u v:=λ{i s} e=>by
  unfold Rj at e;cases i with
  | zero=>simp at e;exact .inl ⟨rfl,e.symm⟩
  | succ j=>
   rw [Cb,List.getElem?_cons_succ] at e;by_cases c:j < l.length
   ·rw [AQ (by simpa using c)] at e;obtain⟨u,v,h1,h2,h3⟩:=aE.slot r e;exact .inr ⟨j,u,v,rfl,h1,h2,h3⟩
   ·rw [A1 (by simpa using c),Bq] at e
    split at e <;> cases e
 have sr:aU K H (L2.start N (.ref a::NQ)) (Rj a lo l N.length):=by
  refine⟨?_,λi s e=>?_,λi j s t x y b e1 e2 o1 o2 q1 q2 _ _=>?_⟩
  ·unfold L2.start Rj;rw [Ah,Af,Bo,Ah,Aq,Aq,Af,Bo];omega
  ·rcases Ub e with⟨rfl,rfl⟩ | ⟨j,u,v,rfl,h1,rfl,h3⟩
   ·exact⟨.ref a,lO rfl,.inr ⟨a,rfl,λb z=>Option.some.inj z,ws,ha,xw⟩⟩
   ·exact⟨u,lO (by simpa using h1),.inl ⟨v,rfl,h3⟩⟩
  ·rcases Ub e1 with⟨rfl,rfl⟩ | ⟨j1,u,v,rfl,h1,rfl,h3⟩
   ·rcases Ub e2 with⟨rfl,rfl⟩ | ⟨j1,u,v,rfl,h1,rfl,h3⟩
    ·rfl
    ·cases o2
   ·cases o1
 refine⟨_,(Ã a lo l hl cg A outer s H E hr).p,sr,(cq n (m lo) l).mono (λt q1 u σ' bB H' g s' ho rv=>?_) q⟩;obtain⟨i,e⟩:=ho;obtain⟨u',e',r'⟩:=s'.at' i _ e;rcases r' with⟨v,z,_⟩ | ⟨b,rfl,hb,sj,h1,h2⟩
 ·cases z
 have hba:=hb a rfl;subst hba;refine q1 u sj H' (λc o nc e=>(g.keep c o e λz=>?_).1) g.there h1 h2 rv;obtain⟨j,t',x,z1,z2,z3,z4⟩:=z;rcases Ub z1 with⟨rfl,rfl⟩ | ⟨j1,u,v,rfl,_,rfl,_⟩
 ·have:=vO z3;simp at this;rcases z4 with rfl | z4
  ·exact nc this.symm
  ·cases z4
 ·cases z2
def iV (G:List Int->Prop):List V->Prop:=λws=>∃ns:List Int,ws=ns.map V.int/\G ns
def W0 {m:List PV->List PV->W (PV×List PV)}{mp:List PV->W PV} (F:jq P w K mg base mT k f fd ps (aab K m)) (hm:∀ns l Q,G ns->(mp l).run Q->(m (ns.map PV.int) l).run λt=>Q t.1/\∃Gi:List Int,t.2=Gi.map PV.int/\G Gi) :
  jq P w K mg base mT k f fd ps (f6 K (.p (iV G)::Am n .v) mp):=F.imp λvs H Q E h=>by
 obtain⟨l,ha,q⟩:=h;cases ha with
 | @p a φ ws vs ks l e r t=>
  obtain⟨ns,rfl,hG⟩:=r;have tv:∀{n:Nat}{vs:List V}{l:List PV},iY K H vs (Am n .v) l->aE K [] H vs l:=by
   intro n
   induction n with
   | zero=>intro vs l h;cases h;exact .nil
   | succ n ih=>intro vs l h;cases h with | v r t=>exact .cons r (ih t)
  refine⟨a,vs,ns.map V.int,ns.map PV.int,l,rfl,e,oE _ _ ns,tv t,(m _ _).mono (λt q1 u sj H' sx hth e' r' rv=>?_) (hm ns l _ hG q)⟩;obtain⟨q1,Gi,et,hG'⟩:=q1;rw [et] at r';have:=jL r';subst this;refine q1 u H' ⟨λb o eb nb=>sx b o (λz=>?_) eb,hth,λb φ p=>?_⟩ rv
  ·subst z;exact nb _ ⟨0,rfl,rfl⟩
  ·obtain⟨i,e1,e2⟩:=p;cases i with
   | zero=>simp at e1 e2;subst e1;subst e2;exact⟨_,e',Gi,rfl,hG'⟩
   | succ i=>
    simp at e1;rw [Bq] at e1
    split at e1 <;> simp at e1
end
section
variable {Wr:List sn}{T:Type}{w:W T}{out:T->End}{x:Bool}
def aaz (G:List Int->Prop) (l:List PV) (w:W T):W T:=.fB (∃ns:List Int,l=ns.map PV.int/\G ns) w
def SF.mn (i:Nat) (hs:fs[i]?=ap (ap (.ol bm l))) (hr:SF X K x (fs.set i (ap (.mn (iV G)))) Wr w out):SF X K x fs Wr (aaz G l w) out:=⟨λÀ s σ H D I ⟨sr,q⟩=>by
 obtain⟨⟨ns,el,hG⟩,q⟩:=q;obtain⟨a,ws,e1,h1,r1⟩:=dF sr hs;subst el;have:=jL r1;subst this;obtain⟨s2,g2⟩:=ff (t':=.mn (iV G)) sr hs rfl (by simp) e1 (λ_ _ _ z=>z:ph a H H) λtk=>⟨_,h1,ns,rfl,hG⟩;exact hr.p À s σ H D I ⟨s2,w.mono (λt q2=>q2.go g2 sr s2) q⟩⟩
end
end
section
open PySem PySem.Spec PyProof.Rows L2 PL
variable {K:Ab}
abbrev NJ (wa wb:W PV):W PV:=.bind wa λx=>UK x wb
abbrev orB (wa wb:W PV):W PV:=.bind wa λx=>orW x wb
abbrev oO (wl:W (List PV)):W PV:=.bind wl λl=>.ret (.cl l)
abbrev PF (t:W Bool) (w:W PV):W (Option PV):=.bind t λk=>if k=true then .bind w λv=>.ret (ap v) else .ret bm
section
variable {c:ii}{W':W PV}{WL:W (List PV)}
def Ur (G:U0 X.prog X.w X.K X.mg X.base x k ps (f6 K ks m)) (hr:cO k' X.A) (hk:k<=k') (hg:Gl X x) (ha:AF X K fs (e::es) ks B) (hW:W'=B m) (oI:jr x:=by decide)
  (he:ic X e es:=by rfl) (dI:mj X pos es:=by rfl):EF X K fs (.Call (.Name x p) (e::es) [] pos) W':=hW▸YC G hr hk hg ha oI he dI
def Tu {m:List PV->W (List PV)}{B:(List PV->W (List PV))->W (List PV)} (G:U0 X.prog X.w X.K X.mg X.base x k ps (fD K ks m)) (hr:cO k' X.A) (hk:k<=k') (hg:Gl X x) (ha:AF X K fs (e::es) ks B) (hW:WL=B m) (oI:jr x:=by decide)
  (he:ic X e es:=by rfl) (dI:mj X pos es:=by rfl):LF X K fs (.Call (.Name x p) (e::es) [] pos) WL:=hW▸XJ G hr hk hg ha oI he dI
def az {x1} (h:AF X K fs es (Am n .v) B) (hW:W'=B λl=>.ret (.tup l)) (hn:n<=1000:=by decide):EF X K fs (.Tuple es x1 pos) W':=hW▸aca h hn
def aN {B:(List PV->W (List PV))->W (List PV)} (h:AF X K fs es (Am n .v) B) (hW:WL=B λl=>.ret l) (hn:n<=1000:=by decide):LF X K fs (.List es pos) WL:=hW▸Vo h hn
variable {T2:Type}{wt:PV->W T2}{cD:T2->bh}{tf:T2->W Bool}{te:T2->W PV}
def gc {f:PV->W PV} (hc:X.calm=true) (S:ax X.env.scope X.N sc N' ix) (hi:rB X K fs tg iter wl) (hg:∀cl C s2 H2 fp,PG (fC X sc N' cl C s2 H2 fp) tg (eB i)) (he:∀cl C s2 H2 fp t,EF (fC X sc N' cl C s2 H2 fp) K ((bq ix fs).set i (ap (.val t))) Å (f t)) (h0:ix[i]?=ap bm) (hs:uN X iter:=by intro _;rfl) :
  LF X K fs (.ListComp Å [⟨tg,iter,[],0⟩] sc pos) (.bind wl λl=>bC l f):=
 have h1:(bq ix fs)[i]?=ap bm:=by unfold bq;rw [Aj,h0];rfl
 Vn hc S hi (λcl C s2 H2 fp=>VG (hg cl C s2 H2 fp)) he (λ_=>rfl) (PJ h1) (λj hj=>by rw [AN] at hj;subst hj;exact h0) hs
def PM {tf:PV->W Bool}{te:PV->W PV} (hc:X.calm=true) (S:ax X.env.scope X.N sc N' ix) (hi:rB X K fs tg iter wl) (hg:∀cl C s2 H2 fp,PG (fC X sc N' cl C s2 H2 fp) tg (eB i)) (hf:∀cl C s2 H2 fp t,TF (fC X sc N' cl C s2 H2 fp) K ((bq ix fs).set i (ap (.val t))) c (tf t)) (he:∀cl C s2 H2 fp t,EF (fC X sc N' cl C s2 H2 fp) K ((bq ix fs).set i (ap (.val t))) Å (te t)) (h0:ix[i]?=ap bm) (hs:uN X iter:=by intro _;rfl) :
  LF X K fs (.ListComp Å [⟨tg,iter,[c],0⟩] sc pos) (.bind wl λl=>mJ l λp=>PF (tf p) (te p)):=
 have h1:(bq ix fs)[i]?=ap bm:=by unfold bq;rw [Aj,h0];rfl
 XH (wt:=.ret) (tf:=tf) (te:=te) hc S hi (λcl C s2 H2 fp=>VG (hg cl C s2 H2 fp)) (λcl C s2 H2 fp t=>yQ (hf cl C s2 H2 fp t)) he (λ_=>rfl) (PJ h1) (λj hj=>by rw [AN] at hj;subst hj;exact h0) hs
def XF (hc:X.calm=true) (S:ax X.env.scope X.N sc N' ix) (hi:rB X K fs tg iter wl) (hg:∀cl C s2 H2 fp,GF (fC X sc N' cl C s2 H2 fp) K (bq ix fs) tg is wt cD) (he:∀cl C s2 H2 fp t,EF (fC X sc N' cl C s2 H2 fp) K (cD t) Å (te t))
  (hl:rA is (bq ix fs) cD/\∀t,iH (cD t) (bq ix fs)) (vk:∀j∈is,ix[j]?=ap bm) (hs:uN X iter:=by intro _;rfl) :
  LF X K fs (.ListComp Å [⟨tg,iter,[],0⟩] sc pos) (.bind wl λl=>bC l λp=>.bind (wt p) te):=Vn hc S hi hg he (λ_=>rfl) hl vk hs
def aa4 (hc:X.calm=true) (S:ax X.env.scope X.N sc N' ix) (hi:rB X K fs tg iter wl) (hg:∀cl C s2 H2 fp,GF (fC X sc N' cl C s2 H2 fp) K (bq ix fs) tg is wt cD) (hf:∀cl C s2 H2 fp t,TF (fC X sc N' cl C s2 H2 fp) K (cD t) c (tf t)) (he:∀cl C s2 H2 fp t,EF (fC X sc N' cl C s2 H2 fp) K (cD t) Å (te t))
  (hl:rA is (bq ix fs) cD/\∀t,iH (cD t) (bq ix fs)) (vk:∀j∈is,ix[j]?=ap bm) (hs:uN X iter:=by intro _;rfl) :
  LF X K fs (.ListComp Å [⟨tg,iter,[c],0⟩] sc pos) (.bind wl λl=>mJ l λp=>.bind (wt p) λt=>PF (tf t) (te t)):=XH hc S hi hg (λcl C s2 H2 fp t=>yQ (hf cl C s2 H2 fp t)) he (λ_=>rfl) hl vk hs
variable {rest:List sn}{T:Type}{out:T->End}{x0:Bool}{kk:List PV->W T}
def SF.Wy {tf:PV->W Bool}{te:PV->W PV} (hc:X.calm=true) (hN:X.N.Nodup) (yu:X.N[i]?=ap y) (hx:X.env.scope.names.lookup y=ap .local) (S:ax X.env.scope X.N sc N' ix) (hi:rB X K fs tg iter wl) (hg:∀cl C s2 H2 fp,PG (fC X sc N' cl C s2 H2 fp) tg (eB j)) (hf:∀cl C s2 H2 fp t,TF (fC X sc N' cl C s2 H2 fp) K ((bq ix fs).set j (ap (.val t))) c (tf t)) (he:∀cl C s2 H2 fp t,EF (fC X sc N' cl C s2 H2 fp) K ((bq ix fs).set j (ap (.val t))) Å (te t)) (h0:ix[j]?=ap bm) (hr:∀l,SF X K x0 (fs.set i (ap (.ol bm l))) rest (kk l) out)
  (oG:im (.ListComp Å [⟨tg,iter,[c],0⟩] sc pos) (ap (.Name y px)) kH.line X.env=pure true:=by rfl) (hs:uN X iter:=by intro _;rfl) :
  SF X K x0 fs (.Assign [.Name y px] (.ListComp Å [⟨tg,iter,[c],0⟩] sc pos) kH::rest) (.bind (.bind wl λl=>mJ l λp=>PF (tf p) (te p)) kk) out:=
 have h1:(bq ix fs)[j]?=ap bm:=by unfold bq;rw [Aj,h0];rfl
 SF.Oy (wt:=.ret) (tf:=tf) (te:=te) hc hN yu hx S hi (λcl C s2 H2 fp=>VG (hg cl C s2 H2 fp)) (λcl C s2 H2 fp t=>yQ (hf cl C s2 H2 fp t)) he (λ_=>rfl) (PJ h1) (λm hj=>by rw [AN] at hj;subst hj;exact h0) hr oG hs
def Lc {wt:PV->W T2}{te:T2->W PV}:(λl=>bC l λp=>.bind (wt p) te)=λl=>mJ l λp=>.bind (wt p) λt=>.bind (.ret true) λk=>if k=true then .bind (te t) λv=>.ret (ap v) else .ret bm:=funext λl=>by
 rw [xK];rfl
def SF.KJ (hc:X.calm=true) (hN:X.N.Nodup) (yu:X.N[i]?=ap y) (hx:X.env.scope.names.lookup y=ap .local) (S:ax X.env.scope X.N sc N' ix) (hi:rB X K fs tg iter wl) (hg:∀cl C s2 H2 fp,GF (fC X sc N' cl C s2 H2 fp) K (bq ix fs) tg is wt cD) (he:∀cl C s2 H2 fp t,EF (fC X sc N' cl C s2 H2 fp) K (cD t) Å (te t))
  (hl:rA is (bq ix fs) cD/\∀t,iH (cD t) (bq ix fs)) (vk:∀j∈is,ix[j]?=ap bm) (hr:∀l,SF X K x0 (fs.set i (ap (.ol bm l))) rest (kk l) out)
  (oG:im (.ListComp Å [⟨tg,iter,[],0⟩] sc pos) (ap (.Name y px)) kH.line X.env=pure true:=by rfl) (hs:uN X iter:=by intro _;rfl) :
  SF X K x0 fs (.Assign [.Name y px] (.ListComp Å [⟨tg,iter,[],0⟩] sc pos) kH::rest) (.bind (.bind wl λl=>bC l λp=>.bind (wt p) te) kk) out:=by
 rw [Lc];exact SF.Oy (tf:=λ_=>.ret true) hc hN yu hx S hi hg (λ_ _ _ _ _ _=>Jw) he (λp=>rfl) hl vk hr oG hs
def SF.nM {f:PV->W PV} (hc:X.calm=true) (hN:X.N.Nodup) (yu:X.N[i]?=ap y) (hx:X.env.scope.names.lookup y=ap .local) (S:ax X.env.scope X.N sc N' ix) (hi:rB X K fs tg iter wl) (hg:∀cl C s2 H2 fp,PG (fC X sc N' cl C s2 H2 fp) tg (eB j)) (he:∀cl C s2 H2 fp t,EF (fC X sc N' cl C s2 H2 fp) K ((bq ix fs).set j (ap (.val t))) Å (f t)) (h0:ix[j]?=ap bm) (hr:∀l,SF X K x0 (fs.set i (ap (.ol bm l))) rest (kk l) out)
  (oG:im (.ListComp Å [⟨tg,iter,[],0⟩] sc pos) (ap (.Name y px)) kH.line X.env=pure true:=by rfl) (hs:uN X iter:=by intro _;rfl) :
  SF X K x0 fs (.Assign [.Name y px] (.ListComp Å [⟨tg,iter,[],0⟩] sc pos) kH::rest) (.bind (.bind wl λl=>bC l f) kk) out:=
 have h1:(bq ix fs)[j]?=ap bm:=by unfold bq;rw [Aj,h0];rfl
 SF.KJ (wt:=.ret) hc hN yu hx S hi (λcl C s2 H2 fp=>VG (hg cl C s2 H2 fp)) he (PJ h1) (λm hj=>by rw [AN] at hj;subst hj;exact h0) hr oG hs
def SF.Wx (hc:X.calm=true) (hN:X.N.Nodup) (yu:X.N[i]?=ap y) (hx:X.env.scope.names.lookup y=ap .local) (S:ax X.env.scope X.N sc N' ix) (hi:rB X K fs tg iter wl) (hg:∀cl C s2 H2 fp,GF (fC X sc N' cl C s2 H2 fp) K (bq ix fs) tg is wt cD) (hf:∀cl C s2 H2 fp t,TF (fC X sc N' cl C s2 H2 fp) K (cD t) c (tf t)) (he:∀cl C s2 H2 fp t,EF (fC X sc N' cl C s2 H2 fp) K (cD t) Å (te t))
  (hl:rA is (bq ix fs) cD/\∀t,iH (cD t) (bq ix fs)) (vk:∀j∈is,ix[j]?=ap bm) (hr:∀l,SF X K x0 (fs.set i (ap (.ol bm l))) rest (kk l) out)
  (oG:im (.ListComp Å [⟨tg,iter,[c],0⟩] sc pos) (ap (.Name y px)) kH.line X.env=pure true:=by rfl) (hs:uN X iter:=by intro _;rfl) :
  SF X K x0 fs (.Assign [.Name y px] (.ListComp Å [⟨tg,iter,[c],0⟩] sc pos) kH::rest) (.bind (.bind wl λl=>mJ l λp=>.bind (wt p) λt=>PF (tf t) (te t)) kk) out:=SF.Oy hc hN yu hx S hi hg (λcl C s2 H2 fp t=>yQ (hf cl C s2 H2 fp t)) he (λ_=>rfl) hl vk hr oG hs
end
def abZ {f:ce} (h:∀vs H Q E,¬sp vs H Q E):jq P w K mg base mT k f fd ps sp:=⟨λvs H Q E q=>(h _ _ _ _ q).elim,λA outer s H args us vs Q E _ _ _ _ q=>(h _ _ _ _ q).elim⟩
def Sa {m:UZ (List PV) n} (h:∀l Q,l.length=n->¬(cq n m l).run Q):∀vs H Q E,¬fD K ks (cq n m) vs H Q E:=λvs H Q E ⟨l,_,q⟩=>h l _ (lL q) q
theorem aW (hr:cO k A):A.units+200 < o0:=by have:=hr.un;omega
end
end FL
variable {m:List PL.PV}
namespace FL
section
open PySem PySem.Spec PyProof.Rows L2 PL
variable {K:Ab}
mutual
def PV.iB:PV->Bool
 | .tup l=>fo l
 | .cl l=>fo l
 | .ref _=>false
 | .ty _=>false
 | .dv _ _=>false
 | _=>true
def fo:List PV->Bool
 | []=>true
 | x::l=>PV.iB x&&fo l
end
mutual
def PV.fq:PV->Nat
 | .tup l=>dU l+1
 | .cl l=>dU l+1
 | _=>0
def dU:List PV->Nat
 | []=>0
 | x::l=>max (PV.fq x) (dU l)
end
mutual
def kE:PV->PV->Bool
 | .aG,.aG=>true
 | .bl a,.bl b=>a==b
 | .bl a,.int b=>(if a then 1 else 0)==b
 | .int a,.bl b=>a==(if b then 1 else 0)
 | .int a,.int b=>a==b
 | .str a,.str b=>a==b
 | .tup l,.tup m=>eF l m
 | .cl l,.cl m=>eF l m
 | _,_=>false
def eF:List PV->List PV->Bool
 | [],[]=>true
 | x::l,y::m=>kE x y&&eF l m
 | _,_=>false
end
theorem uf:∀{l:List PV}{j:Nat}{x:PV},fo l=true->l[j]?=ap x->PV.iB x=true
 | [],_,_,_,e=>by simp at e
 | y::l,0,x,h,e=>by
  simp at e;subst e;rw [fo,AL] at h;exact h.1
 | y::l,j+1,x,h,e=>by
  rw [fo,AL] at h;exact uf h.2 (by simpa using e)
theorem wC:∀{l:List PV}{j:Nat}{x:PV},l[j]?=ap x->PV.fq x<=dU l
 | [],_,_,e=>by simp at e
 | y::l,0,x,e=>by
  simp at e;subst e;rw [dU];omega
 | y::l,j+1,x,e=>by
  have:=wC (l:=l) (j:=j) (x:=x) (by simpa using e);rw [dU];omega
mutual
theorem QH:∀(x:PV),PV.iB x=true->kE x x=true
 | .aG,_=>by rw [kE]
 | .bl b,_=>by rw [kE];simp
 | .int i,_=>by rw [kE];simp
 | .str i,_=>by rw [kE];simp
 | .tup l,h=>by rw [kE];exact lZ l (by rw [PV.iB] at h;exact h)
 | .cl l,h=>by rw [kE];exact lZ l (by rw [PV.iB] at h;exact h)
 | .ref _,h=>by rw [PV.iB] at h;cases h
 | .ty _,h=>by rw [PV.iB] at h;cases h
 | .dv _ _,h=>by rw [PV.iB] at h;cases h
theorem lZ:∀(l:List PV),fo l=true->eF l l=true
 | [],_=>by rw [eF]
 | x::l,h=>by
  rw [fo,AL] at h;rw [eF,QH x h.1,lZ l h.2];rfl
end
def QQ (l m:List PV) (j:Nat):Bool:=match l[j]?,m[j]? with | some x,ap y=>kE x y | _,_=>true
theorem oT:∀(l m:List PV),((AJ (min l.length m.length)).all (QQ l m)&&l.length==m.length)=eF l m
 | [],[]=>by rw [eF];rfl
 | [],_::_=>by
  rw [eF]
  ·simp
  ·intros;simp_all
  ·intros;simp_all
 | _::_,[]=>by
  rw [eF]
  ·simp
  ·intros;simp_all
  ·intros;simp_all
 | x::l,y::m=>by
  rw [eF,<- oT l m];have e:min (x::l).length (y::m).length=min l.length m.length+1:=by simp only [Aq];omega
  rw [e,List.range_succ_eq_map,List.all_cons,Fw];have e2:((x::l).length==(y::m).length)=(l.length==m.length):=by simp
  rw [e2,Bool.and_assoc];rfl
def QE (h:l.length≠m.length):eF l m=false:=by
 rw [<- oT];have:(l.length==m.length)=false:=by simpa using h
 rw [this,D7]
section
mutual
theorem VR.QB (I:Inv X À σ H s):∀{v:V}{x y:PV},VR X.K [] H v x->VR X.K [] H v y->x=y
 | _,_,_,.aG,h=>by cases h;rfl
 | _,_,_,.bl b,h=>by cases h;rfl
 | _,_,_,.int b,h=>by cases h;rfl
 | _,_,_,.str b,h=>by cases h;rfl
 | _,_,_,.ty b,h=>by cases h;rfl
 | _,_,_,.ref e,h=>by simp at e
 | _,_,_,.tup e r,h=>by
  cases h with
  | tup e' r'=>
   have ee:=I.lN (dX.of e) (dX.of e');subst ee;rw [aE.QB I r r']
  | ref e=>simp at e
  | cl e' r'=>
   obtain⟨ar,_,⟨o,n,h1,h2,_⟩,_⟩:=I.list e'.sq;obtain⟨its',_,⟨o',gZ,rS,_⟩,_⟩:=I.tuple (dX.of e);rw [h1] at gZ;cases gZ;rw [h2] at rS;simp at rS
  | dk e' _ _=>rw [e] at e';cases e'
  | dt e' _ _=>rw [e] at e';cases e'
 | _,_,_,.dk e k r,h=>by
  cases h with
  | dk e' k' r'=>rw [e] at e';cases e';rw [k,k',aE.QB I r r']
  | dt e' _ _=>rw [e] at e';cases e'
  | ref e=>simp at e
  | tup e' _=>rw [e] at e';cases e'
  | cl e' r'=>
   obtain⟨ar,_,⟨o,n,h1,h2,_⟩,_⟩:=I.list e'.sq;obtain⟨_,_,vs,_,o',_,_,gZ,rS,_⟩:=wL I.bA (.inr ⟨_,e⟩);rw [h1] at gZ;cases gZ;have h3:=rS.1;rw [h2] at h3;simp at h3
 | _,_,_,.dt e k r,h=>by
  cases h with
  | dt e' k' r'=>rw [e] at e';cases e';rw [k,k',aE.QB I r r']
  | dk e' _ _=>rw [e] at e';cases e'
  | ref e=>simp at e
  | tup e' _=>rw [e] at e';cases e'
  | cl e' r'=>
   obtain⟨ar,_,⟨o,n,h1,h2,_⟩,_⟩:=I.list e'.sq;obtain⟨_,_,vs,_,o',_,_,gZ,rS,_⟩:=wI I.bA (.inr ⟨_,e⟩);rw [h1] at gZ;cases gZ;have h3:=rS.1;rw [h2] at h3;simp at h3
 | _,_,_,.cl e r,h=>by
  cases h with
  | dk e' _ _=>
   obtain⟨ar,_,⟨o,n,h1,h2,_⟩,_⟩:=I.list e.sq;obtain⟨_,_,vs,_,o',_,_,gZ,rS,_⟩:=wL I.bA (.inr ⟨_,e'⟩);rw [h1] at gZ;cases gZ;have h3:=rS.1;rw [h2] at h3;simp at h3
  | dt e' _ _=>
   obtain⟨ar,_,⟨o,n,h1,h2,_⟩,_⟩:=I.list e.sq;obtain⟨_,_,vs,_,o',_,_,gZ,rS,_⟩:=wI I.bA (.inr ⟨_,e'⟩);rw [h1] at gZ;cases gZ;have h3:=rS.1;rw [h2] at h3;simp at h3
  | cl e' r'=>
   obtain⟨ar,k,⟨o,n,h1,h2,h3,h4⟩,_⟩:=I.list e.sq;obtain⟨its',k',⟨o',n',gZ,rS,Qt,Yg⟩,_⟩:=I.list e'.sq;rw [h1] at gZ;cases gZ;rw [h4] at Yg;have:ar=its':=by injection Yg with a b;simpa using a
   subst this;have ee:=Vals.inj k k';subst ee;rw [aE.QB I r r']
  | ref e=>simp at e
  | tup e' r'=>
   obtain⟨ar,_,⟨o,n,h1,h2,_⟩,_⟩:=I.list e.sq;obtain⟨its',_,⟨o',gZ,rS,_⟩,_⟩:=I.tuple (dX.of e');rw [h1] at gZ;cases gZ;rw [h2] at rS;simp at rS
theorem aE.QB (I:Inv X À σ H s):∀{v:List V}{x y:List PV},aE X.K [] H v x->aE X.K [] H v y->x=y
 | _,_,_,.nil,h=>by cases h;rfl
 | _,_,_,.cons r t,h=>by
  cases h with
  | cons r' t'=>rw [VR.QB I r r',aE.QB I t t']
end
structure Cmp (A:nn) (s:cr) (w w':bn) (b:Bool):Prop where
 rc:SeqAt.RcAt A s w w' b
 ne:SeqAt.RcNeAt A s w w' (!b)
 eq:Dh A s w w' b
def ab9 (I:Inv X À σ H s) {ws:List V} (r:Vals vs ar) (r':Vals ws its') (r1:aE X.K [] H vs l) (r2:aE X.K [] H ws m)
  (ih:∀(j:Nat) (x y:PV) (v v':V) (w w':bn),l[j]?=ap x->m[j]?=ap y->VR X.K [] H v x->VR X.K [] H v' y->RelV v w->RelV v' w'->Dh A s w w' (kE x y)) :
  ∀j (g1:j < ar.toArray.size) (g2:j < its'.toArray.size),Dh A s ar.toArray[j] its'.toArray[j] (QQ l m j):=λj g1 g2=>by
 have h1:j < ar.length:=by simpa using g1
 have h2:j < its'.length:=by simpa using g2
 have hl:j < l.length:=by rw [<- r1.length,r.length];exact h1
 have hm:j < m.length:=by rw [<- r2.length,r'.length];exact h2
 obtain⟨v,v1,v2⟩:=r1.get (Ad hl);obtain⟨v',Wb,v2'⟩:=r2.get (Ad hm);obtain⟨u,u1,u2⟩:=r.get v1;obtain⟨u',u1',u2'⟩:=r'.get Wb;rw [Ad h1] at u1;rw [Ad h2] at u1';cases u1;cases u1';unfold QQ;rw [Ad hl,Ad hm];have:=ih j _ _ v v' _ _ (Ad hl) (Ad hm) v2 v2' u2 u2';simpa using this
inductive Sh (X:Cx) (H:Hp) (s:cr):PV->bn->Prop
 | aG:Sh X H s .aG .none
 | bl (b:Bool):Sh X H s (.bl b) (.bool b)
 | int (i:Int) (t:Tok):Sh X H s (.int i) (.int i t)
 | str (x:Str) (t:Tok):Sh X H s (.str x) (.str x t)
 | tup {p:ce}{vs:List V}{ar:List bn}{l:List PV} (e:VR X.K [] H (.ref p) (.tup l)) (k:Vals vs ar) (r:aE X.K [] H vs l) (h:s.heap.IsTuple p ar.toArray):Sh X H s (.tup l) (.ref p)
 | cl {p:ce}{vs:List V}{ar:List bn}{l:List PV} (e:VR X.K [] H (.ref p) (.cl l)) (k:Vals vs ar) (r:aE X.K [] H vs l) (h:s.heap.IsList p ar.toArray):Sh X H s (.cl l) (.ref p)
def Sh.of (I:Inv X À σ H s) {v:V}{x:PV}{w:bn} (h:VR X.K [] H v x) (r:RelV v w) (d:PV.iB x=true):Sh X H s x w:=by
 cases h with
 | ref e=>simp at e
 | aG=>cases r;exact .aG
 | bl a=>cases r;exact .bl a
 | int a=>obtain⟨t,rfl⟩:=r;exact .int a t
 | str a=>obtain⟨t,rfl⟩:=r;exact .str a t
 | tup e q=>
  cases r;obtain⟨ar,k,ht,_⟩:=I.tuple (dX.of e);exact .tup (.tup e q) k q ht
 | cl e q=>
  cases r;obtain⟨ar,k,pl,_⟩:=I.list e.sq;exact .cl (.cl e q) k q pl.isList
 | _=>rw [PV.iB] at d;cases d
set_option maxHeartbeats 8000000 in
theorem YH (hK:X.K=K) (I:Inv X À σ H s):∀(n:Nat) (x y:PV) (A:nn) (v v':V) (w w':bn),PV.fq x<=n->PV.iB x=true->PV.iB y=true->VR K [] H v x->VR K [] H v' y->RelV v w->RelV v' w'->A.units+n+1 < o0->Cmp A s w w' (kE x y):=by
 subst hK;intro n
 induction n using EN with
 | ind n ih=>
 intro x y A v v' w w' hd dx dy hv hv' r1 r2 hu;have a:=Sh.of I hv r1 dx;have b:=Sh.of I hv' r2 dy;clear hv hv' r1 r2;have el:∀{l m:List PV}{vs ws:List V}{ar cT:List bn},fo l=true->fo m=true->dU l < n->Vals vs ar->Vals ws cT->aE X.K [] H vs l->aE X.K [] H ws m->ar.toArray.size=l.length/\cT.toArray.size=m.length/\∀j (g1:j < ar.toArray.size) (g2:j < cT.toArray.size),Dh A.in1 s ar.toArray[j] cT.toArray[j] (QQ l m j):=λd1 d2 hd k1 k2 r r'=>⟨by rw [Ai,<- k1.length,r.length],by rw [Ai,<- k2.length,r'.length],ab9 I (A:=A.in1) k1 k2 r r' λj x y v v' w w' hx hy vx vy rx ry=>(ih _ hd x y A.in1 v v' w w' (wC hx) (uf d1 hx) (uf d2 hy) vx vy rx ry (by show A.units+1+_+1 < _;omega)).eq⟩;have fin:∀{pa pb:ce}{l m:List PV},(pa=pb->l=m)->fo l=true->SeqAt.RcAt A s (.ref pa) (.ref pb) (eF l m)->Dh A s (.ref pa) (.ref pb) (eF l m):=λ{pa pb l m} h d q=>by
  by_cases Qr:pa=pb
  ·rw [h Qr,lZ _ (h Qr▸d),Qr];exact FE _
  ·exact Fs Qr q
 cases a <;> cases b
 case tup.tup pa vs ar l e k r ht pb ws cT m e2 k2 r2 Jj=>
  rw [PV.fq] at hd;obtain⟨z1,z2,ie⟩:=el dx dy ∅ k k2 r r2;have q1:=Fu ht Jj (A:=A) ∅ ie;have q2:=SeqAt.RcNeAt.tuples ht Jj (A:=A) ∅ ie;rw [z1,z2,oT] at q1 q2;exact⟨q1,q2,fin (λz=>by subst z;have:=VR.QB I e e2;injection this) dx q1⟩
 case cl.cl pa vs ar l e k r ht pb ws cT m e2 k2 r2 Jj=>
  rw [PV.fq] at hd;obtain⟨z1,z2,ie⟩:=el dx dy ∅ k k2 r r2;by_cases hz:l.length=m.length
  ·have q1:=FA ht Jj (by rw [z1,z2];exact hz) (A:=A) ∅ ie;have q2:=Fq ht Jj (by rw [z1,z2];exact hz) (A:=A) ∅ ie;have ef:(AJ l.length).all (QQ l m)=eF l m:=by rw [<- oT,hz,Nat.min_self,beq_self_eq_true,Bool.and_true]
   rw [z1,ef] at q1 q2;exact⟨q1,q2,fin (λz=>by subst z;have:=VR.QB I e e2;injection this) dx q1⟩
  ·have q1:=Eg (A:=A) ht Jj (by rw [z1,z2];simpa using hz) ∅;have q2:=DT (A:=A) ht Jj (by rw [z1,z2];simpa using hz) ∅;have ef:=QE hz;rw [<- ef] at q1;have q2:SeqAt.RcNeAt A s (.ref pa) (.ref pb) (!eF l m):=by rw [ef];exact q2
   exact⟨q1,q2,fin (λz=>by subst z;have:=VR.QB I e e2;injection this) dx q1⟩
 all_goals
  clear ih el fin;rw [kE] <;> try (intros;simp_all;done)
  refine⟨?_,?_,?_⟩ <;> (try simp only [El,Fb]) <;> first | with_reducible exact .none_none | with_reducible exact .none_bool _ | with_reducible exact .none_int _ _ | with_reducible exact .none_str _ _ | with_reducible exact .none_tuple ‹_› ∅ | with_reducible exact .none_list ‹_› ∅ | with_reducible exact .bool_none _ | with_reducible exact .bool_str _ _ _ | with_reducible exact .bool_tuple _ ‹_› ∅ | with_reducible exact .bool_list _ ‹_› ∅ | with_reducible exact .int_none _ _ | with_reducible exact .int_str _ _ _ _ | with_reducible exact .int_tuple _ _ ‹_› ∅ | with_reducible exact .int_list _ _ ‹_› ∅ | with_reducible exact .str_none _ _ | with_reducible exact .str_bool _ _ _ | with_reducible exact .str_int _ _ _ _ | with_reducible exact .str_tuple _ _ ‹_› ∅ | with_reducible exact .str_list _ _ ‹_› ∅ | with_reducible exact .tuple_none ‹_› ∅ | with_reducible exact .tuple_bool _ ‹_› ∅ | with_reducible exact .tuple_int _ _ ‹_› ∅ | with_reducible exact .tuple_str _ _ ‹_› ∅ | with_reducible exact .tuple_list ‹_› ‹_› ∅ | with_reducible exact .list_none ‹_› ∅ | with_reducible exact .list_bool _ ‹_› ∅ | with_reducible exact .list_int _ _ ‹_› ∅ | with_reducible exact .list_str _ _ ‹_› ∅ | with_reducible exact .list_tuple ‹_› ‹_› ∅ | exact .same _ | exact .bool_bool _ _ | exact .bool_int _ _ _ | exact .int_bool _ _ _ | exact .int_int _ _ _ _ | exact .str_str _ _ _ _
end
end
section
open PySem PySem.Spec PyProof.Rows L2 PL
variable {K:Ab}
mutual
theorem VR.og {ι:List ce}{H:Hp}:∀{v:V}{q:PV},VR K ι H v q->PV.iB q=true->VR K [] H v q
 | _,_,.aG,_=>.aG
 | _,_,.bl b,_=>.bl b
 | _,_,.int i,_=>.int i
 | _,_,.str x,_=>.str x
 | _,_,.ty n,h=>by rw [PV.iB] at h;cases h
 | _,_,.dk _ _ _,h=>by rw [PV.iB] at h;cases h
 | _,_,.dt _ _ _,h=>by rw [PV.iB] at h;cases h
 | _,_,.tup e r,h=>.tup e (aE.og r (by rw [PV.iB] at h;exact h))
 | _,_,.cl e r,h=>.cl e (aE.og r (by rw [PV.iB] at h;exact h))
 | _,_,.ref e,h=>by rw [PV.iB] at h;cases h
theorem aE.og {ι:List ce}{H:Hp}:∀{v:List V}{q:List PV},aE K ι H v q->fo q=true->aE K [] H v q
 | _,_,.nil,_=>.nil
 | _,_,.cons r s,h=>by
  rw [fo,AL] at h;exact .cons (VR.og r h.1) (aE.og s h.2)
end
def Jz (x y:PV):Prop:=PV.iB x=true/\PV.iB y=true/\PV.fq x<=150
def fg:M2:=⟨λx y h Q=>Jz x y/\Q (.bl (kE x y)) h,λf q=>⟨q.1,f _ _ q.2⟩⟩
def Iy:M2:=⟨λx y h Q=>Jz x y/\Q (.bl (!kE x y)) h,λf q=>⟨q.1,f _ _ q.2⟩⟩
def Sr (K:Ab) (neg:Bool):R2:=λu v H Q=>∃x y,VR K [] H u x/\VR K [] H v y/\Jz x y/\Q (.bl (if neg then !kE x y else kE x y)) H
section
theorem Xh (hK:X.K=K) (hu:X.A.units+200 < o0):iW X (lw .Eq) (Sr K false):=λÀ s σ H u v w w' Q I r1 r2 ⟨x,y,h1,h2,⟨o1,o2,o3⟩,q⟩=>by
 exact EK (YH hK I 150 x y X.A u v w w' o3 o1 o2 h1 h2 r1 r2 ∅).rc ⟨.bl _,H,I,rfl,q⟩
theorem Xe (hK:X.K=K) (hu:X.A.units+200 < o0):iW X (lw .NotEq) (Sr K true):=λÀ s σ H u v w w' Q I r1 r2 ⟨x,y,h1,h2,⟨o1,o2,o3⟩,q⟩=>by
 exact Ec (YH hK I 150 x y X.A u v w w' o3 o1 o2 h1 h2 r1 r2 ∅).ne ⟨.bl _,H,I,rfl,q⟩
def S9:M2.Ok K (Sr K false) fg:=λ{ι H h u v x y Q} hr hu hv q=>⟨x,y,VR.og hu q.1.1,VR.og hv q.1.2.1,q.1,q.2 ι _ H (Go.refl _ _) hr (.bl _)⟩
def S6:M2.Ok K (Sr K true) Iy:=λ{ι H h u v x y Q} hr hu hv q=>⟨x,y,VR.og hu q.1.1,VR.og hv q.1.2.1,q.1,q.2 ι _ H (Go.refl _ _) hr (.bl _)⟩
def fU (hK:X.K=K) (hu:X.A.units+200 < o0):JC X K .Eq b fg:=⟨⟨_,Xh hK hu,S9⟩,jE _⟩
def Vu (hK:X.K=K) (hu:X.A.units+200 < o0):JC X K .NotEq b Iy:=⟨⟨_,Xe hK hu,S6⟩,jE _⟩
end
end
end FL
variable {x:A5}{b b1:Bool}{ys:Array A5}{z i1 i2 a1 a2:BC}{k1:Nat}
namespace L2
open PySem PySem.Spec PyProof.Rows
def uI (b:Bool) (h:lf) (it a:ce) (k:Nat):Prop:=match b with
 | true=>h.IsListIter it a k
 | false=>h.IsTupleIter it a k
def iU (b:Bool) (h:lf) (a:ce) (xs:Array bn):Prop:=match b with
 | true=>h.IsList a xs
 | false=>h.IsTuple a xs
def uI.move (x:uI b h it a k) (g:∀o,h.get? it=ap o->h'.get? it=ap o):uI b h' it a k:=by
 cases b with
 | true=>obtain⟨o,e,p⟩:=(show h.IsListIter it a k from x);exact (show h'.IsListIter it a k from⟨o,g o e,p⟩)
 | false=>obtain⟨o,e,p⟩:=(show h.IsTupleIter it a k from x);exact (show h'.IsTupleIter it a k from⟨o,g o e,p⟩)
def iU.move (x:iU b h a xs) (g:∀o,h.get? a=ap o->h'.get? a=ap o):iU b h' a xs:=by
 cases b with
 | true=>obtain⟨o,e,p⟩:=(show h.IsList a xs from x);exact (show h'.IsList a xs from⟨o,g o e,p⟩)
 | false=>obtain⟨o,e,p⟩:=(show h.IsTuple a xs from x);exact (show h'.IsTuple a xs from⟨o,g o e,p⟩)
def uI.obj (x:uI b h it a k):∃o,h.get? it=ap o/\∀v,o.data≠.cell v:=by
 cases b with
 | true=>obtain⟨o,e,_,d⟩:=(show h.IsListIter it a k from x);exact⟨o,e,λv z=>by rw [d] at z;cases z⟩
 | false=>obtain⟨o,e,_,d⟩:=(show h.IsTupleIter it a k from x);exact⟨o,e,λv z=>by rw [d] at z;cases z⟩
def iU.lt (x:iU b h a xs):a < h.objs.size:=by
 cases b with
 | true=>obtain⟨o,e,p⟩:=(show h.IsList a xs from x);exact Ar e
 | false=>obtain⟨o,e,p⟩:=(show h.IsTuple a xs from x);exact Ar e
section
def kU {t:ce} (h:uI b s.heap it t i) (ht:iU b s.heap t items) (hx:items[i]?=ap x)
  (q:∀h':lf,uI b h' it t (i+1)->B9 it s.heap h'->Q x {s with heap:=h'}):db (dL prog w) A (Builtin.SmallTypes.nextOf (.ref it)) Q E s:=by
 cases b with
 | true=>exact wpAny_nextOf_list_item h ht hx λh' a b=>q h' a b
 | false=>exact iy h ht hx q
def tj {t:ce} (hA:A.handled=bm) (h:uI b s.heap it t i) (ht:iU b s.heap t items) (hx:items[i]?=bm)
  (q:∀(h':lf) (e:ce),FD it s.heap h'->(∃o,h'.get? e=ap o/\o.cls=.type "StopIteration")->E (.ref e) {s with heap:=h'}):db (dL prog w) A (Builtin.SmallTypes.nextOf (.ref it)) Q E s:=by
 cases b with
 | true=>exact wpAny_nextOf_list_end hA h ht hx λh' e a b=>q h' e a b
 | false=>exact i9 hA h ht hx q
def MX:Bool->String
 | true=>"list_iterator"
 | false=>"tuple_iterator"
def vQ (h:iU b s.heap a xs) (q:Q (.ref s.heap.objs.size) {s with heap:=s.heap.push {cls:=.type (MX b),data:=.fields #[.ref a,.int 0 0]}}):db (dL prog w) A (pyIter (.ref a)) Q E s:=by
 cases b with
 | true=>exact CG h q
 | false=>exact D1 h q
def Ky (e:h.get? it=ap {cls:=.type (MX b),data:=.fields #[.ref a,.int 0 0]}):uI b h it a 0:=by
 cases b with
 | true=>exact (show h.IsListIter it a 0 from⟨_,e,rfl,rfl⟩)
 | false=>exact (show h.IsTupleIter it a 0 from⟨_,e,rfl,rfl⟩)
end
structure kh (b1 b2:Bool) (h:lf) (z TI TO i1 i2 a1 a2:ce) (f0:bn) (k1 k2:Nat):Prop where
 zip:IsZip h z TI TO f0
 ti:IsPair h TI (.ref i1) (.ref i2)
 to:∃a b,IsPair h TO a b
 it1:uI b1 h i1 a1 k1
 it2:uI b2 h i2 a2 k2
def se {E:bn->cr->Prop}{b2:Bool}{TI TO:ce}{y:bn} (hA:ZipApart z TI TO i1 i2 a1 a2)
  (hz:kh b1 b2 s.heap z TI TO i1 i2 a1 a2 .none k1 k2) (VA:iU b1 s.heap a1 xs) (Jj:iU b2 s.heap a2 ys) (hx:xs[k1]?=ap x) (hy:ys[k2]?=ap y)
  (q:∀h':lf,kh b1 b2 h' z TI TO i1 i2 a1 a2 (t0 s.heap.objs.size) (k1+1) (k2+1)->IsPair h' s.heap.objs.size x y->(∀c o,c≠z->c≠TO->c≠i1->c≠i2->s.heap.get? c=ap o->h'.get? c=ap o)->Q (.ref s.heap.objs.size) {s with heap:=h'}) :
  db (dL prog w) A (v4.«zip.__next__» {pos:=[.ref z]}) (λfin s'=>∃v,fin=E2 (FG v)/\Q v s') E s:=by
 obtain⟨hz,T3,⟨ta,tb,Ĭ⟩,ĕ,Zg⟩:=hz;show db _ _ (field (.ref z) 2 >>= λr=>_) _ _ s;refine Aa (AY hz rfl rfl ?_);refine Aa (AY hz rfl rfl ?_);refine Aa (Bs T3 rfl ?_);refine Aa ?_;refine Aa (AY hz rfl rfl ?_);refine Ae ?_;refine Aa (CM ?_);refine Aa (AY hz rfl rfl ?_);show db _ _ (ww (.ref z) 0 .ellipsis >>= λr=>_) _ _ s;refine Aa (A3 hz (show 0 < 5 by decide) λh1 z1 b1=>?_);show db _ _ ((forIn [(Ay i1,0),(Ay i2,1)] _ _) >>= λr=>_) _ _ _;refine Aa ?_;rw [BQ];have vm:=b1.2;refine Aa ?_;refine Aa (Ei ?_);refine Aa (kU (ĕ.move λo e=>(vm _ hA.i1z).trans e) (VA.move λo e=>(vm _ hA.l1z).trans e) hx λh2 j2 b2=>Ae ?_);have Qu:∀b,b≠z->b≠i1->h2.get? b=s.heap.get? b:=λb n1 n2=>(b2.2 b n2).trans (vm b n1);have á:=(Qu _ hA.TOz hA.TOi1).trans Ĭ;refine Aa (Bs á rfl ?_);refine Aa (Dv á λh3 t3 b3=>?_);have Î:∀b,b≠z->b≠i1->b≠TO->h3.get? b=s.heap.get? b:=λb n1 n2 n3=>(b3.2 b n3).trans (Qu b n1 n2);refine Aa (Ct (Ae ?_));show db _ _ (forIn [(Ay i2,1)] _ _) _ _ _;rw [BQ];refine Aa ?_;refine Aa (Ei ?_);refine Aa (kU (Zg.move λo e=>(Î _ hA.i2z hA.i12.symm hA.TOi2.symm).trans e) (Jj.move λo e=>(Î _ hA.l2z hA.l2i1 hA.l2TO).trans e) hy λh4 j4 b4=>Ae ?_);have to4:=(b4.2 _ hA.TOi2).trans t3;refine Aa (Bs to4 rfl ?_);refine Aa (Dv to4 λh5 t5 b5=>?_);have to5:=t5;refine Aa (Ct (Ae ?_));refine Ae ?_;refine Aa (Bs to5 rfl ?_);have ġ:=b5.1.trans (b4.1.trans (b3.1.trans (b2.1.trans b1.1)));refine Aa (CN ?_ (by show 2<=sizeLine;decide));have abP:∀b,b≠z->b≠i1->b≠TO->b≠i2->h5.get? b=s.heap.get? b:=λb n1 n2 n3 n4=>(b5.2 b n3).trans ((b4.2 b n4).trans (Î b n1 n2 n3));have z5:h5.get? z=ap {cls:=.type "zip",data:=.fields #[.ellipsis,.bool false,.bool false,.ref TI,.ref TO]}:=(b5.2 _ hA.TOz.symm).trans ((b4.2 _ hA.i2z.symm).trans ((b3.2 _ hA.TOz.symm).trans ((b2.2 _ hA.i1z.symm).trans z1)));have kp:∀b o,h5.get? b=ap o->(h5.push {cls:=.type "tuple",data:=.seq #[x,y]}).get? b=ap o:=λb o e=>Ag _ e;have aeP:(h5.push {cls:=.type "tuple",data:=.seq #[x,y]}).get? h5.objs.size=ap {cls:=.type "tuple",data:=.seq #[x,y]}:=Ap _ rfl;refine Aa ?_;show db _ _ (ww (.ref z) 0 (t0 h5.objs.size) >>= λ_=>ww (.ref z) 1 (.bool false)) _ _ _;refine Aa (A3 (kp _ _ z5) (show 0 < 5 by decide) λh7 z7 b7=>?_);refine A3 z7 (show 1 < 5 by decide) λh8 z8 b8=>?_;have Nb:∀b,b≠z->h8.get? b=(h5.push {cls:=.type "tuple",data:=.seq #[x,y]}).get? b:=λb n=>(b8.2 b n).trans (b7.2 b n);have nz:s.heap.objs.size≠z:=λe=>by have:=Ar hz;rw [<- e] at this;exact AX _ this
 refine Ae ⟨.ref h5.objs.size,rfl,?_⟩;rw [ġ];refine q h8 ⟨?_,?_,?_,?_,?_⟩ ?_ ?_
 ·rw [<- ġ];exact z8
 ·rw [IsPair,Nb _ hA.TIz];exact kp _ _ ((abP _ hA.TIz hA.TIi1 hA.TITO hA.TIi2).trans T3)
 ·exact⟨x,y,by rw [IsPair,Nb _ hA.TOz];exact kp _ _ to5⟩
 ·refine j2.move λo e=>?_;rw [Nb _ hA.i1z];exact kp _ _ ((b5.2 _ hA.TOi1.symm).trans ((b4.2 _ hA.i12).trans ((b3.2 _ hA.TOi1.symm).trans e)))
 ·refine j4.move λo e=>?_;rw [Nb _ hA.i2z];exact kp _ _ ((b5.2 _ hA.TOi2.symm).trans e)
 ·rw [IsPair,Nb _ nz,<- ġ];exact aeP
 ·intro c o n1 n2 n3 n4 e;rw [Nb _ n1];exact kp _ _ ((abP _ n1 n3 n2 n4).trans e)
def uO {b2:Bool}{TI TO:ce}{Q:PySem.Fin->cr->Prop} (hh:A.handled=bm) (hA:ZipApart z TI TO i1 i2 a1 a2)
  (hz:kh b1 b2 s.heap z TI TO i1 i2 a1 a2 .none k1 k2) (VA:iU b1 s.heap a1 xs) (Jj:iU b2 s.heap a2 ys) (hx:xs[k1]?=bm\/ys[k2]?=bm)
  (q:∀(h':lf) (e:ce),(∀c o,c≠z->c≠TO->c≠i1->c≠i2->s.heap.get? c=ap o->h'.get? c=ap o)->(∃o,h'.get? e=ap o/\o.cls=.type "StopIteration")->E (.ref e) {s with heap:=h'}) :
  db (dL prog w) A (v4.«zip.__next__» {pos:=[.ref z]}) Q E s:=by
 obtain⟨hz,T3,⟨ta,tb,Ĭ⟩,ĕ,Zg⟩:=hz;show db _ _ (field (.ref z) 2 >>= λr=>_) _ _ s;refine Aa (AY hz rfl rfl ?_);refine Aa (AY hz rfl rfl ?_);refine Aa (Bs T3 rfl ?_);refine Aa ?_;refine Aa (AY hz rfl rfl ?_);refine Ae ?_;refine Aa (CM ?_);refine Aa (AY hz rfl rfl ?_);show db _ _ (ww (.ref z) 0 .ellipsis >>= λr=>_) _ _ s;refine Aa (A3 hz (show 0 < 5 by decide) λh1 z1 b1'=>?_);show db _ _ ((forIn [(Ay i1,0),(Ay i2,1)] _ _) >>= λr=>_) _ _ _;refine Aa ?_;rw [BQ];have vm:=b1'.2;refine Aa ?_;refine Aa (Ei ?_);have fin:∀{h2:lf}{e:ce},h2.get? z=ap {cls:=.type "zip",data:=.fields #[.ellipsis,.bool false,.bool false,.ref TI,.ref TO]}->(∃o,h2.get? e=ap o/\o.cls=.type "StopIteration")->(∀c o,c≠z->c≠TO->c≠i1->c≠i2->s.heap.get? c=ap o->h2.get? c=ap o)->db (dL prog w) A (ww (.ref z) 0 .none) (λ_ s'=>E (.ref e) s') (λ_ _=>True) {s with heap:=h2}:=λ{h2 e} z2 ex k=>by
  refine A3 z2 (show 0 < 5 by decide) λh3 z3 b3=>?_;refine q h3 e (λc o n1 n2 n3 n4 ec=>?_) ?_
  ·rw [b3.2 _ n1];exact k c o n1 n2 n3 n4 ec
  ·obtain⟨o,eo,hc⟩:=ex;by_cases he:e=z
   ·subst he;rw [z2] at eo;cases eo;exact absurd (show BU "zip"=BU "StopIteration" from hc) ⋯
   ·exact⟨o,(b3.2 _ he).trans eo,hc⟩
 cases hx1:xs[k1]? with
 | none=>
  refine Aa (tj hh (ĕ.move λo e=>(vm _ hA.i1z).trans e) (VA.move λo e=>(vm _ hA.l1z).trans e) hx1 λh2 e k ex=>?_);have z2:h2.get? z=ap {cls:=.type "zip",data:=.fields #[.ellipsis,.bool false,.bool false,.ref TI,.ref TO]}:=k _ _ hA.i1z.symm z1;refine A3 z2 (show 0 < 5 by decide) λh3 z3 b3=>?_;refine q h3 e (λc o n1 n2 n3 n4 ec=>?_) ?_
  ·rw [b3.2 _ n1];exact k _ _ n3 ((vm _ n1).trans ec)
  ·obtain⟨o,eo,hc⟩:=ex;by_cases he:e=z
   ·subst he;rw [z2] at eo;cases eo;exact absurd (show BU "zip"=BU "StopIteration" from hc) ⋯
   ·exact⟨o,(b3.2 _ he).trans eo,hc⟩
 | some x=>
  have hy:ys[k2]?=bm:=by
   rcases hx with h | h
   ·rw [hx1] at h;cases h
   ·exact h
  refine Aa (kU (ĕ.move λo e=>(vm _ hA.i1z).trans e) (VA.move λo e=>(vm _ hA.l1z).trans e) hx1 λh2 j2 Ĝ=>Ae ?_);have Qu:∀b,b≠z->b≠i1->h2.get? b=s.heap.get? b:=λb n1 n2=>(Ĝ.2 b n2).trans (vm b n1);have á:=(Qu _ hA.TOz hA.TOi1).trans Ĭ;refine Aa (Bs á rfl ?_);refine Aa (Dv á λh3 t3 b3=>?_);have Î:∀b,b≠z->b≠i1->b≠TO->h3.get? b=s.heap.get? b:=λb n1 n2 n3=>(b3.2 b n3).trans (Qu b n1 n2);refine Aa (Ct (Ae ?_));refine Aa ?_;refine Aa (Ei ?_);show db _ _ (Builtin.SmallTypes.nextOf (.ref i2) >>= λv=>pure (ap v)) _ _ _;refine Aa (tj hh (Zg.move λo e=>(Î _ hA.i2z hA.i12.symm hA.TOi2.symm).trans e) (Jj.move λo e=>(Î _ hA.l2z hA.l2i1 hA.l2TO).trans e) hy λh4 e k ex=>?_);have z4:h4.get? z=ap {cls:=.type "zip",data:=.fields #[.ellipsis,.bool false,.bool false,.ref TI,.ref TO]}:=k _ _ hA.i2z.symm ((b3.2 _ hA.TOz.symm).trans ((Ĝ.2 _ hA.i1z.symm).trans z1));refine A3 z4 (show 0 < 5 by decide) λh5 z5 b5=>?_;refine q h5 e (λc o n1 n2 n3 n4 ec=>?_) ?_
  ·rw [b5.2 _ n1];exact k _ _ n4 ((Î _ n1 n3 n2).trans ec)
  ·obtain⟨o,eo,hc⟩:=ex;by_cases he:e=z
   ·subst he;rw [z4] at eo;cases eo;exact absurd (show BU "zip"=BU "StopIteration" from hc) ⋯
   ·exact⟨o,(b5.2 _ he).trans eo,hc⟩
def pR {b2:Bool}{TI TO:ce}{y:bn}{Q:Option bn->cr->Prop} (hA:ZipApart z TI TO i1 i2 a1 a2)
  (hz:kh b1 b2 s.heap z TI TO i1 i2 a1 a2 .none k1 k2) (VA:iU b1 s.heap a1 xs) (Jj:iU b2 s.heap a2 ys) (hx:xs[k1]?=ap x) (hy:ys[k2]?=ap y)
  (q:∀h':lf,kh b1 b2 h' z TI TO i1 i2 a1 a2 (t0 s.heap.objs.size) (k1+1) (k2+1)->IsPair h' s.heap.objs.size x y->(∀c o,c≠z->c≠TO->c≠i1->c≠i2->s.heap.get? c=ap o->h'.get? c=ap o)->Q (ap (.ref s.heap.objs.size)) {s with heap:=h'}) :
  db (dL prog w) A (pyNext (.ref z)) Q E s:=by
 have ty:s.TypeIs (.ref z) "zip":=⟨_,hz.zip,rfl⟩;refine Aa (CZ (AU ty Dz (Bb Dz ty F.entry_zip_next ?_ (F.args_zip_next_1 _))));exact se hA hz VA Jj hx hy λh' a b c=>Ae (q h' a b c)
def qU {b2:Bool}{TI TO:ce}{Q:Option bn->cr->Prop} (hh:A.handled=bm) (hA:ZipApart z TI TO i1 i2 a1 a2)
  (hz:kh b1 b2 s.heap z TI TO i1 i2 a1 a2 .none k1 k2) (VA:iU b1 s.heap a1 xs) (Jj:iU b2 s.heap a2 ys) (hx:xs[k1]?=bm\/ys[k2]?=bm)
  (q:∀h':lf,(∀c o,c≠z->c≠TO->c≠i1->c≠i2->s.heap.get? c=ap o->h'.get? c=ap o)->Q bm {s with heap:=h'}) :
  db (dL prog w) A (pyNext (.ref z)) Q E s:=by
 have ty:s.TypeIs (.ref z) "zip":=⟨_,hz.zip,rfl⟩;refine Aa (CZ (AU ty Dz (Bb Dz ty F.entry_zip_next ?_ (F.args_zip_next_1 _))));refine uO (A:=A.in1) hh hA hz VA Jj hx λh' e k ex=>?_;obtain⟨o,eo,hc⟩:=ex;refine Aa (Dk (T:="StopIteration") ⟨o,eo,hc⟩ isSubtype_stop ?_);exact Ae (q h' k)
def tu (b1 b2:Bool) (a1 a2:ce) (xs ys:Array bn):Meets (v4.«zip.__new__» {pos:=[.type "zip",.ref a1,.ref a2]}) (λ_ R s=>iU b1 s.heap a1 xs/\iU b2 s.heap a2 ys/\
  ∀h':lf,kh b1 b2 h' (s.heap.objs.size+4) (s.heap.objs.size+2) (s.heap.objs.size+3) s.heap.objs.size (s.heap.objs.size+1) a1 a2 .none 0 0->(∀b o,s.heap.get? b=ap o->h'.get? b=ap o)->R (.ok (.ret (.ref (s.heap.objs.size+4)))) {s with heap:=h'}):=
 .of_wp λprog w A R s h=>by
  obtain⟨h1,h2,q⟩:=h;refine Aa ?_;refine Aa (Cs (a:=true) rfl ?_);refine Aa (Cs sub_zip ?_);refine Ae ?_;refine Aa ?_;refine Aa ?_;rw [BQ];refine Aa ?_;refine Aa (Bf (vQ h1 (Ae ?_)));have k1:∀b o,s.heap.get? b=ap o->(s.heap.push {cls:=.type (MX b1),data:=.fields #[.ref a1,.int 0 0]}).get? b=ap o:=λb o e=>Ag _ e;have g1:(s.heap.push {cls:=.type (MX b1),data:=.fields #[.ref a1,.int 0 0]}).get? s.heap.objs.size=ap {cls:=.type (MX b1),data:=.fields #[.ref a1,.int 0 0]}:=Ap _ rfl;have z1:(s.heap.push {cls:=.type (MX b1),data:=.fields #[.ref a1,.int 0 0]}).objs.size=s.heap.objs.size+1:=Cn ..;generalize s.heap.push {cls:=.type (MX b1),data:=.fields #[.ref a1,.int 0 0]}=yr at k1 g1 z1 ⊢;show db _ _ (forIn [Ay a2] _ _) _ _ _;rw [BQ];refine Aa ?_;refine Aa (Bf (vQ (xs:=ys) (h2.move λo e=>k1 _ _ e) (Ae ?_)));show db _ _ (forIn [] _ _) _ _ _;rw [List.forIn_nil];refine Ae (Ae ?_);have k2:∀b o,yr.get? b=ap o->(yr.push {cls:=.type (MX b2),data:=.fields #[.ref a2,.int 0 0]}).get? b=ap o:=λb o e=>Ag _ e;have g2:(yr.push {cls:=.type (MX b2),data:=.fields #[.ref a2,.int 0 0]}).get? yr.objs.size=ap {cls:=.type (MX b2),data:=.fields #[.ref a2,.int 0 0]}:=Ap _ rfl;have z2:(yr.push {cls:=.type (MX b2),data:=.fields #[.ref a2,.int 0 0]}).objs.size=yr.objs.size+1:=Cn ..;show db _ _ (newTuple [.ref s.heap.objs.size,.ref yr.objs.size] >>= λr=>_) _ _ {s with heap:=yr.push {cls:=.type (MX b2),data:=.fields #[.ref a2,.int 0 0]}};generalize yr.push {cls:=.type (MX b2),data:=.fields #[.ref a2,.int 0 0]}=yq at k2 g2 z2 ⊢;refine Aa (CN ?_ (by show 2<=sizeLine;decide));have k3:∀b o,yq.get? b=ap o->(yq.push {cls:=.type "tuple",data:=.seq [Ay s.heap.objs.size,Ay yr.objs.size].toArray}).get? b=ap o:=λb o e=>Ag _ e;have g3:(yq.push {cls:=.type "tuple",data:=.seq [Ay s.heap.objs.size,Ay yr.objs.size].toArray}).get? yq.objs.size=ap {cls:=.type "tuple",data:=.seq #[.ref s.heap.objs.size,.ref yr.objs.size]}:=Ap _ rfl;have z3:(yq.push {cls:=.type "tuple",data:=.seq [Ay s.heap.objs.size,Ay yr.objs.size].toArray}).objs.size=yq.objs.size+1:=Cn ..;show db _ _ (newTuple [.none,.none] >>= λr=>_) _ _ {s with heap:=yq.push {cls:=.type "tuple",data:=.seq [Ay s.heap.objs.size,Ay yr.objs.size].toArray}};generalize yq.push {cls:=.type "tuple",data:=.seq [Ay s.heap.objs.size,Ay yr.objs.size].toArray}=M5 at k3 g3 z3 ⊢;refine Aa (CN ?_ (by show 2<=sizeLine;decide));have k4:∀b o,M5.get? b=ap o->(M5.push {cls:=.type "tuple",data:=.seq [AR,AR].toArray}).get? b=ap o:=λb o e=>Ag _ e;have g4:(M5.push {cls:=.type "tuple",data:=.seq [AR,AR].toArray}).get? M5.objs.size=ap {cls:=.type "tuple",data:=.seq #[.none,.none]}:=Ap _ rfl;have z4:(M5.push {cls:=.type "tuple",data:=.seq [AR,AR].toArray}).objs.size=M5.objs.size+1:=Cn ..;show db _ _ (newObj (.type "zip") (.fields #[.none,.bool false,.bool false,.ref yq.objs.size,.ref M5.objs.size]) >>= λr=>_) _ _ {s with heap:=M5.push {cls:=.type "tuple",data:=.seq [AR,AR].toArray}};generalize M5.push {cls:=.type "tuple",data:=.seq [AR,AR].toArray}=Zc at k4 g4 z4 ⊢;refine Aa (AO ?_ (by simp [sizeOk];decide));have k5:∀b o,Zc.get? b=ap o->(Zc.push {cls:=.type "zip",data:=.fields #[.none,.bool false,.bool false,.ref yq.objs.size,.ref M5.objs.size]}).get? b=ap o:=λb o e=>Ag _ e;have g5:(Zc.push {cls:=.type "zip",data:=.fields #[.none,.bool false,.bool false,.ref yq.objs.size,.ref M5.objs.size]}).get? Zc.objs.size=ap {cls:=.type "zip",data:=.fields #[.none,.bool false,.bool false,.ref yq.objs.size,.ref M5.objs.size]}:=Ap _ rfl;have e1:=z1;have e2:yq.objs.size=s.heap.objs.size+2:=by rw [z2,e1]
  have e3:M5.objs.size=s.heap.objs.size+3:=by rw [z3,e2]
  have e4:Zc.objs.size=s.heap.objs.size+4:=by rw [z4,e3]
  refine Ae ⟨.ref Zc.objs.size,rfl,?_⟩;rw [e2,e3] at g5 k5 ⊢;rw [e4] at g5 ⊢;rw [e3] at g4;rw [e1,e2] at g3;rw [e1] at g2;refine q _ ⟨g5,k5 _ _ (k4 _ _ g3),⟨_,_,k5 _ _ g4⟩,Ky (k5 _ _ (k4 _ _ (k3 _ _ (k2 _ _ g1)))),Ky (k5 _ _ (k4 _ _ (k3 _ _ g2)))⟩ λb o e=>k5 _ _ (k4 _ _ (k3 _ _ (k2 _ _ (k1 _ _ e))))
def Nv {b2:Bool} (h1:iU b1 s.heap a1 xs) (h2:iU b2 s.heap a2 ys)
  (q:∀h':lf,kh b1 b2 h' (s.heap.objs.size+4) (s.heap.objs.size+2) (s.heap.objs.size+3) s.heap.objs.size (s.heap.objs.size+1) a1 a2 .none 0 0->(∀b o,s.heap.get? b=ap o->h'.get? b=ap o)->Q (.ref (s.heap.objs.size+4)) {s with heap:=h'}) :
  db (dL prog w) A (call (.type "zip") [.ref a1,.ref a2]) Q E s:=
 callType_new F.called_zip ⋯ (F.typeCall_zip_2 _ _) (F.newCall_zip_2 _ _) (λo=>F.args_object_init_3 o _ _) F.entry_zip_new (tu b1 b2 a1 a2 xs ys) ⟨h1,h2,λh' z k=>⟨⟨_,z.zip,rfl⟩,q h' z k⟩⟩
def NW (b:Bool) (K:Ab) (H:Hp) (a:ce) (xs:List V):Prop:=match b with
 | true=>c9 K H a xs
 | false=>dX K H a xs
def Inv.Y3 {xs:List V} (I:Inv X À σ H s) (h:NW b X.K H a xs):∃ar:List bn,Vals xs ar/\iU b s.heap a ar.toArray/\xs.length<=sizeLine:=by
 cases b with
 | true=>obtain⟨ar,r,p,z⟩:=I.list (show c9 X.K H a xs from h);exact⟨ar,r,p.isList,z⟩
 | false=>obtain⟨ar,r,p,z⟩:=I.tuple (show dX X.K H a xs from h);exact⟨ar,r,p,z⟩
def Inv.Kx {xs ys:List V} (I:Inv X À σ H s) (h:NW b X.K H a xs) (h':NW b X.K H a ys):xs=ys:=by
 cases b with
 | true=>
  obtain⟨ar,k,⟨o,n,h1,h2,h3,h4⟩,_⟩:=I.list (show c9 X.K H a xs from h);obtain⟨its',k',⟨o',n',gZ,rS,Qt,Yg⟩,_⟩:=I.list (show c9 X.K H a ys from h');rw [h1] at gZ;cases gZ;rw [h4] at Yg;have:ar=its':=by injection Yg with a b;simpa using a
  subst this;exact Vals.inj k k'
 | false=>exact I.lN h h'
def acz (b1 b2:Bool) (K:Ab) (a1 a2:ce):It where
 go:=λi H=>∃xs ys x y,NW b1 K H a1 xs/\NW b2 K H a2 ys/\xs[i]?=ap x/\ys[i]?=ap y
 U2:=λi H v H'=>∃p x y,v=.ref p/\H p=bm/\H'=upd H p (.tup [x,y])/\(∀xs,NW b1 K H a1 xs->xs[i]?=ap x)/\∀ys,NW b2 K H a2 ys->ys[i]?=ap y
 stop:=λi H=>∃xs ys,NW b1 K H a1 xs/\NW b2 K H a2 ys/\(xs.length<=i\/ys.length<=i)
theorem L3 {K:Ab}{b2:Bool}{kk:Nat}{TI TO:ce} (hA:ZipApart z TI TO i1 i2 a1 a2):Turn P w K (.Tuple Ï kk pos) (acz b1 b2 K a1 a2) [z,TI,TO,i1,i2] z (λi h=>kh b1 b2 h z TI TO i1 i2 a1 a2 .none i i) where
 mem:=by simp
 obj:=λi h st b hb=>by
  simp only [Ax,Bv,or_false] at hb;rcases hb with rfl | rfl | rfl | rfl | rfl
  ·exact⟨_,st.zip,λv z=>by cases z⟩
  ·exact⟨_,st.ti,λv z=>by cases z⟩
  ·obtain⟨_,_,e⟩:=st.to;exact⟨_,e,λv z=>by cases z⟩
  ·exact st.it1.obj
  ·exact st.it2.obj
 keep:=λi h h' st k=>⟨k z (by simp) _ st.zip,k TI (by simp) _ st.ti,let ⟨a,b,e⟩:=st.to;⟨a,b,k TO (by simp) _ e⟩,st.it1.move λo e=>k i1 (by simp) _ e,st.it2.move λo e=>k i2 (by simp) _ e⟩
 item:=by
  intro X hP hw hK hc i À s σ H E I hf st hg;subst hP hw hK;obtain⟨xs,ys,x,y,hx,hy,gx,gy⟩:=hg;obtain⟨ar,rx,tx,_⟩:=I.Y3 hx;obtain⟨cT,ry,ty,_⟩:=I.Y3 hy;obtain⟨u,gu,ru⟩:=nG rx gx;obtain⟨v,gv,rv⟩:=nG ry gy;refine pR hA st tx ty (by simpa using gu) (by simpa using gv) λh' zt np k=>?_;refine⟨_,rfl,?_⟩;refine Aa (wpAny_load zt.zip ?_);show db _ _ (if ((["enumerate","zip","dict_itemiterator","dict_reverseitemiterator","odict_iterator","itertools.zip_longest","itertools.pairwise"].contains "zip"&&(ap (t0 s.heap.objs.size)==ap (t0 s.heap.objs.size)))=true) then (do rule "for.unpacks-the-owned-tuple";ww (.ref z) 0 .none) else pure ()) _ _ _;rw [if_pos (by rw [beq_self_eq_true];decide)];refine Aa (CM ?_);refine A3 zt.zip (show 0 < 5 by decide) λh2 z2 b2=>?_;have lt:∀b∈[z,TI,TO,i1,i2],b < s.heap.objs.size:=λb hb=>by
   simp only [Ax,Bv,or_false] at hb;rcases hb with rfl | rfl | rfl | rfl | rfl
   ·exact Ar st.zip
   ·exact Ar st.ti
   ·obtain⟨_,_,e⟩:=st.to;exact Ar e
   ·obtain⟨o,e,_⟩:=st.it1.obj;exact Ar e
   ·obtain⟨o,e,_⟩:=st.it2.obj;exact Ar e
  have nz:s.heap.objs.size≠z:=λe=>AX _ (by have:=lt z (by simp);rw [<- e] at this;exact this);have ï:∀b o,b∉[z,TI,TO,i1,i2]->s.heap.get? b=ap o->h2.get? b=ap o:=λb o hb e=>by
   have M4:b≠z:=λq=>hb (by simp [q]);rw [b2.2 b M4];exact k b o M4 (λq=>hb (by simp [q])) (λq=>hb (by simp [q])) (λq=>hb (by simp [q])) e
  have ë:h2.get? s.heap.objs.size=ap {cls:=.type "tuple",data:=.seq #[u,v]}:=(b2.2 _ nz).trans np;have ø:=I.bA.fresh (An s.heap.objs.size);refine⟨.ref s.heap.objs.size,upd H s.heap.objs.size (.tup [x,y]),I.sC (t':=s.toks) hf ï (An _) ⟨by show 2<=sizeLine;decide,[u,v],.cons ru (.cons rv .nil),⟨_,ë,rfl,_,rfl⟩⟩,rfl,⟨_,x,y,rfl,ø,rfl,λxs' h'=>?_,λys' h'=>?_⟩,⟨z2,(b2.2 _ hA.TIz).trans zt.ti,let ⟨p,q,e⟩:=zt.to;⟨p,q,(b2.2 _ hA.TOz).trans e⟩,zt.it1.move λo e=>(b2.2 _ hA.i1z).trans e,zt.it2.move λo e=>(b2.2 _ hA.i2z).trans e⟩,λb hb=>?_⟩
  ·rw [I.Kx h' hx];exact gx
  ·rw [I.Kx h' hy];exact gy
  ·rw [av (AA (lt b hb))];exact (hf b hb).1
 done:=by
  intro X hP hw hK hc i À s σ H E I hf st hg;subst hP hw hK;obtain⟨xs,ys,hx,hy,hl⟩:=hg;obtain⟨ar,rx,tx,_⟩:=I.Y3 hx;obtain⟨cT,ry,ty,_⟩:=I.Y3 hy;have el:=rx.length;have el2:=ry.length;refine qU (I.ok.hd hc) hA st tx ty ?_ λh' k=>⟨rfl,I.xf (t':=s.toks) hf λb o hb e=>k b o (λz=>hb (by simp [z])) (λz=>hb (by simp [z])) (λz=>hb (by simp [z])) (λz=>hb (by simp [z])) e⟩;rcases hl with hl | hl
  ·exact .inl (by simp;omega)
  ·exact .inr (by simp;omega)
 self:=λA i s Q E st h=>wpAny_pyIter_zip st.zip h
def abf (K:Ab) (t1 t2:TE):TI:=λσ H R=>t1 σ H λx H1=>t2 σ H1 λy H2=>∃b1 b2 a b,x=.ref a/\y=.ref b/\(∃xs,NW b1 K H2 a xs)/\(∃ys,NW b2 K H2 b ys)/\R (acz b1 b2 K a b) H2
def SD (K:Ab) (hK:X.K=K) {e1 e2:ii}{t2:TE}{kk:Nat} (hg:Gl X "zip") (hm:X.mg "zip"=bm) (h1:PE X e1 t1) (h2:PE X e2 t2)
  (HI:f8 [e1,e2] X.env=(false,kw e1 X.env)::f8 [e2] X.env:=by rfl) (rR:ic X e2 []:=by rfl) (dI:(wf p2 (f8 [e2] X.env)).any (·.1)=false:=by rfl) :
  PI X (.Tuple Ï kk tp) (.Call (.Name "zip" p1) [e1,e2] [] p2) (abf K t1 t2):=by
 subst hK;intro À s σ H R I h;refine BD (iL I hg hm boot_zip ?_ ⋯ ⋯);refine Bh ?_ HI dI;rw [HI,rR];refine Cf (bT (h1 À s σ H _ I h) λu1 s1 ⟨x,H1,I1,r1,q1⟩=>?_);refine Cf (bT (h2 À s1 σ H1 _ I1 q1) λu2 s2 ⟨y,H2,I2,r2,b1,b2,a,b,ex,ey,⟨xs,hx⟩,⟨ys,hy⟩,q⟩=>CF ?_);subst ex;subst ey;cases r1;cases r2;obtain⟨ar,rx,tx,_⟩:=I2.Y3 hx;obtain⟨cT,ry,ty,_⟩:=I2.Y3 hy;have l1:=tx.lt;have l2:=ty.lt;refine Nv tx ty λh' zt k=>?_;refine wpAny_pyIter_zip zt.zip ?_;have dd:∀i j:Nat,i≠j->s2.heap.objs.size+i≠s2.heap.objs.size+j:=λi j n e=>n (Nat.add_left_cancel e);have na:∀i:Nat,a≠s2.heap.objs.size+i:=λi=>AA (AG l1 (BE _ _));have nb:∀i:Nat,b≠s2.heap.objs.size+i:=λi=>AA (AG l2 (BE _ _));have hA:ZipApart (s2.heap.objs.size+4) (s2.heap.objs.size+2) (s2.heap.objs.size+3) s2.heap.objs.size (s2.heap.objs.size+1) a b:=
  ⟨dd 2 4 ⋯,dd 3 4 ⋯,dd 0 4 ⋯,dd 1 4 ⋯,dd 2 3 ⋯,dd 2 0 ⋯,dd 2 1 ⋯,dd 3 0 ⋯,dd 3 1 ⋯,dd 0 1 ⋯,na 4,na 3,na 0,na 1,nb 4,nb 3,nb 0,nb 1⟩
 refine⟨_,_,_,_,H2,rfl,I2.kept (t':=s2.toks) k,L3 hA,zt,λc hc=>?_,q⟩;have Ü:s2.heap.objs.size<=c:=by
  simp only [Ax,Bv,or_false] at hc;rcases hc with rfl | rfl | rfl | rfl | rfl
  ·exact BE _ _
  ·exact BE _ _
  ·exact BE _ _
  ·exact An _
  ·exact BE _ _
 exact I2.yL Ü (I2.bA.fresh Ü)
def aal (K:Ab):V->Option Int->Option Int->Hp->VK->Prop:=λx lo hi H Q=>∃a xs,x=.ref a/\dX K H a xs/\
 ((HT.dE xs.length 0 lo=0/\HT.dE xs.length xs.length hi=xs.length)->Q x H)/\(¬(HT.dE xs.length 0 lo=0/\HT.dE xs.length xs.length hi=xs.length)->kW H (.tup (zq xs lo hi)) Q)
def Sf (K:Ab) (hK:X.K=K):SlR X (aal K):=by
 subst hK;intro À s σ H x v vl vu lo hi sl Q I rx hs pl pu h;obtain⟨a,xs,rfl,hT,qw,qn⟩:=h;by_cases c:HT.dE xs.length 0 lo=0/\HT.dE xs.length xs.length hi=xs.length
 ·have q:=qw c;cases rx;obtain⟨ar,r,ht,hz⟩:=I.tuple hT;have Â:ar.toArray.size=xs.length:=by rw [Ai];exact r.length.symm
  refine⟨"tuple",_,AM.lookup,ht.typeIs,?_⟩;obtain⟨os,NT,Zi,Ua⟩:=id hs;have ý:s.TypeIs (.ref sl) "slice":=⟨os,NT,Zi⟩;unfold Ch
  try with_reducible refine Bf ?_
  first | refine Aa (Ae ?_) | skip
  refine Aa (Ed ht.typeIs ⋯ ?_);refine Aa (AU (name:=BH "__getitem__") ht.typeIs AM
   (Bb AM ht.typeIs entry_tuple_getitem ?_ (args_tuple_getitem _ _)))
  show db _ _ (Builtin.Tuple.tupleItemsOf (.ref a) >>= _) _ _ s;refine Aa (tupleItemsOf_ ht ?_);refine Aa (Cu ý ?_);refine Aa (HT.i5 hs pl pu ?_);show db _ _ (if (((HT.dE ar.toArray.size 0 lo:Nat):Int)==0&&(1:Int)==1&&(HT.dE ar.toArray.size ar.toArray.size hi-HT.dE ar.toArray.size 0 lo)==ar.toArray.size)=true then _ else _) _ _ s;rw [if_pos (by rw [Â,c.1,c.2];simp)];refine Aa ?_
  first
   | refine Aa (Cu ht.typeIs (Ae ?_))
   | refine Cu ht.typeIs (Ae ?_)
  first
   | rw [if_pos ⋯]
   | rw [if_pos rfl]
  refine Aa (CM (Ae ⟨_,rfl,?_⟩));exact Ae ⟨.ref a,H,I,rfl,q⟩
 ·exact Wv À s σ H _ v vl vu lo hi sl Q I rx hs pl pu ⟨a,xs,rfl,hT,c,λp hp=>(qn c).at p hp⟩
def aav (K:Ab):R2:=λx y H Q=>∃a b xs ys,x=.ref a/\y=.ref b/\dX K H a xs/\dX K H b ys/\xs.length+ys.length<=sizeLine/\
 (xs=[]->Q (.ref b) H)/\(xs≠[]->ys=[]->Q (.ref a) H)/\(xs≠[]->ys≠[]->kW H (.tup (xs++ys)) Q)
def S0 (K:Ab) (hK:X.K=K):iW X (r9 .Add) (aav K):=by
 subst hK;intro À s σ H x y v u Q I rx ry h;obtain⟨a,b,xs,ys,rfl,rfl,ha,hb,hz,q0,q1,q2⟩:=h;by_cases c:xs=[]
 ·cases rx;cases ry;obtain⟨ar,r1,p1,_⟩:=I.tuple ha;obtain⟨cT,r2,p2,_⟩:=I.tuple hb;obtain⟨⟨cls,dd,data,sl⟩,ho,hc,n,hd⟩:=id p1;obtain⟨⟨YI,Ux,data2,RD⟩,M6,Qn,n2,Ó⟩:=id p2;simp only at hc hd Qn Ó;subst hc hd Qn Ó;exact concat_meets ⟨_,ho,rfl⟩ ⟨_,M6,rfl⟩ noFill_tuple_add seq_tuple_add C4 C3 (CW _ _)
   (tuple_addW0 a b ar.toArray cT.toArray n n2 dd Ux sl RD (by rw [r1.jF.mpr c];rfl)) ⟨ho,M6,.ref b,H,I,rfl,q0 c⟩
 ·exact K1 À s σ H _ _ v u Q I rx ry ⟨a,b,xs,ys,rfl,rfl,ha,hb,c,hz,q1 c,λn p hp=>(q2 c n).at p hp⟩
end L2
namespace FL
section
open PySem PySem.Spec PyProof.Rows L2 PL
variable {K:Ab}
section
variable {a b c:ii}{w:W PV}
def addW:PV->PV->W PV
 | .int i,.int j=>.ret (.int (i+j))
 | .str a,.str b=>.fB (a.length+b.length<=sizeLine) (.ret (.str (a++b)))
 | .tup a,.tup b=>.fB (a.length+b.length<=sizeLine) (.ret (.tup (a++b)))
 | _,_=>.fail
def aX (hK:X.K=K) (ha:EF X K fs a wa) (hb:EF X K fs b wb):EF X K fs (.BinOp a .Add b pos) (.bind wa λx=>.bind wb λy=>addW x y):=
 ⟨PE.imp (KS ((S2 K hK).or (S0 K hK)) ha.p hb.p) λσ H Q ⟨sr,q⟩=>⟨sr,wa.mono (λx q1 u1 H1 g1 s1 v1=>⟨s1,wb.mono (λy q2 u2 H2 g2 s2 v2=>by
  have Wb:=g2.vr s1 v1;cases Wb with
  | int i=>
   cases v2 with
   | int j=>exact .inl ⟨_,rfl,q2 _ H2 (g1.trans g2) s2 (.int _)⟩
   | _=>exact q2.elim
  | str i=>
   cases v2 with
   | str j=>exact .inl ⟨_,rfl,q2.1,q2.2 _ H2 (g1.trans g2) s2 (.str _)⟩
   | _=>exact q2.elim
  | @tup p vs l e r=>
   cases v2 with
   | @tup p' NQ l' e' r'=>
    refine .inr ⟨p,p',vs,NQ,rfl,rfl,dX.of e,dX.of e',by rw [r.length,r'.length];exact q2.1,λz=>?_,λ_ z=>?_,λ_ _ q H3 s3 h3 n3=>?_⟩
    ·have z':=(PL.aE.jF r).mp z;subst z';exact q2.2 _ H2 (g1.trans g2) s2 (.tup e' r')
    ·have z':=(PL.aE.jF r').mp z;subst z';have q2:=q2.2;rw [Cz] at q2;exact q2 _ H2 (g1.trans g2) s2 (.tup e r)
    ·exact q2.2 _ H3 ((g1.trans g2).trans (cV.same s3)) (s2.same s3) (.tup h3 (aE.tk s3.eG (r.append r')))
   | _=>exact q2.elim
  | _=>exact q2.elim) q1⟩) q⟩⟩
theorem nC:∀(l m:List PV),(pE l m).length=min l.length m.length
 | [],m=>by rw [pE];simp;intros;simp_all
 | x::l,[]=>by rw [pE];simp;intros;simp_all
 | x::l,y::m=>by rw [pE,Aq,nC l m];simp only [Aq];omega
def LX (l m:List PV):W (List PV):=.fB (l.length<=sizeLine) (.ret (pE l m))
def U7 (h:YW K H u l):∃(b:Bool) (a:ce) (vs:List V),u=.ref a/\aE K [] H vs l/\∀H',bj K H H'->NW b K H' a vs:=by
 obtain⟨a,vs,e,h | h,r⟩:=h
 ·exact⟨true,a,vs,e,r,λH' t=>(t.f _ _ h).sq⟩
 ·exact⟨false,a,vs,e,r,λH' t=>dX.of (t.t _ _ h)⟩
theorem Qb (hK:X.K=K) {kk:Nat} (hg:Gl X "zip") (hm:X.mg "zip"=bm) (ha:IF X K fs a wl) (hb:IF X K fs b wm)
  (HI:f8 [a,b] X.env=(false,kw a X.env)::f8 [b] X.env:=by rfl) (rR:ic X b []:=by rfl) (dI:(wf p2 (f8 [b] X.env)).any (·.1)=false:=by rfl) :
  rB X K fs (.Tuple Ï kk tp) (.Call (.Name "zip" p1) [a,b] [] p2) (.bind wl λl=>.bind wm λm=>LX l m):=
 ⟨PI.imp (SD K hK hg hm ha.p hb.p HI rR dI) λσ H R ⟨sr,q⟩=>⟨sr,wl.mono (λl q1 u1 H1 g1 s1 v1=>⟨s1,wm.mono (λm q2 u2 H2 g2 s2 v2=>by
  obtain⟨b1,a1,vs,rfl,r1,x1⟩:=U7 (v1.tk (g2.eI s1));obtain⟨b2,a2,ws,rfl,r2,x2⟩:=U7 v2;have tr:bj K H2 H2:=bj.refl H2;refine⟨b1,b2,a1,a2,rfl,rfl,⟨vs,x1 H2 tr⟩,⟨ws,x2 H2 tr⟩,q2.2 _ H2 (g1.trans g2) s2 ⟨by rw [nC];have:=q2.1;omega,λH' t=>⟨λi pp hp=>?_,vs,ws,x1 H' t,x2 H' t,?_⟩⟩⟩
  ·obtain⟨x,y,hx,hy,rfl⟩:=sf hp;obtain⟨v,h3,h4⟩:=(aE.tk t r1).get hx;obtain⟨v',Qt,Yg⟩:=(aE.tk t r2).get hy;refine⟨⟨vs,ws,v,v',x1 H' t,x2 H' t,h3,Qt⟩,λz H3 yl=>?_⟩;obtain⟨p,x',y',rfl,hn,rfl,e1,e2⟩:=yl;have e1:=e1 vs (x1 H' t);have e2:=e2 ws (x2 H' t);rw [h3] at e1;rw [Qt] at e2;cases e1;cases e2;have sm:=i7 hn (.tup [v,v']);exact⟨sm,.tup aM (.cons (VR.tk sm.eG h4) (.cons (VR.tk sm.eG Yg) .nil))⟩
  ·rw [nC,r1.length,r2.length];omega) q1⟩) q⟩⟩
variable {el eh:Option ii}{lo:W (Option Int)}
def pM (x:PV) (i j:Option Int):W PV:=match x with
 | .tup l=>.ret (.tup (nk l i j))
 | _=>.fail
def Nt {i j:Option Int} (h:HT.dE l.length 0 i=0/\HT.dE l.length l.length j=l.length):nk l i j=l:=by
 unfold nk;rw [h.1,h.2];simp
def lx (hK:X.K=K) (he:EF X K fs e w) (hl:OF X K fs el lo) (hh:OF X K fs eh hi):EF X K fs (.Subscript e (.Slice el eh bm p2) pos) (.bind w λx=>.bind lo λi=>.bind hi λj=>pM x i j):=⟨PE.imp (Pc (Sf K hK) he.p hl.p hh.p) λσ H Q ⟨sr,q⟩=>⟨sr,w.mono (λx q1 u1 H1 g1 s1 v1=>⟨s1,lo.mono (λi q2 H2 g2 s2=>⟨s2,hi.mono (λj q3 H3 g3 s3=>by
 have Wb:=g3.vr s2 (g2.vr s1 v1);have gg:=(g1.trans g2).trans g3;cases Wb with
 | @tup p vs l e r=>
  have Â:=r.length;refine⟨p,vs,rfl,dX.of e,λc=>?_,λc q H4 s4 h4 n4=>?_⟩
  ·rw [Â] at c;have q3:(bd (PV.tup (nk l i j))).run _:=q3;rw [Nt c] at q3;exact q3 _ H3 gg s3 (.tup e r)
  ·exact q3 _ H4 (gg.trans (cV.same s4)) (s3.same s4) (.tup h4 (aE.tk s4.eG (r.cut i j)))
 | _=>exact q3.elim) q2⟩) q1⟩) q⟩⟩
end
end
end FL
variable {vs:List A5}
namespace L2
open PySem PySem.Spec PyProof.Rows
def aiI:List Int->Int
 | []=>0
 | x::l=>l.foldl max x
def pW:List Int->Int
 | []=>0
 | x::l=>l.foldl min x
theorem yP (l:List Int) (x:Int):l.foldl min x<=x/\(∀y∈l,l.foldl min x<=y)/\(l.foldl min x=x\/l.foldl min x∈l):=by
 induction l generalizing x with
 | nil=>exact⟨Dy _,by simp,.inl rfl⟩
 | cons y l ih=>
  obtain⟨h1,h2,h3⟩:=ih (min x y);refine⟨by rw [C0];omega,λz hz=>?_,?_⟩
  ·rw [C0];rcases Ax.mp hz with rfl | hz
   ·omega
   ·exact h2 z hz
  ·rw [C0];rcases h3 with h3 | h3
   ·rw [h3];by_cases c:y<=x
    ·right;rw [Int.min_eq_right c];exact .head _
    ·left;omega
   ·exact .inr (.tail _ h3)
def xJ {l:List Int}{x:Int} (h:x∈l):pW l<=x:=by
 cases l with
 | nil=>cases h
 | cons y l=>
  rcases Ax.mp h with rfl | h
  ·exact (yP l _).1
  ·exact (yP l y).2.1 x h
def tq {l:List Int} (h:l≠[]):pW l∈l:=by
 cases l with
 | nil=>exact absurd rfl h
 | cons y l=>
  rcases (yP l y).2.2 with e | e
  ·show l.foldl min y∈_;rw [e];exact .head _
  ·exact .tail _ e
def OU (K:Ab) (C:List Int->Prop) (g:List Int->Int):List V->Hp->VK->Prop:=λxs H Q=>∃(p:ce) (ns:List Int),xs=[.ref p]/\c9 K H p (ns.map V.int)/\C ns/\Q (.int (g ns)) H
section
theorem Lb {xs:Array (Int×Tok)} (HJ:ns=xs.toList.map (·.1)) (T9:ns≠[]):numAt xs (argBest (λi j=>decide (numAt xs i < numAt xs j)) (xs.size-1))=pW ns:=by
 have hsz:0 < xs.size:=by
  have h3:0 < ns.length:=B8.mpr T9;rw [HJ,Af,BN] at h3;exact h3
 obtain⟨h1,h2⟩:=argBest_lt (numAt xs) (xs.size-1);apply ES
 ·have hm:=tq T9;rw [HJ] at hm;obtain⟨j,hj,ej⟩:=mem_getD hm;rw [Af,BN] at hj;rw [<- HJ] at ej;rw [<- ej,HJ,<- numAt_eq];exact h2 j ∅
 ·refine xJ ?_;rw [HJ,numAt_eq];exact getD_mem (by rw [Af,BN];omega)
def Mw {l:ce} (hh:A.handled=bm) (hl:s.heap.IsList l vs.toArray) (hi:tt vs ns) (T9:ns≠[])
  (h:∀(h':lf) (t:Tok) tk,(∀b o,s.heap.get? b=ap o->h'.get? b=ap o)->Q (.int (pW ns) t) {s with heap:=h',toks:=tk}):db (dL prog w) A (call (.builtin "min") [.ref l]) Q E s:=by
 obtain⟨xs,e⟩:=hi.allInts.items;have HJ:ns=xs.toList.map (·.1):=by rw [<- hi.numsOf,<- nums_intItems,<- e]
 have hsz:0 < xs.size:=by
  have h3:0 < ns.length:=B8.mpr T9;rw [HJ,Af,BN] at h3;exact h3
 rw [e] at hl;refine min_intList hh hl hsz λv h' tk hv hk=>?_;obtain⟨t,rfl⟩:=intItems_at hv;rw [Lb HJ T9];exact h h' t tk hk
def L8 {l:ce} (hh:A.handled=bm) (hl:s.heap.IsList l vs.toArray) (hi:tt vs ns)
  (h:∀(h':lf) (t:Tok) tk,(∀b o,s.heap.get? b=ap o->h'.get? b=ap o)->Q (.int ns.sum t) {s with heap:=h',toks:=tk}):db (dL prog w) A (call (.builtin "sum") [.ref l]) Q E s:=by
 obtain⟨xs,e⟩:=hi.allInts.items;have HJ:ns=xs.toList.map (·.1):=by rw [<- hi.numsOf,<- nums_intItems,<- e]
 rw [e] at hl;refine sum_intListG hh hl λh' tk t' hk=>?_;have:=h h' t' tk hk;rw [preSum_eq,C8 (by simp),<- HJ];exact this
end
def wO {b:String}{C:List Int->Prop}{g:List Int->Int} (K:Ab) (hK:X.K=K) (hc:X.calm=true)
  (Ú:∀{s:cr}{l:ce}{vs:List bn}{ns:List Int}{Q:bn->cr->Prop},X.A.handled=bm->s.heap.IsList l vs.toArray->tt vs ns->C ns->(∀(h':lf) (t:Tok) tk,(∀b o,s.heap.get? b=ap o->h'.get? b=ap o)->Q (.int (g ns) t) {s with heap:=h',toks:=tk})->db (dL X.prog X.w) X.A (call (.builtin b) [.ref l]) Q X.xe s):bM X (.builtin b) (OU K C g):=by
 subst hK;intro À s σ H xs us Q I r h;obtain⟨p,ns,rfl,hq,hC,q⟩:=h;obtain⟨u,rfl,rx⟩:=vals1 r;cases rx;obtain⟨ar,r',pl,hz⟩:=I.list hq;exact Ú (I.ok.hd hc) pl.isList (intsAre_of r') hC λh' t tk hk=>⟨.int _,H,I.kept (t':=tk) hk,⟨t,rfl⟩,q⟩
end L2
variable {x:PL.PV}
namespace FL
section
open PySem PySem.Spec PyProof.Rows L2 PL
variable {K:Ab}
section
open Classical in
noncomputable def Nh (K:Ab) (H:Hp) (x:PV) (w:bn):Bool:=decide (∃p v,RelV v w/\VR K [] H v p/\kE p x=true)
open Classical in
def QR (hK:X.K=K) (I:Inv X À σ H s) {x p:PV}{v:V}{w:bn} (r:RelV v w) (h:VR K [] H v p):Nh K H x w=kE p x:=by
 subst hK;cases e:kE p x with
 | true=>exact decide_eq_true ⟨p,v,r,h,e⟩
 | false=>
  refine decide_eq_false ?_;rintro⟨p',v',r',h',e'⟩;have:=OL r r';subst this;rw [VR.QB I h h',e'] at e;cases e
theorem yV (hK:X.K=K) (I:Inv X À σ H s):∀{vs:List V}{ar:List bn}{l:List PV},Vals vs ar->aE K [] H vs l->ar.map (Nh K H x)=l.map λy=>kE y x
 | _,_,_,.nil,.nil=>rfl
 | _,_,_,.cons r t,.cons q z=>by rw [Ao,Ao,QR hK I r q,yV hK I t z]
def TZ (x:PV) (l:List PV):Prop:=PV.iB x=true/\fo l=true/\dU l<=150
theorem ui (hK:X.K=K) (I:Inv X À σ H s) {v:V}{w:bn} (hx:VR K [] H v x) (rx:RelV v w) (dx:PV.iB x=true) (hu:A.units+150+1 < o0) :
  ∀{vs:List V}{ar:List bn}{l:List PV},Vals vs ar->aE K [] H vs l->fo l=true->dU l<=150->∀u∈ar,Dh A s u w (Nh K H x u)
 | _,_,_,.nil,.nil,_,_,u,hu=>by cases hu
 | _,_,_,.cons r t,.cons q z,d,dd,u,hm=>by
  rw [fo,AL] at d;rw [dU] at dd;rcases Ax.mp hm with rfl | hm
  ·rw [QR hK I r q];exact (YH hK I 150 _ x A _ v _ w ∅ d.1 dx q hx r rx hu).eq
  ·exact ui hK I hx rx dx hu t z d.2 ∅ u hm
end
def tW (x:PV) (l:List PV):Bool:=l.any λy=>kE y x
def WR (K:Ab) (neg:Bool):R2:=λx y H Q=>∃p vs l xp,y=.ref p/\(c9 K H p vs\/dX K H p vs)/\aE K [] H vs l/\VR K [] H x xp/\TZ xp l/\Q (.bl (if neg then !tW xp l else tW xp l)) H
section
theorem any_map' (f:α->Bool):∀l:List α,l.any f=(l.map f).any id
 | []=>rfl
 | x::l=>by rw [Bz,Ao,Bz,any_map' f l];rfl
theorem Pj (K:Ab) (hK:X.K=K) (hu:X.A.units+200 < o0):iW X (lw .In) (WR K false):=by
 intro À s σ H x y v u Q I rx ry h;obtain⟨p,vs,l,xp,rfl,hq,hl,hx,ok,q⟩:=h;cases ry;have ó:X.A.in1.units+150+1 < o0:=by show X.A.units+1+150+1 < _;omega
 have fin:∀{ar:List bn},Vals vs ar->ar.toArray.any (Nh K H xp)=tW xp l:=λ{ar} r=>by
  rw [show ar.toArray.any (Nh K H xp)=ar.any (Nh K H xp) by simp,any_map',yV hK I r hl,<- any_map'];rfl
 rcases hq with hq | hq
 ·obtain⟨ar,r,pl,hz⟩:=I.list (show c9 X.K H p vs by rw [hK];exact hq);refine SeqAt.in_listAt (Nh K H xp) pl.isList (λw hw=>ui hK I hx rx ok.1 ó r hl ok.2.1 ok.2.2 w (by simpa using hw)) ⟨.bl _,H,I,rfl,?_⟩;rw [fin r];exact q
 ·obtain⟨ar,r,pl,hz⟩:=I.tuple (show dX X.K H p vs by rw [hK];exact hq);refine SeqAt.in_tupleAt (Nh K H xp) pl (λw hw=>ui hK I hx rx ok.1 ó r hl ok.2.1 ok.2.2 w (by simpa using hw)) ⟨.bl _,H,I,rfl,?_⟩;rw [fin r];exact q
theorem SW (K:Ab) (hK:X.K=K) (hu:X.A.units+200 < o0):iW X (lw .NotIn) (WR K true):=by
 intro À s σ H x y v u Q I rx ry h;obtain⟨p,vs,l,xp,rfl,hq,hl,hx,ok,q⟩:=h;cases ry;have ó:X.A.in1.units+150+1 < o0:=by show X.A.units+1+150+1 < _;omega
 have fin:∀{ar:List bn},Vals vs ar->ar.toArray.any (Nh K H xp)=tW xp l:=λ{ar} r=>by
  rw [show ar.toArray.any (Nh K H xp)=ar.any (Nh K H xp) by simp,any_map',yV hK I r hl,<- any_map'];rfl
 rcases hq with hq | hq
 ·obtain⟨ar,r,pl,hz⟩:=I.list (show c9 X.K H p vs by rw [hK];exact hq);refine SeqAt.notIn_listAt (Nh K H xp) pl.isList (λw hw=>ui hK I hx rx ok.1 ó r hl ok.2.1 ok.2.2 w (by simpa using hw)) ⟨.bl _,H,I,rfl,?_⟩;rw [fin r];exact q
 ·obtain⟨ar,r,pl,hz⟩:=I.tuple (show dX X.K H p vs by rw [hK];exact hq);refine SeqAt.notIn_tupleAt (Nh K H xp) pl (λw hw=>ui hK I hx rx ok.1 ó r hl ok.2.1 ok.2.2 w (by simpa using hw)) ⟨.bl _,H,I,rfl,?_⟩;rw [fin r];exact q
end
end
end FL
namespace L2
open PySem PySem.Spec PyProof.Rows
theorem F7 (xs:List bn):∀k≤xs.length,((AJ k).filterMap λ(m:Nat)=>xs.toArray[(((xs.length:Int)-1)+(m:Int)*(-1)).toNat]?)=(xs.drop (xs.length-k)).reverse
 | 0,_=>by simp
 | k+1,h=>by
  have ih:=F7 xs k ∅;rw [List.range_succ,List.filterMap_append,ih];have e:(((xs.length:Int)-1)+(k:Int)*(-1)).toNat=xs.length-(k+1):=by omega
  have h1:xs.length-(k+1) < xs.length:=by omega
  simp only [A9,List.filterMap_nil,e];have e2:xs.toArray[xs.length-(k+1)]?=ap xs[xs.length-(k+1)]:=by simp [h1]
  rw [e2];have e3:xs.drop (xs.length-(k+1))=xs[xs.length-(k+1)]::xs.drop (xs.length-k):=by
   rw [Bl h1];congr 2;omega
  rw [e3,CH]
section
variable {st:ii}{tl th ts:TO}{lo hi:Option ii}
def ZV (K:Ab) (te:TE) (tl th ts:TO):TE:=λσ H Q=>te σ H λx H1=>tl σ H1 λl H2=>th σ H2 λu H3=>ts σ H3 λs H4=>∃a xs,x=.ref a/\dX K H4 a xs/\l=bm/\u=bm/\s=ap (-1)/\kW H4 (.tup xs.reverse) Q
theorem SK (K:Ab) (hK:X.K=K) (he:PE X e te) (hl:PO X lo tl) (hu:PO X hi th) (hs:PO X (ap st) ts):PE X (.Subscript e (.Slice lo hi (ap st) p2) pos) (ZV K te tl th ts):=by
 subst hK;intro À s σ H Q I h;refine Subscript_ (bT (he À s σ H _ I h) λv s1 ⟨x,H1,I1,r1,q1⟩=>?_);refine wpAny_Slice (bT (hl À s1 σ H1 _ I1 q1) λvl s2 ⟨l,H2,I2,pl,q2⟩=>bT (hu À s2 σ H2 _ I2 q2) λvu s3 ⟨u,H3,I3,pu,q3⟩=>bT (hs À s3 σ H3 _ I3 q3) λvs s4 ⟨c,H4,I4,ps,a,xs,ea,hx,el,eu,ec,q⟩=>?_);subst ea;subst el;subst eu;subst ec;cases r1;cases pl;cases pu;cases ps with
 | int i t=>
 have I5:Inv X À σ H4 {s4 with heap:=s4.heap.push {cls:=.type "slice",data:=.fields #[.none,.none,.int (-1) t]}}:=I4.kept (t':=s4.toks) λb ob q=>Ag _ q;obtain⟨ar,r,ht,hz⟩:=I5.tuple hx;have Â:=r.length;refine tail_any (ops:=[.ref a,.ref s4.heap.objs.size]) ht.typeIs AM.lookup ?_ (by with_unfolding_all rfl);have hs:E1 {s4 with heap:=s4.heap.push {cls:=.type "slice",data:=.fields #[.none,.none,.int (-1) t]}}.heap s4.heap.objs.size .none .none (.int (-1) t):=E1.new ..;generalize {s4 with heap:=s4.heap.push {cls:=.type "slice",data:=.fields #[.none,.none,.int (-1) t]}}=s5 at I5 ht hs;obtain⟨os,NT,Zi,Ua⟩:=id hs;have ý:s5.TypeIs (.ref s4.heap.objs.size) "slice":=⟨os,NT,Zi⟩;unfold Ch
 try with_reducible refine Bf ?_
 first | refine Aa (Ae ?_) | skip
 refine Aa (Ed ht.typeIs ⋯ ?_);refine Aa (AU (name:=BH "__getitem__") ht.typeIs AM
  (Bb AM ht.typeIs entry_tuple_getitem ?_ (args_tuple_getitem _ _)))
 show db _ _ (Builtin.Tuple.tupleItemsOf (.ref a) >>= _) _ _ s5;refine Aa (tupleItemsOf_ ht ?_);refine Aa (Cu ý ?_);rw [if_pos ⋯];have ĝ:∀{Q:Int×Int×Nat->cr->Prop}{E:bn->cr->Prop}{A:nn} (n:Nat),Q ((n:Int)-1,-1,n) s5->db (dL X.prog X.w) A (Builtin.Slice.sliceApplied (.ref s4.heap.objs.size) (pure (n:Int))) Q E s5:=λ{Q E A} n hq=>by
  unfold Builtin.Slice.sliceApplied Builtin.Slice.sliceFields;refine Aa (Aa (AY NT Ua (x:=.none) rfl (Aa (AY NT Ua (x:=.none) rfl (Aa (AY NT Ua (x:=.int (-1) t) rfl (Ae ?_)))))));refine Aa (HT.gM (.int (-1) t) ?_);show db _ _ (if (((-1:Int))==0)=true then _ else _) _ _ s5;rw [if_neg ⋯];refine Aa (HT.gM .none (Aa (HT.gM .none (Aa (Ae ?_)))));show db _ _ (match Builtin.Slice.sliceAdjust bm bm (-1) (n:Int) with | (lo,hi)=>pure (lo,(-1:Int),Builtin.Slice.slicePlaces lo hi (-1))) _ _ s5;have e1:Builtin.Slice.sliceAdjust bm bm (-1) (n:Int)=((n:Int)-1,-1):=by unfold Builtin.Slice.sliceAdjust;simp
  rw [e1];have e2:Builtin.Slice.slicePlaces ((n:Int)-1) (-1) (-1)=n:=by
   unfold Builtin.Slice.slicePlaces;rw [if_neg ⋯];by_cases h0:(n:Int)-1 > -1
   ·rw [if_pos h0];show (((n:Int)-1 - -1-1) / 1+1).toNat=n;rw [Int.ediv_one];omega
   ·rw [if_neg h0];show (0:Int).toNat=n;omega
  show db _ _ (pure ((n:Int)-1,(-1:Int),Builtin.Slice.slicePlaces ((n:Int)-1) (-1) (-1))) _ _ s5;rw [e2];exact Ae hq
 refine Aa (ĝ ar.toArray.size ?_);show db _ _ (if (((ar.toArray.size:Int)-1)==0&&(-1:Int)==1&&ar.toArray.size==ar.toArray.size)=true then _ else _) _ _ s5;rw [if_neg (by simp)];have hp:=F7 ar ar.length (An _);rw [C6,List.drop_zero] at hp;have Ĳ:((AJ ar.toArray.size).filterMap λ(m:Nat)=>ar.toArray[(((ar.toArray.size:Int)-1)+(m:Int)*(-1)).toNat]?).toArray=ar.reverse.toArray:=by
  rw [Ai,hp]
 rw [Ĳ];have hsz:sizeOk (.seq ar.reverse.toArray):=by
  show ar.reverse.toArray.size<=sizeLine;rw [Ai,BL];omega
 have fin:EP X À σ Q (.ref s5.heap.objs.size) {s5 with heap:=s5.heap.push {cls:=.type "tuple",data:=.seq ar.reverse.toArray}}:=
  ⟨.ref s5.heap.objs.size,_,I5.laid (t':=s5.toks) (o:=.tup xs.reverse) (λb ob q=>Ag _ q) (An _) ⟨by rw [BL];exact hz,_,r.sQ,Ff _ _⟩,rfl,q.at _ (I5.bA.fresh (An _))⟩
 first
  | exact Aa (m:=Builtin.Tuple.tupleExact _) (AO (Ae ⟨_,rfl,Ae fin⟩) hsz)
  | exact Aa (m:=Builtin.Tuple.tupleExact _) (AO (Aa (Ae (Ae ⟨_,rfl,Ae fin⟩))) hsz)
  | exact Aa (Aa (m:=Builtin.Tuple.tupleExact _) (AO (Ae (Ae ⟨_,rfl,Ae fin⟩)) hsz))
  | exact Aa (Aa (m:=Builtin.Tuple.tupleExact _) (AO (Ae ⟨_,rfl,Ae fin⟩) hsz))
end
end L2
variable {Q:PL.PV->Prop}
namespace FL
section
open PySem PySem.Spec PyProof.Rows L2 PL
variable {K:Ab}
section
variable {a b c:ii}{w:W PV}
def rh (neg:Bool) (x:PV) (l:List PV):W Bool:=.fB (TZ x l) (.ret (if neg then !tW x l else tW x l))
def QI:∀σ H Q,fT K fs (.bind wa λx=>.bind wl λl=>rh neg x l) σ H Q->Wk (WR K neg) (fE K fs wa) (fQ K fs wl) σ H λx H'=>∃k,x=.bl k/\Q k H':=λσ H Q ⟨sr,q⟩=>
 ⟨sr,wa.mono (λx q1 u1 H1 g1 s1 v1=>⟨s1,wl.mono (λl q2 u2 H2 g2 s2 v2=>by
  obtain⟨ad,vs,rfl,h,rs⟩:=v2.sq s2;exact⟨ad,vs,l,x,rfl,h,rs,g2.vr s1 v1,q2.1,_,rfl,q2.2 H2 (g1.trans g2) s2⟩) q1⟩) q⟩
def ZS (hK:X.K=K) (hu:X.A.units+200 < o0) (ha:EF X K fs a wa) (hb:QF X K fs b wl) (hk:pr .In b=false:=by rfl):TF X K fs (.Compare a [.In] [b] pos) (.bind wa λx=>.bind wl λl=>rh false x l):=⟨PT.imp (nX (Pj K hK hu) ha.p hb.p hk) (QI (neg:=false))⟩
def xj (hK:X.K=K) (hu:X.A.units+200 < o0) (ha:EF X K fs a wa) (hb:QF X K fs b wl) (hk:pr .NotIn b=false:=by rfl):TF X K fs (.Compare a [.NotIn] [b] pos) (.bind wa λx=>.bind wl λl=>rh true x l):=⟨PT.imp (nX (SW K hK hu) ha.p hb.p hk) (QI (neg:=true))⟩
abbrev Qf (neg:Bool) (wa:W PV) (wl:W (List PV)):W Bool:=.bind wa λx=>.bind wl λl=>rh neg x l
def Gr (l:List PV):W PV:=.bind (mM l) λns=>.fB (ns≠[]) (.ret (.int (pW ns)))
def Kt (l:List PV):W PV:=.bind (mM l) λns=>.ret (.int ns.sum)
def wy {C:List Int->Prop}{g:List Int->Int}{f:List PV->W PV} (hf:∀{l:List PV}{Q:PV->Prop},(f l).run Q->∃ns:List Int,l=ns.map PV.int/\C ns/\Q (.int (g ns))):∀σ H Q,fE K fs (.bind wl f) σ H Q->tCB (OU K C g) (U5 (fQL K fs wl) ZY) σ H Q:=λσ H Q ⟨sr,q⟩=>⟨sr,wl.mono (λl q1 u1 H1 g1 s1 _ v1=>by
 obtain⟨ns,el,hC,q2⟩:=hf q1;obtain⟨a,vs,rfl,h1,r1⟩:=v1 H1 .refl s1;rw [el] at r1;have:=jL r1;subst this;exact⟨a,ns,rfl,h1,hC,q2 _ H1 g1 s1 (.int _)⟩) q⟩
def Mx (h:(Gr l).run Q):∃ns:List Int,l=ns.map PV.int/\ns≠[]/\Q (.int (pW ns)):=let ⟨ns,e,q⟩:=gG h;⟨ns,e,q.1,q.2⟩
def L9 (h:(Kt l).run Q):∃ns:List Int,l=ns.map PV.int/\True/\Q (.int ns.sum):=let ⟨ns,e,q⟩:=gG h;⟨ns,e,trivial,q⟩
def Yz (hK:X.K=K) (hc:X.calm=true) (hg:Gl X "min") (hm:X.mg "min"=bm) (ha:HM X K fs e wl) (he:ic X e []:=by rfl) (dI:mj X pos []:=by rfl):EF X K fs (.Call (.Name "min" p) [e] [] pos) (.bind wl Gr):=⟨PE.imp (eM (wO (C:=λns=>ns≠[]) (g:=pW) K hK hc λa b c d q=>Mw a b c d q) hg hm boot_min (aZ ha.p ck he) ⋯ ⋯ he dI) (wy Mx)⟩
def Yy (hK:X.K=K) (hc:X.calm=true) (hg:Gl X "sum") (hm:X.mg "sum"=bm) (ha:HM X K fs e wl) (he:ic X e []:=by rfl) (dI:mj X pos []:=by rfl):EF X K fs (.Call (.Name "sum" p) [e] [] pos) (.bind wl Kt):=⟨PE.imp (eM (wO (C:=λ_=>True) (g:=λns=>ns.sum) K hK hc λa b c _ q=>L8 a b c q) hg hm (show lc "sum"=ap (.builtin "sum") by rfl) (aZ ha.p ck he) ⋯ ⋯ he dI) (wy L9)⟩
def sortI (ns:List Int):List Int:=ns.mergeSort (λa b=>decide (a<=b))
theorem Ot (h1:ms.Perm ns) (h2:ms.Pairwise (·<=·)):ms=sortI ns:=by
 have h3:(sortI ns).Perm ns:=CV ns _;have h4:(sortI ns).Pairwise (λa b=>decide (a<=b)=true):=Er (λa b c=>by simp;omega) (λa b=>by simp;omega) ns;exact List.Perm.eq_of_pairwise (le:=λa b=>a<=b) (λa b _ _ h h'=>ES h h') h2 (h4.imp (by simp)) (h1.trans h3.symm)
def xq (l:List PV):W (List PV):=.bind (mM l) λns=>.fB (ns.length < 64) (.ret ((sortI ns).map PV.int))
def Tt (hK:X.K=K) (hg:Gl X "sorted") (hm:X.mg "sorted"=bm) (ha:HM X K fs e wl) (he:ic X e []:=by rfl) (dI:mj X pos []:=by rfl):LF X K fs (.Call (.Name "sorted" p) [e] [] pos) (.bind wl xq):=⟨PE.imp (eM (JV K hK) hg hm boot_sorted (aZ ha.p ck he) ⋯ ⋯ he dI) λσ H Q ⟨sr,q⟩=>⟨sr,wl.mono (λl q1 u1 H1 g1 s1 _ v1=>by
 obtain⟨ns,el,hC,q2⟩:=gG (l:=l) q1;obtain⟨a,vs,rfl,h1,r1⟩:=v1 H1 .refl s1;rw [el] at r1;have:=jL r1;subst this;refine⟨a,ns,rfl,h1,hC,λms a2 a3=>?_⟩;rw [Ot a2 a3];exact K7 g1 s1 (oE _ _ _) q2) q⟩⟩
variable {el eh:Option ii}{st:ii}{lo ws:W (Option Int)}
def KI (x:PV) (i j k:Option Int):W PV:=match x with
 | .tup l=>.fB (i=bm/\j=bm/\k=ap (-1)) (.ret (.tup l.reverse))
 | _=>.fail
def QX (hK:X.K=K) (he:EF X K fs e w) (hl:OF X K fs el lo) (hh:OF X K fs eh hi) (hs:OF X K fs (ap st) ws):EF X K fs (.Subscript e (.Slice el eh (ap st) p2) pos) (.bind w λx=>.bind lo λi=>.bind hi λj=>.bind ws λk=>KI x i j k):=⟨PE.imp (SK K hK he.p hl.p hh.p hs.p) λσ H Q ⟨sr,q⟩=>⟨sr,w.mono (λx q1 u1 H1 g1 s1 v1=>⟨s1,lo.mono (λi q2 H2 g2 s2=>⟨s2,hi.mono (λj q3 H3 g3 s3=>⟨s3,ws.mono (λk q4 H4 g4 s4=>by
 have Wb:=g4.vr s3 (g3.vr s2 (g2.vr s1 v1));have gg:=((g1.trans g2).trans g3).trans g4;cases Wb with
 | @tup p vs l e r=>
  have q4:(W.fB (i=bm/\j=bm/\k=ap (-1)) (bd (PV.tup l.reverse))).run _:=q4;exact⟨p,vs,rfl,dX.of e,q4.1.1,q4.1.2.1,q4.1.2.2,λq H5 s5 h5 n5=>q4.2 _ H5 (gg.trans (cV.same s5)) (s4.same s5) (.tup h5 (aE.tk s5.eG r.reverse))⟩
 | _=>exact q4.elim) q3⟩) q2⟩) q1⟩) q⟩⟩
end
end
section
open PySem PySem.Spec PyProof.Rows L2 PL
variable {K:Ab}
section
variable {rest:List sn}{T:Type}{out:T->End}{x:Bool}
def ajg (l:List PV):PV->W PV
 | .int k=>.fB (0<=k/\k < 1000) (.K4 l[k.toNat]?)
 | _=>.fail
def WH (l:List PV) (v:PV):W (List PV):=match v with
 | .int k=>.bind (mM l) λns=>.fB (k∈ns) (.ret ((ns.erase k).map PV.int))
 | _=>.fail
theorem SF.remove (i:Nat) {k:List PV->W T} (hs:fs[i]?=ap (ap (.ol q0 l))) (hK:X.K=K) (hN:X.N[i]?=ap y) (hv:Hv X.env.scope y) (he:EF X K fs e we) (hr:∀l',SF X K x (fs.set i (ap (.ol q0 l'))) rest (k l') out)
  (hd:jr y:=by decide) (jM:HN y:=by decide) (eZ:nw (.Name y p) "remove" X.env (kw (.Name y p) X.env)=kw (.Name y p) X.env:=by rfl)
  (ql:Y0 X bK [e]:=by rfl)
  (eY:RP Ä bK:=by rfl) (rQ:ic X e []:=by rfl) (fm:mj X bK []:=by rfl)
  (oG:im (.Call (.Attribute (.Name y p) "remove" Ä) [e] [] bK) bm pos.line X.env=pure false:=by rfl) :
  SF X K x fs (.Expr (.Call (.Attribute (.Name y p) "remove" Ä) [e] [] bK) pos::rest) (.bind we λv=>.bind (WH l v) k) out:=
 SF.step (rG (sT K hK B2 PySem.F.slot_list_remove PySem.F.type_list_remove IC (eL hN hv hd jM) (aZ he.p ck rQ) eZ ql eY rQ fm) oG) λD σ H ⟨sr,q⟩=>by
  obtain⟨a,ws,e1,h1,r1⟩:=dF sr hs;refine⟨_,e1,.inl ⟨rfl,_,c9.of h1⟩,sr,we.mono (λv q1 u H1 g1 s1 v1=>?_) q⟩;obtain⟨a',sj,rm,gZ,uZ⟩:=dF s1 hs;rw [e1] at rm;cases rm;cases v1 with
  | int kk=>
   obtain⟨ns,el,hk,q2⟩:=gG (l:=l) q1;subst el;have:=jL uZ;subst this;refine⟨a,ns,kk,rfl,rfl,gZ,hk,λH2 sx h2=>?_⟩;obtain⟨s2,g2⟩:=nY s1 hs e1 sx h2 (oE _ _ (ns.erase kk));exact⟨_,k _,hr _,s2,(k _).mono (λt q3=>q3.go (g1.f.trans g2) sr s2) q2⟩
  | _=>exact q1.elim
end
end
end FL
variable {vs:List (L2.Key×L2.V)}{kvs:List (L2.Key×PL.PV)}
namespace FL
section
open PySem PySem.Spec PyProof.Rows L2 PL
variable {K:Ab}
abbrev w2 (f:PV->PV->W PV) (wa wb:W PV):W PV:=.bind wa λx=>.bind wb λy=>f x y
def afM (kvs:List (Key×PV)) (k:Key):Bool:=kvs.any λkv=>decide (kv.1=k)
def rj (kvs:List (Key×PV)) (k:Key):Option PV:=(kvs.find? λkv=>decide (kv.1=k)).map (·.2)
def iX (K:Ab) (H:Hp) (vs:List (Key×V)) (kvs:List (Key×PV)):Prop:=vs.map (·.1)=kvs.map (·.1)/\aE K [] H (vs.map (·.2)) (kvs.map (·.2))
section
def iX.cons_inv {p:Key×V}{q:Key×PV} (h:iX K H (p::vs) (q::kvs)):p.1=q.1/\VR K [] H p.2 q.2/\iX K H vs kvs:=by
 obtain⟨h1,h2⟩:=h;injection h1 with a b;cases h2 with
 | cons r t=>exact⟨a,r,b,t⟩
theorem iX.ind {C:List (Key×V)->List (Key×PV)->Prop} (h0:C [] []) (h1:∀p q vs kvs,p.1=q.1->VR K [] H p.2 q.2->iX K H vs kvs->C vs kvs->C (p::vs) (q::kvs)):∀{vs kvs},iX K H vs kvs->C vs kvs
 | [],[],_=>h0
 | [],_::_,h=>by simp [iX] at h
 | _::_,[],h=>by simp [iX] at h
 | p::vs,q::kvs,h=>let ⟨a,b,c⟩:=h.cons_inv;h1 p q vs kvs a b c (iX.ind h0 h1 c)
def iX.has (h:iX K H vs kvs) (k:Key):(iI vs k).isSome=afM kvs k:=by
 rw [<- su];refine iX.ind (C:=λvs kvs=>(vs.any λkv=>decide (kv.1=k))=kvs.any λkv=>decide (kv.1=k)) rfl (λp q vs kvs e _ _ ih=>?_) h;rw [Bz,Bz,ih,e]
def iX.get (h:iX K H vs kvs) (k:Key) (g:rj kvs k=ap v):∃u,iI vs k=ap u/\VR K [] H u v:=by
 refine iX.ind (C:=λvs kvs=>rj kvs k=ap v->∃u,iI vs k=ap u/\VR K [] H u v) (λg=>by simp [rj] at g) (λp q vs kvs e r _ ih g=>?_) h g;by_cases c:p.1=k
 ·rw [kK c];have c':=e▸c;have:rj (q::kvs) k=ap q.2:=by simp [rj,Bi,c']
  rw [this] at g;cases g;exact⟨_,rfl,r⟩
 ·rw [kL c];have c':=e▸c;have:rj (q::kvs) k=rj kvs k:=by simp [rj,Bi,c']
  exact ih (this▸g)
end
end
section
open PySem PySem.Spec PyProof.Rows L2 PL
variable {K:Ab}
def fAs (K:Ab) (fs:bh) (i:Nat) (w:W (List PV)):TS:=λD σ H=>aU K H σ fs/\w.run λl=>∀a vs H',cV σ fs H H'->aU K H' σ fs->H a=bm->H' a=ap (.lst vs)->aE K [] H' vs l->D.nx (σ.set i (ap (.ref a))) H'
structure AS (X:Cx) (K:Ab) (fs:bh) (st:sn) (i:Nat) (w:W (List PV)):Prop where p:PS X st (fAs K fs i w)
section
variable {st:sn}{rest:List sn}{T:Type}{out:T->End}{x:Bool}{k:List PV->W T}
def SF.as (h:AS X K fs st i wl) (hr:∀l,SF X K x (fs.set i (ap (.ol bm l))) rest (k l) out):SF X K x fs (st::rest) (.bind wl k) out:=SF.step h.p λD σ H ⟨sr,q⟩=>⟨sr,wl.mono (λl q1 a ws H1 g1 s1 n e v1=>by
 have no:=sr.noOwn n;have s2:=s1.xx (t:=.ol bm l) ⟨by simp,ws,e,v1⟩ no i;exact⟨_,k l,hr l,s2,(k l).mono (λt q2=>q2.go (cQ.xx s1 g1.f no n i) sr s2) q1⟩) q⟩
def YO (b:Nat) (hs:fs[b]?=ap (ap t)) (h:AS X K (fs.set b (ap (.val t.bv))) st i wl) (hb:t.bw=true:=by rfl):AS X K fs st i (.bind wl vL):=⟨λÀ s σ H D I ⟨sr,q⟩=>by
 obtain⟨a,o,ob,I2,s2,Ì⟩:=bor I sr hs hb;refine bT (h.p À s σ _ {nx:=λσ' H1=>∃b vs l',σ'=σ.set i (ap (.ref b))/\cV σ (fs.set _ (ap (.val t.bv))) (upd H a (.cE ob o)) H1/\aU K H1 σ (fs.set _ (ap (.val t.bv)))/\upd H a (.cE ob o) b=bm/\H1 b=ap (.lst vs)/\aE K [] H1 vs l'/\ux l'=true/\∀a vs H',cV σ fs H H'->aU K H' σ fs->H a=bm->H' a=ap (.lst vs)->aE K [] H' vs l'->D.nx (σ.set i (ap (.ref a))) H',rt:=D.rt,bk:=D.bk,ct:=D.ct} I2 ⟨s2,wl.mono (λl' q1 b vs H1 g1 s1 n e v1=>⟨b,vs,l',rfl,g1,s1,n,e,v1,q1.1,q1.2⟩) q⟩) λf s1 q1=>?_;cases f with
 | next=>
  obtain⟨σ',H1,I1,b,vs,l',rfl,g1,Sg,n,eb,v1,d,q1⟩:=q1;obtain⟨I3,g3,s3,t3,k3⟩:=Ì _ s1 H1 I1 g1 Sg;have nb:b≠a:=λy=>by subst y;rw [aM] at n;cases n
  exact⟨_,_,I3,q1 b vs _ g3 s3 (by rw [av nb] at n;exact n) (k3 b vs nb eb) (aE.jS t3 v1 d)⟩
 | ret v=>exact q1
 | brk=>exact q1
 | cont=>exact q1⟩
end
section
variable {T2:Type}{wt:PV->W T2}{cD:T2->bh}{tf:T2->W Bool}{te:T2->W PV}
def acv (hc:X.calm=true) (hN:X.N.Nodup) (yu:X.N[i]?=ap y) (hx:X.env.scope.names.lookup y=ap .local) (S:ax X.env.scope X.N sc N' ix) (hi:rB X K fs tg iter wl) (hg:∀cl C s2 H2 fp,GF (fC X sc N' cl C s2 H2 fp) K (bq ix fs) tg is wt cD) (ö:∀cl C s2 H2 fp t,FF (fC X sc N' cl C s2 H2 fp) K (cD t) Ë (tf t)) (he:∀cl C s2 H2 fp t,EF (fC X sc N' cl C s2 H2 fp) K (cD t) Å (te t))
  (hf:∀p,f p=.bind (wt p) λt=>.bind (tf t) λk=>if k=true then .bind (te t) λv=>.ret (ap v) else .ret bm) (hl:rA is (bq ix fs) cD/\∀t,iH (cD t) (bq ix fs)) (vk:∀j∈is,ix[j]?=ap bm)
  (oG:im (.ListComp Å [⟨tg,iter,Ë,0⟩] sc pos) (ap (.Name y px)) kH.line X.env=pure true:=by rfl) (hs:uN X iter:=by intro _;rfl) :
  AS X K fs (.Assign [.Name y px] (.ListComp Å [⟨tg,iter,Ë,0⟩] sc pos) kH) i (.bind wl λl=>mJ l f):=
 ⟨PS.imp (F2 hc hN yu hx S hi.p (λcl C s2 H2 fp=>(hg cl C s2 H2 fp).p) (λcl C s2 H2 fp À s σ H Q I ⟨t,q⟩=>(ö cl C s2 H2 fp t).p À s σ H Q I q) (λcl C s2 H2 fp À s σ H Q I ⟨t,q⟩=>(he cl C s2 H2 fp t).p À s σ H Q I q) oG hs) λD σ H ⟨sr,q⟩=>
  QJ (K:=K) S rfl hf hl.1 hl.2 vk σ H _ ⟨sr,q⟩⟩
def UI (hc:X.calm=true) (hN:X.N.Nodup) (yu:X.N[i]?=ap y) (hx:X.env.scope.names.lookup y=ap .local) (S:ax X.env.scope X.N sc N' ix) (hi:rB X K fs tg iter wl) (hg:∀cl C s2 H2 fp,GF (fC X sc N' cl C s2 H2 fp) K (bq ix fs) tg is wt cD) (he:∀cl C s2 H2 fp t,EF (fC X sc N' cl C s2 H2 fp) K (cD t) Å (te t))
  (hl:rA is (bq ix fs) cD/\∀t,iH (cD t) (bq ix fs)) (vk:∀j∈is,ix[j]?=ap bm)
  (oG:im (.ListComp Å [⟨tg,iter,[],0⟩] sc pos) (ap (.Name y px)) kH.line X.env=pure true:=by rfl) (hs:uN X iter:=by intro _;rfl) :
  AS X K fs (.Assign [.Name y px] (.ListComp Å [⟨tg,iter,[],0⟩] sc pos) kH) i (.bind wl λl=>bC l λp=>.bind (wt p) te):=by
 rw [Lc];exact acv (tf:=λ_=>.ret true) hc hN yu hx S hi hg (λ_ _ _ _ _ _=>Jw) he (λp=>rfl) hl vk oG hs
def UJ {f:PV->W PV} (hc:X.calm=true) (hN:X.N.Nodup) (yu:X.N[i]?=ap y) (hx:X.env.scope.names.lookup y=ap .local) (S:ax X.env.scope X.N sc N' ix) (hi:rB X K fs tg iter wl) (hg:∀cl C s2 H2 fp,PG (fC X sc N' cl C s2 H2 fp) tg (eB j)) (he:∀cl C s2 H2 fp t,EF (fC X sc N' cl C s2 H2 fp) K ((bq ix fs).set j (ap (.val t))) Å (f t)) (h0:ix[j]?=ap bm)
  (oG:im (.ListComp Å [⟨tg,iter,[],0⟩] sc pos) (ap (.Name y px)) kH.line X.env=pure true:=by rfl) (hs:uN X iter:=by intro _;rfl) :
  AS X K fs (.Assign [.Name y px] (.ListComp Å [⟨tg,iter,[],0⟩] sc pos) kH) i (.bind wl λl=>bC l f):=
 have h1:(bq ix fs)[j]?=ap bm:=by unfold bq;rw [Aj,h0];rfl
 UI (wt:=.ret) hc hN yu hx S hi (λcl C s2 H2 fp=>VG (hg cl C s2 H2 fp)) he (PJ h1) (λm hj=>by rw [AN] at hj;subst hj;exact h0) oG hs
end
end
end FL
variable {kvs:List (List L2.Key×PL.PV)}
namespace FL
section
open PySem PySem.Spec PyProof.Rows L2 PL
variable {K:Ab}
def bQ (K:Ab) (H:Hp) (vs:List (List Key×V)) (kvs:List (List Key×PV)):Prop:=vs.map (·.1)=kvs.map (·.1)/\aE K [] H (vs.map (·.2)) (kvs.map (·.2))
def UY (K:Ab) (H:Hp) (ob:HO) (v:PV):Prop:=(∃vs kvs,ob=.dK vs/\v=dvK kvs/\iX K H vs kvs)\/∃vs kvs,ob=.dT vs/\v=zj kvs/\bQ K H vs kvs
def fDv (K:Ab) (fs:bh) (w:W PV):TE:=λσ H Q=>aU K H σ fs/\w.run λv=>∀a ob H',cV σ fs H H'->aU K H' σ fs->H a=bm->H' a=ap ob->UY K H' ob v->Q (.ref a) H'
structure DVF (X:Cx) (K:Ab) (fs:bh) (e:ii) (w:W PV):Prop where p:PE X e (fDv K fs w)
section
variable {σ:L2.St}{fs:bh}{H:Hp}{a:ce}{ob:HO}{v:PV}
def aU.aac (s:aU K H σ fs) (n:¬dY σ fs a) (e:H a=ap ob) (n1:∀vs,ob≠.tup vs) (n2:∀o u,ob≠.cE o u) (o':HO):aU K (upd H a o') σ fs:=⟨s.len,λi t q=>by
 obtain⟨u,h1,h2⟩:=s.at' i t q;exact⟨u,h1,h2.mono (gJ o' e n1 n2) (λx b o eb ow hb z=>by subst eb;rw [av (λy:b=a=>n ⟨i,t,x,q,ow,h1,y▸hb⟩)];exact z)⟩,s.nd⟩
def UY.cE {X:Cx}{À:List (ce×Obj)}{s:cr}{σ':L2.St} (I:Inv X À σ' H s) (e:H a=ap ob) (d:UY K H ob v):∃u,Inv X À σ' (upd H a u) s/\VR K [] (upd H a u) (.ref a) v/\(∀vs,ob≠.tup vs)/\∀o u,ob≠.cE o u:=by
 rcases d with⟨vs,kvs,rfl,rfl,d1,d2⟩ | ⟨vs,kvs,rfl,rfl,d1,d2⟩
 ·obtain⟨o,I2⟩:=I.Lu e;exact⟨_,I2,.dk aM (Vq d1) (aE.tk (gJ _ e (by simp) (by simp)) d2),by simp,by simp⟩
 ·obtain⟨o,I2⟩:=I.freeze e;exact⟨_,I2,.dt aM (Vp d1) (aE.tk (gJ _ e (by simp) (by simp)) d2),by simp,by simp⟩
end
section
variable {a b c:ii}{w:W PV}
def agf (h:DVF X K fs e w):EF X K fs e w:=⟨λÀ s σ H Q I ⟨sr,q⟩=>by
 refine bT (h.p À s σ H (λu H1=>∃a ob v,u=.ref a/\cV σ fs H H1/\aU K H1 σ fs/\H a=bm/\H1 a=ap ob/\UY K H1 ob v/\∀u H',cV σ fs H H'->aU K H' σ fs->VR K [] H' u v->Q u H') I ⟨sr,w.mono (λv q1 a ob H1 g1 s1 n e d=>⟨a,ob,v,rfl,g1,s1,n,e,d,q1⟩) q⟩) λu s1 ⟨v,H1,I1,r1,a,ob,v',e,g1,Sg,n,ea,d,q1⟩=>?_;subst e;obtain⟨o',I2,vr,n1,n2⟩:=d.cE I1 ea;exact⟨.ref a,_,I2,r1,q1 _ _ (g1.side n _) (Sg.aac (λz=>sr.noOwn n z) ea n1 n2 _) vr⟩⟩
def KY (kv:List Key×PV):PV:=.tup [.tup (kv.1.map kP),kv.2]
theorem P8 (H:Hp):∀k:List Key,aE K [] H (k.map kV) (k.map kP)
 | []=>.nil
 | .inl i::k=>.cons (.int i) (P8 H k)
 | .inr i::k=>.cons (.str i) (P8 H k)
theorem GQ:∀{k:List Key}{vs:List V},aE K [] H vs (k.map kP)->vs=k.map kV
 | [],_,h=>by cases h;rfl
 | .inl i::k,_,h=>by
  cases h with
  | cons x t=>cases x;rw [GQ t];rfl
 | .inr i::k,_,h=>by
  cases h with
  | cons x t=>cases x;rw [GQ t];rfl
theorem F9:∀{kvs:List (List Key×PV)}{vs:List V},aE K [] H vs (kvs.map KY)->∃zs:List Pz,vs=zs.map (λz=>V.ref z.pa)/\(∀z∈zs,z.At H)/\zs.map (·.k)=kvs.map (·.1)/\aE K [] H (zs.map (·.v)) (kvs.map (·.2))
 | [],_,h=>by cases h;exact⟨[],rfl,by simp,rfl,.nil⟩
 | kv::kvs,_,h=>by
  cases h with
  | cons x t=>
  obtain⟨zs,z1,z2,z3,z4⟩:=F9 t;cases x with
  | @tup p ws _ e r=>
  cases r with
  | cons x1 t1=>
  cases t1 with
  | cons x2 t2=>
  cases t2;cases x1 with
  | @tup b us _ e1 r1=>
  have:=GQ r1;subst this;refine⟨⟨p,kv.1,b,_⟩::zs,by rw [Ao,z1],λz hz=>?_,by rw [Ao,Ao,z3],.cons x2 z4⟩;rcases Ax.mp hz with rfl | hz
  ·exact⟨e,e1⟩
  ·exact z2 z hz
def JP (l:List PV):W PV:=⟨λQ=>∃kvs:List (List Key×PV),l=kvs.map KY/\(kvs.map (·.1)).Nodup/\kvs.length<=1000/\Q (zj kvs),λf q=>q.imp λkvs h=>⟨h.1,h.2.1,h.2.2.1,f _ h.2.2.2⟩⟩
theorem Uz (hK:X.K=K) (hc:X.calm=true) (hu:X.A.units+200 < o0) (hg:Gl X "dict") (hm:X.mg "dict"=bm) (ha:HM X K fs e wl) (he:ic X e []:=by rfl) (dI:mj X pos []:=by rfl) :
  DVF X K fs (.Call (.Name "dict" p) [e] [] pos) (.bind wl JP):=⟨PE.imp (lQ (JZ K hK hc ∅) hg hm boot_dict (aZ ha.p ck he) ⋯ ⋯ he dI) λσ H Q ⟨sr,q⟩=>⟨sr,wl.mono (λl q1 u H1 g1 s1 v0 v1=>by
  obtain⟨kvs,rfl,nd,hl,q1⟩:=q1;obtain⟨a,vs,rfl,e3,e4⟩:=v1 H1 .refl s1;obtain⟨zs,rfl,z2,z3,z4⟩:=F9 e4;have hzl:zs.length=kvs.length:=by have:=congrArg BP z3;simpa using this
  refine⟨a,zs,rfl,e3,z2,by rw [z3];exact nd,by omega,λp H2 s2 h2 n2=>?_⟩;exact q1 _ _ H2 (g1.trans (cV.same s2)) (s1.same s2) (g1.there _ n2) h2 (.inr ⟨_,_,rfl,rfl,by rw [AB,<- z3];rfl,by rw [AB];exact aE.tk s2.eG z4⟩)) q⟩⟩
def Nn (nd:(kvs.map (·.1)).Nodup) (hl:kvs.length<=1000) (q:Q (zj kvs)):(JP (kvs.map KY)).run Q:=⟨kvs,rfl,nd,hl,q⟩
def cU (kvs:List (List Key×PV)) (k:List Key):Option PV:=(kvs.find? λkv=>decide (kv.1=k)).map (·.2)
theorem bQ.get {k:List Key}:∀{vs:List (List Key×V)}{kvs:List (List Key×PV)},bQ K H vs kvs->(cU kvs k=bm->iI vs k=bm)/\∀{v},cU kvs k=ap v->∃u,iI vs k=ap u/\VR K [] H u v
 | [],[],_=>⟨λ_=>rfl,λg=>by simp [cU] at g⟩
 | [],_::_,h=>by simp [bQ] at h
 | _::_,[],h=>by simp [bQ] at h
 | p::vs,q::kvs,h=>by
  obtain⟨h1,h2⟩:=h;rw [Ao,Ao] at h1 h2;injection h1 with e b;cases h2 with
  | cons r t=>
  have ih:=bQ.get (k:=k) (vs:=vs) (kvs:=kvs) ⟨b,t⟩;by_cases c:p.1=k
  ·rw [kK c];have c':=e▸c;have:cU (q::kvs) k=ap q.2:=by simp [cU,Bi,c']
   rw [this];refine⟨λz=>(by cases z),λ{v} z=>?_⟩;cases z;exact⟨_,rfl,r⟩
  ·rw [kL c];have c':=e▸c;have:cU (q::kvs) k=cU kvs k:=by simp [cU,Bi,c']
   rw [this];exact ih
def iX.get' {k:Key}:∀{vs:List (Key×V)}{kvs:List (Key×PV)},iX K H vs kvs->(rj kvs k=bm->iI vs k=bm)/\∀{v},rj kvs k=ap v->∃u,iI vs k=ap u/\VR K [] H u v:=λ{vs kvs} h=>⟨λz=>by
 have:=h.has k;cases e:iI vs k with
 | none=>rfl
 | some u=>
  rw [e] at this;have h2:=this.symm;unfold rj at z;rw [Ey,List.find?_eq_none] at z;obtain⟨x,hx,hx2⟩:=List.any_eq_true.mp h2;exact absurd hx2 (z x hx),λz=>h.get k z⟩
def Vt (k:Key) (l:List PV):kP k≠.tup l:=by cases k <;> exact PV.noConfusion
def XW {a b:Key} (h:kP a=kP b):a=b:=by
 cases a <;> cases b <;> simp [kP] at h <;> rw [h]
theorem yj:∀{a b:List Key},a.map kP=b.map kP->a=b
 | [],[],_=>rfl
 | [],_::_,h=>by simp at h
 | _::_,[],h=>by simp at h
 | x::a,y::b,h=>by
  rw [Ao,Ao] at h;injection h with h1 h2;rw [XW h1,yj h2]
inductive HG:PV->PV->Option PV->Prop
 | k (kvs:List (Key×PV)) (k:Key):kvs≠[]->HG (dvK kvs) (kP k) (rj kvs k)
 | t (kvs:List (List Key×PV)) (k:List Key):kvs≠[]->HG (zj kvs) (.tup (k.map kP)) (cU kvs k)
def Wa {kvs:List (Key×PV)} (h0:kvs≠[]) (h:VR K [] H u (dvK kvs)):∃a o vs,u=.ref a/\H a=ap (.cE o (.dK vs))/\iX K H vs kvs:=by
 have ß:∀{vs:List (Key×V)}{kvs:List (Key×PV)},(kvs.map λkv=>kP kv.1)=(vs.map λkv=>kP kv.1)->vs.map (·.1)=kvs.map (·.1):=λ{vs kvs} e=>by
  have e:(kvs.map (·.1)).map kP=(vs.map (·.1)).map kP:=by rw [AB,AB];exact e
  exact (yj e).symm
 cases h with
 | @dk a o vs _ _ e k r=>exact⟨a,o,vs,rfl,e,ß k,r⟩
 | @dt a o vs _ _ e k r=>
  cases kvs with
  | nil=>exact absurd rfl h0
  | cons x l=>cases vs with
   | nil=>simp at k
   | cons y m=>simp at k;exact absurd k.1 (Vt _ _)
def N7 (h0:kvs≠[]) (h:VR K [] H u (zj kvs)):∃a o vs,u=.ref a/\H a=ap (.cE o (.dT vs))/\bQ K H vs kvs:=by
 have ß:∀{vs:List (List Key×V)}{kvs:List (List Key×PV)},(kvs.map λkv=>PV.tup (kv.1.map kP))=(vs.map λkv=>PV.tup (kv.1.map kP))->vs.map (·.1)=kvs.map (·.1):=λ{vs kvs} e=>by
  induction kvs generalizing vs with
  | nil=>cases vs with
   | nil=>rfl
   | cons y m=>simp at e
  | cons x l ih=>cases vs with
   | nil=>simp at e
   | cons y m=>
    injection e with e1 e2;injection e1 with e1;rw [Ao,Ao,yj e1,ih e2]
 cases h with
 | @dt a o vs _ _ e k r=>exact⟨a,o,vs,rfl,e,ß k,r⟩
 | @dk a o vs _ _ e k r=>
  cases kvs with
  | nil=>exact absurd rfl h0
  | cons x l=>cases vs with
   | nil=>simp at k
   | cons y m=>simp at k;exact absurd k.1.symm (Vt _ _)
def HG.ok {z:V}{d y:PV}{r:Option PV} (h:HG d y r) (hu:VR K [] H u d) (hz:VR K [] H z y):∃a o,u=.ref a/\IsD H a/\Kg H a z o/\(r=bm->o=bm)/\∀v,r=ap v->∃w,o=ap w/\VR K [] H w v:=by
 cases h with
 | k kvs k h0=>
  obtain⟨a,o,vs,rfl,e,d⟩:=Wa h0 hu;have ez:z=kV k:=by
   cases k with
   | inl i=>cases hz;rfl
   | inr i=>cases hz;rfl
  subst ez;exact⟨a,iI vs k,rfl,.inl ⟨vs,.inr ⟨o,e⟩⟩,.inl ⟨vs,k,.inr ⟨o,e⟩,rfl,rfl⟩,(iX.get' d).1,λv=>(iX.get' d).2⟩
 | t kvs k h0=>
  obtain⟨a,o,vs,rfl,e,d⟩:=N7 h0 hu;cases hz with
  | @tup b us _ e1 r1=>
  have:=GQ r1;subst this;exact⟨a,iI vs k,rfl,.inr ⟨vs,.inr ⟨o,e⟩⟩,.inr ⟨vs,k,b,.inr ⟨o,e⟩,rfl,e1,rfl⟩,(bQ.get d).1,λv=>(bQ.get d).2⟩
def dgW (d y:PV):W PV:=⟨λQ=>∃v,HG d y (ap v)/\Q v,λf ⟨v,a,q⟩=>⟨v,a,f _ q⟩⟩
def RM (a b:W PV):W PV:=.bind a λx=>.bind b λy=>dgW x y
theorem uv (hu:X.A.units+200 < o0) (ha:EF X K fs a wa) (hb:EF X K fs b wb) (hs:UT b):EF X K fs (.Subscript a b pos) (RM wa wb):=⟨PE.imp (KU ∅ ha.p hb.p hs) λσ H Q ⟨sr,q⟩=>⟨sr,wa.mono (λx q1 u1 H1 g1 s1 v1=>⟨s1,wb.mono (λy q2 u2 H2 g2 s2 v2=>by
 obtain⟨v,g,q2⟩:=q2;obtain⟨a,o,rfl,_,g2',_,h⟩:=g.ok (g2.vr s1 v1) v2;obtain⟨w,rfl,vw⟩:=h v rfl;exact⟨a,w,rfl,g2',q2 _ H2 (g1.trans g2) s2 vw⟩) q1⟩) q⟩⟩
def rY {k:List Key} (h:cU kvs k=ap v) (q:Q v):(dgW (zj kvs) (.tup (k.map kP))).run Q:=⟨v,by rw [<- h];exact .t kvs k (λz=>by subst z;simp [cU] at h),q⟩
def PQ (d:PV):W (List PV):=⟨λQ=>∃kvs:List (List Key×PV),d=zj kvs/\kvs≠[]/\kvs.length<=1000/\Q (kvs.map λkv=>.tup (kv.1.map kP)),λf q=>q.imp λkvs h=>⟨h.1,h.2.1,h.2.2.1,f _ h.2.2.2⟩⟩
theorem TU (h:EF X K fs e w):rB X K fs tg e (.bind w PQ):=⟨PI.imp (O9 h.p) λσ H R ⟨sr,q⟩=>⟨sr,w.mono (λx q1 u1 H1 g1 s1 v1=>by
 obtain⟨kvs,rfl,h0,hl,q1⟩:=q1;obtain⟨a,o,vs,rfl,e,d1,d2⟩:=N7 h0 v1;have len:vs.length=kvs.length:=by have:=congrArg BP d1;simpa using this
 refine⟨a,o,vs,rfl,e,q1 _ H1 g1 s1 ⟨bF (by simpa using hl),λH' t=>?_⟩⟩;have e':=t.z _ _ _ e;refine⟨λi p hp=>?_,vs,e',by simp [len]⟩;rw [Aj] at hp;cases z:kvs[i]? with
 | none=>rw [z] at hp;cases hp
 | some kv=>
  rw [z] at hp;have hp:=Option.some.inj hp;subst hp;have hi:=(Ak.mp z).1;refine⟨⟨vs,e',by omega⟩,λy H2 yy=>?_⟩;obtain⟨rfl,yy⟩:=yy;obtain⟨b,k,v,rfl,k2,k3⟩:=yy vs e';have ek:k=kv.1:=by
   have h1:(vs.map (·.1))[i]?=ap k:=by rw [Aj,k2];rfl
   rw [d1,Aj,z] at h1;exact (Option.some.inj h1).symm
  subst ek;exact⟨lJ.refl _,.tup k3 (P8 _ _)⟩) q⟩⟩
def MK {Q:List PV->Prop} (h0:kvs≠[]) (hl:kvs.length<=1000) (q:Q (kvs.map λkv=>.tup (kv.1.map kP))):(PQ (zj kvs)).run Q:=⟨kvs,rfl,h0,hl,q⟩
end
end
end FL
variable {κ:PyProof.Rows.SortKind}{vs:List A5}{p:Array Nat}{m:Nat}
namespace L2
open PySem PySem.Spec PyProof.Rows
def e7 (N:Nat) (P:α->Prop):DK α->Prop
 | .ret a=>P a
 | .ask i j k=>i < N/\j < N/\∀b,e7 N P (k b)
theorem e7.mono {N:Nat}{P P':α->Prop} (h:∀a,P a->P' a):∀{t:DK α},e7 N P t->e7 N P' t
 | .ret a,q=>h a q
 | .ask i j k,q=>⟨q.1,q.2.1,λb=>e7.mono h (q.2.2 b)⟩
theorem e7.bind {N:Nat}{P:α->Prop}{P':β->Prop}{f:α->DK β} (hf:∀a,P a->e7 N P' (f a)):∀{t:DK α},e7 N P t->e7 N P' (t.bind f)
 | .ret a,q=>hf a q
 | .ask i j k,q=>⟨q.1,q.2.1,λb=>e7.bind hf (q.2.2 b)⟩
theorem e7.wp {N:Nat}{P:α->Prop}{cmp:Nat->Nat->(Bool->cr->Prop)->cr->Prop}{Q:α->cr->Prop} (hc:∀i j C,i < N->j < N->(∀b,C b s)->cmp i j C s) (hq:∀a,P a->Q a s):∀{t:DK α},e7 N P t->t.kasWp cmp Q s
 | .ret a,q=>hq a q
 | .ask i j k,q=>hc i j _ q.1 q.2.1 λb=>e7.wp hc hq (q.2.2 b)
def cP (N:Nat) (p:Array Nat):Prop:=p.toList.Perm (AJ N)
def cP.lt {N:Nat} (h:cP N p) (h0:0 < N) (k:Nat):p.getD k 0 < N:=by
 by_cases c:k < p.size
 ·have:p.getD k 0=p[k]:=by simp [Array.getD,c]
  rw [this];exact A6.mp (h.mem_iff.mp (by simp))
 ·have:p.getD k 0=0:=by simp [Array.getD,c]
  rw [this];exact h0
def cP.rev {N:Nat} (h:cP N p) (i j:Nat):cP N (EH p i j):=(D8.mp (mirror_perm p i j _)).trans h
def cP.bub {N:Nat} (h:cP N p) (i j:Nat):cP N (bubble p i j):=(D8.mp (bubble_perm p i j)).trans h
section
variable {N:Nat} (h0:0 < N)
include h0
theorem P6 (h:cP N p):∀f n,e7 N (λ_=>True) (PySem.W.kas_asc p f n)
 | 0,n=>trivial
 | f+1,n=>⟨h.lt h0 _,h.lt h0 _,λb=>by
  cases b with
  | true=>exact trivial
  | false=>exact P6 h f (n+1)⟩
theorem xX:∀f (p:Array Nat) n q,cP N p->e7 N (λr=>cP N r.1) (PySem.W.kas_desc f p n q)
 | 0,p,n,q,h=>h
 | f+1,p,n,q,h=>⟨h.lt h0 _,h.lt h0 _,λb=>by
  cases b with
  | true=>
   show e7 N _ (if q > 0 then _ else _)
   split
   ·exact xX f _ _ _ (h.rev _ _)
   ·exact xX f _ _ _ h
  | false=>exact⟨h.lt h0 _,h.lt h0 _,λb=>by
    cases b with
    | true=>exact h
    | false=>exact xX f _ _ _ h⟩⟩
def PX (h:cP N p):e7 N (λr=>cP N r.2) (PySem.W.kas_tail3 n m p):=by
 exact e7.bind (N:=N) (P:=λ_=>True) (P':=λr:Nat×Array Nat=>cP N r.2) (f:=λk=>.ret (k,EH p 0 n)) (λk _=>(show cP N (EH p 0 n) from h.rev _ _)) (P6 h0 (h.rev _ _) _ _)
def P0 (h:cP N p):e7 N (λr=>cP N r.2) (PySem.W.kas_descPart n m p):=e7.bind (λr hr=>by
 split
 ·exact PX h0 (hr.rev _ _)
 ·exact PX h0 hr) (xX h0 _ _ _ _ h)
def TK (h:cP N p):e7 N (λr=>cP N r.2) (PySem.W.kas_count m p):=e7.bind (λn _=>by
 split
 ·exact h
 ·split
  ·exact⟨h.lt h0 _,h.lt h0 _,λb=>by
    cases b with
    | true=>exact h
    | false=>exact P0 h0 (h.rev _ _)⟩
  ·exact P0 h0 h) (P6 h0 h _ _)
theorem xV (h:cP N p) (k:Nat):∀f l r,e7 N (λ_=>True) (PySem.W.kas_place p k f l r)
 | 0,l,r=>trivial
 | f+1,l,r=>by
  show e7 N _ (if l≥r then _ else _)
  split
  ·exact trivial
  ·exact⟨h.lt h0 _,h.lt h0 _,λb=>by
    cases b with
    | true=>exact xV h k f _ _
    | false=>exact xV h k f _ _⟩
theorem Vs:∀f (p:Array Nat) k,cP N p->e7 N (cP N) (PySem.W.kas_bin f p k)
 | 0,p,k,h=>h
 | f+1,p,k,h=>e7.bind (λl _=>Vs f _ _ (h.bub _ _)) (xV h0 h k _ _ _)
def XU:e7 N (cP N) (Fz N):=e7.bind (λr hr=>by
 split
 ·exact Vs h0 _ _ _ hr
 ·exact hr) (TK h0 (List.Perm.refl _))
end
section
theorem IL {P:PySem.Fin->cr->Prop} (ho:s.heap.get? a=ap (sw "list" vs.toArray n)) (þ:vs.length < 64)
  (Ķ:2<=vs.length->∀h',(∀b o,b≠a->s.heap.get? b=ap o->h'.get? b=ap o)->db (dL prog w) A (keyKind' vs.toArray) (λk s'=>k=κ/\s'={s with heap:=h'}) (λ_ _=>False) {s with heap:=h'})
  (iA:∀h',(∀b o,b≠a->s.heap.get? b=ap o->h'.get? b=ap o)->∀i j,i < vs.length->j < vs.length->∀C:Bool->cr->Prop,(∀b,C b {s with heap:=h'})->db (dL prog w) A (keyLt' κ (vs.getD i AR) (vs.getD j AR)) C (λ_ _=>False) {s with heap:=h'})
  (h:∀out:List bn,out.Perm vs->P (.done (.ret .none)) {s with heap:=sortedHeap s.heap a vs out.toArray}) :
  db (dL prog w) A (v4.«list.sort» ⟨[.ref a],[]⟩) P E s:=by
 rw [list_sort_plain];have ha:=Ar ho;refine Aa (listItems_at ho rfl ?_);refine Aa (listUpdate_at ho rfl ?_);obtain⟨e1,ho1⟩:∃e1,(s.heap.update a (Bm λ_=>#[])).get? a=ap (sw "list" #[] e1):=⟨_,get?_update_seq ho (λ_=>#[])⟩;refine Aa (seqEpoch_at ho1 rfl ?_);refine Aa (CN ?_);refine Aa (wpAny_newList ?_);refine Bf ?_;have ē:(((s.heap.update a (Bm λ_=>#[])).push (sw "tuple" vs.toArray 0)).push (sw "list" #[] 0)).get? a=ap (sw "list" #[] e1):=by
  rw [Heap.get?_push_ne _ _ _ (by rw [size_push',Em];exact AA (Nat.lt_succ_of_lt ha)),Heap.get?_push_ne _ _ _ (by rw [Em];exact AA ha)];exact ho1
 have kp:∀b o,b≠a->s.heap.get? b=ap o->(((s.heap.update a (Bm λ_=>#[])).push (sw "tuple" vs.toArray 0)).push (sw "list" #[] 0)).get? b=ap o:=λb o n e=>Ag _ (Ag _ (by rw [Fg _ _ _ _ n];exact e));dsimp only;have hsz:vs.toArray.size=vs.length:=by simp
 by_cases h2:vs.toArray.size < 2
 ·rw [if_pos h2,if_pos h2];refine Aa (Ae ?_);refine Aa (Ae ?_);dsimp only;refine Aa (seqEpoch_at ē rfl ?_);refine Aa (listUpdate_at ē rfl ?_ (hsz2:=by rw [Array.size_map];show (pairsOf vs).size<=_;rw [pairsOf_size,sizeLine_eq];omega));simp only [bne_self_eq_false,Au,if_false];refine Ae ?_;have e:(arrOf (SortSt.mk' general' (vs.toArray.zip vs.toArray) #[] 7 bm)).map (·.2)=vs.toArray:=by
   apply Array.toList_inj.mp;simp [List.map_snd_zip]
  show P _ {s with heap:=_};rw [e];exact h vs (List.Perm.refl _)
 ·rw [if_neg h2,if_neg h2];have rS:2<=vs.length:=by omega
  refine Aa (BJ (Ķ rS _ kp) (λk s0 hk=>?_) λ_ _ x=>x.elim);obtain⟨rfl,rfl⟩:=hk;have hw:(Fz vs.length).kasWp (PySem.W.kas_ask prog w A k vs) (λp s'=>cP vs.length p/\s'={s with heap:=((s.heap.update a (Bm λ_=>#[])).push (sw "tuple" vs.toArray 0)).push (sw "list" #[] 0)}) {s with heap:=((s.heap.update a (Bm λ_=>#[])).push (sw "tuple" vs.toArray 0)).push (sw "list" #[] 0)}:=
   e7.wp (λi j C hi hj hC=>iA _ kp i j hi hj C hC) (λp hp=>⟨hp,rfl⟩) (XU (show 0 < vs.length by omega))
  refine Aa (BJ (PySem.W.kat_run (Q:=λrF s'=>∃p:Array Nat,cP vs.length p/\arrOf rF=p.map (PySem.W.kas_item (vs.toArray.zip vs.toArray))/\failedOf rF=bm/\s'={s with heap:=((s.heap.update a (Bm λ_=>#[])).push (sw "tuple" vs.toArray 0)).push (sw "list" #[] 0)})
   rfl rS þ (λp' rF s' a1 a2 a3 a4=>⟨p',a4.1,a2,a3,a4.2⟩) hw) ?_ λ_ _ e=>e)
  rintro⟨⟨⟩,rF⟩ s' ⟨p,hp,har,hf,rfl⟩;have afq:=PySem.W.kat_snds rfl har;have VB:(p.toList.map λi=>vs.getD i AR).Perm vs:=by
   have e:(AJ vs.length).map (λi=>vs.getD i AR)=vs:=by
    apply B6;intro i;by_cases c:i < vs.length
    ·rw [Aj,BM c,Ad c];show ap (vs.getD i AR)=_;rw [Al,Ad c];rfl
    ·rw [AV (by simp;omega),AV ∅]
   have:=hp.map (λi=>vs.getD i AR);rw [e] at this;exact this
  rw [afq];refine Aa (seqEpoch_at ē rfl ?_);refine Aa (listUpdate_at ē rfl ?_ (hsz2:=by rw [Ai,VB.length_eq,sizeLine_eq];omega));rw [hf];simp only [bne_self_eq_false,Au,if_false];exact Ae (h _ VB)
def Sb {l:ce}{Q:bn->cr->Prop} (hl:s.heap.IsList l vs.toArray) (þ:vs.length < 64)
  (Ķ:2<=vs.length->∀h',(∀b o,s.heap.get? b=ap o->h'.get? b=ap o)->db (dL prog w) A.in1.in1 (keyKind' vs.toArray) (λk s'=>k=κ/\s'={s with heap:=h'}) (λ_ _=>False) {s with heap:=h'})
  (iA:∀h',(∀b o,s.heap.get? b=ap o->h'.get? b=ap o)->∀i j,i < vs.length->j < vs.length->∀C:Bool->cr->Prop,(∀b,C b {s with heap:=h'})->db (dL prog w) A.in1.in1 (keyLt' κ (vs.getD i AR) (vs.getD j AR)) C (λ_ _=>False) {s with heap:=h'})
  (h:∀out:List bn,out.Perm vs->Q (.ref (s.heap.objs.size+1)) {s with heap:=sortedAll s.heap vs out.toArray}) :
  db (dL prog w) A (call (.builtin "sorted") [.ref l]) Q E s:=by
 refine Calls.call_function_entry kind_sorted plain_sorted entry_sorted (args_sorted1 _) ?_;refine Aa (m:=checkCount "sorted" 1 1 _) (Ae ?_);refine Aa (collect_list hl ?_);refine Aa (wpAny_newList ?_);have hsz:((s.heap.push (sw "list" #[] 0)).update s.heap.objs.size (Bm (·++vs.toArray))).objs.size=s.heap.objs.size+1:=by
  rw [Em,size_push']
 have Ē:(((s.heap.push (sw "list" #[] 0)).update s.heap.objs.size (Bm (·++vs.toArray))).push (sw "list" vs.toArray 0)).get? (s.heap.objs.size+1)=ap (sw "list" vs.toArray 0):=by
  rw [<- hsz];exact Ap _ rfl
 have kp:∀b o,s.heap.get? b=ap o->b≠s.heap.objs.size+1/\(((s.heap.push (sw "list" #[] 0)).update s.heap.objs.size (Bm (·++vs.toArray))).push (sw "list" vs.toArray 0)).get? b=ap o:=λb o e=>by
  have lt:=Ar e;refine⟨AA (Nat.lt_succ_of_lt lt),Ag _ ?_⟩;rw [Fg _ _ _ _ (AA lt)];exact Ag _ e
 show db _ _ _ _ _ {s with heap:=((s.heap.push (sw "list" #[] 0)).update s.heap.objs.size (Bm (·++vs.toArray))).push (sw "list" vs.toArray 0)};rw [hsz];refine Aa (Bf (Bb slot_list_sort ⟨_,Ē,rfl⟩ entry_list_sort (IL (κ:=κ) Ē þ (λh2 h' k=>?_) (λh' k=>?_) λout hp=>⟨_,rfl,?_⟩) (args_list_sort _)))
 ·exact Ķ h2 h' λb o e=>k b o (kp b o e).1 (kp b o e).2
 ·exact iA h' λb o e=>k b o (kp b o e).1 (kp b o e).2
 ·exact Ae ⟨_,rfl,h out hp⟩
end
end L2
variable {t t1:PySem.Tok}{p:Ca}
namespace FL
section
open PySem PySem.Spec PyProof.Rows L2 PL
variable {K:Ab}
def qj:PV->Bool
 | .tup [.str _,.tup [.int _,.int _]]=>true
 | _=>false
def Jh (h:qj x=true):∃s i j,x=.tup [.str s,.tup [.int i,.int j]]:=by
 unfold qj at h
 split at h
 ·exact⟨_,_,_,rfl⟩
 ·cases h
section
def Uw (I:Inv X À σ H s) {v:V}{u:bn} (hv:VR X.K [] H v x) (ru:RelV v u) (hx:qj x=true):∃(a b:ce) (st:Str) (i j:Int) (t t1 t2:Tok) (oa ob:Obj) (na nb:Nat),u=.ref a/\s.heap.get? a=ap oa/\oa.cls=.type "tuple"/\oa.data=.seq #[.str st t,.ref b] na/\s.heap.get? b=ap ob/\ob.cls=.type "tuple"/\ob.data=.seq #[.int i t1,.int j t2] nb:=by
 obtain⟨st,i,j,rfl⟩:=Jh hx;cases hv with
 | @tup p vs _ e r=>
 cases ru;cases r with
 | cons r1 r2=>
 cases r1;cases r2 with
 | cons r2 r3=>
 cases r3;cases r2 with
 | @tup b ws _ e2 r4=>
 cases r4 with
 | cons r4 r5=>
 cases r4;cases r5 with
 | cons r5 r6=>
 cases r6;cases r5;obtain⟨ar,rv,⟨o,h1,h2,n,h3⟩,_⟩:=I.tuple (dX.of (K:=X.K) e);obtain⟨cT,rv2,⟨o2,k1,k2,n2,k3⟩,_⟩:=I.tuple (dX.of (K:=X.K) e2);cases rv with
 | cons q1 q2=>
 cases q2 with
 | cons q2 q3=>
 cases q3;cases rv2 with
 | cons m1 m2=>
 cases m2 with
 | cons m2 m3=>
 cases m3;obtain⟨t,rfl⟩:=q1;cases q2;obtain⟨t1,rfl⟩:=m1;obtain⟨t2,rfl⟩:=m2;exact⟨p,b,st,i,j,t,t1,t2,o,o2,n,n2,rfl,h1,h2,h3,k1,k2,k3⟩
end
theorem Uu {b a' b':ce}{st rF:Str}{i j i' j':Int}{t2 t' Z9 Z7:Tok}{oa Y5 ê:Obj}{na nb na' ĥ:Nat} (hu:A.units+1 < o0)
  (h1:s.heap.get? a=ap oa) (h3:oa.data=.seq #[.str st t,.ref b] na) (k1:s.heap.get? b=ap ob) (k2:ob.cls=.type "tuple") (k3:ob.data=.seq #[.int i t1,.int j t2] nb)
  (gZ:s.heap.get? a'=ap Y5) (Qt:Y5.data=.seq #[.str rF t',.ref b'] na') (ĩ:s.heap.get? b'=ap ê) (Ĩ:ê.cls=.type "tuple") (ħ:ê.data=.seq #[.int i' Z9,.int j' Z7] ĥ)
  {C:Bool->cr->Prop} (hC:∀b,C b s):db (dL prog w) A (keyLt' (tuples' true) (.ref a) (.ref a')) C (λ_ _=>False) s:=by
 refine PySem.W.kat_lt h1 h3 gZ Qt (Fy (Dh.str_str st t rF t' prog w _ _ (PySem.W.kat_go (λ_=>PySem.W.kat_yes ?_) λ_=>PySem.W.kat_no ?_)))
 ·refine Fy ?_;have hT:s.heap.IsTuple b #[.int i t1,.int j t2]:=⟨ob,k1,k2,nb,k3⟩;have hT':s.heap.IsTuple b' #[.int i' Z9,.int j' Z7]:=⟨ê,ĩ,Ĩ,ĥ,ħ⟩;have go:∀e,PySem.W.KatGo prog w A true (decide ((#[Bg st t,.ref b]:Array bn).size < (#[Bg rF t',.ref b']:Array bn).size)) C (.ref b) (.ref b') [] 1 e s:=λe=>PySem.W.kat_go (λ_=>PySem.W.kat_yes (PySem.W.kat_nil (hC _))) λ_=>PySem.W.kat_no (PySem.W.kat_one _ _ (HT.IJ hT hT' (.cons i t1 (.cons j t2 .nil)) (.cons i' Z9 (.cons j' Z7 .nil)) ∅ (hC _)));by_cases c:b=b'
  ·subst c;exact FE (.ref b) prog w _ _ (go _)
  ·refine Fs c (Fu (e:=λk=>if k=0 then i==i' else j==j') hT hT' ∅ λk g1 g2=>?_) prog w _ _ (go _);have:k=0\/k=1:=by simp at g1;omega
   rcases this with rfl | rfl
   ·exact DU i t1 i' Z9
   ·exact DU j t2 j' Z7
 ·exact oneLt_str (hC _)
section
def WI (K:Ab):List V->Hp->VK->Prop:=λxs H Q=>∃(p:ce) (vs:List V) (l:List PV),xs=[.ref p]/\c9 K H p vs/\aE K [] H vs l/\l.length < 64/\l.all qj=true/\∀m:List PV,m.Perm l->∀ws,aE K [] H ws m->kW H (.lst ws) Q
def Pa {vs:List V}{out:List bn} (r:Vals vs us) (v:aE K [] H vs l) (p:out.Perm us):∃ws m,Vals ws out/\aE K [] H ws m/\m.Perm l:=by
 induction p generalizing vs l with
 | nil=>cases r;cases v;exact⟨[],[],.nil,.nil,.refl _⟩
 | cons x p ih=>
  cases r with
  | cons r1 r2=>
  cases v with
  | cons v1 v2=>
  obtain⟨ws,m,a,b,c⟩:=ih r2 v2;exact⟨_::ws,_::m,.cons r1 a,.cons v1 b,.cons _ c⟩
 | swap x y l'=>
  cases r with
  | cons r1 r2=>
  cases r2 with
  | cons r2 r3=>
  cases v with
  | cons v1 v2=>
  cases v2 with
  | cons v2 v3=>exact⟨_::_::_,_::_::_,.cons r2 (.cons r1 r3),.cons v2 (.cons v1 v3),.swap _ _ _⟩
 | trans p1 p2 ih1 ih2=>
  obtain⟨ws,m,a,b,c⟩:=ih2 r v;obtain⟨sj,m',a',b',c'⟩:=ih1 a b;exact⟨sj,m',a',b',c'.trans c⟩
theorem JU (hK:X.K=K) (hu:X.A.units+200 < o0):bM X (.builtin "sorted") (WI K):=by
 subst hK;intro À s σ H xs us Q I r h;obtain⟨p,vs,l,rfl,hq,hv,þ,hd,q⟩:=h;obtain⟨u,rfl,rx⟩:=vals1 r;cases rx;obtain⟨ar,r',pl,hz⟩:=I.list hq;have hl:=r'.length;have RI:=hv.length;have el:∀i,i < ar.length->∃(a b:ce) (st:Str) (i1 j1:Int) (t t1 t2:Tok) (oa ob:Obj) (na nb:Nat),ar.getD i AR=.ref a/\s.heap.get? a=ap oa/\oa.cls=.type "tuple"/\oa.data=.seq #[.str st t,.ref b] na/\s.heap.get? b=ap ob/\ob.cls=.type "tuple"/\ob.data=.seq #[.int i1 t1,.int j1 t2] nb:=λi hi=>by
  have e1:vs[i]?=ap vs[i]:=Ad ∅;obtain⟨x,ex,vx⟩:=hv.abN e1;have hx:=Cc.mp hd x (A7 ex);have ru:RelV vs[i] (ar.getD i AR):=by
   obtain⟨u,hu1,hu2⟩:=Vals.get r' e1;rw [Al,hu1];exact hu2
  exact Uw I vx ru hx
 refine Sb (κ:=tuples' true) pl.isList ∅ (λh2 h' kp=>?_) (λh' kp i j hi hj C hC=>?_) λout hp=>?_
 ·have à:∀l:List bn,(∀v∈l,∃(a:ce) (x:bn) (st:Str) (t:Tok) (oa:Obj) (na:Nat),v=.ref a/\h'.get? a=ap oa/\oa.cls=.type "tuple"/\oa.data=.seq #[.str st t,x] na)->∃fs,PySem.W.KatTups h' l fs/\fs.length=l.length/\∀v∈fs,∃st t,v=Bg st t:=by
   intro l
   induction l with
   | nil=>intro _;exact⟨[],trivial,rfl,by simp⟩
   | cons v l ih=>
    intro hl;obtain⟨fs,f1,f2,f3⟩:=ih λy hy=>hl y (.tail _ hy);obtain⟨a,x,st,t,oa,na,rfl,g1,g2,g3⟩:=hl v (.head _);refine⟨.str st t::fs,PySem.W.KatTups.cons g1 g2 g3 rfl f1,by simp [f2],λy hy=>?_⟩;rcases Ax.mp hy with rfl | hy
    ·exact⟨st,t,rfl⟩
    ·exact f3 y hy
  obtain⟨fs,f1,f2,f3⟩:=à ar λv hv=>by
   obtain⟨i,hi,rfl⟩:=DJ hv;obtain⟨a,b,st,i1,j1,t,t1,t2,oa,ob,na,nb,e,h1,h2,h3,_⟩:=el i hi;rw [Al,Ad hi] at e;exact⟨a,.ref b,st,t,oa,na,e,kp _ _ h1,h2,h3⟩
  refine PySem.W.kat_kind (T:=.type "str") f1 ∅ (λv hv=>?_) ⋯ ⟨rfl,rfl⟩;obtain⟨st,t,rfl⟩:=f3 v hv;exact PySem.W.Looks.now
 ·obtain⟨a,b,st,i1,j1,t,t1,t2,oa,ob,na,nb,e,h1,h2,h3,k1,k2,k3⟩:=el i hi;obtain⟨a',b',rF,i1',j1',t',Z9,Z7,Y5,ê,na',ĥ,e',gZ,rS,Qt,ĩ,Ĩ,ħ⟩:=el j hj;rw [e,e'];exact Uu (s:={s with heap:=h'}) (by show X.A.units+1+1+1 < _;omega) (kp _ _ h1) h3 (kp _ _ k1) k2 k3 (kp _ _ gZ) Qt (kp _ _ ĩ) Ĩ ħ hC
 ·obtain⟨ws,m,a1,a2,a3⟩:=Pa r' hv hp;obtain⟨e,he⟩:=sortedAll_at s.heap ar out.toArray;refine⟨.ref (s.heap.objs.size+1),_,I.laid (t':=s.toks) (λ_ _=>sortedAll_old) (Dw _) (show a9 X.prog X.w _ _ _ (.lst ws) from⟨?_,out,e,a1,he⟩),rfl,(q m a3 ws a2).at _ (I.bA.fresh (Dw _))⟩;rw [a2.length,a3.length_eq];rw [<- RI];exact hz
def Oq (l:List PV):W (List PV):=.fB (l.length < 64/\l.all qj=true) (.any λm=>m.Perm l)
def Ts (hK:X.K=K) (hu:X.A.units+200 < o0) (hg:Gl X "sorted") (hm:X.mg "sorted"=bm) (ha:HM X K fs e wl) (he:ic X e []:=by rfl) (dI:mj X pos []:=by rfl):LF X K fs (.Call (.Name "sorted" p) [e] [] pos) (.bind wl Oq):=
 ⟨PE.imp (eM (JU hK hu) hg hm boot_sorted (aZ ha.p ck he) ⋯ ⋯ he dI) λσ H Q ⟨sr,q⟩=>⟨sr,wl.mono (λl q1 u1 H1 g1 s1 _ v1=>by
  obtain⟨⟨c1,c2⟩,q2⟩:=q1;obtain⟨a,vs,rfl,h1,r1⟩:=v1 H1 .refl s1;exact⟨a,vs,l,rfl,h1,r1,c1,c2,λm hm ws hw=>K7 g1 s1 hw (q2 m hm)⟩) q⟩⟩
end
end
end FL
variable {x z:B3}{ts:List B3}{t3:PySem.Tok}
namespace FL
section
open PySem PySem.Spec PyProof.Rows L2 PL
variable {K:Ab}
structure Rt (K:Ab) (a:ce) (ts:List Str):Prop where
 ex:∃(o:Obj) (ar:Array bn) (n:Nat),K.lookup a=ap o/\o.cls=.type "tuple"/\o.data=.seq ar n/\ar.size<=sizeLine/\Vals (ts.map V.str) ar.toList
 tn:∃o:Obj,K.lookup a=ap o/\o.cls=.type "tuple"/\o.dict=bm
def tup3K {t2:Tok} (h:K.lookup a=ap ⟨.type "tuple",bm,.seq #[.str x t1,.str y t2,.str z t3] n,RF⟩):Rt K a [x,y,z]:=⟨⟨_,_,_,h,rfl,rfl,bF (by show 3<=_;decide),.cons ⟨_,rfl⟩ (.cons ⟨_,rfl⟩ (.cons ⟨_,rfl⟩ .nil))⟩,_,h,rfl,rfl⟩
section
theorem Ku (H:Hp):∀ts:List Str,aE K [] H (ts.map V.str) (ts.map PV.str)
 | []=>.nil
 | t::ts=>.cons (.str t) (Ku H ts)
end
section
variable {a:ii}
def ZR (hK:X.K=K) (hu:X.A.units+200 < o0) {ad:ce} (ha:EF X K fs a wa) (hm:X.mg x=ap (.ref ad)) (T:Rt K ad ts) (hg:Gl X x:=by rfl) (hd:jr x:=by decide) (hk:pr .In (.Name x p)=false:=by rfl) :
  TF X K fs (.Compare a [.In] [.Name x p] pos) (.bind wa λv=>rh false v (ts.map PV.str)):=⟨PT.imp (nX (Pj K hK hu) ha.p (rH hg hm (v:=.ref ad) rfl hd) hk) λσ H Q ⟨sr,q⟩=>⟨sr,wa.mono (λv q1 u1 H1 g1 s1 v1=>⟨ad,_,_,v,rfl,.inr (.inr T.ex),Ku H1 ts,v1,q1.1,_,rfl,q1.2 H1 g1 s1⟩) q⟩⟩
end
end
section
open PySem PySem.Spec PyProof.Rows L2 PL
variable {K:Ab}
section
variable {rest:List sn}{S T T2:Type}{hd:ce->S->bh}{s0:S}{wt:PV->W T2}{cD:ce->S->T2->bh}{k:S->W T}{out:T->End}{x:Bool}
def SR (sr:aU K H σ fs) (hs:fs[i]?=ap (ap (.ol (ap a) l))):∃ws,H a=ap (.lst ws)/\aE K [] H ws l:=by
 obtain⟨u,_,⟨v,e,_⟩ | ⟨b,_,z,ws,q1,q2⟩⟩:=sr.at' i _ hs
 ·cases e
 ·cases z a rfl;exact⟨ws,q1,q2⟩
theorem SF.af1 (i:Nat) {f:PV->S->W S}{wb:T2->S->W S} (hs:fs[i]?=ap (ap (.ol q0 l))) (hK:X.K=K) (hN:X.N[i]?=ap y) (hv:Hv X.env.scope y) (hp:wn (dL X.prog X.w) X.A X.env X.xe) (hc:X.calm=true)
  (hl:∀a,iH (fs.set i (ap (.ol (ap a) l))) (hd a s0)) (ü:∀a s,(hd a s)[i]?=ap (ap (.ol (ap a) l))) (hg:∀a s,GF X K (hd a s) tg is wt (cD a s)) (hf:∀p s,f p s=.bind (wt p) λt=>wb t s)
  (hb:∀a s t,SF X K false (cD a s t) body (wb t s) λs'=>.nc (hd a s')) (hr:∀a s,SF X K x ((hd a s).set i (ap (.ol bm l))) rest (k s) out) (û:jr y:=by decide) (jM:HN y:=by decide) (Į:∀x,foldedSetIterable (.Name y p) X.env x=pure x:=by intro _;rfl) :
  SF X K x fs (.For tg (.Name y p) body [] pos::rest) (.bind (cz l s0 f) k) out:=by
 refine SF.step (Im (g:=λv σ H Q=>∃a s,fG K (hd a s) is wt (cD a s) v σ H Q) (tb:=λD σ H=>∃a s t,fS K false (cD a s t) (wb t s) (λs'=>.nc (hd a s')) D σ H) hp hc (O7 (K:=K) (hK:=hK) (eL hN hv û jM)) (λÀ s σ H v u Q I r ⟨a,s1,q⟩=>(hg a s1).p À s σ H v u Q I r q) (λÀ s σ H D I ⟨a,s1,t1,q⟩=>(hb a s1 t1).p À s σ H D I q) Į) λD σ H ⟨sr,q1⟩=>?_;obtain⟨a,ws,e1,h1,r1⟩:=dF sr hs;obtain⟨s1,g1⟩:=ff (t':=.ol (ap a) l) sr hs rfl (by simp) e1 (λ_ _ _ h=>h) λ_=>⟨λb z=>Option.some.inj z,ws,h1,r1⟩;refine⟨_,e1,a,rfl,⟨ws,.inl (.inl h1)⟩,?_⟩;refine⟨λi' m σ' H'=>∃s,aU K H' σ' (hd a s)/\cQ σ fs H σ' (hd a s) H'/\m=l.length-i'/\i'<=l.length/\(cz (l.drop i') s f).run λs'=>(k s').run λt=>bL K x σ fs H D (out t),⟨l.length,s0,s1.le (hl a),g1.trans (cQ.le s1 (hl a)),by simp,Bd _,by simpa using q1⟩,?_⟩;rintro i' m σ2 H2 ⟨s,s2,g2,rfl,hi,q2⟩;obtain⟨us,h2,r2⟩:=SR s2 (ü a s);have sq:c9 K H2 a us:=.inl (.inl h2);by_cases iA:i' < l.length
 ·obtain⟨v,h3,h4⟩:=r2.get (Ad iA);rw [Bl iA] at q2;refine .inr ⟨⟨us,v,sq,h3⟩,λσ3 H3=>∃s',aU K H3 σ3 (hd a s')/\cQ σ fs H σ3 (hd a s') H3/\(cz (l.drop (i'+1)) s' f).run λs'=>(k s').run λt=>bL K x σ fs H D (out t),λσ3 H3 ⟨s',a1,a2,a4⟩=>⟨l.length-(i'+1),by omega,s',a1,a2,rfl,iA,a4⟩,λv2 H3 y=>?_⟩;obtain⟨rfl,y⟩:=y;have:=y us sq;rw [h3] at this;cases this;have q2:(f l[i'] s).run λs'=>(cz (l.drop (i'+1)) s' f).run λs'=>(k s').run λt=>bL K x σ fs H D (out t):=q2;rw [hf] at q2;refine⟨a,s,_,s2,h4,(wt l[i']).mono (λt q4 us g4 s4=>?_) q2⟩;refine⟨a,s,t,s4,(wb t s).mono (λs' q5 σ5 H5 g5 s5=>?_) q4⟩;exact⟨λ_=>⟨s',s5,(g2.trans g4).trans g5,q5⟩,s',s5,(g2.trans g4).trans g5,q5⟩
 ·have e:i'=l.length:=by omega
  subst e;rw [Dn] at q2;obtain⟨a',us',e2,rS,r2'⟩:=dF s2 (ü a s);obtain⟨s3,g3⟩:=ff (t':=.ol bm l) s2 (ü a s) rfl (by simp) e2 (λ_ _ _ h=>h) λ_=>⟨by simp,us',rS,r2'⟩;exact .inl ⟨⟨us,sq,by rw [r2.length];exact An _⟩,_,k s,hr a s,s3,(k s).mono (λt q3=>q3.go (g2.trans g3) sr s3) q2⟩
def SF.abW (i:Nat) {f:PV->S->W S} (hs:fs[i]?=ap (ap (.ol q0 l))) (hK:X.K=K) (hN:X.N[i]?=ap y) (hv:Hv X.env.scope y) (hp:wn (dL X.prog X.w) X.A X.env X.xe) (hc:X.calm=true)
  (hl:∀a,iH (fs.set i (ap (.ol (ap a) l))) (hd a s0)) (ü:∀a s,(hd a s)[i]?=ap (ap (.ol (ap a) l))) (hg:PG X tg (eB j))
  (hb:∀a s p,SF X K false ((hd a s).set j (ap (.val p))) body (f p s) λs'=>.nc (hd a s')) (hr:∀a s,SF X K x ((hd a s).set i (ap (.ol bm l))) rest (k s) out) (û:jr y:=by decide) (jM:HN y:=by decide) (Į:∀x,foldedSetIterable (.Name y p) X.env x=pure x:=by intro _;rfl) :
  SF X K x fs (.For tg (.Name y p) body [] pos::rest) (.bind (cz l s0 f) k) out:=SF.af1 (wt:=.ret) (wb:=λp s=>f p s) i hs hK hN hv hp hc hl ü (λa s=>VG hg) (λ_ _=>rfl) hb hr û jM Į
end
end
end FL
variable {kp cp:Ca}{kc:Nat}
namespace L2
open PySem PySem.Spec PyProof.Rows
section
variable {R:Result->cr->Prop}{I S:ce}{wr:List ce}{P:Nat->bn->Prop}{St:Nat->lf->Prop}
abbrev dfN:List (Str×bn):=[(BH "default",.none)]
abbrev acu (l:List bn) (c:Nat):Obj:={cls:=.type "list",dict:=bm,data:=.seq l.toArray c,slots:=#[]}
def Ug {n:Nat} (h:n<=2):n<=sizeLine:=Bu h ⋯
theorem MB (W:Walks prog w A.in1 I fp wr n P St) (bt:Nat->Nat->Bool) (afI:CmpOf prog w A.in1 .Lt P bt) (hSf:S∉fp) :
  ∀(k j:Nat) (s:cr) (l:List bn) (c:Nat),n-j=k->j<=n->St j s.heap->(j=0/\l=[]\/∃i v,j=i+1/\l=[v,v]/\P (argBest bt i) v)->s.heap.get? S=ap (acu l c)->
  (∀v h' tk,(n=0/\v=.none\/0 < n/\P (argBest bt (n-1)) v)->(∀b o,b∉wr->b≠S->s.heap.get? b=ap o->h'.get? b=ap o)->R (.ok (.ret v)) {s with heap:=h',toks:=tk})->
  Da (dL prog w) A (.builtin "min.loop" ⟨[.ref I,.none,.ref S],dfN⟩) R s:=by
 have hSw:S∉wr:=λh=>hSf (W.sub _ h);have hn:(toString "min"++toString ".loop":String)="min.loop":=by decide
 intro k
 induction k with
 | zero=>
  intro j s l c hk hj rQ hl hS hR;have e:j=n:=by omega
  subst e;refine FS F.entry_min_loop ?_;rw [E4 Co _];refine Aa (Bs hS rfl (Aa (DY (W.done s _ _ rQ λh' tk Yb=>?_))));have Yf:=Yb S _ hSw hS;rcases hl with⟨e0,rfl⟩ | ⟨i,v,rfl,rfl,hv⟩
  ·exact Aa (CM (Ae (hR _ h' tk (.inl ⟨e0,rfl⟩) λb o hb _ z=>Yb b o hb z)))
  ·refine Aa (Cw Yf rfl (Aa (Ct (Ae ?_))) (Ug (An _)) (Bd _));exact hR v _ tk (.inr ⟨Nat.succ_pos _,hv⟩) λb o hb Qp z=>(BI _ _ (BB Qp)).trans (Yb b o hb z)
 | succ k ih=>
  intro j s l c hk hj rQ hl hS hR;have iA:j < n:=by omega
  refine FS F.entry_min_loop ?_;rw [E4 Co _];refine Aa (Bs hS rfl (Aa (DY (W.item j s _ _ iA rQ λv h' tk hP abp Yb=>?_))));have Yf:=Yb S _ hSw hS;have Vr:∀(f:Obj->Obj) b o,b∉wr->b≠S->s.heap.get? b=ap o->(h'.update S f).get? b=ap o:=λf b o hb Qp z=>(BI _ _ (BB Qp)).trans (Yb b o hb z);have frU:∀(f:Obj->Obj),St (j+1) (h'.update S f):=λf=>W.frame _ _ _ abp λb hbf o e=>(BI _ _ (λh:S=b=>hSf (by rw [h];exact hbf))).trans e;refine Aa (Ae ?_);rcases hl with⟨rfl,rfl⟩ | ⟨i,vb,rfl,rfl,hb⟩
  ·refine Aa (Cw Yf rfl ?_ (Bd _) (Nat.le_succ_of_le (Ug (An _))));rw [hn];refine Ae ⟨ut Co _,ih 1 _ [v,v] _ ∅ iA (frU _) (.inr ⟨0,v,rfl,rfl,hP⟩) (BS _ Yf rfl) λv' h2 ZO Qs Ya=>?_⟩;exact hR v' h2 ZO Qs λb o hb Qp z=>Ya b o hb Qp (Vr _ b o hb Qp z)
  ·refine Aa (DY (Bf (Aa (afI (i+1) (argBest bt i) v vb _ _ _ hP hb ?_))));refine Aa (Bf (B4 (Aa (Ct (Ae ?_)))));cases hbt:bt (i+1) (argBest bt i) with
   | true=>
    refine Aa (Cw Yf rfl (Aa (Ct ?_)) (Ug (An _)) (Nat.le_succ_of_le (Ug (An _))));rw [hn];refine Ae ⟨ut Co _,ih (i+2) _ [v,v] _ ∅ iA (frU _) (.inr ⟨i+1,v,rfl,rfl,by simp only [argBest,hbt,if_true];exact hP⟩) (BS _ Yf rfl) λv' h2 ZO Qs Ya=>?_⟩;exact hR v' h2 ZO Qs λb o hb Qp z=>Ya b o hb Qp (Vr _ b o hb Qp z)
   | false=>
    refine Aa (Ct ?_);rw [hn];refine Ae ⟨ut Co _,ih (i+2) _ [vb,vb] c ∅ iA abp (.inr ⟨i+1,vb,rfl,rfl,by simp only [argBest,hbt];exact hb⟩) Yf λv' h2 ZO Qs Ya=>?_⟩;exact hR v' h2 ZO Qs λb o hb Qp z=>Ya b o hb Qp (Yb b o hb z)
def NI (a:bn):argsOk "min" ⟨[a],dfN⟩:=by unfold argsOk;kernel_rfl
def Tg (ns:List Int) (t:Tok):bn:=if ns=[] then .none else .int (pW ns) t
theorem IH {l:ce}{Q:bn->cr->Prop} (hh:A.handled=bm) (hl:s.heap.IsList l vs.toArray) (hi:tt vs ns)
  (h:∀(h':lf) (t:Tok) tk,(∀b o,s.heap.get? b=ap o->h'.get? b=ap o)->Q (Tg ns t) {s with heap:=h',toks:=tk}):db (dL prog w) A (call (.builtin "min") [.ref l] dfN) Q E s:=by
 obtain⟨xs,e⟩:=hi.allInts.items;have HJ:ns=xs.toList.map (·.1):=by rw [<- hi.numsOf,<- nums_intItems,<- e]
 rw [e] at hl;have hn:(toString "min"++toString ".loop":String)="min.loop":=by decide
 refine kmb_tree F.kind_min F.plain_min F.entry_min (NI _) ?_;refine Aa (Cs (show Builtin.Builtins.bindParams "min" ["key","default"] 0 ⟨[],dfN⟩=pure [bm,ap .none] from rfl) ?_);refine Aa (Ae ?_);refine Aa (iter_intList hl λs₂ e2 st hfp hlI=>?_);subst e2;refine Aa (AO ?_);rw [hn];have W:=Walks.list (A:=A.in1) (prog:=prog) (w:=w) hh s.heap.objs.size l hlI (intItems xs);have hsz:(intItems xs).size=ns.length:=by rw [HJ];simp [intItems]
 refine Ae ⟨ut Co _,MB W _ (CmpOf.ints_lt (numAt xs) (λ_ _=>intItems_at)) (λhm=>AX _ (hfp _ hm)) _ 0 _ [] 0 rfl (Bd _) (W.frame _ _ _ st λb _ o e=>Ag _ e) (.inl ⟨rfl,rfl⟩) (Ap _ rfl) λv h' tk hP hk=>?_⟩;have kp:∀b o,s.heap.get? b=ap o->h'.get? b=ap o:=λb o z=>by
  have h1:=Ar z;refine hk b o (λy=>AA h1 (AN.mp y)) (λy=>?_) (Ag _ (Ag _ z));rw [y,Cn] at h1;exact absurd h1 (Nat.not_lt_of_le (Dw _))
 rcases hP with⟨h0,rfl⟩ | ⟨h0,hP⟩
 ·have e0:ns=[]:=B1 ∅;have:=h h' 0 tk kp;rw [Tg,if_pos e0] at this;exact this
 ·obtain⟨t,rfl⟩:=intItems_at hP;have e0:ns≠[]:=λz=>by rw [hsz,z] at h0;exact AX _ h0
  have h2:=h h' t tk kp;rw [Tg,if_neg e0,<- Lb HJ e0] at h2;have ez:(intItems xs).size=xs.size:=by simp [intItems]
  rw [ez];exact h2
end
def aap (K:Ab):List V->Hp->VK->Prop:=λxs H Q=>∃(p:ce) (ns:List Int),xs=[.ref p]/\c9 K H p (ns.map V.int)/\Q (if ns=[] then .aG else .int (pW ns)) H
def SM {t:TA} (K:Ab) (hK:X.K=K) (hc:X.calm=true) (hg:Gl X "min") (hm:X.mg "min"=bm) (ha:PA X [e] t) (he:wf pos (f8 [e] X.env)=(false,kw e X.env)::wf pos (f8 [] X.env)) (hp:(wf pos (f8 [e] X.env)).any (·.1)=false) :
  PE X (.Call (.Name "min" p) [e] [⟨ap (BH "default"),.Constant .none kc cp,kp⟩] pos) (λσ H Q=>t σ H λvs H'=>aap K vs H' Q):=by
 subst hK;intro À s σ H Q I h;refine BD (iL I hg hm boot_min ?_ ⋯ ⋯);refine callWith_kw (bT (ha pos À s σ H _ I h) λus s1 ⟨vs,H1,I1,r1,q1⟩=>?_) he hp;refine kws_cons (bT (Pd À s1 σ H1 (λv H2=>v=.aG/\H2=H1) I1 ⟨rfl,rfl⟩) λv s2 ⟨x,H2,I2,r2,e1,e2⟩=>kws_nil ?_);subst e1 e2;cases r2;obtain⟨a,ns,rfl,hq,q⟩:=q1;obtain⟨u,rfl,rx⟩:=vals1 r1;cases rx;obtain⟨ar,r',pl,hz⟩:=I2.list hq;refine IH (I2.ok.hd hc) pl.isList (intsAre_of r') λh' t tk hk=>?_;unfold Tg;by_cases c:ns=[]
 ·rw [if_pos c] at q ⊢;exact⟨.aG,_,I2.kept (t':=tk) hk,rfl,q⟩
 ·rw [if_neg c] at q ⊢;exact⟨.int _,_,I2.kept (t':=tk) hk,⟨t,rfl⟩,q⟩
end L2
namespace FL
open PySem PySem.Spec PyProof.Rows L2 PL
def La (l:List PV):W PV:=.bind (mM l) λns=>.ret (if ns=[] then .aG else .int (pW ns))
def YA {K:Ab} (hK:X.K=K) (hc:X.calm=true) (hg:Gl X "min") (hm:X.mg "min"=bm) (ha:HM X K fs e wl) (hs:ic X e []:=by rfl) (he:wf pos (f8 [e] X.env)=(false,kw e X.env)::wf pos (f8 [] X.env):=by rfl) (hp:(wf pos (f8 [e] X.env)).any (·.1)=false:=by rfl) :
  EF X K fs (.Call (.Name "min" p) [e] [⟨ap (BH "default"),.Constant .none kc cp,kp⟩] pos) (.bind wl La):=⟨PE.imp (SM K hK hc hg hm (aZ ha.p ck hs) he hp) λσ H Q ⟨sr,q⟩=>⟨sr,wl.mono (λl q1 u1 H1 g1 s1 _ v1=>by
 obtain⟨ns,el,q2⟩:=gG (l:=l) q1;obtain⟨a,vs,rfl,h1,r1⟩:=v1 H1 .refl s1;rw [el] at r1;have:=jL r1;subst this;refine⟨a,ns,rfl,h1,?_⟩;by_cases c:ns=[]
 ·simp only [if_pos c] at q2 ⊢;exact q2 _ H1 g1 s1 .aG
 ·simp only [if_neg c] at q2 ⊢;exact q2 _ H1 g1 s1 (.int _)) q⟩⟩
end FL
namespace L2
open PySem PySem.Spec PyProof.Rows
def Za (x y z q:Str):Nat:=if x=q then 0 else if y=q then 1 else 2
def pX {q:Str}{t2:Tok}:Meets (v4.«tuple.index» ⟨[.ref a,.str q t],[]⟩) (λ_ R s=>(∃o,s.heap.get? a=ap o/\o.data=.seq #[.str x t1,.str y t2,.str z t3] n)/\q∈[x,y,z]/\∀u,R (.ok (.ret (.int (Za x y z q:Nat) u))) {s with toks:=s.toks+1}):=by
 refine .of_wp λprog w A R s ⟨⟨o,ho,hd⟩,hq,h⟩=>?_;refine Aa (Ae ?_);refine Aa (Aa (Bs ho hd (Ae ?_)));refine Aa (Ae ?_);refine Aa (Ae ?_);refine Aa ?_;rw [Std.Legacy.Range.forIn_eq_forIn_range'];rw [show List.range' [:min #[Bg x t1,Bg y t2,Bg z t3].size #[Bg x t1,Bg y t2,Bg z t3].size].start [:min #[Bg x t1,Bg y t2,Bg z t3].size #[Bg x t1,Bg y t2,Bg z t3].size].size [:min #[Bg x t1,Bg y t2,Bg z t3].size #[Bg x t1,Bg y t2,Bg z t3].size].step=[0,1,2] from by simp only [Std.Legacy.Range.size,Ai,Aq,Bn];decide];simp only [BQ,List.forIn_nil];refine Aa (Aa (Dl ?_));have Ò:∀k:Nat,Za x y z q=k->∃v,E2 (.ret (.int (k:Int) s.toks))=E2 (.ret v)/\R (.ok (.ret v)) {s with toks:=s.toks+1}:=λk e=>⟨_,rfl,by have:=h s.toks;rw [e] at this;exact this⟩;by_cases c1:x=q
 ·subst c1;rw [decide_eq_true rfl,if_pos rfl];exact Aa (Aa (Aa (wpAny_fresh (Ae (Ae (Ae (Ae (Ae (Ò 0 (if_pos rfl))))))))))
 ·rw [decide_eq_false c1,if_neg ⋯];refine Ae (Aa (Aa (Dl ?_)));by_cases c2:y=q
  ·subst c2;rw [decide_eq_true rfl,if_pos rfl];exact Aa (Aa (Aa (wpAny_fresh (Ae (Ae (Ae (Ae (Ae (Ò 1 (by rw [Za,if_neg c1,if_pos rfl]))))))))))
  ·rw [decide_eq_false c2,if_neg ⋯];refine Ae (Aa (Aa (Dl ?_)));have c3:z=q:=by simp at hq;rcases hq with e | e | e <;> first | exact absurd e.symm c1 | exact absurd e.symm c2 | exact e.symm
   subst c3;rw [decide_eq_true rfl,if_pos rfl];exact Aa (Aa (Aa (wpAny_fresh (Ae (Ae (Ae (Ae (Ae (Ò 2 (by rw [Za,if_neg c1,if_neg c2]))))))))))
def aat (K:Ab):V->List V->Hp->VK->Prop:=λv vs H Q=>∃a x y z q,v=.ref a/\vs=[.str q]/\dX K H a [.str x,.str y,.str z]/\q∈[x,y,z]/\Q (.int (Za x y z q:Nat)) H
def Td (K:Ab) (hK:X.K=K):LW X "tuple.index" (aat K):=by
 subst hK;intro À s σ H v vs u us Q I rx rv h;obtain⟨a,x,y,z,q,rfl,rfl,hq,hm,qq⟩:=h;cases rx;obtain⟨u,rfl,ru⟩:=rv.one;obtain⟨t,rfl⟩:=ru;obtain⟨ar,r,pl,hz⟩:=I.tuple hq;obtain⟨o,ho,hc,n,hd⟩:=pl;cases r with
 | cons q1 r=>cases r with
  | cons q2 r=>cases r with
   | cons q3 r=>
    cases r;obtain⟨t1,rfl⟩:=q1;obtain⟨t2,rfl⟩:=q2;obtain⟨t3,rfl⟩:=q3;exact sB F.slot_tuple_index ⟨_,ho,hc⟩ F.entry_tuple_index (F.args_tuple_index_2 _ _) pX ⟨⟨_,ho,hd⟩,hm,λu=>⟨.int _,H,I.tok _,⟨u,rfl⟩,qq⟩⟩
end L2
namespace FL
open PySem PySem.Spec PyProof.Rows L2 PL
def Qh (ts:List Str):PV->W PV
 | .str q=>match ts with
  | [x,y,z]=>.fB (q∈[x,y,z]) (.ret (.int (Za x y z q:Nat)))
  | _=>.fail
 | _=>.fail
def YB {K:Ab}{w:W PV}{n:Str}{ad:ce} (hK:X.K=K) (he:EF X K fs e w) (hm:X.mg n=ap (.ref ad)) (T:Rt K ad ts) (hg:Gl X n:=by rfl) (hd:jr n:=by decide)
  (eZ:nw (.Name n p) "index" X.env (kw (.Name n p) X.env)=kw (.Name n p) X.env:=by rfl)
  (ql:Y0 X bK [e]:=by rfl)
  (eY:RP Ä bK:=by rfl) (rQ:ic X e []:=by rfl) (fm:mj X bK []:=by rfl) :
  EF X K fs (.Call (.Attribute (.Name n p) "index" Ä) [e] [] bK) (.bind w (Qh ts)):=
 ⟨PE.imp (sT K hK PySem.F.plainAttrs_tuple PySem.F.slot_tuple_index PySem.F.type_tuple_index (Td K hK) (rH hg hm (v:=.ref ad) rfl hd) (aZ he.p ck rQ) eZ ql eY rQ fm) λσ H Q ⟨sr,q⟩=>
  ⟨.inr (.inl ⟨rfl,T.tn⟩),sr,w.mono (λx q2 u2 H2 g2 s2 v2=>by
   cases v2 <;> first | exact q2.elim | skip
   match ts,T,q2 with
   | [x,y,z],T,q2=>exact⟨ad,x,y,z,_,rfl,rfl,.inr T.ex,q2.1,q2.2 _ H2 g2 s2 (.int _)⟩
   | [],_,q2=>exact q2.elim
   | [_],_,q2=>exact q2.elim
   | [_,_],_,q2=>exact q2.elim
   | _::_::_::_::_,_,q2=>exact q2.elim) q⟩⟩
section
variable {K:Ab}
def xB (l:List PV):PV->W (List PV×PV)
 | .int k=>.bind (.K4 (wq l.length k)) λj=>.bind (.K4 l[j]?) λv=>.fB (l.length<=sizeLine) (.ret (l.eraseIdx j,v))
 | _=>.fail
theorem aE.erase:∀{ws:List V}{l:List PV} (j:Nat),aE K [] H ws l->aE K [] H (ws.eraseIdx j) (l.eraseIdx j)
 | _,_,_,.nil=>by simp only [List.eraseIdx_nil];exact .nil
 | _,_,0,.cons _ t=>t
 | _,_,j+1,.cons r t=>by rw [Cq,Cq];exact .cons r (aE.erase j t)
section
variable {rest:List sn}{T:Type}{out:T->End}{x:Bool}
theorem SF.aeG (i j:Nat) {k:List PV×PV->W T} (hs:fs[i]?=ap (ap (.ol q0 l))) (õ:j≠i) (hK:X.K=K) (hN:X.N[i]?=ap y) (hv:Hv X.env.scope y) (Ľ:X.N.Nodup) (hj:X.N[j]?=ap z) (hx:Loc X.env.scope z) (he:EF X K fs e we) (hr:∀t:List PV×PV,SF X K x ((fs.set i (ap (.ol q0 t.1))).set j (ap (.val t.2))) rest (k t) out)
  (hd:jr y:=by decide) (jM:HN y:=by decide) (eZ:nw (.Name y p) "pop" X.env (kw (.Name y p) X.env)=kw (.Name y p) X.env:=by rfl)
  (ql:Y0 X bK [e]:=by rfl)
  (eY:RP Ä bK:=by rfl) (rQ:ic X e []:=by rfl) (fm:mj X bK []:=by rfl)
  (oG:im (.Call (.Attribute (.Name y p) "pop" Ä) [e] [] bK) (ap (.Name z p')) pos.line X.env=pure false:=by rfl) (hf:NX X z:=by first | exact .inl rfl | exact .inr rfl | assumption) :
  SF X K x fs (.Assign [.Name z p'] (.Call (.Attribute (.Name y p) "pop" Ä) [e] [] bK) pos::rest) (.bind we λn=>.bind (xB l n) k) out:=
 SF.step (sR Ľ hj hx (sT K hK B2 EW EU Pt (eL hN hv hd jM) (aZ he.p ck rQ) eZ ql eY rQ fm) oG hf) λD σ H ⟨sr,q⟩=>by
  obtain⟨a,ws,e1,h1,r1⟩:=dF sr hs;refine⟨_,e1,.inl ⟨rfl,_,c9.of h1⟩,sr,we.mono (λn q1 u H1 g1 s1 v1=>?_) q⟩;obtain⟨a',sj,rm,gZ,uZ⟩:=dF s1 hs;rw [e1] at rm;cases rm;cases v1 with
  | int kk=>
   have q1:(am (.K4 (wq l.length kk)) λj=>.bind (.K4 l[j]?) λv=>.fB (l.length<=sizeLine) (.ret (l.eraseIdx j,v))).run λt=>(k t).run λt=>bL K x σ fs H D (out t):=q1;cases hx:wq l.length kk with
   | none=>rw [hx] at q1;exact q1.elim
   | some m=>
   cases hv:l[m]? with
   | none=>rw [hx] at q1;simp only [wv,ga,hv] at q1;exact q1.elim
   | some v=>
   rw [hx] at q1;simp only [wv,ga,hv] at q1;obtain⟨hz,q1⟩:=q1;obtain⟨uu,hu,ru⟩:=uZ.get hv;obtain⟨h3,h4,h5,h6⟩:=yk hx;have h9:(sizeLine:Int) < 2 ^ 63:=by decide
   refine⟨a,sj,kk,m,uu,rfl,rfl,gZ,by omega,by omega,by rw [uZ.length];exact h3,hu,?_⟩;have sx:ph a H1 (upd H1 a (.lst (sj.eraseIdx m))):=λz o n hz=>by rw [av n];exact hz
   obtain⟨s2,g2⟩:=ff (t':=.ol q0 (l.eraseIdx m)) s1 hs rfl (by simp) e1 sx λtk=>⟨λb hb=>by
    subst hb;obtain⟨u,e2,⟨v,e,_⟩ | ⟨b',e,z,_⟩⟩:=s1.at' i _ hs
    ·cases e
    ·rw [e2] at e1;cases e1;cases e;exact z b rfl,_,aM,aE.tk tk (aE.erase m uZ)⟩
   have s3:=s2.fJ (g2.vr s1 ru) j;exact⟨_,k _,hr (l.eraseIdx m,v),s3,(k _).mono (λt q2=>q2.go ((g1.f.trans g2).trans (cQ.fJ s2 _ _ j)) sr s3) q1⟩
  | _=>exact q1.elim
end
end
section
variable {K:Ab}
def F0 (kvs:List (List Key×PV)) (k:List Key) (v:PV):List (List Key×PV):=
 if (kvs.any λkv=>decide (kv.1=k)) then kvs.map λkv=>if kv.1=k then (kv.1,v) else kv else kvs++[(k,v)]
section
theorem bQ.ind {C:List (List Key×V)->List (List Key×PV)->Prop} (h0:C [] []) (h1:∀(p:List Key×V) (q:List Key×PV) vs kvs,p.1=q.1->VR K [] H p.2 q.2->bQ K H vs kvs->C vs kvs->C (p::vs) (q::kvs)):∀{vs kvs},bQ K H vs kvs->C vs kvs
 | [],[],_=>h0
 | [],_::_,h=>by simp [bQ] at h
 | _::_,[],h=>by simp [bQ] at h
 | p::vs,q::kvs,⟨a,b⟩=>by
  rw [Ao,Ao] at a b;injection a with a1 a2;cases b with
  | cons r t=>exact h1 p q vs kvs a1 r ⟨a2,t⟩ (bQ.ind h0 h1 ⟨a2,t⟩)
def bQ.mk' {p:List Key×V}{q:List Key×PV}{vs kvs} (e:p.1=q.1) (r:VR K [] H p.2 q.2) (h:bQ K H vs kvs):bQ K H (p::vs) (q::kvs):=⟨by rw [Ao,Ao,e,h.1],.cons r h.2⟩
def bQ.put {vs:List (List Key×V)} (h:bQ K H vs kvs) (k:List Key) (r:VR K [] H u v):bQ K H (putK vs k u) (F0 kvs k v):=by
 have hh:(vs.any λkv=>decide (kv.1=k))=kvs.any λkv=>decide (kv.1=k):=bQ.ind (C:=λvs kvs=>(vs.any λkv=>decide (kv.1=k))=kvs.any λkv=>decide (kv.1=k)) rfl (λp q vs kvs e _ _ ih=>by rw [Bz,Bz,ih,e]) h;unfold putK F0;rw [hh]
 split
 ·refine bQ.ind (C:=λvs kvs=>bQ K H (vs.map λkv=>if kv.1=k then (kv.1,u) else kv) (kvs.map λkv=>if kv.1=k then (kv.1,v) else kv)) ⟨rfl,.nil⟩ (λp q vs kvs e rr _ ih=>?_) h;rw [Ao,Ao];by_cases c:p.1=k
  ·rw [if_pos c,if_pos (e▸c)];exact bQ.mk' e r ih
  ·rw [if_neg c,if_neg (e▸c)];exact bQ.mk' e rr ih
 ·exact bQ.ind (C:=λvs kvs=>bQ K H (vs++[(k,u)]) (kvs++[(k,v)])) ⟨rfl,.cons r .nil⟩ (λp q vs kvs e rr _ ih=>bQ.mk' e rr ih) h
end
section
variable {a ei:ii}{rest:List sn}{T:Type}{out:T->End}{x:Bool}
def rJ (sr:aU K H σ fs) (hs:fs[i]?=ap (ap (.ot kvs))):∃a vs,σ[i]?=ap (ap (.ref a))/\H a=ap (.dT vs)/\bQ K H vs kvs:=by
 obtain⟨u,e1,⟨v,e,_⟩ | ⟨a,e,vs,q⟩⟩:=sr.at' i _ hs
 ·cases e
 ·subst e;exact⟨a,vs,e1,q⟩
def SF.aad {k:W T} (hN:X.N.Nodup) (hi:X.N[i]?=ap y) (hx:Loc X.env.scope y) (hr:SF X K x (fs.set i (ap (.ot []))) rest k out) (hs:im (.Dict [] [] p2) (ap (.Name y p')) pos.line X.env=pure false:=by rfl)
  (hf:NX X y:=by first | exact .inl rfl | exact .inr rfl | assumption):SF X K x fs (.Assign [.Name y p'] (.Dict [] [] p2) pos::rest) k out:=SF.step (sR hN hi hx Pe hs hf) λD σ H ⟨sr,q⟩=>λa n1=>by
 have s1:=i7 n1 (.dT []);have no:=sr.noOwn n1;have s2:=(sr.same s1).xx (t:=.ot []) ⟨[],aM,rfl,.nil⟩ no i;exact⟨_,k,hr,s2,k.mono (λt q2=>q2.go (cQ.xx (sr.same s1) (cQ.same s1 sr) no n1 i) sr s2) q⟩
def aba:PV->Option Key
 | .int i=>ap (.inl i)
 | .str s=>ap (.inr s)
 | _=>bm
def tN:List PV->Option (List Key)
 | []=>ap []
 | p::l=>(aba p).bind λk=>(tN l).bind λks=>ap (k::ks)
def Li:PV->W (List Key)
 | .tup l=>.K4 (tN l)
 | _=>.fail
theorem v8:∀{l:List PV}{ks:List Key},tN l=ap ks->l=ks.map kP
 | [],ks,h=>by cases h;rfl
 | p::l,ks,h=>by
  unfold tN at h;cases e:aba p with
  | none=>rw [e] at h;cases h
  | some k=>
  cases e2:tN l with
  | none=>rw [e,e2] at h;cases h
  | some ks'=>
  rw [e,e2] at h;cases h;rw [v8 e2];cases p <;> first | cases e | skip
  all_goals rfl
def PR {Q:List Key->Prop} (r:VR K [] H u v) (q:(Li v).run Q):∃b k,u=.ref b/\H b=ap (.tup (k.map kV))/\Q k:=by
 cases r with
 | @tup b vs l e rs=>
  have q:(W.K4 (tN l)).run Q:=q;cases h:tN l with
  | none=>rw [h] at q;exact q.elim
  | some k=>
   rw [h] at q;rw [v8 h] at rs;rw [GQ rs] at e;exact⟨b,k,rfl,e,q⟩
 | _=>exact q.elim
theorem age (i:Nat) (hs:fs[i]?=ap (ap (.ot kvs))) (hu:X.A.units+200 < o0) (ha:EF X K fs a wa) (hN:X.N[i]?=ap y:=by rfl) (hv:Hv X.env.scope y:=by first | exact C2 rfl | exact CC (C2 rfl) | exact CC (CC rfl)) (hd:jr y:=by decide) (jM:HN y:=by decide) (hsl:UT a) :
  EF X K fs (.Subscript (.Name y p) a pos) (.bind wa λx=>.bind (Li x) λk=>.K4 (cU kvs k)):=⟨PE.imp (KU ∅ (eL hN hv hd jM) ha.p hsl) λσ H Q ⟨sr,q⟩=>by
 obtain⟨a,vs,e1,h1,r1⟩:=rJ sr hs;refine⟨_,e1,sr,wa.mono (λv q1 u H1 g1 s1 v1=>?_) q⟩;obtain⟨b,k,rfl,eb,q2⟩:=PR v1 q1;have q2:(W.K4 (cU kvs k)).run _:=q2;obtain⟨a',NQ,rm,gZ,uZ⟩:=rJ s1 hs;rw [e1] at rm;cases rm;cases hg:cU kvs k with
 | none=>rw [hg] at q2;exact q2.elim
 | some z=>
  rw [hg] at q2;obtain⟨u,k1,k2⟩:=uZ.get.2 hg;exact⟨a,u,rfl,by rw [<- k1];exact Kg.t gZ eb,q2 u H1 g1 s1 k2⟩⟩
def OY (kvs:List (List Key×PV)) (n v:PV):W (List (List Key×PV)):=.bind (Li n) λkk=>.fB (kvs.length < sizeLine) (.ret (F0 kvs kk v))
theorem SF.F0 (i:Nat) {k:List (List Key×PV)->W T} (hs:fs[i]?=ap (ap (.ot kvs))) (hu:X.A.units+200 < o0) (hN:X.N[i]?=ap y) (hv:Hv X.env.scope y) (he:EF X K fs e we) (hi:EF X K fs ei wi) (hr:∀l',SF X K x (fs.set i (ap (.ot l'))) rest (k l') out)
  (hd:jr y:=by decide) (jM:HN y:=by decide) (oG:im e (ap (.Subscript (.Name y p) ei xg)) pos.line X.env=pure false:=by rfl) :
  SF X K x fs (.Assign [.Subscript (.Name y p) ei xg] e pos::rest) (.bind we λv=>.bind wi λn=>.bind (OY kvs n v) k) out:=
 SF.step (Sx ∅ (eL hN hv hd jM) hi.p he.p oG) λD σ H ⟨sr,q⟩=>by
  refine⟨sr,we.mono (λv q1 u H1 g1 s1 v1=>?_) q⟩;obtain⟨a,vs,e1,h1,r1⟩:=rJ s1 hs;refine⟨_,e1,s1,wi.mono (λn q2 u2 H2 g2 s2 v2=>?_) q1⟩;obtain⟨b,kk,rfl,eb,hz,q3⟩:=PR v2 q2;obtain⟨a',NQ,rm,gZ,uZ⟩:=rJ s2 hs;rw [e1] at rm;cases rm;have len:NQ.length=kvs.length:=by have:=congrArg BP uZ.1;simpa using this
  refine⟨a,_,rfl,Rz.t gZ eb (by rw [len];exact hz),?_⟩;have sx:ph a H2 (upd H2 a (.dT (putK NQ kk u))):=λz o n hz=>by rw [av n];exact hz
  have rp:=uZ.put kk (g2.vr s1 v1);obtain⟨s3,g3⟩:=ff (t':=.ot (FL.F0 kvs kk v)) s2 hs rfl (by simp) e1 sx λtk=>⟨_,aM,rp.1,aE.tk tk rp.2⟩;exact⟨_,k _,hr _,s3,(k _).mono (λt q4=>q4.go ((g1.trans g2).f.trans g3) sr s3) q3⟩
end
end
def gN (ns:List Int):Prop:=∃g s c:Int,ns=[g,s,c]/\0<=g/\0<=s/\s < 2305843009213693951/\0<=c
def drawn (m:Int):W PV:=.any λv=>∃d:Int,v=.int d/\0<=d/\d < m
def bx:PV->W PV
 | .int m=>.fB (0 < m/\m<=2000) (drawn m)
 | _=>.fail
end FL
variable {i j:Int}
namespace FL
open PySem PySem.Spec PyProof.Rows L2 PL
def sU:of2 (aI g) (.int i) (.int j)=.ret (g i j):=u8 λQ=>⟨Cr,λq=>⟨rfl,q⟩⟩
def rK {C:Int->Int->Prop}:of2 (YT C g) (.int i) (.int j)=.fB (C i j) (.ret (g i j)):=u8 λQ=>⟨λq=>⟨q.1,q.2.2⟩,λq=>⟨q.1,rfl,q.2⟩⟩
section
variable (i j:Int) (a b:Bool) (x y:PV) (l m:List PV) (s t:Str)
@[simp] theorem ug:of2 xH (.int i) (.int j)=.ret (.int (i-j)):=sU
@[simp] theorem QO:of2 pV (.int i) (.int j)=.fB (wP i j) (.ret (.int (i*j))):=rK
@[simp] theorem agb:of2 oDiv (.int i) (.int j)=.fB (NP i j) (.ret (.int (i / j))):=rK
@[simp] theorem QP:of2 oMod (.int i) (.int j)=.fB (0 < j) (.ret (.int (i % j))):=rK
@[simp] theorem QN:of2 Pm (.int i) (.int j)=.fB (RB i j) (.ret (.int (i ^ j.toNat))):=rK
@[simp] theorem G5:of2 oLt (.int i) (.int j)=.ret (.bl (decide (i < j))):=sU
@[simp] theorem ab6:of2 oLe (.int i) (.int j)=.ret (.bl (decide (i<=j))):=sU
@[simp] theorem ahr:of2 oGt (.int i) (.int j)=.ret (.bl (decide (j < i))):=sU
@[simp] theorem ab7:of2 oGe (.int i) (.int j)=.ret (.bl (decide (j<=i))):=sU
def wD:of2 fg x y=.fB (Jz x y) (.ret (.bl (kE x y))):=u8 λQ=>⟨λq=>⟨q.1,q.2.2⟩,λq=>⟨q.1,rfl,q.2⟩⟩
def VN:of2 Iy x y=.fB (Jz x y) (.ret (.bl (!kE x y))):=u8 λQ=>⟨λq=>⟨q.1,q.2.2⟩,λq=>⟨q.1,rfl,q.2⟩⟩
@[simp] theorem af9:of2 aeK (.bl a) (.bl b)=.ret (.bl (a==b)):=u8 λQ=>⟨Cr,λq=>⟨rfl,q⟩⟩
@[simp] theorem Ng:of2 rL (.bl a) (.bl b)=.ret (.bl (!(a==b))):=u8 λQ=>⟨Cr,λq=>⟨rfl,q⟩⟩
@[simp] theorem lu:of2 qV x .aG=.ret (.bl x.fe):=u8 λQ=>⟨Cr,λq=>⟨rfl,q⟩⟩
@[simp] theorem ady:of2 vS x .aG=.ret (.bl (!x.fe)):=u8 λQ=>⟨Cr,λq=>⟨rfl,q⟩⟩
def Yw {c:Nat} (h:dC s.cps.toList i=ap c):of2 Po (.str s) (.int i)=.fB (s.length<=sizeLine) (.ret (.str ⟨#[c]⟩)):=u8 λQ=>by
 show (s.length<=sizeLine/\match dC s.cps.toList i with | some c=>_/\_ | none=>False)↔_;rw [h];exact⟨λq=>⟨q.1,q.2.2⟩,λq=>⟨q.1,rfl,q.2⟩⟩
@[simp] theorem c7:addW (.int i) (.int j)=.ret (.int (i+j)):=(rfl)
@[simp] theorem Uk:addW (.str s) (.str t)=.fB (s.length+t.length<=sizeLine) (.ret (.str (s++t))):=(rfl)
@[simp] theorem oV:addW (.tup l) (.tup m)=.fB (l.length+m.length<=sizeLine) (.ret (.tup (l++m))):=(rfl)
@[simp] theorem Jx:Mu (.int i)=.ret (.int (-i)):=(rfl)
@[simp] theorem a7:asB (.bl a)=.ret a:=(rfl)
@[simp] theorem Zr (w:W PV):Rb (.bl true) w=w:=(rfl)
@[simp] theorem Zs (w:W PV):Rb (.bl false) w=.ret (.bl false):=(rfl)
@[simp] theorem rV (w:W PV):UK (.bl true) w=w:=(rfl)
@[simp] theorem adN (w:W PV):UK (.bl false) w=.ret (.bl false):=(rfl)
@[simp] theorem af6 (w:W PV):orW (.bl true) w=.ret (.bl true):=(rfl)
@[simp] theorem af7 (w:W PV):orW (.bl false) w=w:=(rfl)
@[simp] theorem af8:Xn (.bl a)=.ret (.bl (!a)):=(rfl)
@[simp] theorem e6:ju (.bl a)=.ret a:=(rfl)
@[simp] theorem adw:ju (.int i)=.ret (i != 0):=(rfl)
@[simp] theorem adv:ju .aG=.ret false:=(rfl)
@[simp] theorem adu:ju (.tup l)=.ret (!l.isEmpty):=(rfl)
@[simp] theorem adx:ju (.cl l)=.ret (!l.isEmpty):=(rfl)
@[simp] theorem aH:aB (.tup l)=.ret l:=(rfl)
@[simp] theorem bO:aB (.cl l)=.ret l:=(rfl)
@[simp] theorem jP:tB (.cl l)=.ret l:=(rfl)
@[simp] theorem cf:Vw l (.int i)=.K4 (dC l i):=(rfl)
@[simp] theorem yS:Gz l=.ret (.int l.length):=(rfl)
@[simp] theorem QM:mm l=.ret (.tup l):=(rfl)
@[simp] theorem oU:part (.int i)=.ret (ap i):=(rfl)
@[simp] theorem m4:vH (.tup [x,y])=.ret (x,y):=(rfl)
@[simp] theorem QL (z u:PV):ZN (.tup [x,y,z,u])=.ret (x,y,z,u):=(rfl)
@[simp] theorem adJ (k:Kd):gz k (.int i)=.ret (.bl (k.is (.int i))):=(rfl)
@[simp] theorem yU (k:Kd):gz k (.str s)=.ret (.bl (k.is (.str s))):=(rfl)
@[simp] theorem jQ (k:Kd):gz k (.tup l)=.ret (.bl (k.is (.tup l))):=(rfl)
@[simp] theorem adK (k:Kd):gz k (.cl l)=.ret (.bl (k.is (.cl l))):=(rfl)
@[simp] theorem adL (k:Kd):gz k (.bl a)=.ret (.bl (k.is (.bl a))):=(rfl)
@[simp] theorem adI (k:Kd):gz k .aG=.ret (.bl (k.is .aG)):=(rfl)
@[simp] theorem d3:n8 cJ [.tup l]=.ret (.int l.length):=u8 λQ=>⟨Cr,λq=>⟨rfl,q⟩⟩
@[simp] theorem fw:n8 cJ [.cl l]=.ret (.int l.length):=u8 λQ=>⟨Cr,λq=>⟨rfl,q⟩⟩
@[simp] theorem adz:n8 cJ [.str s]=.fB (s.length<=sizeLine) (.ret (.int s.length)):=u8 λQ=>⟨λq=>⟨q.1,q.2.2⟩,λq=>⟨q.1,rfl,q.2⟩⟩
@[simp] theorem Yx:n8 Ho [.int i]=.ret (.int (if i < 0 then -i else i)):=u8 λQ=>⟨Cr,λq=>⟨rfl,q⟩⟩
@[simp] theorem adM:n8 J1 [.int i]=.ret (.int i):=u8 λQ=>⟨Cr,λq=>⟨rfl,q⟩⟩
@[simp] theorem Uj:n8 J1 [.bl a]=.ret (.int (if a then 1 else 0)):=u8 λQ=>⟨Cr,λq=>⟨rfl,q⟩⟩
@[simp] theorem Yv:n8 NH [.int i,.int j]=.ret (.int (if j > i then j else i)):=u8 λQ=>⟨Cr,λq=>⟨rfl,q⟩⟩
@[simp] theorem Yu:n8 NG [.int i,.int j]=.ret (.int (if j < i then j else i)):=u8 λQ=>⟨Cr,λq=>⟨rfl,q⟩⟩
@[simp] theorem yR (p q:Option Int):pM (.tup l) p q=.ret (.tup (nk l p q)):=(rfl)
@[simp] theorem LA:KI (.tup l) bm bm (ap (-1))=.ret (.tup l.reverse):=mo ⟨rfl,rfl,rfl⟩
@[simp] theorem c6:fH (.int j)=.fB (okN 0 j) (.ret (jk 0 j.toNat)):=(rfl)
@[simp] theorem Uh (k:Int):OK (.int i) (.int j) (.int k)=.fB (k = -1/\okN j i) (.ret (qP i (i-j).toNat)):=(rfl)
@[simp] theorem Yr:F5 (l++[x])=.ret (l,x):=by unfold F5;simp
@[simp] theorem Yq:Sm l (.int i)=.fB (-(2 ^ 63)<=i/\i < 2 ^ 63/\l.length*i.toNat<=sizeLine) (.ret (Am i.toNat l).flatten):=(rfl)
@[simp] theorem adE:Kd.is .int (.int i)=true:=(rfl)
@[simp] theorem adF:Kd.is .int (.bl a)=true:=(rfl)
@[simp] theorem adH:Kd.is .bool (.bl a)=true:=(rfl)
@[simp] theorem adG:Kd.is .bool (.int i)=false:=(rfl)
@[simp] theorem yT:Kd.is .str (.str s)=true:=(rfl)
@[simp] theorem ma:Kd.is .str (.tup l)=false:=(rfl)
@[simp] theorem adD:Kd.is .str (.int i)=false:=(rfl)
@[simp] theorem Ui:Kd.is .tup (.tup l)=true:=(rfl)
@[simp] theorem adA:Kd.is .tup (.str s)=false:=(rfl)
@[simp] theorem adB:Kd.is .tup (.int i)=false:=(rfl)
@[simp] theorem adC:Kd.is .tup (.bl a)=false:=(rfl)
@[simp] theorem b9 (h0:0 < i) (h1:i<=2000):bx (.int i)=drawn i:=mo ⟨h0,h1⟩
def a8 {m:Int} (h:∀d:Int,0<=d->d < m->Q (.int d)):(drawn m).run Q:=λv ⟨d,e,h0,h1⟩=>e▸h d h0 h1
end
namespace W
variable {α β:Type}
def le (a b:W α):Prop:=∀Q,b.run Q->a.run Q
def le.refl (a:W α):a.le a:=λ_ h=>h
def le.of_eq {a b:W α} (h:a=b):a.le b:=h▸le.refl a
def le.ret {a:W α}{v:α}{f:α->W β}{b:W β} (h:a.le (.ret v)) (hf:(f v).le b):(a.bind f).le b:=λQ q=>h _ (hf Q q)
def le.use {a:W α}{v:α}{Q:α->Prop} (h:a.le (.ret v)) (q:Q v):a.run Q:=h _ q
end W
section
variable {S R:Type}
@[simp] theorem abV (s:S) (f:PV->S->W S):cz [] s f=.ret s:=(rfl)
@[simp] theorem Zl (x:PV) (r:List PV) (s:S) (f:PV->S->W S):cz (x::r) s f=.bind (f x s) λs'=>cz r s' f:=(rfl)
theorem ue {f:PV->S->W S}{Q:S->Prop} (I:List PV->S->Prop):∀{l:List PV}{s:S},I l s->(∀x r s,I (x::r) s->(f x s).run (I r))->(∀s,I [] s->Q s)->(cz l s f).run Q
 | [],s,h0,_,he=>he s h0
 | x::r,s,h0,hs,he=>(f x s).mono (λs' h=>ue I h hs he) (hs x r s h0)
theorem G4 {f:PV->S->W (Lp S R)}{Q:Lp S R->Prop} (I:List PV->S->Prop):∀{l:List PV}{s:S},I l s->(∀x r s,I (x::r) s->(f x s).run λo=>match o with | .go s'=>I r s' | .out t=>Q (.out t))->(∀s,I [] s->Q (.go s))->(FL.mq l s f).run Q
 | [],s,h0,_,he=>he s h0
 | x::r,s,h0,hs,he=>(f x s).mono (λo h=>match o,h with
  | .go s',h=>G4 I h hs he
  | .out t,h=>h) (hs x r s h0)
theorem gC {f:PV->S->W S}{Q:S->Prop} (I:Nat->S->Prop) {s:S} (h0:I 0 s) (hs:∀(i:Nat) (x:PV) s,l[i]?=ap x->I i s->(f x s).run (I (i+1))) (he:∀s,I l.length s->Q s):(cz l s f).run Q:=by
 refine ue (λr s=>∃i,i<=l.length/\r=l.drop i/\I i s) ⟨0,Bd _,rfl,h0⟩ (λx r s ⟨i,hi,e,h⟩=>?_) (λs ⟨i,hi,e,h⟩=>?_)
 ·have iA:i < l.length:=by
   rcases C7 i l.length with h | h
   ·exact h
   ·rw [ED h] at e;cases e
  rw [Bl iA] at e;injection e with e1 e2;subst e1;exact (f _ s).mono (λs' h'=>⟨i+1,iA,e2,h'⟩) (hs i _ s (Ad iA) h)
 ·have:i=l.length:=by
   have:=congrArg BP e;rw [CT] at this;simp at this;omega
  subst this;exact he s h
theorem yO {f:PV->S->W (Lp S R)}{Q:Lp S R->Prop} (I:Nat->S->Prop) {s:S} (h0:I 0 s) (hs:∀(i:Nat) (x:PV) s,l[i]?=ap x->I i s->(f x s).run λo=>match o with | .go s'=>I (i+1) s' | .out t=>Q (.out t)) (he:∀s,I l.length s->Q (.go s)):(FL.mq l s f).run Q:=by
 refine G4 (λr s=>∃i,i<=l.length/\r=l.drop i/\I i s) ⟨0,Bd _,rfl,h0⟩ (λx r s ⟨i,hi,e,h⟩=>?_) (λs ⟨i,hi,e,h⟩=>?_)
 ·have iA:i < l.length:=by
   rcases C7 i l.length with h | h
   ·exact h
   ·rw [ED h] at e;cases e
  rw [Bl iA] at e;injection e with e1 e2;subst e1;exact (f _ s).mono (λo h'=>match o,h' with
   | .go s',h'=>⟨i+1,iA,e2,h'⟩
   | .out t,h'=>h') (hs i _ s (Ad iA) h)
 ·have:i=l.length:=by
   have:=congrArg BP e;simp at this;omega
  subst this;exact he s h
def fX {f:PV->S->W S}{Q:S->Prop} (I:Nat->S->Prop) {s:S} (h0:I 0 s) (hs:∀(i:Nat) s,i < n->I i s->(f (.int (i:Int)) s).run (I (i+1))) (he:∀s,I n s->Q s):(cz (jk 0 n) s f).run Q:=
 gC I h0 (λi x s hx h=>by obtain⟨hi,rfl⟩:=qk hx;rw [EE];exact hs i s hi h) (λs h=>he s (by rw [jh] at h;exact h))
def Qz {f:PV->S->W (Lp S R)}{Q:Lp S R->Prop} (I:Nat->S->Prop) {s:S} (h0:I 0 s) (hs:∀(i:Nat) s,i < n->I i s->(f (.int (i:Int)) s).run λo=>match o with | .go s'=>I (i+1) s' | .out t=>Q (.out t)) (he:∀s,I n s->Q (.go s)):(FL.mq (jk 0 n) s f).run Q:=
 yO I h0 (λi x s hx h=>by obtain⟨hi,rfl⟩:=qk hx;rw [EE];exact hs i s hi h) (λs h=>he s (by rw [jh] at h;exact h))
theorem HV {c:S->W Bool}{b:S->W S}{Q:S->Prop} (I:Nat->S->Prop) {s:S} (h0:I n s) (hs:∀n s,I n s->(c s).run λk=>if k=true then (b s).run (λs'=>∃m,m < n/\I m s') else Q s):(HW c b s).run Q:=by
 refine⟨n+1,?_⟩;have:∀k n s,n < k->I n s->(mU c b k s).run Q:=by
  intro k
  induction k with
  | zero=>intro n s h;omega
  | succ k ih=>
   intro n s hn h;refine (c s).mono (λz q=>?_) (hs n s h);cases z with
   | true=>exact (b s).mono (λs' ⟨m,hm,h'⟩=>ih m s' ∅ h') (show (b s).run _ from q)
   | false=>exact q
 exact this (n+1) n s ∅ h0
theorem Ld {f:PV->W PV}{g:PV->PV}:∀{l:List PV},(∀x∈l,f x=.ret (g x))->bC l f=.ret (l.map g)
 | [],_=>rfl
 | x::r,h=>by
  show am (f x) (λy=>am (bC r f) λl=>bd (y::l))=_;rw [h x (.head _),Ld λy hy=>h y (.tail _ hy)];rfl
theorem xS {g:PV->Option PV}:∀{l:List PV},(∀x∈l,f x=.ret (g x))->mJ l f=.ret (l.filterMap g)
 | [],_=>rfl
 | x::r,h=>by
  show am (f x) (λo=>am (mJ r f) λl=>bd (o.toList++l))=_;rw [h x (.head _),xS λy hy=>h y (.tail _ hy),A9];cases g x <;> rfl
@[simp] theorem LR (bs:List Bool):J3 (bs.map PV.bl)=.ret (.bl (bs.all id)):=by unfold J3;rw [LO];rfl
end
section
variable (i j:Int) (a b:Bool) (x y:PV) (l m:List PV) (s t:Str)
@[simp] theorem VL:kE (.int i) (.int j)=(i==j):=by rw [kE]
@[simp] theorem VJ:kE (.str s) (.str t)=(s==t):=by rw [kE]
@[simp] theorem VM:kE (.bl a) (.bl b)=(a==b):=by rw [kE]
@[simp] theorem VI:kE (.tup l) (.tup m)=eF l m:=by rw [kE]
@[simp] theorem aho:kE (.cl l) (.cl m)=eF l m:=by rw [kE]
@[simp] theorem af4:eF [] []=true:=by rw [eF]
@[simp] theorem QG:eF (x::l) (y::m)=(kE x y&&eF l m):=by rw [eF]
@[simp] theorem adq:PV.iB (.int i)=true:=by rw [PV.iB] <;> simp
@[simp] theorem af3:PV.iB (.bl a)=true:=by rw [PV.iB] <;> simp
@[simp] theorem ado:PV.iB (.str s)=true:=by rw [PV.iB] <;> simp
@[simp] theorem adp:PV.iB .aG=true:=by rw [PV.iB] <;> simp
@[simp] theorem adn:PV.iB (.tup l)=fo l:=by rw [PV.iB]
@[simp] theorem af2:PV.iB (.cl l)=fo l:=by rw [PV.iB]
@[simp] theorem abX:fo []=true:=by rw [fo]
@[simp] theorem Zm:fo (x::l)=(PV.iB x&&fo l):=by rw [fo]
@[simp] theorem ab4:PV.fq (.int i)=0:=by rw [PV.fq] <;> simp
@[simp] theorem adt:PV.fq (.bl a)=0:=by rw [PV.fq] <;> simp
@[simp] theorem ab2:PV.fq (.str s)=0:=by rw [PV.fq] <;> simp
@[simp] theorem ab3:PV.fq .aG=0:=by rw [PV.fq] <;> simp
@[simp] theorem ab1:PV.fq (.tup l)=dU l+1:=by rw [PV.fq]
@[simp] theorem ads:PV.fq (.cl l)=dU l+1:=by rw [PV.fq]
@[simp] theorem Zo:dU []=0:=by rw [dU]
@[simp] theorem Yo:dU (x::l)=max (PV.fq x) (dU l):=by rw [dU]
def G6:Jz (.int i) (.int j):=⟨by simp,by simp,by simp⟩
@[simp] theorem gj:of2 fg (.int i) (.int j)=.ret (.bl (i==j)):=by rw [wD,mo (G6 i j),VL]
@[simp] theorem Ys:of2 Iy (.int i) (.int j)=.ret (.bl (!(i==j))):=by rw [VN,mo (G6 i j),VL]
@[simp] theorem aga:of2 fg (.bl a) (.bl b)=.ret (.bl (a==b)):=by rw [wD,mo ⟨by simp,by simp,by simp⟩,VM]
@[simp] theorem Yt:of2 Iy (.bl a) (.bl b)=.ret (.bl (!(a==b))):=by rw [VN,mo ⟨by simp,by simp,by simp⟩,VM]
end
theorem g9:∀{l:List PV},fo l=true↔∀x∈l,PV.iB x=true
 | []=>by simp
 | x::l=>by rw [fo,AL,g9 (l:=l)];simp
theorem hE:∀{l:List PV},(∀x∈l,PV.fq x<=n)->dU l<=n
 | [],_=>by simp
 | x::l,h=>by
  have h1:=h x (.head _);have h2:=hE (l:=l) λy hy=>h y (.tail _ hy);rw [dU];omega
structure EV where
 P:sK
 w:tz
 K:Ab
 mg:Str->Option bn
 base:lf
structure DF where
 x:Str
 s:sn
 ps:List Str
 k:Nat
 sp:Ab->Sp
abbrev DF.C (d:DF) (v:EV):=U0 v.P v.w v.K v.mg v.base d.x d.k d.ps (d.sp v.K)
structure DI (v:EV) (d:DF) where
 f:ce
 fd:Fa
 fn:RO v.K d.x d.x d.s f fd
 bi:Binds v.K fd d.ps []
 at':v.mg d.x=ap (.ref f)
abbrev DI.O {v:EV}{d:DF} (D:DI v d):Prop:=jq v.P v.w v.K v.mg v.base mT d.k D.f D.fd d.ps (d.sp v.K)
def DI.c {v:EV}{d:DF} (D:DI v d) (h:D.O):d.C v:=⟨D.f,D.fd,h,D.bi,D.fn.kp,D.at'⟩
def DI.cN {v:EV}{d:DF} (D:DI v d) (h:jq v.P v.w v.K v.mg v.base mT k D.f D.fd d.ps sp):U0 v.P v.w v.K v.mg v.base d.x k d.ps sp:=⟨D.f,D.fd,h,D.bi,D.fn.kp,D.at'⟩
structure DX (K:Ab) (x:Str) (st:sn):Prop where
 ex:∃f fd,AD K ev x=ap (ap (.ref f))/\RO K x x st f fd
def dx {K:Ab}{st:sn}{f:ce}{kV:bn} (a:AD K ev x=ap (ap (.ref f))) (l:K.lookup f=ap ⟨oc,od,.func (BW x x (gD st) (a6 st) (ag st) .none kV É pm an cg ct),RF⟩)
  (c:DS K cg x=true) (k:DR K (.ref f)=true):DX K x st:=⟨f,_,a,Yl l c k⟩
def gh {N P:List Str} (h1:sc.kind=.function:=by rfl) (h2:sc.isCoroutine=false:=by rfl) (h3:sc.isGenerator=false:=by rfl) (h4:N.Nodup:=by decide +kernel) (h5:N.take P.length=P:=by rfl) (h6:∀x∈P,sc.names.lookup x=ap .local\/sc.names.lookup x=ap .cell:=by decide +kernel) (h7:∀y∈sc.names,y.2≠.free:=by decide +kernel):ao N P sc:=⟨h1,h2,h3,h4,h5,h6,h7⟩
def lcs {N:List Str} (h1:sc.kind=.function:=by rfl) (h2:∀y∈sc.names,y.2≠.cell:=by decide +kernel) (h3:∀y∈sc.names,y.2=.local->sc.names.lookup y.1=ap .local:=by decide +kernel) (h4:∀y∈sc.names,y.2=.free->(Xs.names.lookup y.1=ap .cell\/Xs.names.lookup y.1=ap .free):=by decide +kernel) (h5:N'.Nodup:=by decide +kernel) (h6:ix.length=N'.length:=by rfl)
  (h7:((ix.zip N').all λp=>match p.1 with | none=>true | some j=>decide (N[j]?=ap p.2)&&decide (sc.names.lookup p.2=ap .free))=true:=by decide +kernel):ax Xs N sc N' ix:=⟨h1,h2,h3,h4,h5,h6,h7⟩
abbrev qF (l:List (Str×wE)):pc:={kind:=.function,names:=(BH ".0",.local)::l,isGenerator:=false,isCoroutine:=false,more:=[]}
abbrev lo:wE:=.local
abbrev gi:wE:=.globalImplicit
abbrev fr:wE:=.free
section
variable {v:EV}{st:sn}{N:List Str}
def Y8 {m:UZ PV n} (D:DI v ⟨x,st,ps,k+1,λK=>f6 K ks (cq n m)⟩) (S:ao N ps (ag st)) (Ã:∀l:List PV,l.length=n->∀(cg:bn) (A:nn) (outer:List Env) (s:cr) (H:Hp) (E:XK),cO k (A.deeper (re x (ag st) s.heap.objs.size D.f cg))->SF (ig mT v.P v.w v.K v.mg v.base N x (ag st) D.f cg A outer s H E).vT v.K false (ik ks l N.length) (a6 st) (cq n m l) .rt)
  (oH:ks.length=ps.length:=by rfl) (one:jo ks:=by repeat' first | exact cY | exact au (n:=0) | exact au (n:=1) | exact au (n:=2) | exact au (n:=3) | exact au (n:=4) | exact au (n:=5) | exact au (n:=6) | apply iw | apply kl):D.O:=fnV D.fn S oH one Ã
def mkL {m:UZ (List PV) n} (D:DI v ⟨x,st,ps,k+1,λK=>fD K ks (cq n m)⟩) (S:ao N ps (ag st)) (Ã:∀l:List PV,l.length=n->∀(cg:bn) (A:nn) (outer:List Env) (s:cr) (H:Hp) (E:XK),cO k (A.deeper (re x (ag st) s.heap.objs.size D.f cg))->SF (ig mT v.P v.w v.K v.mg v.base N x (ag st) D.f cg A outer s H E).vT v.K false (ik ks l N.length) (a6 st) (cq n m l) .rl)
  (oH:ks.length=ps.length:=by rfl) (one:jo ks:=by repeat' first | exact cY | exact au (n:=0) | exact au (n:=1) | exact au (n:=2) | exact au (n:=3) | exact au (n:=4) | exact au (n:=5) | exact au (n:=6) | apply iw | apply kl):D.O:=fnL D.fn S oH one Ã
def aeS {m:W PV} (D:DI v ⟨x,st,ps,k+1,λK=>f6 K ks (cq 0 m)⟩) (S:ao N ps (ag st)) (Ã:∀(cg:bn) (A:nn) (outer:List Env) (s:cr) (H:Hp) (E:XK),cO k (A.deeper (re x (ag st) s.heap.objs.size D.f cg))->SF (ig mT v.P v.w v.K v.mg v.base N x (ag st) D.f cg A outer s H E).vT v.K false (ik ks [] N.length) (a6 st) (m) .rt)
  (oH:ks.length=ps.length:=by rfl) (one:jo ks:=by repeat' first | exact cY | exact au (n:=0) | exact au (n:=1) | exact au (n:=2) | exact au (n:=3) | exact au (n:=4) | exact au (n:=5) | exact au (n:=6) | apply iw | apply kl):D.O:=Y8 (n:=0) (m:=m) D S (λl hl=>match l,hl with | [],_=>Ã) oH one
def om {m:PV->W PV} (D:DI v ⟨x,st,ps,k+1,λK=>f6 K ks (cq 1 m)⟩) (S:ao N ps (ag st)) (Ã:∀(x0:PV) (cg:bn) (A:nn) (outer:List Env) (s:cr) (H:Hp) (E:XK),cO k (A.deeper (re x (ag st) s.heap.objs.size D.f cg))->SF (ig mT v.P v.w v.K v.mg v.base N x (ag st) D.f cg A outer s H E).vT v.K false (ik ks [x0] N.length) (a6 st) (m x0) .rt)
  (oH:ks.length=ps.length:=by rfl) (one:jo ks:=by repeat' first | exact cY | exact au (n:=0) | exact au (n:=1) | exact au (n:=2) | exact au (n:=3) | exact au (n:=4) | exact au (n:=5) | exact au (n:=6) | apply iw | apply kl):D.O:=Y8 (n:=1) (m:=m) D S (λl hl=>match l,hl with | [x0],_=>Ã x0) oH one
def u4 {m:PV->PV->W PV} (D:DI v ⟨x,st,ps,k+1,λK=>f6 K ks (cq 2 m)⟩) (S:ao N ps (ag st)) (Ã:∀(x0:PV) (x1:PV) (cg:bn) (A:nn) (outer:List Env) (s:cr) (H:Hp) (E:XK),cO k (A.deeper (re x (ag st) s.heap.objs.size D.f cg))->SF (ig mT v.P v.w v.K v.mg v.base N x (ag st) D.f cg A outer s H E).vT v.K false (ik ks [x0,x1] N.length) (a6 st) (m x0 x1) .rt)
  (oH:ks.length=ps.length:=by rfl) (one:jo ks:=by repeat' first | exact cY | exact au (n:=0) | exact au (n:=1) | exact au (n:=2) | exact au (n:=3) | exact au (n:=4) | exact au (n:=5) | exact au (n:=6) | apply iw | apply kl):D.O:=Y8 (n:=2) (m:=m) D S (λl hl=>match l,hl with | [x0,x1],_=>Ã x0 x1) oH one
def IG {m:PV->PV->PV->W PV} (D:DI v ⟨x,st,ps,k+1,λK=>f6 K ks (cq 3 m)⟩) (S:ao N ps (ag st)) (Ã:∀(x0:PV) (x1:PV) (x2:PV) (cg:bn) (A:nn) (outer:List Env) (s:cr) (H:Hp) (E:XK),cO k (A.deeper (re x (ag st) s.heap.objs.size D.f cg))->SF (ig mT v.P v.w v.K v.mg v.base N x (ag st) D.f cg A outer s H E).vT v.K false (ik ks [x0,x1,x2] N.length) (a6 st) (m x0 x1 x2) .rt)
  (oH:ks.length=ps.length:=by rfl) (one:jo ks:=by repeat' first | exact cY | exact au (n:=0) | exact au (n:=1) | exact au (n:=2) | exact au (n:=3) | exact au (n:=4) | exact au (n:=5) | exact au (n:=6) | apply iw | apply kl):D.O:=Y8 (n:=3) (m:=m) D S (λl hl=>match l,hl with | [x0,x1,x2],_=>Ã x0 x1 x2) oH one
def Xw {m:PV->PV->PV->PV->W PV} (D:DI v ⟨x,st,ps,k+1,λK=>f6 K ks (cq 4 m)⟩) (S:ao N ps (ag st)) (Ã:∀(x0:PV) (x1:PV) (x2:PV) (x3:PV) (cg:bn) (A:nn) (outer:List Env) (s:cr) (H:Hp) (E:XK),cO k (A.deeper (re x (ag st) s.heap.objs.size D.f cg))->SF (ig mT v.P v.w v.K v.mg v.base N x (ag st) D.f cg A outer s H E).vT v.K false (ik ks [x0,x1,x2,x3] N.length) (a6 st) (m x0 x1 x2 x3) .rt)
  (oH:ks.length=ps.length:=by rfl) (one:jo ks:=by repeat' first | exact cY | exact au (n:=0) | exact au (n:=1) | exact au (n:=2) | exact au (n:=3) | exact au (n:=4) | exact au (n:=5) | exact au (n:=6) | apply iw | apply kl):D.O:=Y8 (n:=4) (m:=m) D S (λl hl=>match l,hl with | [x0,x1,x2,x3],_=>Ã x0 x1 x2 x3) oH one
def aeR {m:PV->PV->PV->PV->PV->W PV} (D:DI v ⟨x,st,ps,k+1,λK=>f6 K ks (cq 5 m)⟩) (S:ao N ps (ag st)) (Ã:∀(x0:PV) (x1:PV) (x2:PV) (x3:PV) (x4:PV) (cg:bn) (A:nn) (outer:List Env) (s:cr) (H:Hp) (E:XK),cO k (A.deeper (re x (ag st) s.heap.objs.size D.f cg))->SF (ig mT v.P v.w v.K v.mg v.base N x (ag st) D.f cg A outer s H E).vT v.K false (ik ks [x0,x1,x2,x3,x4] N.length) (a6 st) (m x0 x1 x2 x3 x4) .rt)
  (oH:ks.length=ps.length:=by rfl) (one:jo ks:=by repeat' first | exact cY | exact au (n:=0) | exact au (n:=1) | exact au (n:=2) | exact au (n:=3) | exact au (n:=4) | exact au (n:=5) | exact au (n:=6) | apply iw | apply kl):D.O:=Y8 (n:=5) (m:=m) D S (λl hl=>match l,hl with | [x0,x1,x2,x3,x4],_=>Ã x0 x1 x2 x3 x4) oH one
def Xy {m:PV->W (List PV)} (D:DI v ⟨x,st,ps,k+1,λK=>fD K ks (cq 1 m)⟩) (S:ao N ps (ag st)) (Ã:∀(x0:PV) (cg:bn) (A:nn) (outer:List Env) (s:cr) (H:Hp) (E:XK),cO k (A.deeper (re x (ag st) s.heap.objs.size D.f cg))->SF (ig mT v.P v.w v.K v.mg v.base N x (ag st) D.f cg A outer s H E).vT v.K false (ik ks [x0] N.length) (a6 st) (m x0) .rl)
  (oH:ks.length=ps.length:=by rfl) (one:jo ks:=by repeat' first | exact cY | exact au (n:=0) | exact au (n:=1) | exact au (n:=2) | exact au (n:=3) | exact au (n:=4) | exact au (n:=5) | exact au (n:=6) | apply iw | apply kl):D.O:=mkL (n:=1) (m:=m) D S (λl hl=>match l,hl with | [x0],_=>Ã x0) oH one
def Tf {m:PV->PV->W (List PV)} (D:DI v ⟨x,st,ps,k+1,λK=>fD K ks (cq 2 m)⟩) (S:ao N ps (ag st)) (Ã:∀(x0:PV) (x1:PV) (cg:bn) (A:nn) (outer:List Env) (s:cr) (H:Hp) (E:XK),cO k (A.deeper (re x (ag st) s.heap.objs.size D.f cg))->SF (ig mT v.P v.w v.K v.mg v.base N x (ag st) D.f cg A outer s H E).vT v.K false (ik ks [x0,x1] N.length) (a6 st) (m x0 x1) .rl)
  (oH:ks.length=ps.length:=by rfl) (one:jo ks:=by repeat' first | exact cY | exact au (n:=0) | exact au (n:=1) | exact au (n:=2) | exact au (n:=3) | exact au (n:=4) | exact au (n:=5) | exact au (n:=6) | apply iw | apply kl):D.O:=mkL (n:=2) (m:=m) D S (λl hl=>match l,hl with | [x0,x1],_=>Ã x0 x1) oH one
def Xx {m:PV->PV->PV->W (List PV)} (D:DI v ⟨x,st,ps,k+1,λK=>fD K ks (cq 3 m)⟩) (S:ao N ps (ag st)) (Ã:∀(x0:PV) (x1:PV) (x2:PV) (cg:bn) (A:nn) (outer:List Env) (s:cr) (H:Hp) (E:XK),cO k (A.deeper (re x (ag st) s.heap.objs.size D.f cg))->SF (ig mT v.P v.w v.K v.mg v.base N x (ag st) D.f cg A outer s H E).vT v.K false (ik ks [x0,x1,x2] N.length) (a6 st) (m x0 x1 x2) .rl)
  (oH:ks.length=ps.length:=by rfl) (one:jo ks:=by repeat' first | exact cY | exact au (n:=0) | exact au (n:=1) | exact au (n:=2) | exact au (n:=3) | exact au (n:=4) | exact au (n:=5) | exact au (n:=6) | apply iw | apply kl):D.O:=mkL (n:=3) (m:=m) D S (λl hl=>match l,hl with | [x0,x1,x2],_=>Ã x0 x1 x2) oH one
def aaW {m:PV->PV->PV->PV->W (List PV)} (D:DI v ⟨x,st,ps,k+1,λK=>fD K ks (cq 4 m)⟩) (S:ao N ps (ag st)) (Ã:∀(x0:PV) (x1:PV) (x2:PV) (x3:PV) (cg:bn) (A:nn) (outer:List Env) (s:cr) (H:Hp) (E:XK),cO k (A.deeper (re x (ag st) s.heap.objs.size D.f cg))->SF (ig mT v.P v.w v.K v.mg v.base N x (ag st) D.f cg A outer s H E).vT v.K false (ik ks [x0,x1,x2,x3] N.length) (a6 st) (m x0 x1 x2 x3) .rl)
  (oH:ks.length=ps.length:=by rfl) (one:jo ks:=by repeat' first | exact cY | exact au (n:=0) | exact au (n:=1) | exact au (n:=2) | exact au (n:=3) | exact au (n:=4) | exact au (n:=5) | exact au (n:=6) | apply iw | apply kl):D.O:=mkL (n:=4) (m:=m) D S (λl hl=>match l,hl with | [x0,x1,x2,x3],_=>Ã x0 x1 x2 x3) oH one
def aeT {m:PV->PV->PV->PV->PV->W (List PV)} (D:DI v ⟨x,st,ps,k+1,λK=>fD K ks (cq 5 m)⟩) (S:ao N ps (ag st)) (Ã:∀(x0:PV) (x1:PV) (x2:PV) (x3:PV) (x4:PV) (cg:bn) (A:nn) (outer:List Env) (s:cr) (H:Hp) (E:XK),cO k (A.deeper (re x (ag st) s.heap.objs.size D.f cg))->SF (ig mT v.P v.w v.K v.mg v.base N x (ag st) D.f cg A outer s H E).vT v.K false (ik ks [x0,x1,x2,x3,x4] N.length) (a6 st) (m x0 x1 x2 x3 x4) .rl)
  (oH:ks.length=ps.length:=by rfl) (one:jo ks:=by repeat' first | exact cY | exact au (n:=0) | exact au (n:=1) | exact au (n:=2) | exact au (n:=3) | exact au (n:=4) | exact au (n:=5) | exact au (n:=6) | apply iw | apply kl):D.O:=mkL (n:=5) (m:=m) D S (λl hl=>match l,hl with | [x0,x1,x2,x3,x4],_=>Ã x0 x1 x2 x3 x4) oH one
end
section
variable {K:Ab}{W':W PV}{WL:W (List PV)}
theorem eC {m:List PV->W PV} (G:U0 X.prog X.w X.K X.mg X.base x k ps (f6 K ks m)) (hr:cO k' X.A) (ha:AF X K fs (e::es) ks B) (hk:k<=k':=by first | exact EX rfl | exact An _ | omega) (hg:Gl X x:=by rfl) (hW:W'=B m:=by rfl) (oI:jr x:=by decide)
  (he:ic X e es:=by rfl) (dI:mj X pos es:=by rfl):EF X K fs (.Call (.Name x p) (e::es) [] pos) W':=Ur G hr hk hg ha hW oI he dI
theorem lC {m:List PV->W (List PV)}{B:(List PV->W (List PV))->W (List PV)} (G:U0 X.prog X.w X.K X.mg X.base x k ps (fD K ks m)) (hr:cO k' X.A) (ha:AF X K fs (e::es) ks B) (hk:k<=k':=by first | exact EX rfl | exact An _ | omega) (hg:Gl X x:=by rfl) (hW:WL=B m:=by rfl) (oI:jr x:=by decide)
  (he:ic X e es:=by rfl) (dI:mj X pos es:=by rfl):LF X K fs (.Call (.Name x p) (e::es) [] pos) WL:=Tu G hr hk hg ha hW oI he dI
def dD (i:Nat) (hN:X.N.Nodup) (hi:X.N[i]?=ap x:=by rfl) (hx:Loc X.env.scope x:=by first | exact .inl rfl | exact .inr rfl) (hf:NX X x:=by first | exact .inl rfl | exact .inr rfl | assumption):PG X (.Name x pos) (eB i):=SG hN hi hx hf
variable {T:Type}{out:T->End}{rest:List sn}
def sv (i:Nat) {k:PV->W T} (hN:X.N.Nodup) (he:EF X K fs e we) (hr:∀v,SF X K b (fs.set i (ap (.val v))) rest (k v) out) (hi:X.N[i]?=ap y:=by rfl) (hx:Loc X.env.scope y:=by first | exact .inl rfl | exact .inr rfl) (hs:im e (ap (.Name y p')) pos.line X.env=pure false:=by rfl)
  (hf:NX X y:=by first | exact .inl rfl | exact .inr rfl | assumption):SF X K b fs (.Assign [.Name y p'] e pos::rest) (.bind we k) out:=SF.set hN hi hx he hr hs hf
def sl (i:Nat) {k:List PV->W T} (hN:X.N.Nodup) (he:LF X K fs e wl) (hr:∀l,SF X K b (fs.set i (ap (.ol bm l))) rest (k l) out) (hi:X.N[i]?=ap y:=by rfl) (hx:Loc X.env.scope y:=by first | exact .inl rfl | exact .inr rfl) (hs:im e (ap (.Name y p')) pos.line X.env=pure false:=by rfl)
  (hf:NX X y:=by first | exact .inl rfl | exact .inr rfl | assumption):SF X K b fs (.Assign [.Name y p'] e pos::rest) (.bind wl k) out:=SF.aey hN hi hx he hr hs hf
end
end FL
variable {P:List A5->Prop}{d:FL.DF}
namespace FL
open PySem PySem.Spec PyProof.Rows L2 PL
def us1 (h:∀a,P [a]):∀us:List bn,us.length=1->P us
 | [_],_=>h _
def us2 (h:∀a b,P [a,b]):∀us:List bn,us.length=2->P us
 | a::_,e=>us1 (P:=λl=>P (a::l)) (h _) _ (FI.inj e)
def us3 (h:∀a b c,P [a,b,c]):∀us:List bn,us.length=3->P us
 | a::_,e=>us2 (P:=λl=>P (a::l)) (h _) _ (FI.inj e)
def us4 (h:∀a b c d,P [a,b,c,d]):∀us:List bn,us.length=4->P us
 | a::_,e=>us3 (P:=λl=>P (a::l)) (h _) _ (FI.inj e)
def us5 (h:∀a b c d e,P [a,b,c,d,e]):∀us:List bn,us.length=5->P us
 | a::_,e=>us4 (P:=λl=>P (a::l)) (h _) _ (FI.inj e)
def DX.mk2 {v:EV} (D:DX v.K d.x d.s) (X:v.K.In h) (G:h.Ns ev v.mg)
  (hb:∀(kV É pm:bn) (an:Option ce) (cg ct:bn) (us:List bn),us.length=d.ps.length->bindArgs (BW d.x d.x (gD d.s) (a6 d.s) (ag d.s) .none kV É pm an cg ct) ⟨us,[]⟩=pure (d.ps.zip us):=by
   first
    | exact λ_ _ _ _ _ _=>us1 λ_=>rfl
    | exact λ_ _ _ _ _ _=>us2 λ_ _=>rfl
    | exact λ_ _ _ _ _ _=>us3 λ_ _ _=>rfl
    | exact λ_ _ _ _ _ _=>us4 λ_ _ _ _=>rfl
    | exact λ_ _ _ _ _ _=>us5 λ_ _ _ _ _=>rfl
    | exact λ_ _ _ _ _ _=>us6 λ_ _ _ _ _ _=>rfl
    | exact λ_ _ _ _ _ _=>us7 λ_ _ _ _ _ _ _=>rfl
    | exact λ_ _ _ _ _ _=>us8 λ_ _ _ _ _ _ _ _=>rfl):Nonempty (DI v d):=by
 obtain⟨f,fd,a,F⟩:=D.ex;exact⟨⟨f,fd,F,F.binds hb,BG X G a⟩⟩
def DX.go {v:EV} (D:DX v.K d.x d.s) (X:v.K.In h) (G:h.Ns ev v.mg) {P:Prop} (k:∀D:DI v d,D.O) (r:d.C v->P)
  (hb:∀(kV É pm:bn) (an:Option ce) (cg ct:bn) (us:List bn),us.length=d.ps.length->bindArgs (BW d.x d.x (gD d.s) (a6 d.s) (ag d.s) .none kV É pm an cg ct) ⟨us,[]⟩=pure (d.ps.zip us):=by
   first
    | exact λ_ _ _ _ _ _=>us1 λ_=>rfl
    | exact λ_ _ _ _ _ _=>us2 λ_ _=>rfl
    | exact λ_ _ _ _ _ _=>us3 λ_ _ _=>rfl
    | exact λ_ _ _ _ _ _=>us4 λ_ _ _ _=>rfl
    | exact λ_ _ _ _ _ _=>us5 λ_ _ _ _ _=>rfl
    | exact λ_ _ _ _ _ _=>us6 λ_ _ _ _ _ _=>rfl
    | exact λ_ _ _ _ _ _=>us7 λ_ _ _ _ _ _ _=>rfl
    | exact λ_ _ _ _ _ _=>us8 λ_ _ _ _ _ _ _ _=>rfl):P:=by
 obtain⟨D⟩:=D.mk2 X G hb;exact r (D.c (k D))
def KA (K:Ab):Sp:=λvs H Q _=>∃(a:ce) (ns:List Int),vs=[.ref a]/\US H/\c9 K H a (ns.map V.int)/\ns.length<=63/\∀H',Q (.bl true) H'
def Tq {K:Ab}{m:PV->W PV} (ok:∀ns:List Int,ns.length<=63->(m (.cl (ns.map PV.int))).run (·=.bl true)):∀vs H Q E,KA K vs H Q E->f6 K [.v] (cq 1 m) vs H Q E:=λvs H Q E ⟨a,ns,e,hO,hS,hl,q⟩=>by
 subst e;have fz:V1 K H a (ns.map V.int):=by
  rcases hS with (h | ⟨o,h⟩) | h
  ·rcases hO a with z | ⟨o,xs,z⟩
   ·rw [h] at z;cases z
   ·rw [h] at z;cases z
  ·exact .inl ⟨o,h⟩
  ·exact .inr h
 refine⟨[.cl (ns.map PV.int)],.v (.cl fz (oE _ _ ns)) .nil,(m (.cl (ns.map PV.int))).mono (λv e u H' _ r=>?_) (ok ns hl)⟩;subst e;cases r;exact q H'
structure acE (K:Ab) (mg:Str->Option bn) (d:DF):Prop where
 f:∀v:EV,v.K=K->v.mg=mg->∀D:DI v d,D.O
def mkAll {l:EJ}{K:Ab}{fa:ce}{st:sn}{m:PV->W PV} (ok:∀ns:List Int,ns.length<=63->(m (.cl (ns.map PV.int))).run (·=.bl true)) (X:K.In h) (G:h.Ns ev mg) (hfa:mg "law"=ap (.ref fa)) (acf:DX K "law" st)
  (hb:∀(kV É pm:bn) (an:Option ce) (cg ct:bn) (us:List bn),us.length=1->bindArgs (BW "law" "law" (gD st) (a6 st) (ag st) .none kV É pm an cg ct) ⟨us,[]⟩=pure (([("_law_script":Str)]:List Str).zip us))
  (F:acE K mg ⟨"law",st,["_law_script"],k,λK=>f6 K [.v] (cq 1 m)⟩) :
  ∃fd:Fa,(∀(s:cr) (v:bn),BindsTo s fd ⟨[v],[]⟩ [("_law_script",v)])/\∀base:lf,K.In base->base.Ns ev mg->jq l.prog w K mg base mT k fa fd ["_law_script"] (KA K):=by
 obtain⟨f,fd,a,F'⟩:=acf.ex;have e:=hfa.symm.trans (BG X G a);cases e;have fb:=F'.binds (ps:=["_law_script"]) hb;obtain⟨oc,od,kV,É,pm,an,cg,ct,RF,rfl,_⟩:=id F'.ex;exact⟨BW "law" "law" (gD st) (a6 st) (ag st) .none kV É pm an cg ct,λs v=>.of_eq (hb kV É pm an cg ct [v] rfl),λbase _ _=>(F.f ⟨l.prog,w,K,mg,base⟩ rfl rfl ⟨_,_,F',fb,hfa⟩).imp (Tq ok)⟩
end FL
namespace My
open PySem PySem.Spec PyProof.Rows L2 PL FL
def jI (cW:PV):W (List PV):=
 []\λnv=>
 am (cW\λx3=>bd [x3]) λpG=>
 am (HW (λs4=>(s4.2\λl5=>bd (!l5.isEmpty))) (λs4=>(
 am (F5 s4.2) λt7=>
 t7.2\λx9=>am (fY s4.1 x9) λnu=>
 dR (Ob (am (am (bd t7.2) (gz .str)) ju)) (
 am (am (bd t7.2) aB) λl11=>am (Yp t7.1 l11) λso=>
 bd (nu,so)) (
 bd (nu,t7.1)))) (nv,pG)) λs4=>
 (s4.1\λXN=>bd XN.reverse)
def gw (cW:PV):W PV:=
 []\λjv=>
 []\λxN=>
 am (cW\λx3=>jI x3) λl30=>am (cz l30 (jv,xN) λxC s4=>(
 am (am (am (bd xC) (gz .str)) ju) λb=>am (if b=true then (
 xC\λHS=>am (fY s4.1 HS) λKn=>
 bd (Kn,s4.2)) else (
 am (F5 s4.2) λt20=>
 am (F5 t20.1) λt22=>
 am (t22.2\λNZ=>t20.2\λLY=>bd (.tup [NZ,LY])) λRT=>am (fY s4.1 RT) λKm=>
 bd (Km,t22.1))) λWz=>
 am (b2 xH (am (bd Wz.1) Gz) (bd (.int 1))) λV9=>am (fY Wz.2 V9) λGw=>
 bd (Wz.1,Gw))) λs4=>
 (am (bd s4.1) mm)
def cL (cn:PV):W PV:=
 (dR (am (am (bd cn) (gz .str)) ju) (bd (.tup [])) (bd cn))
def fi (cW:PV):W PV:=
 am (cW\λx2=>gw x2) λjv=>
 am (am (am (bd jv) aB) λl4=>bC l4 λp5=>(bd .aG)) λzw=>
 am (am (am (bd jv) aB) λl6=>.fB (l6.length<=sizeLine) (.ret (dW 0 l6))) λXM=>am (cz XM zw λp8 s7=>am (vH p8) λt9=>(
 am (am (t9.2\λkG=>cL kG) aB) λTv=>am (cz Tv s7 λLq WA=>(
 t9.1\λuP=>Lq\λsh=>am (kI WA sh uP) λHs=>
 bd Hs)) λWA=>
 bd WA)) λs7=>
 (am (bd s7) mm)
def eg (fv:PV) (lh:PV):W PV:=
 (dR (am (am (cB (am (bd fv) aB) (bd lh)) (gz .str)) ju) (cB (am (bd fv) aB) (bd lh)) (bd lh))
def gT (dG:PV):W (List PV):=
 am (dG\λx2=>fi x2) λd4=>
 am (am (am (bd d4) aB) λl4=>bC l4 λp5=>(bd (.tup []))) λlV=>
 am (am (b2 xH (c1 cJ (bd d4)) (bd (.int 1))) λx6=>am (am (bd (.int 1)) Mu) λx7=>am (am (bd (.int 1)) Mu) λx8=>OK x6 x7 x8) λTv=>am (cz Tv lV λlg s9=>(
 am (dR (t2 qV (cB (am (bd d4) aB) (bd lg)) (bd .aG)) (bd (.tup [])) (cB (bd s9) (cB (am (bd d4) aB) (bd lg)))) λHt=>
 am (w2 addW (lg\λsi=>bd (.tup [si])) (bd Ht)) λuP=>lg\λsh=>am (kI s9 sh uP) λGy=>
 bd Gy)) λs9=>
 bd s9
def eU (xP:PV) (lh:PV):W PV:=
 (am (am (am (c1 cJ (bd xP)) fH) λl2=>mJ l2 λp3=>PF (L7 (Qf true (bd p3) (am (cB (am (bd xP) aB) (bd lh)) aB)) (Qf true (bd lh) (am (cB (am (bd xP) aB) (bd p3)) aB))) (bd p3)) mm)
def kY (dG:PV):W PV:=
 am (dG\λx2=>gw x2) λbD=>
 am (dG\λx4=>gT x4) λlV=>
 (am (am (am (c1 cJ (bd bD)) fH) λl6=>bC l6 λp7=>(am (bD\λx8=>p7\λx9=>eg x8 x9) λkG=>(.int 0)\λnF=>am (am (cB (am (bd bD) aB) (bd p7)) λpF=>cL pF) λsi=>am ((.cl lV)\λuP=>p7\λsh=>eU uP sh) λzX=>bd (.tup [kG,nF,si,zX]))) mm)
def gU (cG:PV):W PV:=
 (NJ (am (bd cG) (gz .int)) (am (am (bd cG) (gz .bool)) Xn))
def je (cG:PV) (km:PV):W PV:=
 (NJ (am (bd cG) (gz .tup)) (b2 fg (c1 cJ (bd cG)) (bd km)))
def dP (fv:PV) (dH:PV):W (List PV):=
 (am (am (am (bd fv) aB) λl1=>am (am (bd dH) aB) λl2=>LX l1 l2) λl3=>mJ l3 λp4=>am (vH p4) λt5=>PF (Ob (am (am (bd t5.1) (gz .str)) ju)) (bd t5.2))
def bV (vP:PV):W PV:=
 (cB (am (bd vP) aB) (am (c1 cJ (bd vP)) λx1=>bx x1))
def gQ (dG:PV) (dH:PV) (ke:PV):W (List PV):=
 am (dG\λx2=>fi x2) λd4=>
 []\λxE=>
 am (am (am (bd ke) aB) λl4=>.fB (l4.length<=sizeLine) (.ret (dW 0 l4))) λXM=>am (cz XM xE λp6 s5=>am (vH p6) λt7=>(
 am (am (am (bd dH) aB) λl8=>.fB (l8.length<=sizeLine) (.ret (dW 0 l8))) λTv=>am (cz Tv s5 λĤ s9=>am (vH Ĥ) λZ8=>(
 dR (L7 (t2 oLe (bd Z8.2) (bd t7.2)) (tor (t2 qV (cB (am (bd d4) aB) (bd Z8.1)) (bd .aG)) (t2 oLt (bd t7.2) (cB (am (bd dH) aB) (cB (am (bd d4) aB) (bd Z8.1)))))) (
 am (Z8.1\λsi=>t7.1\λuP=>bd (.tup [si,uP])) λsh=>am (fY s9 sh) λGa=>
 bd Ga) (
 bd s9))) λs9=>
 bd s9)) λs5=>
 bd s5
def jc (fv:PV) (dH:PV) (ke:PV) (n9:PV) (Ph:PV):W PV:=
 am (cB (am (bd Ph) aB) (bd (.int 0))) λlX=>
 am (cB (am (bd Ph) aB) (bd (.int 1))) λoA=>
 am (b2 oLt (cB (am (bd dH) aB) (bd lX)) (cB (am (bd ke) aB) (bd oA))) λwA=>
 am (dR (am (bd wA) ju) (lX\λx5=>bd (.tup [x5])) (am (cB (am (bd fv) aB) (bd lX)) λx6=>cL x6)) λbelow_4=>
 am (am (am (am (bd below_4) aB) λl8=>bC l8 λp9=>(RM (bd n9) (p9\λkG=>am (b2 xH (bd oA) (bd (.int 1))) λnF=>bd (.tup [kG,nF])))) mm) λKj=>
 am (am (am (am (bd n9) PQ) λl13=>mJ l13 λé=>PF (L7 (t2 fg (cB (am (bd é) aB) (bd (.int 1))) (bd oA)) (t2 Iy (cB (am (bd é) aB) (bd (.int 0))) (bd lX))) (RM (bd n9) (bd é))) mm) λw5=>
 (am (fv\λsh=>lX\λzX=>eg sh zX) λRV=>oA\λHS=>Kj\λL0=>w5\λN2=>bd (.tup [RV,HS,L0,N2]))
def lU (dG:PV) (dH:PV):W PV:=
 am (dG\λx2=>gw x2) λbD=>
 am (am ((.int 0)\λx4=>bd [x4]) λl7=>am (am (bD\λx5=>dH\λx6=>dP x5 x6) xq) λl8=>nt l7 l8) λuG=>
 am (dG\λkG=>dH\λnF=>(.cl uG)\λpF=>gQ kG nF pF) λxD=>
 am (am (am (am (am (bd (.cl xD)) aB) λl14=>.fB (l14.length<=sizeLine) (.ret (dW 0 l14))) λl15=>bC l15 λp16=>am (vH p16) λmx=>(mx.2\λHS=>mx.1\λL0=>bd (.tup [HS,L0]))) JP) λsV=>
 (am (am (am (bd (.cl xD)) aB) λl20=>bC l20 λè=>(bD\λHQ=>dH\λLZ=>(.cl uG)\λNZ=>sV\λLY=>è\λRT=>jc HQ LZ NZ LY RT)) mm)
def de (jw:PV) (bu:PV):W PV:=
 (cB (am (cB (am (bd jw) aB) (bd bu)) aB) (bd (.int 2)))
def fN (jw:PV) (bu:PV):W PV:=
 (cB (am (cB (am (bd jw) aB) (bd bu)) aB) (bd (.int 3)))
def jg (jw:PV) (bu:PV) (U3:PV):W PV:=
 (NJ (b2 fg (jw\λx1=>bu\λx2=>de x1 x2) (bd (.tup []))) (b2 fg (cB (am (cB (am (bd jw) aB) (bd bu)) aB) (bd (.int 0))) (bd U3)))
def fM (aA:PV) (bu:PV):W (List PV):=
 am (aA\λx2=>bu\λx3=>de x2 x3) λgp=>
 (dR (t2 fg (c1 cJ (bd gp)) (bd (.int 2))) (gp\λx4=>am (am (cB (am (bd gp) aB) (bd (.int 1))) λx5=>am (cB (am (bd gp) aB) (bd (.int 0))) λx6=>bd (.tup [x5,x6])) λx7=>bd [x4,x7]) (bd []))
def gR (aA:PV) (bu:PV):W (List PV):=
 am (aA\λx2=>bu\λx3=>fN x2 x3) λuF=>
 (am (am (am (bd uF) aB) λl4=>bC l4 λp5=>(bu\λx6=>p5\λx7=>bd (.tup [x6,x7]))) λXN=>am (am (am (bd uF) aB) λl8=>bC l8 λp9=>(p9\λkG=>bu\λnF=>bd (.tup [kG,nF]))) λl13=>nt XN l13)
def fh (aA:PV) (cn:PV) (bu:PV):W (List PV):=
 dR (am (am (bd cn) (gz .str)) ju) (
 (dR (am (aA\λx1=>bu\λx2=>cn\λx3=>jg x1 x2 x3) ju) (am ((.str "found")\λx4=>(.tup [])\λx5=>bd (.tup [x4,x5])) λx6=>bd [x6]) (bd []))) (
 am (am (aA\λx8=>bu\λx9=>fM x8 x9) λl10=>bC l10 λĈ=>((.str "split")\λpF=>Ĉ\λsi=>bd (.tup [pF,si]))) λKz=>
 am (am (aA\λsh=>bu\λzX=>gR sh zX) λTv=>bC Tv λp18=>((.str "over")\λL0=>p18\λN2=>bd (.tup [L0,N2]))) λKZ=>
 (am (am (am (am ((.str "doubled")\λRU=>am (bu\λHQ=>bu\λLZ=>bd (.tup [HQ,LZ])) λNZ=>bd (.tup [RU,NZ])) λLY=>bd [LY]) λl26=>am (am (bd (.cl Kz)) tB) λl27=>nt l26 l27) λl28=>am (am (bd (.cl KZ)) tB) λl29=>nt l28 l29) Oq))
def jb (qx:PV):W PV:=
 (dR (Qf false (bd .aG) (am (bd qx) aB)) (bd .aG) (am (am (bd qx) tB) Kt))
def gV (qx:PV):W PV:=
 (am (am (am (bd qx) aB) λl1=>mJ l1 λp2=>PF (t2 vS (bd p2) (bd .aG)) (bd p2)) La)
def d7 (aY:PV) (uw:PV):W PV:=
 (dR (uw\λx1=>rh false x1 ([("split":Str),("doubled":Str),("over":Str)].map PV.str)) (cB (am (bd aY) aB) (am (bd uw) (Qh ["split","doubled","over"]))) (bd (.int 0)))
def df (aY:PV) (nT:PV) (cn:PV) (uw:PV):W PV:=
 am (am (am (am (cn\λx2=>cL x2) aB) λl3=>am (am (cB (am (bd uw) aB) (bd (.int 1))) aB) λl4=>LX l3 l4) λl5=>bC l5 λp6=>am (vH p6) λt7=>(cB (am (cB (am (bd nT) aB) (bd t7.1)) aB) (bd t7.2))) λGg=>
 (am (oO (am (am (aY\λx8=>am (cB (am (bd uw) aB) (bd (.int 0))) λx9=>d7 x8 x9) λkG=>bd [kG]) λl11=>am (am (bd (.cl Gg)) tB) λXN=>nt l11 XN)) λsi=>jb si)
def eR (aA:PV) (aY:PV) (nT:PV) (cn:PV) (bu:PV):W (List PV):=
 (am (aA\λx1=>cn\λx2=>bu\λx3=>fh x1 x2 x3) λl4=>bC l4 λp5=>(aY\λx6=>nT\λx7=>cn\λx8=>p5\λx9=>df x6 x7 x8 x9))
def fK (aA:PV) (aY:PV) (bu:PV):W PV:=
 (dR (t2 fg (c1 cJ (aA\λx1=>bu\λx2=>de x1 x2)) (bd (.int 2))) (cB (am (bd aY) aB) (bd (.int 3))) (bd (.int 0)))
def eQ (aA:PV) (aY:PV) (aai:PV) (bu:PV):W (List PV):=
 am (aA\λx2=>aY\λx3=>bu\λx4=>fK x2 x3 x4) λVg=>
 (am (am (aA\λx5=>bu\λx6=>de x5 x6) aB) λl7=>bC l7 λp8=>(am (oO (Vg\λx9=>am (cB (am (bd aai) aB) (bd p8)) λkG=>bd [x9,kG])) λnF=>jb nF))
def kX (aA:PV) (aY:PV) (nT:PV) (cn:PV):W PV:=
 []\λOJ=>
 am (am (c1 cJ (bd aA)) fH) λl21=>am (cz l21 OJ λIa s3=>(
 am (am (am (aA\λx6=>aY\λx7=>nT\λx8=>cn\λx9=>Ia\λkG=>eR x6 x7 x8 x9 kG) λl15=>am (aA\λnF=>aY\λpF=>(.cl s3)\λsi=>Ia\λuP=>eQ nF pF si uP) λl16=>nt l15 l16) vL) λLL=>
 am ((.cl LL)\λHS=>gV HS) λL0=>am (fY s3 L0) λOG=>
 bd OG)) λs3=>
 (am (bd s3) mm)
def oo (aA:PV) (iJ:PV) (aY:PV):W PV:=
 []\λIk=>
 am (am (iJ\λx2=>gw x2) aB) λXN=>am (cz XN Ik λgP s3=>(
 am (am (aA\λx6=>aY\λx7=>(.cl s3)\λx8=>gP\λx9=>kX x6 x7 x8 x9) Oc) λkG=>am (fY s3 kG) λOD=>
 bd OD)) λs3=>
 (am (bd s3) mm)
def fP (eJ:PV) (k_:PV):W (List PV):=
 am (dR (t2 oLt (bd k_) (c1 cJ (bd eJ))) (cB (am (bd eJ) aB) (bd k_)) (bd (.int 0))) λlH=>
 am (b2 pV (c1 Ho (bd lH)) (c1 J1 (b2 oGe (c1 Ho (bd lH)) (b2 Pm (bd (.int 10)) (bd (.int 18)))))) λgA=>
 (gA\λx3=>am (b2 oMod (b2 pV (w2 addW (w2 addW (b2 oMod (bd lH) (bd (.int 2147483629))) (b2 pV (b2 pV (bd (.int 7919)) (bd k_)) (bd k_))) (bd (.int 11))) (bd (.int 48271))) (bd (.int 2147483647))) λx4=>(.int 0)\λx5=>bd [x3,x4,x5])
def dQ (gY:List PV) (km:PV):W (PV×List PV):=
 am (w2 addW (cB (bd gY) (bd (.int 2))) (bd (.int 1))) λx2=>(.int 2)\λx3=>am (kI gY x3 x2) λbX=>
 dR (L7 (t2 oGt (cB (bd bX) (bd (.int 0))) (bd (.int 0))) (t2 oLe (cB (bd bX) (bd (.int 2))) (bd (.int 60)))) (
 am (b2 oMod (cB (bd bX) (bd (.int 0))) (bd km)) λLI=>
 am (b2 oDiv (cB (bd bX) (bd (.int 0))) (bd km)) λx6=>(.int 0)\λx7=>am (kI bX x7 x6) λlj=>
 LI\λx8=>bd (x8,lj)) (
 am (b2 oMod (w2 addW (w2 addW (b2 pV (cB (bd bX) (bd (.int 1))) (bd (.int 48271))) (bd (.int 12345))) (cB (bd bX) (bd (.int 2)))) (bd (.int 2147483647))) λkG=>(.int 1)\λnF=>am (kI bX nF kG) λfW=>
 am (b2 oMod (b2 oDiv (b2 oMod (b2 pV (cB (bd fW) (bd (.int 1))) (w2 addW (b2 oMod (cB (bd fW) (bd (.int 1))) (bd (.int 40009))) (bd (.int 3)))) (bd (.int 2147483629))) (bd (.int 7))) (bd km)) λpF=>bd (pF,fW))
def dh (km:PV):W (List PV):=
 (.str "abcdefghijklmnopqrstuvwxyz")\λvX=>
 am (am ((.int 26)\λx2=>bx x2) λx3=>am (am (oO ((.int 1)\λx4=>(.int 3)\λx5=>(.int 5)\λx6=>(.int 7)\λx7=>(.int 9)\λx8=>(.int 11)\λx9=>bd [x4,x5,x6,x7,x8,x9])) λkG=>bV kG) λnF=>bd (.tup [x3,nF])) λpF=>am (vH pF) λt13=>
 am (am (oO ((.str "")\λsh=>(.str "")\λzX=>(.str "a")\λRV=>(.str "zq")\λHS=>(.str "mnopqrs")\λL0=>bd [sh,zX,RV,HS,L0])) λN2=>bV N2) λKo=>
 (am (am (bd km) fH) λl22=>bC l22 λp23=>(w2 addW (b2 Po (bd vX) (b2 oMod (w2 addW (bd t13.1) (b2 pV (bd t13.2) (bd p23))) (bd (.int 26)))) (bd Ko)))
def cS (vP:PV):W PV:=
 am (am (bd vP) aB) λmV=>
 am (am (b2 xH (am (bd mV) Gz) (bd (.int 1))) fH) λl23=>am (cz l23 mV λWg s3=>(
 am (am (am (bd s3) Gz) λx6=>bx x6) λx7=>am (xB s3 x7) λt8=>
 am (am (am (bd t8.1) Gz) λkG=>bx kG) λYN=>
 am (t8.2\λpF=>am (cB (bd t8.1) (bd YN)) λsi=>bd (.tup [pF,si])) λxF=>
 am (dR (t2 fg ((.int 2)\λsh=>bx sh) (bd (.int 0))) (bd xF) (xF\λzX=>bm\λi17=>bm\λj18=>am (am (am (bd (.int 1)) Mu) part) λk19=>KI zX i17 j18 k19)) λN2=>YN\λRU=>am (kI t8.1 RU N2) λKG=>
 bd KG)) λs3=>
 (cB (bd s3) (bd (.int 0)))
def dj (Gn:PV):W PV:=
 am (am (w2 addW (bd (.int 1)) (Gn\λx2=>bx x2)) λx3=>dh x3) λjt=>
 (am ((.cl jt)\λx4=>cS x4) λx5=>(.cl jt)\λx6=>bd (.tup [x5,x6]))
def di (qA:PV) (Gn:PV):W PV:=
 am (am (am (w2 addW (bd (.int 1)) (Gn\λx2=>bx x2)) fH) λl4=>bC l4 λp5=>(qA\λx6=>bV x6)) λmV=>
 ((.cl mV)\λx7=>cS x7)
def aV:Nat->PV->W (List PV)
 | 0,_=>W.fail
 | n+1,cW=>
 dR (am (am (bd cW) (gz .str)) ju) (
 (cW\λx1=>bd [x1])) (
 am (oO (am (cB (am (bd cW) aB) (bd (.int 0))) λx2=>aV n x2)) λqE=>am (oO (am (cB (am (bd cW) aB) (bd (.int 1))) λx3=>aV n x3)) λnZ=>
 []\λpO=>
 am (am (bd nZ) aB) λl26=>am (cz l26 pO λsZ s7=>(
 am (Ob (am (am (bd sZ) (gz .str)) ju)) λb=>am (if b=true then (
 am (am (w2 addW (cB (am (bd sZ) aB) (bd (.int 0))) (c1 cJ (bd qE))) λuP=>am (w2 addW (cB (am (bd sZ) aB) (bd (.int 1))) (c1 cJ (bd qE))) λsh=>bd (.tup [uP,sh])) λK5=>
 bd K5) else (
 bd sZ)) λĆ=>
 Ć\λRV=>am (fY s7 RV) λsG=>
 bd sG)) λs7=>
 (am (am (am (bd qE) tB) λl18=>s7\λXM=>nt l18 XM) λl23=>am (am (am (b2 xH (c1 cJ (bd qE)) (bd (.int 1))) λN2=>am (b2 xH (w2 addW (c1 cJ (bd qE)) (c1 cJ (bd nZ))) (bd (.int 1))) λRU=>bd (.tup [N2,RU])) λHQ=>bd [HQ]) λl24=>nt l23 l24))
def dq (bZ:PV):W PV:=
 am (bZ\λx2=>aV 12 x2) λbD=>
 am (am ((.int 0)\λx4=>bd [x4]) λl5=>am (c1 cJ (bd (.cl bD))) λx6=>Sm l5 x6) λyN=>
 (.int 0)\λJS=>
 am (am (am (am (bd (.cl bD)) aB) λl9=>.fB (l9.length<=sizeLine) (.ret (dW 0 l9))) λl10=>mJ l10 λĈ=>am (vH Ĉ) λă=>PF (Ob (am (am (bd ă.2) (gz .str)) ju)) (bd ă.1)) λlK=>
 am (am (am (bd lK) Gz) fH) λl32=>am (cz l32 (yN,JS,lK) λKl FZ=>(
 []\λyK=>
 am (cz FZ.2.2 yK λLQ U9=>(
 dR (L7 (Qf true (cB (am (cB (am (bd (.cl bD)) aB) (bd LQ)) aB) (bd (.int 0))) (bd FZ.2.2)) (Qf true (cB (am (cB (am (bd (.cl bD)) aB) (bd LQ)) aB) (bd (.int 1))) (bd FZ.2.2))) (
 LQ\λRU=>am (fY U9 RU) λLv=>
 bd Lv) (
 bd U9))) λU9=>
 am ((.cl U9)\λLZ=>bV LZ) λRm=>
 am (w2 addW (w2 addW (bd FZ.2.1) (bd (.int 1))) ((.int 12)\λLY=>bx LY)) λzl=>
 zl\λZJ=>Rm\λV9=>am (kI FZ.1 V9 ZJ) λG3=>
 Rm\λZI=>am (WH FZ.2.2 ZI) λsk=>
 bd (G3,zl,sk))) λFZ=>
 (am (bd FZ.1) mm)
def eX (bZ:PV):W PV:=
 dR (t2 fg ((.int 2)\λx1=>bx x1) (bd (.int 0))) (
 (bZ\λx2=>kY x2)) (
 (bZ\λx3=>am (bZ\λx4=>dq x4) λx5=>lU x3 x5))
def bS:W PV:=
 []\λjO=>
 am (am (bd (.int 4)) fH) λl25=>am (cz l25 jO λk_4 s3=>(
 am ((.int 0)\λx6=>(.int 1)\λx7=>(.int 2)\λx8=>(.int 3)\λx9=>(.int 10)\λkG=>am ((.int 10)\λnF=>bx nF) λpF=>am ((.int 1001)\λsi=>bx si) λuP=>bd [x6,x7,x8,x9,kG,pF,uP]) λOv=>
 am (am (am (bd (.cl Ov)) tB) λXM=>am ((.int 1000)\λzX=>am (w2 addW (b2 Pm (bd (.int 10)) (bd (.int 28))) ((.int 1000)\λRV=>bx RV)) λHS=>bd [zX,HS]) λl20=>nt XM l20) λKD=>
 am ((.cl KD)\λHQ=>bV HQ) λLZ=>am (fY s3 LZ) λlq=>
 bd lq)) λs3=>
 (am (bd s3) mm)
def dm (aL:PV) (gk:PV) (cn:PV) (Ø:PV):W (List PV):=
 am (cB (am (bd aL) aB) (bd Ø)) λx1=>am (ZN x1) λt3=>
 dR (am (am (cB (am (bd gk) aB) (bd cn)) (gz .str)) ju) (
 (dR (L7 (t2 fg (bd t3.2.2.1) (bd (.tup []))) (t2 fg (bd t3.1) (cB (am (bd gk) aB) (bd cn)))) (am (.aG\λx4=>am (oO (bd [])) λx5=>bd (.tup [x4,x5])) λx6=>bd [x6]) (bd []))) (
 am (cB (am (bd gk) aB) (bd cn)) λx7=>am (vH x7) λt8=>
 am (am ((.int 1)\λkG=>am (oO (am (t8.1\λnF=>Ø\λpF=>bd (.tup [nF,pF])) λsi=>am (t8.2\λuP=>Ø\λsh=>bd (.tup [uP,sh])) λzX=>bd [si,zX])) λRV=>bd (.tup [kG,RV])) λHS=>bd [HS]) λyM=>
 am (am (bd t3.2.2.2) aB) λl83=>am (cz l83 yM λOa U8=>(
 am ((.int 2)\λHQ=>am (oO (am (t8.1\λLZ=>Ø\λNZ=>bd (.tup [LZ,NZ])) λLY=>am (t8.2\λRT=>Oa\λZJ=>bd (.tup [RT,ZJ])) λV9=>bd [LY,V9])) λV8=>bd (.tup [HQ,V8])) λZI=>am (fY U8 ZI) λlq=>
 am ((.int 2)\λV7=>am (oO (am (t8.1\λV6=>Oa\λx34=>bd (.tup [V6,x34])) λx35=>am (t8.2\λx36=>Ø\λZH=>bd (.tup [x36,ZH])) λx38=>bd [x35,x38])) λx39=>bd (.tup [V7,x39])) λx40=>am (fY lq x40) λG1=>
 bd G1)) λU8=>
 am (t2 fg (c1 cJ (bd t3.2.2.1)) (bd (.int 2))) λb=>am (if b=true then (
 am ((.int 0)\λx63=>am (oO (am (t8.1\λx64=>am (cB (am (bd t3.2.2.1) aB) (bd (.int 0))) λx65=>bd (.tup [x64,x65])) λx66=>am (t8.2\λx67=>am (cB (am (bd t3.2.2.1) aB) (bd (.int 1))) λx68=>bd (.tup [x67,x68])) λx69=>bd [x66,x69])) λx70=>bd (.tup [x63,x70])) λx71=>am (fY U8 x71) λG0=>
 am ((.int 0)\λx73=>am (oO (am (t8.1\λx74=>am (cB (am (bd t3.2.2.1) aB) (bd (.int 1))) λx75=>bd (.tup [x74,x75])) λx76=>am (t8.2\λx77=>am (cB (am (bd t3.2.2.1) aB) (bd (.int 0))) λx78=>bd (.tup [x77,x78])) λx79=>bd [x76,x79])) λx80=>bd (.tup [x73,x80])) λx81=>am (fY G0 x81) λGZ=>
 bd GZ) else (
 bd U8)) λĄ=>
 bd Ą)
def eW (aL:PV) (cn:PV) (Ø:PV):W (List PV):=
 am (cB (am (cB (am (bd aL) aB) (bd Ø)) aB) (bd (.int 2))) λgp=>
 am (dR (t2 fg (c1 cJ (bd gp)) (bd (.int 2))) (bd (.int 3)) (bd .aG)) λKQ=>
 (am (am (bd gp) aB) λl3=>bC l3 λp4=>(KQ\λx5=>am (oO (am (cn\λx6=>p4\λx7=>bd (.tup [x6,x7])) λx8=>bd [x8])) λx9=>bd (.tup [x5,x9])))
def eV (bU:PV) (cA:PV) (n6:PV):W PV:=
 am (dR (t2 qV (cB (am (bd n6) aB) (bd (.int 0))) (bd .aG)) (bd (.int 0)) (cB (am (bd bU) aB) (cB (am (bd n6) aB) (bd (.int 0))))) λnI=>
 am (am (cB (am (bd n6) aB) (bd (.int 1))) aB) λl7=>am (mq l7 nI λmd s2=>(
 dR (t2 qV (RM (bd cA) (bd md)) (bd .aG)) (
 .aG\λx4=>bd (Lp.out x4)) (
 am (w2 addW (bd s2) (RM (bd cA) (bd md))) λrD=>
 bd (.go rD)))) (Na (λs2=>
 (bd s2)) id)
def dz (aL:PV) (gk:PV) (bU:PV):W PV:=
 am (am (c1 cJ (bd gk)) fH) λl37=>am (cz l37 [] λgP s3=>(
 am (am (c1 cJ (bd aL)) fH) λl35=>am (cz l35 s3 λUH s6=>(
 am (aL\λx9=>gk\λkG=>gP\λnF=>UH\λpF=>dm x9 kG nF pF) λOu=>
 am (am (am (bd (.cl Ou)) tB) λTv=>am (aL\λuP=>gP\λsh=>UH\λzX=>eW uP sh zX) λl18=>nt Tv l18) λKH=>
 am (am (am (am (bd (.cl KH)) aB) λl20=>bC l20 λè=>(bU\λHQ=>(zj s6)\λLZ=>è\λNZ=>eV HQ LZ NZ)) vL) λHk=>
 am (am (am (bd (.cl Hk)) aB) λl26=>mJ l26 λć=>PF (t2 vS (bd ć) (bd .aG)) (bd ć)) λuB=>
 am (dR (am (am (bd (.cl uB)) tB) λl29=>bd (!l29.isEmpty)) (am (am (bd (.cl uB)) tB) Gr) (bd .aG)) λV7=>am (gP\λZI=>UH\λx31=>bd (.tup [ZI,x31])) λV6=>am (OY s6 V6 V7) λmL=>
 bd mL)) λs6=>
 bd s6)) λs3=>
 (bd (zj s3))
def eA (aL:PV) (gk:PV) (cA:PV):W PV:=
 []\λjO=>
 am (am (c1 cJ (bd gk)) fH) λl13=>am (cz l13 jO λgP s3=>(
 am (am (am (am (c1 cJ (bd aL)) fH) λl7=>bC l7 λp8=>(RM (bd cA) (gP\λx9=>p8\λkG=>bd (.tup [x9,kG])))) mm) λnF=>am (fY s3 nF) λLw=>
 bd Lw)) λs3=>
 (am (bd s3) mm)
def fR (qJ:PV) (qC:PV):W PV:=
 am (qJ\λx1=>dj x1) λx2=>am (vH x2) λt3=>
 am (t3.1\λx5=>eX x5) λnK=>
 am (t3.2\λx7=>qC\λx8=>di x7 x8) λjz=>
 (nK\λx9=>jz\λkG=>am (oO (jz\λnF=>aV 12 nF)) λpF=>am (bS) λsi=>bd (.tup [x9,kG,pF,si]))
def dw (aA:PV) (cG:PV):W PV:=
 (NJ (cG\λx4=>am (c1 cJ (bd aA)) λx5=>je x4 x5) (am (am (am (bd cG) aB) λl1=>bC l1 λp2=>(orB (b2 qV (bd p2) (bd .aG)) (p2\λx3=>gU x3))) J3))
def jd (aA:PV) (iJ:PV) (cG:PV):W PV:=
 (NJ (cG\λx5=>am (c1 cJ (iJ\λx6=>gw x6)) λx7=>je x5 x7) (am (am (am (bd cG) aB) λl1=>bC l1 λp2=>(aA\λx3=>p2\λx4=>dw x3 x4)) J3))
def cR (aA:PV) (iJ:PV) (aY:PV) (cG:PV):W PV:=
 (NJ (aA\λx4=>iJ\λx5=>cG\λx6=>jd x4 x5 x6) (b2 fg (bd cG) (aA\λx1=>iJ\λx2=>aY\λx3=>oo x1 x2 x3)))
def cM (bf:PV):W PV:=
 am (am (c1 cJ (bd bf)) λx2=>bx x2) λrz=>
 am (cB (am (bd bf) aB) (bd rz)) λsP=>
 am (am (c1 cJ (bd sP)) λx5=>bx x5) λL6=>
 am (dR (t2 qV (cB (am (bd sP) aB) (bd L6)) (bd .aG)) (bd (.int 0)) (cB (am (bd sP) aB) (bd L6))) λsW=>
 am ((.int 8)\λx8=>bx x8) λzY=>
 dR (t2 oLt (bd zY) (bd (.int 5))) (
 am (cB (am (w2 addW (bd sW) (bd (.int 1))) λkG=>am (b2 xH (bd sW) (bd (.int 1))) λnF=>.aG\λpF=>(.int 0)\λsi=>am (cB (am (cB (am (bd bf) aB) (bd (.int 0))) aB) (bd L6)) λuP=>bd [kG,nF,pF,si,uP]) (bd zY)) λK0=>
 am (w2 addW (w2 addW (sP\λHS=>bm\λi16=>am (am (bd L6) part) λj17=>pM HS i16 j17) (K0\λL0=>bd (.tup [L0]))) (sP\λHQ=>am (am (w2 addW (bd L6) (bd (.int 1))) part) λi20=>bm\λj21=>pM HQ i20 j21)) λOH=>
 (w2 addW (w2 addW (bf\λLY=>bm\λi23=>am (am (bd rz) part) λj24=>pM LY i23 j24) (OH\λRT=>bd (.tup [RT]))) (bf\λV8=>am (am (w2 addW (bd rz) (bd (.int 1))) part) λi27=>bm\λj28=>pM V8 i27 j28))) (
 dR (t2 fg (bd zY) (bd (.int 5))) (
 (w2 addW (w2 addW (bf\λV7=>bm\λi30=>am (am (bd rz) part) λj31=>pM V7 i30 j31) (am (sP\λV6=>bm\λi34=>bm\λj35=>am (am (am (bd (.int 1)) Mu) part) λk36=>KI V6 i34 j35 k36) λZH=>bd (.tup [ZH]))) (bf\λx40=>am (am (w2 addW (bd rz) (bd (.int 1))) part) λi38=>bm\λj39=>pM x40 i38 j39))) (
 dR (t2 fg (bd zY) (bd (.int 6))) (
 (w2 addW (bf\λx43=>bm\λi41=>am (am (bd rz) part) λj42=>pM x43 i41 j42) (bf\λx46=>am (am (w2 addW (bd rz) (bd (.int 1))) part) λi44=>bm\λj45=>pM x46 i44 j45))) (
 (w2 addW (w2 addW (bf\λx49=>bm\λi47=>am (am (bd rz) part) λj48=>pM x49 i47 j48) (bf\λx52=>am (am (bd rz) part) λi50=>am (am (w2 addW (bd rz) (bd (.int 1))) part) λj51=>pM x52 i50 j51)) (bf\λx55=>am (am (bd rz) part) λi53=>bm\λj54=>pM x55 i53 j54)))))
def oq (eJ:PV):W PV:=
 am (am ((.int 1)\λx3=>am ((.int 4)\λx1=>am (c1 cJ (bd eJ)) λx2=>n8 NG [x1,x2]) λx4=>n8 NH [x3,x4]) fH) λl65=>am (mq l65 () λð s6=>(
 am (eJ\λx9=>ð\λkG=>fP x9 kG) λqI=>aaz gN qI (
 am (am (cB ((.int 5)\λnF=>(.int 8)\λpF=>bd [nF,pF]) ((.int 2)\λsi=>bx si)) λuP=>(.int 6)\λsh=>fR uP sh) λzX=>am (ZN zX) λmx=>
 am (mx.1\λL0=>mx.2.2.1\λN2=>am (mx.1\λRU=>mx.2.2.1\λHQ=>mx.2.2.2\λLZ=>dz RU HQ LZ) λNZ=>eA L0 N2 NZ) λjR=>
 dR (t2 rL (mx.1\λLY=>mx.2.1\λRT=>mx.2.2.2\λZJ=>jR\λV9=>cR LY RT ZJ V9) (bd (.bl true))) (
 (.bl false)\λV8=>bd (Lp.out V8)) (
 am (am (mx.1\λx31=>mx.2.2.1\λV7=>am (mx.1\λV6=>mx.2.2.1\λx34=>am (bS) λx35=>dz V6 x34 x35) λx36=>eA x31 V7 x36) λZH=>bd [ZH]) λpJ=>
 jR\λsF=>
 am (am (bd (.int 6)) fH) λl63=>am (cz l63 (pJ,sF) λKk OC=>(
 am (am (cB (jR\λx43=>OC.2\λx44=>bd [x43,x44]) ((.int 2)\λx45=>bx x45)) λx46=>cM x46) λsE=>
 am (t2 fg (bd sE) (bd (.tup []))) λb=>am (if b=true then (
 jR\λFK=>
 bd FK) else (
 bd sE)) λã=>
 ã\λx51=>am (fY OC.1 x51) λvK=>
 bd (vK,ã))) λOC=>
 am (am (bd (.cl OC.1)) aB) λl61=>am (mq l61 () λsD ą=>(
 am (mx.1\λx55=>mx.2.1\λx56=>mx.2.2.2\λx57=>sD\λx58=>cR x55 x56 x57 x58) λud=>
 dR (tor (Ob (am (am (bd ud) (gz .bool)) ju)) (t2 Iy (bd ud) (b2 fg (bd sD) (bd jR)))) (
 (.bl false)\λx59=>bd (Lp.out x59)) (
 bd (.go ())))) (Na (λą=>
 bd (.go ())) Lp.out))))) (Na (λs6=>
 (bd (.bl true))) id)
end My
variable {x:PL.PV}{Q:List PL.PV->Prop}{t:My.Tr}
namespace My
open PySem PySem.Spec PyProof.Rows L2 PL FL
def Tr.pv:Tr->PV
 | .leaf x=>.str x
 | .node l r=>.tup [l.pv,r.pv]
def Ent.pv:Ent->PV
 | .word x=>.str x
 | .pair a b=>.tup [.int (a:Int),.int (b:Int)]
def Sd {l:List α} (h:l≠[]):∃a x,l=a++[x]:=⟨l.dropLast,l.getLast h,(List.dropLast_concat_getLast h).symm⟩
def Ox {a b:List Tr} (h:i8 a++b=t.post):fc a+b.length=t.size:=by
 have h1:=congrArg BP h;rw [Ah,t.kS] at h1;have h2:∀l:List Tr,(i8 l).length=fc l:=by
  intro l
  induction l with
  | nil=>rfl
  | cons x l ih=>
   have e1:i8 (x::l)=x.post++i8 l:=rfl;have e2:fc (x::l)=x.size+fc l:=rfl;rw [e1,e2,Ah,ih,x.kS]
 rw [h2] at h1;exact h1
theorem dr (h:l.length < 1000):fY l x=.ret (l++[x]):=mo (by have:=bF (n:=1000) (An _);omega)
theorem Pg (t:Tr) (hz:t.size<=900):(jI t.pv).le (.ret (t.post.map Tr.pv)):=λQ q=>by
 refine HV (λn s=>∃ts bs:List Tr,n=fc ts/\s=(bs.map Tr.pv,ts.map Tr.pv)/\i8 ts++bs.reverse=t.post) ⟨[t],[],rfl,rfl,by rw [pT];simp⟩ ?_;rintro n s ⟨ts,bs,rfl,rfl,hp⟩;have hs:=Ox hp;rw [BL] at hs;by_cases he:ts=[]
 ·subst he;have Ĳ:bs.reverse=t.post:=hp;simp;rw [<- List.map_reverse,Ĳ];exact q
 ·obtain⟨us,u,rfl⟩:=Sd he;have RI:=vY us;rw [gr,pN] at hs;simp;rw [dr (by rw [Af];omega)];cases u with
  | leaf x=>
   simp [Tr.pv];refine⟨_,?_,us,rfl,bs++[.leaf x],⟨by simp [Tr.pv],rfl⟩,?_⟩
   ·rw [gr,pN];show fc us < fc us+1;omega
   ·rw [jD,pT] at hp;rw [Fh,<- hp];simp [Tr.post]
  | node c d=>
   have e1:Yp (us.map Tr.pv) [c.pv,d.pv]=.ret (us.map Tr.pv++[c.pv,d.pv]):=mo (bF (by
    have:(Tr.node c d).size=c.size+d.size+1:=rfl;simp;omega))
   simp [Tr.pv,e1];refine⟨_,?_,us++[c,d],rfl,bs++[.node c d],⟨by simp [Tr.pv],by simp⟩,?_⟩
   ·have e2:fc [Tr.node c d]=c.size+d.size+1:=by rw [pN];rfl
    have e3:fc [c,d]=c.size+d.size:=by simp [fc]
    rw [gr,gr,e2,e3];omega
   ·rw [jD,pT] at hp;rw [Fh,<- hp,jD,Mo];simp [Tr.post]
def aP (l:List Nat):List PV:=l.map λ(n:Nat)=>.int (n:Int)
@[simp] theorem dN (l:List Nat):(aP l).length=l.length:=Af _
@[simp] theorem aaV (a b:List Nat):aP (a++b)=aP a++aP b:=Aw
@[simp] theorem lS (a:Nat) (l:List Nat):aP (a::l)=.int (a:Int)::aP l:=rfl
@[simp] theorem oj:aP []=[]:=rfl
def lW (n:Nat):jk 0 n=aP (AJ n):=by
 refine Cm λi _=>?_;rw [EE]
theorem PC {p:Nat->Bool}:∀{l:List Nat},(∀k∈l,f (.int ((k:Nat):Int))=.ret (if p k=true then ap (.int ((k:Nat):Int)) else bm))->mJ (aP l) f=.ret (aP (l.filter p))
 | [],_=>rfl
 | k::l,h=>by
  show am (f _) (λo=>am (mJ (aP l) f) λm=>bd (o.toList++m))=_;rw [h k (.head _),PC λy hy=>h y (.tail _ hy),Dm];cases p k <;> rfl
theorem jH {f:PV->W PV}{g:Nat->PV}:∀{l:List Nat},(∀k∈l,f (.int ((k:Nat):Int))=.ret (g k))->bC (aP l) f=.ret (l.map g)
 | [],_=>rfl
 | k::l,h=>by
  show am (f _) (λy=>am (bC (aP l) f) λm=>bd (y::m))=_;rw [h k (.head _),jH λy hy=>h y (.tail _ hy)];rfl
def aa1 (g:PV->Option PV) (h:∀x∈l,f x=.ret (g x)) (q:Q (l.filterMap g)):(mJ l f).run Q:=by rw [xS h];exact q
def Pw {f:PV->W PV} (g:PV->PV) (h:∀x∈l,f x=.ret (g x)) (q:Q (l.map g)):(bC l f).run Q:=by rw [Ld h];exact q
def PB {l:List Nat} (p:Nat->Bool) (h:∀k∈l,f (.int ((k:Nat):Int))=.ret (if p k=true then ap (.int ((k:Nat):Int)) else bm)) (q:Q (aP (l.filter p))):(mJ (aP l) f).run Q:=by rw [PC h];exact q
def MC {l:List Nat}{f:PV->W PV} (g:Nat->PV) (h:∀k∈l,f (.int ((k:Nat):Int))=.ret (g k)) (q:Q (l.map g)):(bC (aP l) f).run Q:=by rw [jH h];exact q
theorem kT (t:Tr) (hz:t.size<=900):(gw t.pv).le (.ret (.tup ((t.nd 0).map Ent.pv))):=λQ q=>by
 unfold gw;simp only [ga,ci];refine W.le.use (Pg t hz) ?_;refine ue (λr s=>∃(k:List Tr) (Á:List Ent) (ls:List Nat),r=k.map Tr.pv/\s=(Á.map Ent.pv,aP ls.reverse)/\run k Á ls=ap (t.nd 0,[t.size-1])/\Á.length+k.length<=900/\ls.length<=Á.length) ⟨t.post,[],[],rfl,rfl,Ml t,by simp [t.kS];omega,An _⟩ ?_ ?_
 ·rintro x r s ⟨k,Á,ls,e,rfl,h,hl,ô⟩;cases k with
  | nil=>cases e
  | cons p k=>
   injection e with e1 e2;subst e1;subst e2;rw [Aq] at hl;cases p with
   | leaf x=>
    have a1:∀y,fY (aP ls.reverse) y=.ret (aP ls.reverse++[y]):=λy=>dr (by simp;omega);simp [Tr.pv,dr (l:=Á.map Ent.pv) (by simp;omega),a1];refine⟨k,rfl,Á++[Ent.word x],Á.length::ls,⟨by simp [Ent.pv],by simp⟩,h,by simp;omega,by simp;omega⟩
   | node c d=>
    match ls,h,ô with
    | b::a::ls,h,ô=>
     rw [Aq,Aq] at ô;have a0:aP (b::a::ls).reverse=(aP ls.reverse++[.int (a:Int)])++[.int (b:Int)]:=by simp
     have a1:∀y,fY (aP ls.reverse) y=.ret (aP ls.reverse++[y]):=λy=>dr (by simp;omega);rw [a0];simp only [Tr.pv,ga,jQ,ma,e6,Au,if_false,Yr];simp [dr (l:=Á.map Ent.pv) (by simp;omega),a1];refine⟨k,rfl,Á++[Ent.pair a b],Á.length::ls,⟨by simp [Ent.pv],by simp⟩,h,by simp;omega,by simp;omega⟩
 ·rintro s ⟨k,Á,ls,e,rfl,h,hl,ô⟩;cases k with
  | nil=>
   cases h;simpa using q
  | cons p k=>cases e
end My
variable {a b:Int}
namespace My
open PySem PySem.Spec PyProof.Rows L2 PL FL
theorem mulL (h:-1000000000<=a/\a<=1000000000):wP a b:=Vj ∅ ∅
theorem mulR (h:-1000000000<=b/\b<=1000000000):wP a b:=mul_r ∅ ∅
theorem YS (i:Int):0<=(if i < 0 then -i else i):=by split <;> omega
theorem bg (h:-1000<=i/\i<=1000/\-1000<=j/\j<=1000) (h2:j-i<=1000):okN i j:=⟨by omega,by omega,by omega,by omega,bF ∅⟩
structure xb (t:Tr):Prop where
 ws:t.Ws
 nd:t.ay.Nodup
 few:t.ay.length<=8
 sg:∃b,b<=1/\(t.ay.map λx=>x.cps[b]?).Nodup
end My
variable {a b i j:Nat}{ds:List Int}{d:Int}{left:List Nat}
namespace My
open PySem PySem.Spec PyProof.Rows L2 PL FL
def vj:Ent->Bool
 | .word _=>false
 | .pair _ _=>true
structure Dt (t:Tr) (ds:List Int) (left:List Nat) (d:Int):Prop where
 len:ds.length=t.size
 zero:∀j,j < t.size->(vj (en t 0 j)=false\/j∈left)->ds.getD j 0=0
 up:∀j,j < t.size->j∉left->∀a b,en t 0 j=.pair a b->a∉left/\b∉left/\ds.getD a 0 < ds.getD j 0/\ds.getD b 0 < ds.getD j 0/\1<=ds.getD j 0/\ds.getD j 0<=d
 inj:∀i j,i < t.size->j < t.size->i∉left->j∉left->vj (en t 0 i)=true->vj (en t 0 j)=true->ds.getD i 0=ds.getD j 0->i=j
 pos:0<=d
 Y9:∀j∈left,j < t.size/\vj (en t 0 j)=true
 ris:left.Pairwise (· < ·)
def iM {l:List Int}{v:Int} (h:i < l.length):(l.set i v).getD i 0=v:=by rw [Al,Cv h];rfl
def bH {l:List Int}{v:Int} (h:i≠j):(l.set i v).getD j 0=l.getD j 0:=by rw [Al,BZ h,<- Al]
def u5 {l:List Nat} (h:l.Pairwise (· < ·)) {x y:Nat}:y∈l.erase x↔y∈l/\y≠x:=by
 have nd:l.Nodup:=h.imp (λz=>AA z);rw [nd.mem_erase_iff];exact⟨λz=>⟨z.2,z.1⟩,λz=>⟨z.2,z.1⟩⟩
theorem jl (t:Tr) (h:j < t.size) (e:en t 0 j=.pair a b):a < j/\b < j:=by
 rcases Rk t 0 j h with⟨x,e1,_⟩ | ⟨a',b',e1,e2,e3,_⟩
 ·rw [e1] at e;cases e
 ·rw [e1] at e;injection e with h1 h2;omega
theorem Dt.next {x:Int} (D:Dt t ds left d) (hj:j∈left) (e:en t 0 j=.pair a b) (ha:a∉left) (hb:b∉left) (hx:0<=x):Dt t (ds.set j (d+1+x)) (left.erase j) (d+1+x):=by
 obtain⟨hjs,hjp⟩:=D.Y9 j hj;obtain⟨haj,hbj⟩:=jl t hjs e;have Zf:j < ds.length:=by rw [D.len];exact hjs
 have hm:∀y,y∈left.erase j↔y∈left/\y≠j:=λy=>u5 D.ris;have Õ:∀y,y < t.size->y∉left->ds.getD y 0<=d:=λy hy č=>by
  cases ey:en t 0 y with
  | word w=>rw [D.zero y hy (.inl (by rw [ey];rfl))];exact D.pos
  | pair p q=>exact (D.up y hy č p q ey).2.2.2.2.2
 refine⟨by rw [BO];exact D.len,λy hy hc=>?_,λy hy č p q ey=>?_,λu v hu hv hul hvl pu pv Vz=>?_,by have:=D.pos;omega,λy hy=>D.Y9 y ((hm y).mp hy).1,List.Pairwise.sublist List.erase_sublist D.ris⟩
 ·have ñ:j≠y:=λz=>by
   subst z;rcases hc with hc | hc
   ·rw [hjp] at hc;cases hc
   ·exact ((hm j).mp hc).2 rfl
  rw [bH ñ];exact D.zero y hy (hc.imp id λz=>((hm y).mp z).1)
 ·by_cases ñ:j=y
  ·subst ñ;rw [e] at ey;injection ey with h1 h2;subst h1 h2;have la:=Õ a ∅ ha;have lb:=Õ b ∅ hb;rw [iM Zf,bH ∅,bH ∅];have:=D.pos;exact⟨λz=>ha ((hm a).mp z).1,λz=>hb ((hm b).mp z).1,by omega,by omega,by omega,by omega⟩
  ·have afc:y∉left:=λz=>č ((hm y).mpr ⟨z,BB ñ⟩);obtain⟨p1,p2,p3,p4,p5,p6⟩:=D.up y hy afc p q ey;have np:j≠p:=λz=>p1 (z▸hj);have nq:j≠q:=λz=>p2 (z▸hj);rw [bH ñ,bH np,bH nq];exact⟨λz=>p1 ((hm p).mp z).1,λz=>p2 ((hm q).mp z).1,p3,p4,p5,by omega⟩
 ·by_cases c1:j=u
  ·by_cases c2:j=v
   ·exact c1.symm.trans c2
   ·exfalso;subst c1;have X5:v∉left:=λz=>hvl ((hm v).mpr ⟨z,BB c2⟩);rw [iM Zf,bH c2] at Vz;have:=Õ v hv X5;omega
  ·have abn:u∉left:=λz=>hul ((hm u).mpr ⟨z,BB c1⟩);by_cases c2:j=v
   ·exfalso;subst c2;rw [iM Zf,bH c1] at Vz;have:=Õ u hu abn;omega
   ·have X5:v∉left:=λz=>hvl ((hm v).mpr ⟨z,BB c2⟩);rw [bH c1,bH c2] at Vz;exact D.inj u v hu hv abn X5 pu pv Vz
def splits (t:Tr):List Nat:=(AJ t.size).filter λj=>vj (en t 0 j)
def Dt.first (t:Tr):Dt t (Am t.size 0) (splits t) 0:=by
 have z:∀j,(Am t.size (0:Int)).getD j 0=0:=λj=>by
  rw [Al,Bq]
  split <;> rfl
 have mem:∀j,j∈splits t↔j < t.size/\vj (en t 0 j)=true:=λj=>by unfold splits;rw [Bc,A6]
 refine⟨Bo,λj _ _=>z j,λj hj hn a b e=>absurd ((mem j).mpr ⟨hj,by rw [e];rfl⟩) hn,λi j hi hj hni _ pi _ _=>absurd ((mem i).mpr ⟨hi,pi⟩) hni,Dy _,λj hj=>(mem j).mp hj,?_⟩;exact List.Pairwise.filter _ C9
theorem LB (t:Tr):dW 0 ((t.nd 0).map Ent.pv)=(AJ t.size).map λj=>PV.tup [.int ((j:Nat):Int),(en t 0 j).pv]:=by
 have hl:(dW 0 ((t.nd 0).map Ent.pv)).length=t.size:=by rw [cx,Af,t.bc]
 apply B6;intro i;by_cases hi:i < t.size
 ·have h1:(dW 0 ((t.nd 0).map Ent.pv))[i]?=ap ((dW 0 ((t.nd 0).map Ent.pv))[i]'∅):=Ad _;obtain⟨y,hy,e⟩:=gI h1;rw [Aj,iz t 0 i hi] at hy;have X4:=Option.some.inj hy;rw [h1,e,<- X4,Aj,BM hi,AI];rfl
 ·rw [AV ∅,AV (by rw [Af,CI];omega)]
def Tj:PV->Option PV
 | .tup [_,.str _]=>bm
 | .tup [k,_]=>ap k
 | _=>bm
def XD (t:Tr):(dW 0 ((t.nd 0).map Ent.pv)).filterMap Tj=aP (splits t):=by
 rw [LB];unfold splits;generalize AJ t.size=l
 induction l with
 | nil=>rfl
 | cons j l ih=>
  rw [Ao,A9,Dm];cases e:en t 0 j with
  | word w=>exact ih
  | pair a b=>
   rw [ih];rfl
def vU (l:List Nat):aP l=(l.map λn=>((n:Nat):Int)).map PV.int:=by unfold aP;rw [AB];rfl
theorem uh (y:Nat):∀l:List Nat,(l.map λn=>((n:Nat):Int)).erase (y:Int)=(l.erase y).map λn=>((n:Nat):Int)
 | []=>rfl
 | a::l=>by
  rw [Ao,List.erase_cons,List.erase_cons,uh y l];by_cases c:a=y
  ·subst c;simp
  ·have c1:(((a:Nat):Int)==(y:Int))=false:=by simp;omega
   have c2:(a==y)=false:=by simpa using c
   rw [c1,c2];simp
theorem KN:∀(l:List Nat) (k n:Nat),l.Pairwise (· < ·)->(∀x∈l,k<=x/\x < n)->l.length<=n-k
 | [],_,_,_,_=>Bd _
 | a::l,k,n,h,hb=>by
  have h1:=(D4.mp h);have h2:=hb a Bt;have ih:=KN l (a+1) n h1.2 λx hx=>⟨h1.1 x hx,(hb x (AZ _ hx)).2⟩;rw [Aq];omega
def Ww (s:Nat):Ent->Ent
 | .word x=>.word x
 | .pair p q=>.pair (p+s) (q+s)
theorem IB:∀(t:Tr) (o s:Nat),t.nd (o+s)=(t.nd o).map (Ww s)
 | .leaf _,_,_=>rfl
 | .node a b,o,s=>by
  have ha:=a.size_pos;rw [Tr.nd,Tr.nd,IB a o s,show o+s+a.size=o+a.size+s by omega,IB b (o+a.size) s,Aw,Aw];congr 2;congr 1 <;> omega
def ib {m:List PV} (h:l.length+m.length<=1000):nt l m=.ret (l++m):=mo (bF h)
theorem pick_run (h0:l≠[]) (h1:l.length<=1000) {Q:PV->Prop} (q:∀x∈l,Q x):(bV (.cl l)).run Q:=by
 unfold bV;have hp:0 < l.length:=B8.mpr h0;simp only [ga,ci,bO,fw,b9 (l.length:Int) ∅ ∅,gl];refine a8 λd d0 d1=>?_;obtain⟨v,hv,hv2⟩:=Rn (xs:=l) d0 d1;simp only [cf,hv,wv,gl];exact q v (A7 hv2)
theorem Qe (k:Nat) (l:List Nat) (b:Bool):rh b (.int (k:Int)) (aP l)=.ret (if b then !decide (k∈l) else decide (k∈l)):=by
 have h1:TZ (.int (k:Int)) (aP l):=⟨by simp,g9.mpr λx hx=>by
  obtain⟨n,_,rfl⟩:=Av.mp hx;simp,hE λx hx=>by
  obtain⟨n,_,rfl⟩:=Av.mp hx;simp⟩
 have h2:tW (.int (k:Int)) (aP l)=decide (k∈l):=by
  unfold tW aP;rw [List.any_map]
  induction l with
  | nil=>simp
  | cons a l ih=>
   have ih:=ih ⟨by simp,g9.mpr λx hx=>by
    obtain⟨n,_,rfl⟩:=Av.mp hx;simp,hE λx hx=>by
    obtain⟨n,_,rfl⟩:=Av.mp hx;simp⟩
   rw [Bz,ih];by_cases c:a=k
   ·subst c;simp
   ·have c1:(((a:Nat):Int)==(k:Int))=false:=by simp;omega
    have c2:¬k=a:=λz=>c z.symm;simp [c1,c2]
 unfold rh;rw [mo h1,h2]
def br (ds:List Int):List PV:=ds.map PV.int
@[simp] theorem fV (ds:List Int):(br ds).length=ds.length:=Af _
def Qd (ds:List Int) (y:Nat) (v:Int):(br ds).set y (.int v)=br (ds.set y v):=by unfold br;rw [EA]
def NR (t:Tr) (left:List Nat) (j:Nat):Bool:=match en t 0 j with
 | .pair a b=>!decide (a∈left)&&!decide (b∈left)
 | _=>false
theorem Ll (h:k < n):wq n (k:Int)=ap k:=by
 unfold wq;rw [if_pos ∅,if_pos ∅];simp
def nN (h:k < l.length):kI l (.int (k:Int)) v=.ret (l.set k v):=by
 unfold kI;simp [Ll h]
def Xu (t:Tr) (h:j < t.size):dC ((t.nd 0).map Ent.pv) (j:Int)=ap (en t 0 j).pv:=cK (by rw [Aj,iz t 0 j h];rfl)
theorem Dt.aak (D:Dt t ds left d) (he:left≠[]):aP (left.filter (NR t left))≠[]:=by
 obtain⟨l0,l1,rfl⟩:∃l0 l1,left=l0::l1:=by cases left with | nil=>exact absurd rfl he | cons a l=>exact⟨a,l,rfl⟩
 have hr2:NR t (l0::l1) l0=true:=by
  obtain⟨h1,h2⟩:=D.Y9 l0 (.head _);unfold NR;cases e:en t 0 l0 with
  | word w=>rw [e] at h2;cases h2
  | pair a b=>
   obtain⟨g1,g2⟩:=jl t h1 e;have Õ:∀y∈l0::l1,l0<=y:=λy hy=>by
    rcases Ax.mp hy with rfl | hy
    ·exact An _
    ·exact DN ((D4.mp D.ris).1 y hy)
   have na:a∉l0::l1:=λz=>by have:=Õ a z;omega
   have nb:b∉l0::l1:=λz=>by have:=Õ b z;omega
   show (!decide _&&!decide _)=true;rw [decide_eq_false na,decide_eq_false nb];rfl
 intro z;have:=congrArg BP z;rw [dN] at this;have m:=Bc.mpr ⟨show l0∈l0::l1 from .head _,hr2⟩;rw [List.length_eq_zero_iff.mp this] at m;cases m
theorem xb.size (g:xb t):t.size<=15:=by have:=t.size_eq;have:=g.few;omega
theorem xb.depth (g:xb t):t.depth < 8:=by have:=t.oW;have:=g.few;omega
def OE (l:List PV) (n:Int):je (.tup l) (.int n)=.ret (.bl ((l.length:Int)==n)):=by
 unfold je;simp only [ga,jQ,Ui,rV,d3,gj]
def okJ (t:Tr) (ds:List Int) (j:Nat):Bool:=match en t 0 j with
 | .word _=>ds.getD j 0==0
 | .pair a b=>decide (ds.getD a 0 < ds.getD j 0)&&decide (ds.getD b 0 < ds.getD j 0)&&decide (1<=ds.getD j 0)&&decide (ds.getD j 0<=99)
def Md (t:Tr) (ds:List Int):List Int:=(splits t).map (ds.getD · 0)
def TV (t:Tr) (ds:List Int):Bool:=decide (ds.length=t.size)&&(decide (Md t ds).Nodup&&(AJ t.size).all (okJ t ds))
def int_at (h:j < ds.length):dC (br ds) (j:Int)=ap (.int (ds.getD j 0)):=cK (by
 unfold br;rw [Aj,Ad h,Al,Ad h];rfl)
theorem V2 (t:Tr) (ds:List Int) (h:ds.length=t.size):pE ((t.nd 0).map Ent.pv) (br ds)=(AJ t.size).map λj=>PV.tup [(en t 0 j).pv,.int (ds.getD j 0)]:=by
 refine B6 λj=>?_;by_cases hj:j < t.size
 ·have hl:j < (pE ((t.nd 0).map Ent.pv) (br ds)).length:=by rw [nC];simp [t.bc,h];exact hj
  obtain⟨x,y,hx,hy,e⟩:=sf (Ad hl);rw [Aj,iz t 0 j hj] at hx;have wz:=Option.some.inj hx;have Zf:j < ds.length:=by omega
  unfold br at hy;rw [Aj,Ad Zf] at hy;have X4:=Option.some.inj hy;rw [Ad hl,e,<- wz,<- X4,Aj,BM hj];show _=ap (PV.tup [_,.int (ds.getD j 0)]);rw [Al,Ad Zf];rfl
 ·rw [AV (by rw [nC];simp [t.bc,h];omega),AV (by simp;omega)]
theorem split_le (t:Tr) (ds:List Int) (h:ds.length=t.size) (hz:t.size<=900):dP (.tup ((t.nd 0).map Ent.pv)) (.tup (br ds))=.ret (br (Md t ds)):=by
 unfold dP;have c:((t.nd 0).map Ent.pv).length<=sizeLine:=bF (by rw [Af,t.bc];omega);simp only [ga,aH,LX,mo c,V2 t ds h];rw [xS (g:=λx=>match x with | .tup [.str _,_]=>bm | .tup [_,y]=>ap y | _=>bm) λx hx=>?_]
 ·congr 1;unfold Md splits br;generalize AJ t.size=l
  induction l with
  | nil=>rfl
  | cons j l ih=>
   rw [Ao,A9,Dm,ih];cases e:en t 0 j with
   | word w=>rfl
   | pair a b=>rfl
 ·obtain⟨j,hj,rfl⟩:=Av.mp hx;cases en t 0 j with
  | word w=>simp [Ent.pv]
  | pair a b=>simp [Ent.pv]
end My
variable {e:My.Ent}{es:List My.Ent}{bs:List Int}
namespace My
open PySem PySem.Spec PyProof.Rows L2 PL FL
section
variable {α β:Type}
theorem Pu {c:α->PV}{f:PV->W PV}{g:α->PV}:∀{l:List α},(∀x∈l,(f (c x)).le (.ret (g x)))->(bC (l.map c) f).le (.ret (l.map g))
 | [],_=>W.le.refl _
 | x::r,h=>W.le.ret (h x (.head _)) (W.le.ret (Pu λy hy=>h y (.tail _ hy)) (W.le.refl _))
theorem Vk {c:α->PV}{g:α->Option PV}:∀{l:List α},(∀x∈l,(f (c x)).le (.ret (g x)))->(mJ (l.map c) f).le (.ret (l.filterMap g))
 | [],_=>W.le.refl _
 | x::r,h=>W.le.ret (h x (.head _)) (W.le.ret (Vk λy hy=>h y (.tail _ hy)) (W.le.of_eq (by rw [A9];cases g x <;> rfl)))
def gs {c:α->PV}{f:PV->W PV} (g:α->PV) {l:List α} (h:∀x∈l,(f (c x)).le (.ret (g x))) (q:Q (l.map g)):(bC (l.map c) f).run Q:=Pu h Q q
def XE {c:α->PV} (g:α->Option PV) {l:List α} (h:∀x∈l,(f (c x)).le (.ret (g x))) (q:Q (l.filterMap g)):(mJ (l.map c) f).run Q:=Vk h Q q
theorem VH {p:α->Bool}{g:α->β}:∀l:List α,l.filterMap (λx=>if p x=true then ap (g x) else bm)=(l.filter p).map g
 | []=>rfl
 | x::l=>by
  rw [A9,Dm,VH l];cases p x <;> rfl
end
def QT (c:α->PV) (l:List α) (k:Nat):dW k (l.map c)=(l.zipIdx k).map λp=>PV.tup [.int ((p.2:Nat):Int),c p.1]:=by
 induction l generalizing k with
 | nil=>rfl
 | cons a l ih=>rw [Ao,dW,ih,List.zipIdx_cons,Ao]
def vp:V->PV
 | .int i=>.int i
 | .str x=>.str x
 | .bl b=>.bl b
 | _=>.aG
def Zv (t:Tr):List PV:=(ah (t.nd 0) 0 (Am t.size V.aG)).map vp
@[simp] theorem LU (t:Tr):(Zv t).length=t.size:=by unfold Zv;rw [Af,J4,Bo]
def LV (t:Tr) (h:j < t.size):(Zv t)[j]?=ap (vp (kJ t 0 j .aG)):=by unfold Zv;rw [Aj,YQ t h];rfl
def du (t:Tr):((t.nd 0).map Ent.pv).length=t.size:=by rw [Af,t.bc]
theorem Hr (t:Tr) (hz:t.size<=900):(fi t.pv).le (.ret (.tup (Zv t))):=λQ q=>by
 unfold fi;have c:((t.nd 0).map Ent.pv).length<=sizeLine:=bF (by rw [du];omega);simp only [ga,ci];refine W.le.use (kT t hz) ?_;simp only [aH,gl];refine Pw (λ_=>.aG) (λx hx=>rfl) ?_;simp only [mo c,gl];have e0:((t.nd 0).map Ent.pv).map (λ_=>PV.aG)=(ah ((t.nd 0).take 0) 0 (Am t.size V.aG)).map vp:=by
  rw [List.take_zero,ah,List.map_replicate,List.map_const',du];rfl
 rw [e0];refine gC (λi s=>s=(ah ((t.nd 0).take i) 0 (Am t.size V.aG)).map vp) rfl (λi x s hx hs=>?_) (λs hs=>?_)
 ·subst hs;have hi:i < t.size:=by have:=(Ak.mp hx).1;rw [cx,du] at this;exact this
  obtain⟨y,hy,rfl⟩:=gI hx;have e:=iz t 0 i hi;rw [Aj,e] at hy;have hy:=Option.some.inj hy;subst hy;have et:(t.nd 0).take (i+1)=(t.nd 0).take i++[en t 0 i]:=by rw [CO,e];rfl
  have ea:ah ((t.nd 0).take (i+1)) 0 (Am t.size V.aG)=Rq (ah ((t.nd 0).take i) 0 (Am t.size V.aG)) (0+i) (en t 0 i):=by
   rw [et,zx,Cp,t.bc];congr 1;omega
  have hal:(ah ((t.nd 0).take i) 0 (Am t.size V.aG)).length=t.size:=by rw [J4,Bo]
  rw [ea];generalize hA:ah ((t.nd 0).take i) 0 (Am t.size V.aG)=A at hal ⊢;unfold cL;cases en':en t 0 i with
  | word w=>simp [Ent.pv,cz,Rq]
  | pair a b=>
   obtain⟨ha,hb⟩:=jl t hi en';have s1:kI (A.map vp) (.int (a:Int)) (.int ((0+i:Nat):Int))=.ret ((A.map vp).set a (.int ((0+i:Nat):Int))):=nN (by rw [Af];omega);have s2:kI ((A.map vp).set a (.int ((0+i:Nat):Int))) (.int (b:Int)) (.int ((0+i:Nat):Int))=.ret (((A.map vp).set a (.int ((0+i:Nat):Int))).set b (.int ((0+i:Nat):Int))):=nN (by rw [BO,Af];omega);simp only [Ent.pv,m4,gl,jQ,ma,e6,ci,Au,if_false,aH,cz,ga,s1,s2];show _=FJ vp ((A.set a _).set b _);rw [EA,EA];rfl
 ·subst hs;simp only [cx,Af];rw [CS];exact q
def K6 (e:Ent) (j:Nat):PV:=match e with | .word x=>.str x | .pair _ _=>.int (j:Int)
def HH (t:Tr) (ds:List Int) (b:Int) (j:Nat):Bool:=decide (ds.getD j 0<=b)&&(match kJ t 0 j .aG with | .int a=>decide (b < ds.getD a.toNat 0) | _=>true)
def FT (t:Tr) (ds:List Int) (b:Int) (n j:Nat):List (Nat×Nat):=((AJ j).filter (HH t ds b)).map λk=>(k,n)
def aJ (t:Tr) (ds bs:List Int):Nat->List (Nat×Nat)
 | 0=>[]
 | i+1=>aJ t ds bs i++FT t ds (bs.getD i 0) i t.size
def NS (l:List (Nat×Nat)):List PV:=l.map λp=>.tup [.int (p.1:Int),.int (p.2:Int)]
def xn (t:Tr) (ds:List Int) (b:Int) (n j:Nat):(FT t ds b n j).length<=j:=by
 unfold FT;rw [Af];refine Bu (Bx _ _) ?_;rw [CI];exact An _
theorem jy (t:Tr) (ds bs:List Int):∀i,(aJ t ds bs i).length<=i*t.size
 | 0=>Bd _
 | i+1=>by
  rw [aJ,Ah];have h1:=jy t ds bs i;have h2:=xn t ds (bs.getD i 0) i t.size;rw [Ez];omega
def Ol (t:Tr) (ds:List Int) (b:Int) (n j:Nat):FT t ds b n (j+1)=FT t ds b n j++(if HH t ds b j then [(j,n)] else []):=by
 unfold FT;rw [List.range_succ,D6,Aw];congr 1;by_cases c:HH t ds b j <;> simp [c]
def tP (p:Nat×Nat):List Key:=[.inl (p.1:Int),.inl (p.2:Int)]
theorem GD {p q:Nat×Nat} (h:tP p=tP q):p=q:=by
 obtain⟨a,b⟩:=p;obtain⟨c,d⟩:=q;simp [tP] at h;obtain⟨h1,h2⟩:=h;exact Prod.ext (by show a=c;omega) (by show b=d;omega)
def mW:Nat->List (Nat×Nat)->List (List Key×PV)
 | _,[]=>[]
 | k,p::l=>(tP p,.int (k:Int))::mW (k+1) l
theorem lR:∀(k:Nat) (l:List (Nat×Nat)),(mW k l).map (·.1)=l.map tP
 | _,[]=>rfl
 | k,p::l=>by rw [mW,Ao,Ao,lR (k+1) l]
def Gh (k:Nat) (l:List (Nat×Nat)):(mW k l).length=l.length:=by have:=congrArg BP (lR k l);simpa using this
theorem sX:∀(k:Nat) (l:List (Nat×Nat)) (p:Nat×Nat),p∈l->cU (mW k l) (tP p)=ap (.int ((k+l.idxOf p:Nat):Int))
 | k,q::l,p,h=>by
  rw [List.idxOf_cons];by_cases c:q=p
  ·subst c;simp [mW,cU]
  ·have hp:p∈l:=(Ax.mp h).elim (λz=>absurd z.symm c) id;have ih:=sX (k+1) l p hp;have c2:tP q≠tP p:=λz=>c (GD z);have c3:(q==p)=false:=by simpa using c
   have e:cU (mW k (q::l)) (tP p)=cU (mW (k+1) l) (tP p):=by simp [mW,cU,c2]
   rw [e,ih,c3];congr 2;show ((k+1+l.idxOf p:Nat):Int)=((k+(l.idxOf p+1):Nat):Int);omega
def HK (e:Ent) (j:Nat) (d b:Int):List Nat:=if d < b then [j] else match e with | .word _=>[] | .pair x y=>[x,y]
def YK (l:List (Nat×Nat)) (j n:Nat):List Nat:=(l.filter λp=>decide (p.2=n)&&!decide (p.1=j)).map λp=>l.idxOf p
def LG (e:Ent) (l:List (Nat×Nat)) (j n:Nat) (d b:Int):PV:=.tup [K6 e j,.int (n:Int),.tup (aP ((HK e j d b).map λx=>l.idxOf (x,n-1))),.tup (aP (YK l j n))]
def K9 {f:α->β} (hf:∀x y,f x=f y->x=y) {l:List α} (h:l.Nodup):(l.map f).Nodup:=List.Pairwise.map f (λa b n z=>n (hf a b z)) h
def Mb (t:Tr) (ds:List Int) (b:Int) (n j:Nat):(FT t ds b n j).Nodup:=by
 exact K9 (λx y h=>(Prod.mk.inj h).1) (List.Pairwise.filter _ List.nodup_range)
theorem gL:∀{i:Nat}{p:Nat×Nat},p∈aJ t ds bs i->p.2 < i/\p.1 < t.size
 | 0,_,h=>by simp [aJ] at h
 | i+1,p,h=>by
  rw [aJ] at h;rcases AW.mp h with h | h
  ·have:=gL h;omega
  ·obtain⟨k,hk,rfl⟩:=Av.mp h;have:=A6.mp (Bc.mp hk).1;exact⟨Eo _,this⟩
theorem jx (t:Tr) (ds bs:List Int):∀i,(aJ t ds bs i).Nodup
 | 0=>D5
 | i+1=>by
  rw [aJ];refine List.nodup_append.mpr ⟨jx t ds bs i,Mb _ _ _ _ _,λa ha b hb z=>?_⟩;subst z;have h1:=(gL ha).1;obtain⟨k,_,rfl⟩:=Av.mp hb;exact AX _ h1
def k7 (h:l[k]?=ap v):Vw l (.int (k:Int))=.ret v:=by
 rw [cf,cK h];rfl
def G7 (ds:List Int) (h:(dW 0 (br ds))[i]?=ap x):i < ds.length/\x=.tup [.int (i:Int),.int (ds.getD i 0)]:=by
 have hi:i < ds.length:=by have:=(Ak.mp h).1;rw [cx,fV] at this;exact this
 obtain⟨y,hy,rfl⟩:=gI h;unfold br at hy;rw [Aj,Ad hi] at hy;have hy:=Option.some.inj hy;subst hy;refine⟨hi,?_⟩;rw [AI,Al,Ad hi];rfl
theorem FR (t:Tr) (ds bs:List Int) (hd:ds.length=t.size) (hz:t.size<=100) (hb:bs.length*t.size<=900) (hb2:bs.length<=900):(gQ t.pv (.tup (br ds)) (.cl (br bs))).le (.ret (NS (aJ t ds bs bs.length))):=λQ q=>by
 unfold gQ;have c1:(br bs).length<=sizeLine:=bF (by rw [fV];omega);have c2:(br ds).length<=sizeLine:=bF (by rw [fV];omega);simp only [ga,ci];refine W.le.use (Hr t ∅) ?_;simp only [bO,gl,mo c1];refine gC (λi s=>s=NS (aJ t ds bs i)) rfl (λi x s hx hs=>?_) (λs hs=>?_)
 ·subst hs;obtain⟨hi,rfl⟩:=G7 bs hx;simp only [m4,gl,ci,aH,mo c2];have hl:=jy t ds bs i;have hm:i*t.size+t.size<=900:=by
   have:(i+1)*t.size<=bs.length*t.size:=E5 _ hi;rw [Ez] at this;omega
  refine gC (λj s=>s=NS (aJ t ds bs i++FT t ds (bs.getD i 0) i j)) (by simp [FT]) (λj x s hx hs=>?_) (λs hs=>?_)
  ·subst hs;obtain⟨hj,rfl⟩:=G7 ds hx;have RI:=xn t ds (bs.getD i 0) i j;simp only [m4,gl,ci];rw [Ol];have Ze:j < t.size:=by omega
   have ğ:HH t ds (bs.getD i 0) j=true->(fY (NS (aJ t ds bs i++FT t ds (bs.getD i 0) i j)) (PV.tup [.int (j:Int),.int (i:Int)])).run λs=>s=NS (aJ t ds bs i++(FT t ds (bs.getD i 0) i j++if HH t ds (bs.getD i 0) j=true then [(j,i)] else [])):=λc=>by
    rw [dr (by unfold NS;rw [Af,Ah];omega),if_pos c];unfold NS;rw [<- Az,Aw (l₂:=[(j,i)])];rfl
   have no:HH t ds (bs.getD i 0) j=false->NS (aJ t ds bs i++FT t ds (bs.getD i 0) i j)=NS (aJ t ds bs i++(FT t ds (bs.getD i 0) i j++if HH t ds (bs.getD i 0) j=true then [(j,i)] else [])):=λc=>by rw [c];simp
   generalize eb:bs.getD i 0=b at ğ no ⊢;generalize ed:ds.getD j 0=d at *;simp only [ga,ci,ab6,gl,a7,aH,k7 (LV t Ze)];by_cases c:d<=b
   ·simp only [c,decide_true,if_true,ci,gl];rcases sA t 0 j .aG [] Ze with⟨_,e,_⟩ | ⟨a,_,ha,e,_⟩
    ·have sb:HH t ds b j=true:=by unfold HH;rw [e,ed];simp [c]
     rw [e];simp only [vp,lu,gl,a7,PV.fe,if_true];exact ğ sb
    ·rw [AI] at e;have sb:HH t ds b j=decide (b < ds.getD a 0):=by unfold HH;rw [e,ed];simp [c]
     rw [e];have i2:dC (br ds) (a:Int)=ap (.int (ds.getD a 0)):=int_at ∅;simp only [vp,lu,gl,a7,PV.fe,Au,if_false,cf,i2,wv,G5,ga];by_cases c2:b < ds.getD a 0
     ·rw [decide_eq_true c2] at sb ⊢;exact ğ sb
     ·rw [decide_eq_false c2] at sb ⊢;exact no sb
   ·have sb:HH t ds b j=false:=by unfold HH;rw [ed];simp [c]
    simp only [c,decide_false,Au,if_false,gl];exact no sb
  ·subst hs;rw [cx,fV,hd];rfl
 ·subst hs;rw [cx,fV];exact q
def Ta {l:List (Nat×Nat)} (h:l≠[]) (k:Nat):mW k l≠[]:=by cases l with | nil=>exact absurd rfl h | cons a l=>simp [mW]
def IA (k:Nat) (l:List (Nat×Nat)):((mW k l).map λkv=>PV.tup (kv.1.map kP))=l.map λp=>PV.tup [.int (p.1:Int),.int (p.2:Int)]:=by
 have:=congrArg (FJ λx:List Key=>PV.tup (x.map kP)) (lR k l);rw [AB,AB] at this;exact this
theorem R7 {l:List (Nat×Nat)} (h1:es[j]?=ap e) (h2:j < ds.length) (h3:n < bs.length) (hl:l.length<=1000) (h0:l≠[])
  (hb:∀x∈HK e j (ds.getD j 0) (bs.getD n 0),1<=n/\(x,n-1)∈l) :
  (jc (.tup (es.map Ent.pv)) (.tup (br ds)) (.cl (br bs)) (zj (mW 0 l)) (.tup [.int (j:Int),.int (n:Int)])).le (.ret (LG e l j n (ds.getD j 0) (bs.getD n 0))):=λQ q=>by
 unfold jc;have i0:dC [PV.int (j:Int),PV.int (n:Int)] 0=ap (.int j):=rfl;have i1:dC [PV.int (j:Int),PV.int (n:Int)] 1=ap (.int n):=rfl;have i2:dC (br ds) (j:Int)=ap (.int (ds.getD j 0)):=int_at h2;have i3:dC (br bs) (n:Int)=ap (.int (bs.getD n 0)):=int_at h3;have i4:dC (es.map Ent.pv) (j:Int)=ap e.pv:=cK (by rw [Aj,h1];rfl);simp only [ga,ci,aH,bO,cf,i0,i1,i2,i3,i4,wv,gl,G5,e6];generalize hdj:ds.getD j 0=d at *;generalize hbn:bs.getD n 0=b at *;have below:∀{R:PV->Prop},R (.tup (aP (HK e j d b)))->(if decide (d < b)=true then bd (PV.tup [PV.int (j:Int)]) else cL e.pv).run R:=λ{R} r=>by
  unfold HK at r;unfold cL;by_cases c:d < b
  ·rw [if_pos c] at r;simpa [c] using r
  ·cases e with
   | word w=>simpa [c,Ent.pv] using r
   | pair a b=>simpa [c,Ent.pv] using r
 refine below ?_;refine gs (λx=>.int ((l.idxOf (x,n-1):Nat):Int)) (λk hk=>?_) ?_
 ·obtain⟨g1,g2⟩:=hb k hk;intro R r;have en1:(n:Int)-1=((n-1:Nat):Int):=by omega
  simp only [RM,ga,ci,ug,gl,en1];rw [show PV.tup [.int (k:Int),.int ((n-1:Nat):Int)]=.tup ((tP (k,n-1)).map kP) from rfl];refine rY (sX 0 l (k,n-1) g2) ?_;rw [AI];exact r
 simp only [ci,QM,gl];refine MK (Ta h0 0) (by rw [Gh];exact hl) ?_;rw [IA];refine XE (λp=>if (decide (p.2=n)&&!decide (p.1=j))=true then ap (.int ((l.idxOf p:Nat):Int)) else bm) (λp hp=>?_) ?_
 ·intro R r;obtain⟨u,v⟩:=p;have j0:dC [PV.int (u:Int),PV.int (v:Int)] 0=ap (.int u):=rfl;have j1:dC [PV.int (u:Int),PV.int (v:Int)] 1=ap (.int v):=rfl;simp only [RM,ga,ci,aH,cf,j0,j1,wv,gl,gj,Ys,a7];have get:∀{R:PV->Prop},R (.int ((l.idxOf (u,v):Nat):Int))->(dgW (zj (mW 0 l)) (PV.tup [.int (u:Int),.int (v:Int)])).run R:=λ{R} r=>by
   refine rY (sX 0 l (u,v) hp) ?_;rw [AI];exact r
  by_cases c1:v=n
  ·subst c1;by_cases c2:u=j
   ·subst c2;simp only [beq_self_eq_true,El,if_true,gl,Au,if_false];simpa using r
   ·have c3:((u:Int)==(j:Int))=false:=by simp;omega
    simp only [beq_self_eq_true,c3,Fb,if_true,gl,ci];refine get ?_;simpa [c2] using r
  ·have c3:((v:Int)==(n:Int))=false:=by simp;omega
   simp only [c3,Au,if_false,gl];simpa [c1] using r
 rw [VH];have nm:∀{R:PV->Prop},R (K6 e j)->(eg (.tup (es.map Ent.pv)) (.int (j:Int))).run R:=λ{R} r=>by
  unfold eg;simp only [ga,ci,aH,cf,i4,wv,gl];cases e with
  | word w=>simpa [Ent.pv,K6] using r
  | pair a b=>simpa [Ent.pv,K6] using r
 refine nm ?_;have e1:(l.filter λp=>decide (p.2=n)&&!decide (p.1=j)).map (λp=>PV.int ((l.idxOf p:Nat):Int))=aP (YK l j n):=by
  unfold aP YK;rw [AB];rfl
 have e2:(HK e j d b).map (λx=>PV.int ((l.idxOf (x,n-1):Nat):Int))=aP ((HK e j d b).map λx=>l.idxOf (x,n-1)):=by
  unfold aP;rw [AB];rfl
 rw [e1,e2];exact q
def Zt (t:Tr) (ds bs:List Int):List PV:=(aJ t ds bs bs.length).map λp=>LG (en t 0 p.1) (aJ t ds bs bs.length) p.1 p.2 (ds.getD p.1 0) (bs.getD p.2 0)
def okD (t:Tr) (ds bs:List Int):Prop:=∀p∈aJ t ds bs bs.length,∀x∈HK (en t 0 p.1) p.1 (ds.getD p.1 0) (bs.getD p.2 0),1<=p.2/\(x,p.2-1)∈aJ t ds bs bs.length
theorem sY:∀(k:Nat) (l:List (Nat×Nat)),(l.zipIdx k).map (λp=>PV.tup [PV.tup [.int (p.1.1:Int),.int (p.1.2:Int)],.int ((p.2:Nat):Int)])=(mW k l).map KY
 | _,[]=>rfl
 | k,p::l=>by rw [List.zipIdx_cons,Ao,sY (k+1) l];rfl
def aR (t:Tr) (ds:List Int):List Int:=0::sortI (Md t ds)
def KC (t:Tr) (ds:List Int):(Md t ds).length<=t.size:=by
 unfold Md splits;rw [Af];have:=Bx (λj=>vj (en t 0 j)) (AJ t.size);rw [CI] at this;exact this
def vW {x:Int}{l:List Int}:x∈sortI l↔x∈l:=(CV l _).mem_iff
def pL (l:List Int):(sortI l).length=l.length:=(CV l _).length_eq
theorem Q8 (t:Tr) (ds:List Int) (hd:ds.length=t.size) (hz:t.size<=25) (h0:aJ t ds (aR t ds) (aR t ds).length≠[]) (ok:okD t ds (aR t ds)):(lU t.pv (.tup (br ds))).le (.ret (.tup (Zt t ds (aR t ds)))):=λQ q=>by
 unfold lU;simp only [ga,ci];refine W.le.use (kT t ∅) ?_;have hs:=KC t ds;have hl:(aR t ds).length<=t.size+1:=by unfold aR;rw [Aq,pL];omega
 have e2:xq (br (Md t ds))=.ret (br (sortI (Md t ds))):=by
  unfold xq br;rw [gH];show W.fB _ _=_;rw [mo ∅]
 have e3:nt [PV.int 0] (br (sortI (Md t ds)))=.ret (br (aR t ds)):=by
  rw [ib (by rw [fV,pL];simp;omega)];rfl
 simp only [split_le t ds hd ∅,gl,e2,e3];have hb:(aR t ds).length*t.size<=900:=by
  have:(aR t ds).length*t.size<=26*25:=Nat.mul_le_mul ∅ hz;omega
 refine W.le.use (FR t ds (aR t ds) hd ∅ hb ∅) ?_;generalize hL:aJ t ds (aR t ds) (aR t ds).length=L at *;have hLl:L.length<=900:=by rw [<- hL];exact Bu (jy _ _ _ _) hb
 have hLm:∀p∈L,p.2 < (aR t ds).length/\p.1 < t.size:=λp hp=>gL (hL▸hp);have c:(NS L).length<=sizeLine:=bF (by unfold NS;rw [Af];omega);simp only [bO,gl,mo c,ga];unfold NS;rw [QT];refine gs (λp:(Nat×Nat)×Nat=>PV.tup [PV.tup [.int (p.1.1:Int),.int (p.1.2:Int)],.int ((p.2:Nat):Int)]) (λp _ R r=>by simpa using r) ?_;rw [sY];refine Nn ?_ (by rw [Gh];omega) ?_
 ·rw [lR];exact K9 (λ_ _ h=>GD h) (hL▸jx t ds _ _)
 refine gs (λp:Nat×Nat=>LG (en t 0 p.1) L p.1 p.2 (ds.getD p.1 0) ((aR t ds).getD p.2 0)) (λp hp=>?_) ?_
 ·obtain⟨g1,g2⟩:=hLm p hp;refine R7 (iz t 0 p.1 g2) ∅ g1 ∅ h0 λx hx=>?_;have:=ok p (by rw [hL];exact hp) x hx;rw [hL] at this;exact this
 ·have:Zt t ds (aR t ds)=L.map λp:Nat×Nat=>LG (en t 0 p.1) L p.1 p.2 (ds.getD p.1 0) ((aR t ds).getD p.2 0):=by unfold Zt;rw [hL]
  rw [<- this];exact q
theorem kg:∀(t:Tr) (o x:Nat) (p:V),x < t.size->(x=t.size-1/\kJ t o x p=p)\/∃a u v,x < a/\a < t.size/\kJ t o x p=.int ((o+a:Nat):Int)/\en t o a=.pair u v/\(u=o+x\/v=o+x)
 | .leaf _,o,x,p,h=>.inl ⟨by have:x < 1:=h;show x=0;omega,rfl⟩
 | .node l r,o,x,p,h=>by
  have es:(Tr.node l r).size=l.size+r.size+1:=rfl;have top:en (.node l r) o (l.size+r.size)=.pair (o+l.size-1) (o+l.size+r.size-1):=by rw [en,if_neg ∅,if_neg ∅]
  by_cases c1:x < l.size
  ·rw [show kJ (.node l r) o x p=kJ l o x (.int (o+l.size+r.size:Nat)) by rw [kJ,if_pos c1]];rcases kg l o x (.int (o+l.size+r.size:Nat)) c1 with⟨h1,h2⟩ | ⟨a,u,v,h1,h2,h3,h4,h5⟩
   ·exact .inr ⟨l.size+r.size,_,_,by omega,by omega,by rw [h2,Bk],top,.inl ∅⟩
   ·exact .inr ⟨a,u,v,h1,by omega,h3,by rw [en,if_pos h2];exact h4,h5⟩
  ·by_cases c2:x < l.size+r.size
   ·rw [show kJ (.node l r) o x p=kJ r (o+l.size) (x-l.size) (.int (o+l.size+r.size:Nat)) by rw [kJ,if_neg c1,if_pos c2]];rcases kg r (o+l.size) (x-l.size) (.int (o+l.size+r.size:Nat)) ∅ with⟨h1,h2⟩ | ⟨a,u,v,h1,h2,h3,h4,h5⟩
    ·exact .inr ⟨l.size+r.size,_,_,by omega,by omega,by rw [h2,Bk],top,.inr ∅⟩
    ·refine .inr ⟨l.size+a,u,v,by omega,by omega,by rw [h3,Bk],?_,by omega⟩;rw [en,if_neg ∅,if_pos ∅,Ep];exact h4
   ·exact .inl ⟨by omega,by rw [kJ,if_neg c1,if_neg c2]⟩
theorem JB:∀(t:Tr) (o j:Nat) (p:V) (a b:Nat),j < t.size->en t o j=.pair a b->o<=a/\o<=b/\a < o+j/\b < o+j/\a < b/\kJ t o (a-o) p=.int ((o+j:Nat):Int)/\kJ t o (b-o) p=.int ((o+j:Nat):Int)
 | .leaf _,o,j,p,a,b,h,e=>by rw [en] at e;cases e
 | .node l r,o,j,p,a,b,h,e=>by
  have es:(Tr.node l r).size=l.size+r.size+1:=rfl;have lp:=l.size_pos;have rp:=r.size_pos;by_cases c1:j < l.size
  ·rw [en,if_pos c1] at e;obtain⟨h1,h2,h3,h4,h5,h6,h7⟩:=JB l o j (.int (o+l.size+r.size:Nat)) a b c1 e;refine⟨h1,h2,h3,h4,h5,?_,?_⟩
   ·rw [kJ,if_pos ∅];exact h6
   ·rw [kJ,if_pos ∅];exact h7
  ·by_cases c2:j < l.size+r.size
   ·rw [en,if_neg c1,if_pos c2] at e;obtain⟨h1,h2,h3,h4,h5,h6,h7⟩:=JB r (o+l.size) (j-l.size) (.int (o+l.size+r.size:Nat)) a b ∅ e;refine⟨by omega,by omega,by omega,by omega,h5,?_,?_⟩
    ·rw [kJ,if_neg ∅,if_pos ∅,Nat.sub_sub,h6,show o+l.size+(j-l.size)=o+j by omega]
    ·rw [kJ,if_neg ∅,if_pos ∅,Nat.sub_sub,h7,show o+l.size+(j-l.size)=o+j by omega]
   ·rw [en,if_neg c1,if_neg c2] at e;injection e with e1 e2;subst e1;subst e2;have hj:j=l.size+r.size:=by omega
    subst hj;have å:∀(t:Tr) (o:Nat) (p:V),kJ t o (t.size-1) p=p:=λt o p=>by
     have tp:=t.size_pos;rcases kg t o (t.size-1) p ∅ with⟨_,h⟩ | ⟨a,_,_,h1,h2,_⟩
     ·exact h
     ·omega
    refine⟨by omega,by omega,by omega,by omega,by omega,?_,?_⟩
    ·rw [kJ,if_pos ∅,show o+l.size-1-o=l.size-1 by omega,å,Bk]
    ·rw [kJ,if_neg ∅,if_pos ∅,show o+l.size+r.size-1-o-l.size=r.size-1 by omega,å,Bk]
structure DD (t:Tr) (ds:List Int):Prop where
 len:ds.length=t.size
 leaf:∀j w,j < t.size->en t 0 j=.word w->ds.getD j 0=0
 pair:∀j a b,j < t.size->en t 0 j=.pair a b->ds.getD a 0 < ds.getD j 0/\ds.getD b 0 < ds.getD j 0/\1<=ds.getD j 0
 nd:(Md t ds).Nodup
def DD.of (h:TV t ds=true):DD t ds:=by
 unfold TV at h;rw [AL,AL,decide_eq_true_iff,decide_eq_true_iff] at h;obtain⟨h1,h2,h3⟩:=h;have h4:∀j,j < t.size->okJ t ds j=true:=λj hj=>Cc.mp h3 j (A6.mpr hj);refine⟨h1,λj w hj e=>?_,λj a b hj e=>?_,h2⟩
 ·have:=h4 j hj;unfold okJ at this;rw [e] at this;exact eq_of_beq this
 ·have:=h4 j hj;unfold okJ at this;rw [e] at this;rw [AL,AL,AL,decide_eq_true_iff,decide_eq_true_iff,decide_eq_true_iff,decide_eq_true_iff] at this;exact⟨this.1.1.1,this.1.1.2,this.1.2⟩
def DD.mem (D:DD t ds) (hj:j < t.size):ds.getD j 0∈aR t ds:=by
 cases e:en t 0 j with
 | word w=>rw [D.leaf j w hj e];exact .head _
 | pair a b=>
  refine AZ _ (vW.mpr ?_);exact Av.mpr ⟨j,Bc.mpr ⟨A6.mpr hj,by rw [e];rfl⟩,rfl⟩
theorem Oo (l:List Int):(sortI l).Pairwise (·<=·):=(Er (le:=λa b=>decide (a<=b)) (λa b c=>by simp;omega) (λa b=>by simp;omega) l).imp (by simp)
theorem DD.inc (D:DD t ds):(aR t ds).Pairwise (· < ·):=by
 unfold aR;refine D4.mpr ⟨λx hx=>?_,?_⟩
 ·have hx:=vW.mp hx;unfold Md splits at hx;obtain⟨j,hj,rfl⟩:=Av.mp hx;obtain⟨h1,h2⟩:=Bc.mp hj;cases e:en t 0 j with
  | word w=>rw [e] at h2;cases h2
  | pair a b=>have:=(D.pair j a b (A6.mp h1) e).2.2;omega
 ·have nd:(sortI (Md t ds)).Nodup:=(CV _ _).nodup_iff.mpr D.nd;exact (List.Pairwise.and (Oo _) nd).imp λ⟨h1,h2⟩=>Int.lt_iff_le_and_ne.mpr ⟨h1,h2⟩
theorem tS {l:List Int} (h:l.Pairwise (· < ·)) (hn:n < l.length) {x:Int} (hx:x∈l) (lt:x < l.getD n 0):1<=n/\x<=l.getD (n-1) 0:=by
 obtain⟨i,hi,rfl⟩:=DJ hx;have gd:∀{k} (hk:k < l.length),l.getD k 0=l[k]:=λ{k} hk=>by rw [Al,Ad hk];rfl
 rw [gd hn] at lt;have c:i < n:=by
  rcases C7 i n with c | c
  ·exact c
  ·rcases D3 c with c | c
   ·subst c;omega
   ·have:=BR.mp h _ _ hn hi c;omega
 refine⟨by omega,?_⟩;rw [gd ∅];rcases D3 (show i<=n-1 by omega) with c2 | c2
 ·subst c2;exact Dy _
 ·have:=BR.mp h _ _ hi ∅ c2;omega
theorem yo {l:List Int} (h:l.Pairwise (· < ·)) (hn:n < l.length) (hi:i < n):l.getD i 0 < l.getD n 0:=by
 have gd:∀{k} (hk:k < l.length),l.getD k 0=l[k]:=λ{k} hk=>by rw [Al,Ad hk];rfl
 rw [gd hn,gd ∅];exact BR.mp h _ _ ∅ hn hi
theorem cj {t:Tr}{ds bs:List Int}:∀{m:Nat}{j n:Nat},(j,n)∈aJ t ds bs m↔n < m/\j < t.size/\HH t ds (bs.getD n 0) j=true
 | 0,j,n=>by simp [aJ]
 | m+1,j,n=>by
  rw [aJ,AW,cj];unfold FT;rw [Av]
  constructor
  ·rintro (⟨h1,h2,h3⟩ | ⟨k,hk,e⟩)
   ·exact⟨by omega,h2,h3⟩
   ·obtain⟨h1,h2⟩:=Bc.mp hk;injection e with e1 e2;subst e1;subst e2;exact⟨by omega,A6.mp h1,h2⟩
  ·rintro⟨h1,h2,h3⟩;by_cases c:n=m
   ·subst c;exact .inr ⟨j,Bc.mpr ⟨A6.mpr h2,h3⟩,rfl⟩
   ·exact .inl ⟨by omega,h2,h3⟩
theorem gq {b:Int} (hj:j < t.size):HH t ds b j=true↔ds.getD j 0<=b/\∀a,kJ t 0 j .aG=.int ((a:Nat):Int)->b < ds.getD a 0:=by
 unfold HH;rw [AL,decide_eq_true_iff];rcases kg t 0 j .aG hj with⟨_,e⟩ | ⟨a,u,v,_,ha,e,_,_⟩
 ·rw [e];exact⟨λh=>⟨h.1,λa z=>by cases z⟩,λh=>⟨h.1,rfl⟩⟩
 ·rw [AI] at e;rw [e];refine⟨λh=>⟨h.1,λa' z=>?_⟩,λh=>⟨h.1,?_⟩⟩
  ·injection z with z;have:a=a':=by omega
   subst this;simpa using h.2
  ·simpa using h.2 a rfl
theorem DD.ok (D:DD t ds):okD t ds (aR t ds):=by
 rintro⟨j,n⟩ hp x hx;obtain⟨hn,hj,hs⟩:=cj.mp hp;obtain⟨HI,rR⟩:=(gq hj).mp hs;have inc:=D.inc;show 1<=n/\(x,n-1)∈_;unfold HK at hx;by_cases c:ds.getD j 0 < (aR t ds).getD n 0
 ·rw [if_pos c] at hx;have:x=j:=by simpa using hx
  subst this;obtain⟨g1,g2⟩:=tS inc hn (D.mem hj) c;have lt:=yo inc hn (show n-1 < n by omega);exact⟨g1,cj.mpr ⟨by omega,hj,(gq hj).mpr ⟨g2,λa e=>by have:=rR a e;omega⟩⟩⟩
 ·rw [if_neg c] at hx;cases e:en t 0 j with
  | word w=>rw [e] at hx;cases hx
  | pair a b=>
   rw [e] at hx;obtain⟨p1,p2,p3⟩:=D.pair j a b hj e;obtain⟨_,_,a1,a2,_,a3,a4⟩:=JB t 0 j .aG a b hj e;rw [AI,Fv] at *;have hx:x=a\/x=b:=by simpa using hx
   have key:x < t.size/\ds.getD x 0 < ds.getD j 0/\kJ t 0 x .aG=.int ((j:Nat):Int):=by
    rcases hx with rfl | rfl
    ·exact⟨by omega,p1,a3⟩
    ·exact⟨by omega,p2,a4⟩
   obtain⟨k1,k2,k3⟩:=key;obtain⟨g1,g2⟩:=tS inc hn (D.mem k1) ∅;have lt:=yo inc hn (show n-1 < n by omega);refine⟨g1,cj.mpr ⟨by omega,k1,(gq k1).mpr ⟨g2,λa' e'=>?_⟩⟩⟩;rw [k3] at e';injection e' with e';have:j=a':=by omega
   subst this;omega
theorem LC:∀(t:Tr) (o:Nat),∃w,en t o 0=.word w
 | .leaf w,o=>⟨w,rfl⟩
 | .node l r,o=>by rw [en,if_pos (show 0 < l.size from l.size_pos)];exact LC l o
theorem DD.ne (D:DD t ds):aJ t ds (aR t ds) (aR t ds).length≠[]:=by
 intro z;have:(0,0)∈aJ t ds (aR t ds) (aR t ds).length:=by
  obtain⟨w,e⟩:=LC t 0;refine cj.mpr ⟨by simp [aR],t.size_pos,(gq t.size_pos).mpr ⟨?_,λa ea=>?_⟩⟩
  ·rw [D.leaf 0 w t.size_pos e];exact Dy _
  ·rcases kg t 0 0 .aG t.size_pos with⟨_,e⟩ | ⟨a',u,v,_,ha,e,ep,_⟩
   ·rw [e] at ea;cases ea
   ·rw [e,AI] at ea;injection ea with ea;have:a'=a:=by omega
    subst this;have:=(D.pair a' u v ha ep).2.2;show (0:Int) < _;omega
 rw [z] at this;cases this
def Q7 (D:DD t ds) (hz:t.size<=25):(lU t.pv (.tup (br ds))).le (.ret (.tup (Zt t ds (aR t ds)))):=Q8 t ds D.len hz D.ne D.ok
def We (t:Tr):List PV:=(AJ t.size).map λj=>.tup (aP (up t 0 j []))
@[simp] theorem R0 (t:Tr):(We t).length=t.size:=by unfold We;simp
def Ki (t:Tr) (h:j < t.size):(We t)[j]?=ap (.tup (aP (up t 0 j []))):=by unfold We;simp [h]
theorem Wc (t:Tr):∀(k j:Nat),j+k+1=t.size->(up t 0 j []).length<=k+1:=λk=>by
 induction k using EN with
 | ind k ih=>
  intro j hj;rcases sA t 0 j .aG [] ∅ with⟨q1,q2,q3⟩ | ⟨a,q1,q2,q3,q4⟩
  ·rw [q3];show 1<=k+1;omega
  ·rw [q4,Aq];have:=ih (t.size-a-1) ∅ a ∅;omega
theorem ZL (t:Tr) (h:j < t.size):(up t 0 j []).length<=t.size:=by
 have:=Wc t (t.size-j-1) j ∅;omega
def HX (t:Tr) (i:Nat):List PV:=(AJ t.size).map λj=>if j+i < t.size then .tup [] else .tup (aP (up t 0 j []))
def rC (t:Tr) (i:Nat):(HX t i).length=t.size:=by unfold HX;simp
def Kh (t:Tr) (i:Nat) (h:j < t.size) (c:¬j+i < t.size):(HX t i)[j]?=ap (.tup (aP (up t 0 j []))):=by unfold HX;simp [h,c]
theorem RY (t:Tr) (i j:Nat) (h:j+i+1=t.size):(HX t i).set j (.tup (aP (up t 0 j [])))=HX t (i+1):=by
 apply B6;intro k;by_cases hk:k < t.size
 ·by_cases e:j=k
  ·subst e;rw [Cv (by rw [rC];exact hk),Kh t (i+1) hk ∅]
  ·rw [BZ e];unfold HX;simp only [Aj,BM hk,Cy];by_cases c:k+i < t.size
   ·rw [if_pos c,if_pos ∅]
   ·rw [if_neg c,if_neg ∅]
 ·rw [AV (by rw [BO,rC];omega),AV (by rw [rC];omega)]
def ZM (t:Tr):HX t 0=Am t.size (.tup []):=by
 apply B6;intro k;unfold HX;by_cases hk:k < t.size
 ·simp [hk]
 ·simp [hk]
theorem RZ (t:Tr):HX t t.size=We t:=by
 apply Cm;intro j _;rw [if_neg ∅]
theorem Py (t:Tr) (hz:t.size<=900):(gT t.pv).le (.ret (We t)):=λQ q=>by
 unfold gT;simp only [ga,ci];refine W.le.use (Hr t hz) ?_;simp only [aH,gl];refine Pw (λ_=>.tup []) (λx hx=>rfl) ?_;have e0:(Zv t).map (λ_=>PV.tup [])=HX t 0:=by rw [List.map_const',LU,ZM]
 have en:(((t.size:Nat):Int)-1 - -1).toNat=t.size:=by omega
 rw [e0];simp only [d3,LU,ga,ug,gl,Jx,Uh,en];refine⟨⟨trivial,bg ∅ ∅⟩,?_⟩;show (cz _ _ _).run _;refine gC (λi s=>s=HX t i) rfl (λi x s hx hs=>?_) (λs hs=>?_)
 ·subst hs;obtain⟨hi,rfl⟩:=wK hx;obtain⟨j,hj⟩:∃j:Nat,j=t.size-1-i:=⟨_,rfl⟩;have ej:(((t.size:Nat):Int)-1-(i:Int))=(j:Int):=by omega
  rw [ej];have Ze:j < t.size:=by omega
  have fin:∀l:List PV,l.length<=900->.int (j:Int)::l=aP (up t 0 j [])->(am (addW (.tup [.int (j:Int)]) (.tup l)) λx=>kI (HX t i) (.int (j:Int)) x).run λs=>s=HX t (i+1):=λl hl he=>by
   rw [oV,mo (bF (by simp;omega))];show (kI _ _ (.tup (.int (j:Int)::l))).run _;rw [he,nN (by rw [rC];exact Ze),RY t i j ∅];rfl
  simp only [ga,ci,k7 (LV t Ze),gl];rcases sA t 0 j .aG [] Ze with⟨_,e,e2⟩ | ⟨a,ha1,ha,e,e2⟩
  ·rw [e];simp only [vp,lu,PV.fe,a7,gl,if_true];have:=fin [] (by simp) (by rw [e2,AI];rfl);simpa using this
  ·rw [AI] at e;rw [e];have i2:Vw (HX t i) (.int (a:Int))=.ret (.tup (aP (up t 0 a []))):=k7 (Kh t i ha ∅);simp only [vp,lu,PV.fe,a7,gl,Au,if_false,i2,ga];have ua:=ZL t ha;have:=fin (aP (up t 0 a [])) (by rw [dN];omega) (by rw [e2];simp);simpa using this
 ·subst hs;have el:(qP (((t.size:Nat):Int)-1) t.size).length=t.size:=by unfold qP;simp
  rw [el,RZ];exact q
def Zu (t:Tr) (j:Nat):List Nat:=(AJ t.size).filter λk=>!decide (k∈up t 0 j [])&&!decide (j∈up t 0 k [])
theorem Ro (t:Tr) (hz:t.size<=900) (hj:j < t.size):(eU (.cl (We t)) (.int (j:Int))).le (.ret (.tup (aP (Zu t j)))):=λQ q=>by
 unfold eU;simp only [ga,ci,fw,R0,c6,mo (bg (i:=0) (j:=(t.size:Int)) ∅ ∅),gl,A2,lW];refine PB (λk=>!decide (k∈up t 0 j [])&&!decide (j∈up t 0 k [])) (λk hk=>?_) q;have hk:=A6.mp hk;simp only [ga,bO,k7 (Ki t hj),k7 (Ki t hk),aH,Qe,if_true];by_cases c1:k∈up t 0 j []
 ·simp [c1]
 ·by_cases c2:j∈up t 0 k []
  ·simp [c1,c2]
  ·simp [c1,c2]
def Qi:Ent->List Nat
 | .word _=>[]
 | .pair a b=>[a,b]
def qm (e:Ent):cL e.pv=.ret (.tup (aP (Qi e))):=by
 unfold cL;cases e with
 | word w=>simp [Ent.pv,Qi]
 | pair a b=>simp [Ent.pv,Qi]
def Tb (h:es[j]?=ap e):eg (.tup (es.map Ent.pv)) (.int (j:Int))=.ret (K6 e j):=by
 have i1:Vw (es.map Ent.pv) (.int (j:Int))=.ret e.pv:=k7 (by rw [Aj,h];rfl);unfold eg;cases e with
 | word w=>simp only [ga,aH,i1];rfl
 | pair a b=>simp only [ga,aH,i1];rfl
def grS (t:Tr) (j:Nat):PV:=.tup [K6 (en t 0 j) j,.int 0,.tup (aP (Qi (en t 0 j))),.tup (aP (Zu t j))]
def grL (t:Tr):List PV:=(AJ t.size).map (grS t)
theorem M9 (t:Tr) (hz:t.size<=900):(kY t.pv).le (.ret (.tup (grL t))):=λQ q=>by
 unfold kY;simp only [ga,ci];refine W.le.use (kT t hz) ?_;refine W.le.use (Py t hz) ?_;simp only [d3,du,gl,c6,mo (bg (i:=0) (j:=(t.size:Int)) ∅ ∅),A2,lW];unfold aP;refine gs (grS t) (λj hj R r=>?_) q;have hj:=A6.mp hj;have i1:Vw ((t.nd 0).map Ent.pv) (.int (j:Int))=.ret (en t 0 j).pv:=k7 (by rw [Aj,iz t 0 j hj];rfl);simp only [Tb (iz t 0 j hj),ga,aH,i1,qm,ci,gl];exact W.le.use (Ro t hz hj) r
end My
variable {ws:List B3}
namespace My
open PySem PySem.Spec PyProof.Rows L2 PL FL
structure Sy where
 nm:PV
 lv:Nat
 un:List Nat
 be:List Nat
def Sy.pv (s:Sy):PV:=.tup [s.nm,.int (s.lv:Int),.tup (aP s.un),.tup (aP s.be)]
def kC (g:List Sy):PV:=.tup (g.map Sy.pv)
def sy (g:List Sy) (i:Nat):Sy:=g.getD i ⟨.aG,0,[],[]⟩
def Wo {g:List Sy} (h:i < g.length):g[i]?=ap (sy g i):=by
 unfold sy;rw [Al,Ad h];rfl
def Qw {g:List Sy} (h:i < g.length):Vw (g.map Sy.pv) (.int (i:Int))=.ret (sy g i).pv:=k7 (by rw [Aj,Wo h];rfl)
def Jf (w:Str):PV->Bool
 | .str s=>s==w
 | _=>false
def hm (g:List Sy) (i:Nat) (w:Str):Bool:=(sy g i).un.isEmpty&&Jf w (sy g i).nm
inductive UQ (g:List Sy):Nat->Nat->Prop
 | refl (i:Nat):UQ g i i
 | step {i u j:Nat}:u∈(sy g i).un->UQ g u j->UQ g i j
structure WG (g:List Sy) (ws:List Str):Prop where
 pos:0 < g.length
 len:g.length<=300
 dn:∀i,i < g.length->∀u∈(sy g i).un,u < i
 vH:∀i,i < g.length->(sy g i).un.length<=2
 be:∀i,i < g.length->∀u∈(sy g i).be,u < g.length
 YM:∀i,i < g.length->(sy g i).be.length<=30
 nm:∀i,i < g.length->(∃s,(sy g i).nm=.str s)\/∃n,(sy g i).nm=.int n
 ajO:∀w∈ws,∃i,i < g.length/\UQ g (g.length-1) i/\hm g i w=true
def nH {g:List Sy} (h:i < g.length):de (kC g) (.int (i:Int))=.ret (.tup (aP (sy g i).un)):=by
 unfold de kC;simp only [ga,aH,Qw h];rfl
def NF {g:List Sy} (h:i < g.length):fN (kC g) (.int (i:Int))=.ret (.tup (aP (sy g i).be)):=by
 unfold fN kC;simp only [ga,aH,Qw h];rfl
theorem eq_nil (l:List Nat) (h:l.length<=1000):of2 fg (.tup (aP l)) (.tup [])=.ret (.bl l.isEmpty):=by
 have fk:fo (aP l)=true:=g9.mpr λx hx=>by
  obtain⟨n,_,rfl⟩:=Av.mp hx;simp
 have fd:dU (aP l)<=1:=hE λx hx=>by
  obtain⟨n,_,rfl⟩:=Av.mp hx;simp
 rw [wD,mo ⟨by simp [fk],by simp,by simp;omega⟩];cases l with
 | nil=>simp
 | cons a l=>simp [eF]
def VO (h:(∃s,x=.str s)\/∃n,x=.int n) (w:Str):of2 fg x (.str w)=.ret (.bl (Jf w x)):=by
 rcases h with⟨s,rfl⟩ | ⟨n,rfl⟩
 ·rw [wD,mo ⟨by simp,by simp,by simp⟩,VJ];rfl
 ·rw [wD,mo ⟨by simp,by simp,by simp⟩];simp [kE,Jf]
theorem T6 {g:List Sy} (G:WG g ws) (h:i < g.length) (w:Str):jg (kC g) (.int (i:Int)) (.str w)=.ret (.bl (hm g i w)):=by
 unfold jg;have l2:=G.vH i h;have i0:dC [(sy g i).nm,PV.int ((sy g i).lv:Int),.tup (aP (sy g i).un),.tup (aP (sy g i).be)] 0=ap (sy g i).nm:=rfl;simp only [ga,nH h,eq_nil _ (show (sy g i).un.length<=1000 by omega)];unfold kC hm;cases e:(sy g i).un.isEmpty with
 | false=>simp
 | true=>simp only [rV,aH,ga,Qw h,Sy.pv,cf,i0,wv,VO (G.nm i h) w,Fo]
abbrev Dd:=Str×Nat×Nat
def d2 (d:Dd):PV:=.tup [.str d.1,.tup [.int (d.2.1:Int),.int (d.2.2:Int)]]
abbrev dbl (i:Nat):Dd:=("doubled",i,i)
abbrev Xa (i o:Nat):List Dd:=[("over",i,o),("over",o,i)]
def xo:List Nat->List Dd
 | [a,b]=>[("split",a,b),("split",b,a)]
 | _=>[]
def dds (g:List Sy) (i:Nat):List Dd:=dbl i::(xo (sy g i).un++(sy g i).be.flatMap (Xa i))
theorem oS (i:Nat):∀l:List Nat,(l.flatMap (Xa i)).length=2*l.length
 | []=>rfl
 | a::l=>by rw [CJ,Ah,oS i l];simp;omega
def R8 (l:List Nat):(xo l).length<=2:=by unfold xo;split <;> simp
theorem YE {g:List Sy} (G:WG g ws) (h:i < g.length) {d:Dd} (hd:d∈dds g i):d.2.1 < g.length/\d.2.2 < g.length:=by
 rcases Ax.mp hd with rfl | hd
 ·exact⟨h,h⟩
 rcases AW.mp hd with hd | hd
 ·have hu:=G.dn i h;revert hu hd;generalize (sy g i).un=l;intro hd hu
  match l with
  | [a,b]=>
   have h1:=hu a (by simp);have h2:=hu b (by simp);simp [xo] at hd;rcases hd with rfl | rfl
   ·exact⟨by show a < _;omega,by show b < _;omega⟩
   ·exact⟨by show b < _;omega,by show a < _;omega⟩
  | []=>simp [xo] at hd
  | [_]=>simp [xo] at hd
  | _::_::_::_=>simp [xo] at hd
 ·obtain⟨o,ho,hd⟩:=List.mem_flatMap.mp hd;have:=G.be i h o ho;simp at hd;rcases hd with rfl | rfl
  ·exact⟨h,this⟩
  ·exact⟨this,h⟩
def fa (F:List (List Bool)) (j i:Nat):Bool:=(F.getD j []).getD i false
def lD (g:List Sy) (F:List (List Bool)) (e:Ent) (i:Nat):List Dd:=match e with
 | .word w=>if hm g i w=true then [("found",i,i)] else []
 | .pair a b=>(dds g i).filter λd=>fa F a d.2.1&&fa F b d.2.2
def Ry (n:Nat):Ent->Prop
 | .word _=>True
 | .pair a b=>a < n/\b < n
def qo {l m:List α}{d:α} (h:i < l.length):(l++m).getD i d=l.getD i d:=by
 rw [Al,AQ h,<- Al]
def lY {l m:List α}{d:α} (h:l.length<=i):(l++m).getD i d=m.getD (i-l.length) d:=by
 rw [Al,A1 h,<- Al]
def esD (es:List Ent) (j:Nat):Ent:=es.getD j (.word "")
def VP (t:Tr) (h:j < t.size):Ry j (en t 0 j):=by
 cases e:en t 0 j with
 | word w=>trivial
 | pair a b=>exact jl t h e
def Q9 (l:List PV) (h:a<=l.length):nk l (ap (a:Int)) bm=l.drop a:=by
 unfold nk;rw [HT.OB,HT.nS,Nat.min_eq_left h,C8 (by simp)]
end My
variable {f:PL.PV->FL.W PL.PV}{g:List My.Sy}
namespace My
open PySem PySem.Spec PyProof.Rows L2 PL FL
def dl (g:List Sy) (i:Nat):List Dd:=dbl i::(xo (sy g i).un++((sy g i).be.map (λo=>(("over",i,o):Dd))++(sy g i).be.map (λo=>(("over",o,i):Dd))))
theorem JO (G:WG g ws) (h:i < g.length):(dl g i).length<=63:=by
 unfold dl;simp only [Aq,Ah,Af];have:=R8 (sy g i).un;have:=G.YM i h;omega
theorem Uv (d:Dd):qj (d2 d)=true:=rfl
def M3 (p:Nat×Nat):PV:=.tup [.int (p.1:Int),.int (p.2:Int)]
def Om (G:WG g ws) (h:i < g.length):fM (kC g) (.int (i:Int))=.ret ((xo (sy g i).un).map λd=>M3 (d.2.1,d.2.2)):=by
 unfold fM;simp only [ga,nH h];have hu:=G.vH i h;revert hu;generalize (sy g i).un=l;intro hu
 match l,hu with
 | [],_=>simp only [d3,lS,oj,Aq,Bn,gj,ga,a7];rfl
 | [a],_=>simp only [d3,lS,oj,Aq,Bn,gj,ga,a7];rfl
 | [a,b],_=>
  have i0:dC [PV.int (a:Int),PV.int (b:Int)] 0=ap (.int (a:Int)):=rfl;have i1:dC [PV.int (a:Int),PV.int (b:Int)] 1=ap (.int (b:Int)):=rfl;simp only [d3,lS,oj,Aq,Bn,gj,ga,a7,aH,cf,i0,i1,wv];rfl
theorem SU (G:WG g ws) (h:i < g.length):gR (kC g) (.int (i:Int))=.ret ((sy g i).be.map (λo=>M3 (i,o))++(sy g i).be.map (λo=>M3 (o,i))):=by
 unfold gR;have l3:=G.YM i h;simp only [ga,NF h,aH];rw [jH (g:=λo=>M3 (i,o)) λk hk=>rfl];rw [jH (g:=λo=>M3 (o,i)) λk hk=>rfl];simp only [ga];rw [ib (by simp;omega)]
theorem tw {c:α->PV}{k:α->PV}:∀{l:List α},(∀x∈l,f (c x)=.ret (k x))->bC (l.map c) f=.ret (l.map k)
 | [],_=>rfl
 | x::r,h=>by
  show am (f (c x)) (λy=>am (bC (r.map c) f) λm=>bd (y::m))=_;rw [h x (.head _),tw λy hy=>h y (.tail _ hy)];rfl
theorem Np (G:WG g ws) (h:i < g.length) (q:∀m:List PV,m.Perm ((dl g i).map d2)->Q m):(fh (kC g) (Ent.pair a b).pv (.int (i:Int))).run Q:=by
 have l63:=JO G h;unfold fh;simp only [Ent.pv,ga,ci,jQ,ma,e6,gl,Au,if_false,Om G h,SU G h];refine gs (λd:Dd=>.tup [.str "split",M3 (d.2.1,d.2.2)]) (λd _ R r=>r) ?_;have em:(sy g i).be.map (λo=>M3 (i,o))++(sy g i).be.map (λo=>M3 (o,i))=((sy g i).be.map (λo=>((i,o):Nat×Nat))++(sy g i).be.map (λo=>(o,i))).map M3:=by
  rw [Aw,AB,AB];rfl
 rw [em];refine gs (λp:Nat×Nat=>.tup [.str "over",M3 p]) (λp _ R r=>r) ?_;simp only [gl,jP,ga];have es:(xo (sy g i).un).map (λd=>PV.tup [.str "split",M3 (d.2.1,d.2.2)])=(xo (sy g i).un).map d2:=by
  refine Cm λd hd=>?_;have:d.1=("split":Str):=by
   revert hd;generalize (sy g i).un=l;intro hd;unfold xo at hd
   split at hd
   ·simp at hd;rcases hd with rfl | rfl <;> rfl
   ·cases hd
  unfold d2 M3;rw [this]
 have eo:((sy g i).be.map (λo=>((i,o):Nat×Nat))++(sy g i).be.map (λo=>(o,i))).map (λp=>PV.tup [.str "over",M3 p])=((sy g i).be.map (λo=>(("over",i,o):Dd))++(sy g i).be.map (λo=>(("over",o,i):Dd))).map d2:=by
  simp only [Aw,AB];rfl
 rw [es,eo];have ll:(dl g i).length=1+(xo (sy g i).un).length+((sy g i).be.map (λo=>(("over",i,o):Dd))++(sy g i).be.map (λo=>(("over",o,i):Dd))).length:=by
  unfold dl;simp only [Aq,Ah];omega
 rw [ib (by simp only [Af,Aq,Bn];omega)];simp only [gl];rw [ib (by simp only [Af,Ah,Aq,Bn] at *;omega)];have e:([PV.tup [.str "doubled",.tup [.int (i:Int),.int (i:Int)]]]++(xo (sy g i).un).map d2)++((sy g i).be.map (λo=>(("over",i,o):Dd))++(sy g i).be.map (λo=>(("over",o,i):Dd))).map d2=(dl g i).map d2:=by
  unfold dl;simp only [Ao,Aw,Az];rfl
 simp only [gl];rw [e];refine⟨⟨by rw [Af];omega,Cc.mpr λx hx=>?_⟩,λm hm=>q m hm⟩;obtain⟨d,_,rfl⟩:=Av.mp hx;exact Uv d
theorem Dt.isD (D:Dt t ds [] d) (h:d<=99):TV t ds=true:=by
 unfold TV;rw [AL,AL,decide_eq_true_iff,decide_eq_true_iff];refine⟨D.len,?_,Cc.mpr λj hj=>?_⟩
 ·unfold Md;have hp:(splits t).Pairwise (· < ·):=by unfold splits;exact List.Pairwise.filter _ C9
  rw [List.nodup_iff_pairwise_ne,Ef];refine List.Pairwise.imp_of_mem (λ{x y} hx hy lt e=>?_) hp;obtain⟨x1,x2⟩:=Bc.mp hx;obtain⟨y1,y2⟩:=Bc.mp hy;have:=D.inj x y (A6.mp x1) (A6.mp y1) (by simp) (by simp) x2 y2 e;omega
 ·have hj':=A6.mp hj;unfold okJ;cases e:en t 0 j with
  | word w=>
   rw [D.zero j hj' (.inl (by rw [e];rfl))];rfl
  | pair a b=>
   obtain⟨_,_,h1,h2,h3,h4⟩:=D.up j hj' (by simp) a b e;show (decide (ds.getD a 0 < ds.getD j 0)&&decide (ds.getD b 0 < ds.getD j 0)&&decide (1<=ds.getD j 0)&&decide (ds.getD j 0<=99))=true;rw [decide_eq_true h1,decide_eq_true h2,decide_eq_true h3,decide_eq_true ∅];rfl
theorem uA:∀(t:Tr) (o:Nat),(t.nd o).countP vj+1=t.ay.length
 | .leaf _,_=>rfl
 | .node l r,o=>by
  have h1:=uA l o;have h2:=uA r (o+l.size);rw [Tr.nd,List.countP_append,List.countP_append];show _+(List.countP vj [Ent.pair _ _])+1=(l.ay++r.ay).length;simp [vj];omega
theorem Xt (t:Tr):t.nd 0=(AJ t.size).map (en t 0):=by
 refine B6 λj=>?_;by_cases h:j < t.size
 ·rw [iz t 0 j h,Aj,BM h];rfl
 ·rw [AV (by rw [t.bc];omega),AV (by simp;omega)]
def Ic (t:Tr):(splits t).length+1=t.ay.length:=by
 rw [<- uA t 0,Xt t,List.countP_map];unfold splits;rw [<- List.countP_eq_length_filter];rfl
def UQ.snoc {u:Nat} (r:UQ g i j) (hu:u∈(sy g j).un):UQ g i u:=by
 induction r with
 | refl i=>exact .step hu (.refl _)
 | step h _ ih=>exact .step h (ih hu)
def gS (t:Tr):List Sy:=(AJ t.size).map λj=>⟨K6 (en t 0 j) j,0,Qi (en t 0 j),Zu t j⟩
def t4 (t:Tr) (h:j < t.size):sy (gS t) j=⟨K6 (en t 0 j) j,0,Qi (en t 0 j),Zu t j⟩:=by
 unfold sy gS;rw [Al,Aj,BM h];rfl
@[simp] theorem jN (t:Tr):(gS t).length=t.size:=by unfold gS;simp
def abQ (t:Tr):kC (gS t)=.tup (grL t):=by
 unfold kC gS grL;rw [AB];congr 1
def Vh (e:Ent) (j:Nat):(∃s,K6 e j=.str s)\/∃n,K6 e j=.int n:=by
 cases e with
 | word w=>exact .inl ⟨w,rfl⟩
 | pair a b=>exact .inr ⟨_,rfl⟩
def X6 (e:Ent):(Qi e).length<=2:=by cases e <;> simp [Qi]
theorem rM:∀(s:Tr) (t:Tr) (o:Nat) (w:Str),(∀k,k < s.size->en t 0 (o+k)=en s o k)->o+s.size<=t.size->w∈s.ay->∃i,i < t.size/\UQ (gS t) (o+s.size-1) i/\en t 0 i=.word w
 | .leaf x,t,o,w,hs,hz,hw=>by
  have e0:en t 0 o=.word x:=hs 0 (by show 0 < 1;decide);have hz:o+1<=t.size:=hz;have:w=x:=by simpa [Tr.ay] using hw
  subst this;exact⟨o,by omega,.refl _,e0⟩
 | .node l r,t,o,w,hs,hz,hw=>by
  have es:(Tr.node l r).size=l.size+r.size+1:=rfl;have er:en t 0 (o+(l.size+r.size))=.pair (o+l.size-1) (o+l.size+r.size-1):=by rw [hs _ ∅,en,if_neg ∅,if_neg ∅]
  have ei:o+(Tr.node l r).size-1=o+(l.size+r.size):=by omega
  have hl:∀k,k < l.size->en t 0 (o+k)=en l o k:=λk hk=>by rw [hs k ∅,en,if_pos hk]
  have hr:∀k,k < r.size->en t 0 (o+l.size+k)=en r (o+l.size) k:=λk hk=>by rw [Bk,hs _ ∅,en,if_neg ∅,if_pos ∅,Ep]
  have un:(sy (gS t) (o+(l.size+r.size))).un=[o+l.size-1,o+l.size+r.size-1]:=by rw [t4 t ∅,er];rfl
  rw [ei];rcases AW.mp (show w∈l.ay++r.ay from hw) with hw | hw
  ·obtain⟨i,h1,h2,h3⟩:=rM l t o w hl ∅ hw;exact⟨i,h1,.step (by rw [un];simp) h2,h3⟩
  ·obtain⟨i,h1,h2,h3⟩:=rM r t (o+l.size) w hr ∅ hw;exact⟨i,h1,.step (by rw [un];simp) h2,h3⟩
theorem L1 (hz:t.size<=30):WG (gS t) t.ay:=by
 have tp:=t.size_pos;refine⟨by rw [jN];omega,by rw [jN];omega,λi hi u hu=>?_,λi hi=>?_,λi hi u hu=>?_,λi hi=>?_,λi hi=>?_,λw hw=>?_⟩
 ·rw [jN] at hi;rw [t4 t hi] at hu;cases e:en t 0 i with
  | word w=>rw [e] at hu;cases hu
  | pair a b=>
   rw [e] at hu;have:=jl t hi e;have hu:u=a\/u=b:=by simpa [Qi] using hu
   omega
 ·rw [jN] at hi;rw [t4 t hi];exact X6 _
 ·rw [jN] at hi ⊢;rw [t4 t hi] at hu;exact A6.mp (Bc.mp hu).1
 ·rw [jN] at hi;rw [t4 t hi];have:=Bx (λk=>!decide (k∈up t 0 i [])&&!decide (i∈up t 0 k [])) (AJ t.size);rw [CI] at this;show (Zu t i).length<=30;unfold Zu;omega
 ·rw [jN] at hi;rw [t4 t hi];exact Vh _ _
 ·obtain⟨i,h1,h2,h3⟩:=rM t t 0 w (λk hk=>by rw [AI]) ∅ hw;rw [AI] at h2;refine⟨i,by rw [jN];exact h1,by rw [jN];exact h2,?_⟩;unfold hm;rw [t4 t h1,h3];simp [Qi,K6,Jf]
def dS (t:Tr) (ds bs:List Int):List Sy:=(aJ t ds bs bs.length).map λp=>⟨K6 (en t 0 p.1) p.1,p.2,(HK (en t 0 p.1) p.1 (ds.getD p.1 0) (bs.getD p.2 0)).map λx=>(aJ t ds bs bs.length).idxOf (x,p.2-1),YK (aJ t ds bs bs.length) p.1 p.2⟩
def acm (t:Tr) (ds bs:List Int):kC (dS t ds bs)=.tup (Zt t ds bs):=by
 unfold kC dS Zt;rw [AB];congr 1
@[simp] theorem YF (t:Tr) (ds bs:List Int):(dS t ds bs).length=(aJ t ds bs bs.length).length:=by unfold dS;rw [Af]
theorem qB (t:Tr) (ds bs:List Int):∀m,(aJ t ds bs m).Pairwise λp q=>p.2<=q.2
 | 0=>.nil
 | m+1=>by
  rw [aJ];have Mc:∀p∈FT t ds (bs.getD m 0) m t.size,p.2=m:=λp hp=>by
   obtain⟨k,_,rfl⟩:=Av.mp hp;rfl
  refine List.pairwise_append.mpr ⟨qB t ds bs m,?_,λa ha b hb=>?_⟩
  ·exact BR.mpr λi j hi hj _=>by rw [Mc _ (Es hi),Mc _ (Es hj)];exact An _
  ·have h1:=(gL ha).1;rw [Mc b hb];omega
theorem v5 (t:Tr) (ds bs:List Int) (n:Nat):∀m,((aJ t ds bs m).filter λp=>decide (p.2=n)).length<=t.size
 | 0=>Bd _
 | m+1=>by
  rw [aJ,D6,Ah];have ih:=v5 t ds bs n m;by_cases c:n=m
  ·subst c;have z:(aJ t ds bs n).filter (λp=>decide (p.2=n))=[]:=by
    rw [EC];intro p hp;have:=(gL hp).1;simp;omega
   rw [z];have h1:=Bx (λp:Nat×Nat=>decide (p.2=n)) (FT t ds (bs.getD n 0) n t.size);have h2:=xn t ds (bs.getD n 0) n t.size;simp only [Bn];omega
  ·have z:(FT t ds (bs.getD m 0) m t.size).filter (λp=>decide (p.2=n))=[]:=by
    rw [EC];intro p hp;obtain⟨k,_,rfl⟩:=Av.mp hp;simp;omega
   rw [z];simpa using ih
section
theorem DD.above (D:DD t ds) (h:(j,n)∈aJ t ds (aR t ds) (aR t ds).length) (hn:n+1 < (aR t ds).length):∃a,(a,n+1)∈aJ t ds (aR t ds) (aR t ds).length/\j∈HK (en t 0 a) a (ds.getD a 0) ((aR t ds).getD (n+1) 0):=by
 obtain⟨hnl,hj,hs⟩:=cj.mp h;obtain⟨s1,s2⟩:=(gq hj).mp hs;have inc:=D.inc;have lt:=yo inc hn (show n < n+1 by omega);have Û:(∀a,kJ t 0 j .aG=.int ((a:Nat):Int)->(aR t ds).getD (n+1) 0 < ds.getD a 0)->∃a,(a,n+1)∈aJ t ds (aR t ds) (aR t ds).length/\j∈HK (en t 0 a) a (ds.getD a 0) ((aR t ds).getD (n+1) 0):=λhx=>
  ⟨j,cj.mpr ⟨hn,hj,(gq hj).mpr ⟨by omega,hx⟩⟩,by unfold HK;rw [if_pos ∅];exact .head _⟩
 rcases kg t 0 j .aG hj with⟨_,e⟩ | ⟨a,u,v,ja,ha,e,ep,Vz⟩
 ·exact Û λa z=>by rw [e] at z;cases z
 ·rw [AI] at e Vz;by_cases c:(aR t ds).getD (n+1) 0 < ds.getD a 0
  ·refine Û λa' z=>?_;rw [e] at z;injection z with z;have:a=a':=by omega
   subst this;exact c
  ·have sa:=s2 a e;have eq:ds.getD a 0=(aR t ds).getD (n+1) 0:=by
    rcases Int.lt_or_eq_of_le (show ds.getD a 0<=(aR t ds).getD (n+1) 0 by omega) with c2 | c2
    ·have:=(tS inc hn (D.mem ha) c2).2;rw [Nat.add_sub_cancel] at this;omega
    ·exact c2
   refine⟨a,cj.mpr ⟨hn,ha,(gq ha).mpr ⟨by omega,λa2 e2=>?_⟩⟩,?_⟩
   ·rcases kg t 0 a .aG ha with⟨_,e3⟩ | ⟨a3,u3,v3,_,h3,e3,ep3,abm⟩
    ·rw [e3] at e2;cases e2
    ·rw [e3] at e2;injection e2 with e2;rw [AI] at e2 abm;have:a3=a2:=by omega
     subst this;have:=D.pair a3 u3 v3 h3 ep3;rcases abm with rfl | rfl <;> omega
   ·unfold HK;rw [if_neg ∅,ep];rcases Vz with rfl | rfl <;> simp
theorem DD.last (D:DD t ds) (h:(j,n)∈aJ t ds (aR t ds) (aR t ds).length) (hn:n+1=(aR t ds).length):j=t.size-1:=by
 obtain⟨hnl,hj,hs⟩:=cj.mp h;obtain⟨s1,s2⟩:=(gq hj).mp hs;rcases kg t 0 j .aG hj with⟨e,_⟩ | ⟨a,u,v,ja,ha,e,ep,Vz⟩
 ·exact e
 ·exfalso;rw [AI] at e;have sa:=s2 a e;have inc:=D.inc;obtain⟨i,hi,ei⟩:=DJ (D.mem ha);have gd:(aR t ds).getD i 0=ds.getD a 0:=by rw [Al,Ad hi];exact ei
  rcases C7 i n with c | c
  ·have:=yo inc hnl c;omega
  ·have:i=n:=by omega
   subst this;omega
def Ji [BEq α] [LawfulBEq α] {l:List α} (nd:l.Nodup) {x:α} (h:l[i]?=ap x):l.idxOf x=i:=by
 obtain⟨hi,e⟩:=Ak.mp h;rw [<- e];exact nd.idxOf_getElem i hi
def J2 [BEq α] [LawfulBEq α] {l:List α}{x:α} (h:x∈l):l[l.idxOf x]?=ap x:=by
 have:=BF h;rw [Ad this,List.getElem_idxOf this]
theorem N5 (D:DD t ds) (hz:t.size<=15) (hb:(aR t ds).length<=16):WG (dS t ds (aR t ds)) t.ay:=by
 have nd:=jx t ds (aR t ds) (aR t ds).length;have Ģ:=qB t ds (aR t ds) (aR t ds).length;have lay:=λn=>v5 t ds (aR t ds) n (aR t ds).length;have ok:=D.ok;have ne:=D.ne;have ll:=jy t ds (aR t ds) (aR t ds).length;have above:=λj n=>D.above (j:=j) (n:=n);have last:=λj n=>D.last (j:=j) (n:=n);have Ī:=@cj t ds (aR t ds) (aR t ds).length;unfold okD at ok;have hS:∀i p,(aJ t ds (aR t ds) (aR t ds).length)[i]?=ap p->sy (dS t ds (aR t ds)) i=⟨K6 (en t 0 p.1) p.1,p.2,(HK (en t 0 p.1) p.1 (ds.getD p.1 0) ((aR t ds).getD p.2 0)).map λx=>(aJ t ds (aR t ds) (aR t ds).length).idxOf (x,p.2-1),YK (aJ t ds (aR t ds) (aR t ds).length) p.1 p.2⟩:=λi p hp=>by
  unfold sy dS;rw [Al,Aj,hp];rfl
 have hL:(dS t ds (aR t ds)).length=(aJ t ds (aR t ds) (aR t ds).length).length:=YF t ds _;have hmul:=Nat.mul_le_mul hb hz;generalize aJ t ds (aR t ds) (aR t ds).length=L at *;have get:∀i,i < (dS t ds (aR t ds)).length->∃p,L[i]?=ap p/\p∈L:=λi hi=>by
  rw [hL] at hi;exact⟨L[i],Ad hi,Es hi⟩
 have pos:=B8.mpr ne;have Õ:∀(i a:Nat) (p r:Nat×Nat),L[i]?=ap p->L[a]?=ap r->r.2 < p.2->a < i:=λi a p r h1 h2 lt=>by
  rcases C7 a i with c | c
  ·exact c
  ·exfalso;obtain⟨g1,e1⟩:=Ak.mp h1;obtain⟨g2,e2⟩:=Ak.mp h2;rcases D3 c with c | c
   ·subst c;rw [h1] at h2;cases h2;omega
   ·have:=BR.mp Ģ i a g1 g2 c;rw [e1,e2] at this;omega
 refine⟨by rw [hL];exact pos,by rw [hL];omega,λi hi u hu=>?_,λi hi=>?_,λi hi u hu=>?_,λi hi=>?_,λi hi=>?_,λw hw=>?_⟩
 ·obtain⟨p,hp,hm⟩:=get i hi;rw [hS i p hp] at hu;obtain⟨x,hx,rfl⟩:=Av.mp hu;obtain⟨n1,xm⟩:=ok p hm x hx;exact Õ i _ p (x,p.2-1) hp (J2 xm) (by show p.2-1 < p.2;omega)
 ·obtain⟨p,hp,hm⟩:=get i hi;rw [hS i p hp];unfold HK
  split
  ·simp
  ·cases en t 0 p.1 <;> simp
 ·obtain⟨p,hp,hm⟩:=get i hi;rw [hS i p hp] at hu;unfold YK at hu;obtain⟨x,hx,rfl⟩:=Av.mp hu;rw [hL];exact BF (Bc.mp hx).1
 ·obtain⟨p,hp,hm⟩:=get i hi;rw [hS i p hp];unfold YK;rw [Af];have h1:=lay p.2;have h2:(L.filter λq=>decide (q.2=p.2)&&!decide (q.1=p.1)).length<=(L.filter λq=>decide (q.2=p.2)).length:=by
   have e:L.filter (λq=>decide (q.2=p.2)&&!decide (q.1=p.1))=(L.filter λq=>decide (q.2=p.2)).filter λq=>!decide (q.1=p.1):=by
    rw [List.filter_filter];refine congrArg (λf=>L.filter f) (funext λq=>Bool.and_comm _ _)
   rw [e];exact Bx _ _
  omega
 ·obtain⟨p,hp,hm⟩:=get i hi;rw [hS i p hp];exact Vh _ _
 ·
  have æ:∀k i,i+k+1=L.length->UQ (dS t ds (aR t ds)) (L.length-1) i:=λk=>by
   induction k using EN with
   | ind k ih=>
    intro i hk;obtain⟨⟨j,n⟩,hp,hm⟩:=get i (by rw [hL];omega);have nl:=(Ī.mp hm).1;by_cases c:n+1 < (aR t ds).length
    ·obtain⟨a,ha,hb⟩:=above j n hm c;have ia:=J2 ha;have lt:=Õ _ i (a,n+1) (j,n) ia hp (by show n < n+1;omega);have il:=BF ha;have r:=ih (L.length-L.idxOf (a,n+1)-1) ∅ (L.idxOf (a,n+1)) ∅;refine r.snoc ?_;rw [hS _ _ ia];refine Av.mpr ⟨j,hb,?_⟩;exact Ji nd hp
    ·have hj:=last j n hm ∅;have:i=L.length-1:=by
      obtain⟨⟨j2,n2⟩,yq,Zd⟩:=get (L.length-1) (by rw [hL];omega);have n2l:=(Ī.mp Zd).1;rcases C7 n2 n with c2 | c2
      ·have:=Õ i (L.length-1) _ _ hp yq c2;omega
      ·have en2:n2=n:=by omega
       have RJ:=last j2 n2 Zd ∅;subst en2;rw [RJ,<- hj] at yq;exact (Ji nd hp).symm.trans (Ji nd yq)
     rw [this];exact .refl _
  obtain⟨j,hj,_,ej⟩:=rM t t 0 w (λk hk=>by rw [AI]) ∅ hw;have b0:(aR t ds).getD 0 0=0:=rfl;have mem:(j,0)∈L:=Ī.mpr ⟨by simp [aR],hj,(gq hj).mpr ⟨by rw [D.leaf j w hj ej,b0];exact Dy _,λa ea=>by
   rcases kg t 0 j .aG hj with⟨_,e⟩ | ⟨a',u,v,_,ha,e,ep,_⟩
   ·rw [e] at ea;cases ea
   ·rw [e,AI] at ea;injection ea with ea;have:a'=a:=by omega
    subst this;have:=(D.pair a' u v ha ep).2.2;rw [b0];omega⟩⟩
  have il:=BF mem;refine⟨L.idxOf (j,0),by rw [hL];exact il,by rw [hL];exact æ (L.length-L.idxOf (j,0)-1) _ ∅,?_⟩;unfold hm;rw [hS _ _ (J2 mem)];unfold HK;rw [b0,D.leaf j w hj ej,if_neg ∅,ej];simp [K6,Jf]
end
theorem Gs {S:PV->Prop}:∀{l:List PV},(∀x∈l,∀R:PV->Prop,(∀v,S v->R v)->(f x).run R)->∀{Q:List PV->Prop},(∀m,m.length=l.length->(∀v∈m,S v)->Q m)->(bC l f).run Q
 | [],_,Q,q=>q [] rfl (λ_ h=>nomatch h)
 | x::l,h,Q,q=>by
  show (am (f x) λy=>am (bC l f) λm=>bd (y::m)).run Q;simp only [ci];refine h x (.head _) _ λv hv=>?_;refine Gs (λy hy=>h y (.tail _ hy)) λm hm hs=>?_;exact q (v::m) (by simp [hm]) λu hu=>by
   rcases Ax.mp hu with rfl | hu
   ·exact hv
   ·exact hs u hu
theorem Kv:∀{m:List PV}{ls:List Str},(∀v∈m,∃w∈ls,v=PV.str w)->∃ws:List Str,m=ws.map PV.str/\∀w∈ws,w∈ls
 | [],_,_=>⟨[],rfl,λ_ h=>nomatch h⟩
 | v::m,ls,h=>by
  obtain⟨w,hw,rfl⟩:=h v (.head _);obtain⟨ws,rfl,h2⟩:=Kv (m:=m) (ls:=ls) λu hu=>h u (.tail _ hu);exact⟨w::ws,rfl,λx hx=>by
   rcases Ax.mp hx with rfl | hx
   ·exact hw
   ·exact h2 x hx⟩
theorem Od:∀ns l Q,gN ns->((cq 1 bx) l).run Q->((λlo l=>cq 1 (dQ lo) l) (ns.map PV.int) l).run λt=>Q t.1/\∃Gi:List Int,t.2=Gi.map PV.int/\gN Gi:=by
 rintro ns l Q ⟨g,s,c,rfl,g0,s0,s1,c0⟩ q
 match l,q with
 | [],q=>exact q.elim
 | _::_::_,q=>exact q.elim
 | [x],q=>
  show (dQ _ x).run _;have q:=q;cases x with
  | int m=>
   obtain⟨⟨m0,m1⟩,q⟩:=q;have q:∀d:Int,0<=d->d < m->Q (.int d):=λd h0 h1=>q _ ⟨d,rfl,h0,h1⟩;unfold dQ;generalize hA:(2147483647:Int)=A;generalize hB:(2147483629:Int)=B;generalize hD:(40009:Int)=D;have A0:0 < A:=by omega
   have B0:0 < B:=by omega
   have D0:0 < D:=by omega
   have e1:wP s 48271:=mulR ∅;have nx:∀N,N=(s*48271+12345+(c+1)) % A->(wP N (N % D+3))/\((Q (PV.int (N*(N % D+3) % B / 7 % m))))/\∃Gi:List Int,[PV.int g,PV.int N,PV.int (c+1)]=Gi.map PV.int/\gN Gi:=λN hN=>by
    have N0:0<=N:=by rw [hN];exact CA _ ∅
    have N1:N < A:=by rw [hN];exact Cg _ A0
    exact⟨Vj ∅ ∅,q _ (CA _ ∅) (Cg _ m0),[g,N,c+1],rfl,_,_,_,rfl,g0,N0,by omega,by omega⟩
   obtain⟨k1,k2,k3⟩:=nx _ rfl;by_cases hg:0 < g
   ·by_cases hc:c+1<=60
    ·simp [dC,wq,hg,hc,m0,kI,NP];refine⟨by omega,q _ (CA _ ∅) (Cg _ m0),[g / m,s,c+1],rfl,_,_,_,rfl,Int.ediv_nonneg g0 ∅,s0,s1,by omega⟩
    ·simp [dC,wq,hg,hc,m0,kI,e1,A0,B0,D0,NP];exact⟨k1,k2,k3⟩
   ·simp [dC,wq,hg,m0,kI,e1,A0,B0,D0,NP];exact⟨k1,k2,k3⟩
  | _=>exact q.elim
theorem Qq {k:Int} (k0:0<=k) (k1:k<=1000) (q:∀l,(∃ms:List Int,l=ms.map PV.int/\gN ms)->Q l):(fP (.cl (ns.map PV.int)) (.int k)).run Q:=by
 unfold fP;generalize hA:(2147483647:Int)=A;generalize hB:(2147483629:Int)=B;have A0:0 < A:=by omega
 have B0:0 < B:=by omega
 have fin:∀x:Int,((PV.int x)\λlH=>am (b2 pV (c1 Ho (bd lH)) (c1 J1 (b2 oGe (c1 Ho (bd lH)) (b2 Pm (bd (.int 10)) (bd (.int 18)))))) λgA=>
  (gA\λx3=>am (b2 oMod (b2 pV (w2 addW (w2 addW (b2 oMod (bd lH) (bd (.int B))) (b2 pV (b2 pV (bd (.int 7919)) (bd (.int k))) (bd (.int k)))) (bd (.int 11))) (bd (.int 48271))) (bd (.int A))) λx4=>(.int 0)\λx5=>bd [x3,x4,x5])).run Q:=by
  intro x;have p2:RB 10 18:=⟨by decide,by decide,by decide⟩;simp only [ga,Yx,QN,mo p2,QO,QP,ab7,Uj,c7,W.Ra,W.Si,gl,mo (mulL (show -1000000000<=(7919:Int)/\(7919:Int)<=1000000000 by decide)),mo A0,mo B0];refine⟨?_,mulR ∅,mulR ∅,?_⟩
  ·split
   ·exact mulR ∅
   ·exact mulR ∅
  ·refine q _ ⟨[_,_,_],rfl,_,_,_,rfl,Int.mul_nonneg (YS _) ?_,CA _ ∅,by have:=Cg ((x % B+7919*k*k+11)*48271) A0;omega,Dy _⟩
   split <;> split <;> decide
 by_cases iA:k < (ns.length:Int)
 ·obtain⟨v,e,e2⟩:=Rn (xs:=ns.map PV.int) k0 (by rw [Af];exact iA);rw [Aj] at e2;obtain⟨c,rfl⟩:∃c,v=.int c:=by
   cases z:ns[k.toNat]? with
   | none=>rw [z] at e2;cases e2
   | some c=>rw [z] at e2;exact⟨c,(Option.some.inj e2).symm⟩
  simp only [ga,fw,G5,Af,iA,decide_true,a7,if_true,bO,cf,e,wv];exact fin c
 ·simp only [ga,fw,G5,Af,iA,decide_false,a7,Au,if_false];exact fin 0
def aaY (h:x∈[PV.str "",PV.str "",PV.str "a",PV.str "zq",PV.str "mnopqrs"]):∃y:Str,x=.str y/\Part y 7:=by
 simp at h;rcases h with rfl | rfl | rfl | rfl
 ·exact⟨"",rfl,by decide +kernel,by decide +kernel⟩
 ·exact⟨"a",rfl,by decide +kernel,by decide +kernel⟩
 ·exact⟨"zq",rfl,by decide +kernel,by decide +kernel⟩
 ·exact⟨"mnopqrs",rfl,by decide +kernel,by decide +kernel⟩
def aaZ (h:x∈[PV.int 1,PV.int 3,PV.int 5,PV.int 7,PV.int 9,PV.int 11]):∃st:Int,x=.int st/\(st=1\/st=3\/st=5\/st=7\/st=9\/st=11):=by
 simp at h;rcases h with rfl | rfl | rfl | rfl | rfl | rfl <;> exact⟨_,rfl,by decide⟩
theorem N4 {c:Nat} (b:Part y 7) (h0:97<=c) (h1:c < 123):Wd ((⟨#[c]⟩:Str)++y):=by
 have hl:((⟨#[c]⟩:Str)++y).length=1+y.length:=by rw [Str.length_append];rfl
 have:=b.1;refine⟨by omega,by omega,λd hd=>?_⟩;have e:((⟨#[c]⟩:Str)++y).cps.toList=c::y.cps.toList:=by
  show ((⟨#[c]⟩:Str).cps++y.cps).toList=_;simp
 rw [e] at hd;rcases Ax.mp hd with rfl | hd
 ·exact⟨h0,h1⟩
 ·exact b.2 d hd
theorem HU (m1:m<=26) (q:∀ws:List Str,ws.length=m->(∀x∈ws,Wd x)->ws.Nodup->(ws.map λx=>x.cps[0]?).Nodup->Q (ws.map PV.str)):(dh (.int m)).run Q:=by
 unfold dh;simp only [ga,ci,b9 26 ⋯ ⋯];refine a8 λd a b=>?_;refine pick_run (by simp) (by simp) λx hx=>?_;obtain⟨st,rfl,rQ⟩:=aaZ hx;simp only [gl,m4];refine pick_run (by simp) (by simp) λy hy=>?_;obtain⟨tl,rfl,ht⟩:=aaY hy;simp only [c6,mo (bg (i:=0) (j:=(m:Int)) ∅ ∅),gl,A2];rw [lW]
 let w:Nat->Str:=λk=>⟨#[97+((d+st*(0+(k:Int))) % 26).toNat]⟩++tl
 refine MC (λk=>.str (w k)) (λk hk=>?_) ?_
 ·have e0:0<=(d+st*(0+(k:Int))) % 26:=CA _ ⋯;have e1:(d+st*(0+(k:Int))) % 26 < 26:=Cg _ ⋯;have e2:(d+st*(k:Int))=d+st*(0+(k:Int)):=by rw [EE]
  have c1:wP st (k:Int):=mulL ∅;have c2:("abcdefghijklmnopqrstuvwxyz":Str).length<=sizeLine:=by decide +kernel
  have c3:(⟨#[97+((d+st*(0+(k:Int))) % 26).toNat]⟩:Str).length+tl.length<=sizeLine:=bF (by have:=ht.1;show 1+tl.length<=1000;omega);simp only [ga,QO,mo c1,c7,QP,mo (show (0:Int) < 26 by decide),e2,Yw _ _ (MJ e0 e1),mo c2,Uk,mo c3];rfl
 ·have e:(AJ m).map (λk=>PV.str (w k))=((AJ m).map w).map PV.str:=by rw [AB];rfl
  have nd:(((AJ m).map w).map λx=>x.cps[0]?).Nodup:=by
   have:=vd (d:=d) rQ m1;rw [AB];have e2:((λx:Str=>x.cps[0]?)∘w)=λk:Nat=>ap (97+((d+st*(0+(k:Int))) % 26).toNat):=by
    funext k;show ((⟨#[97+((d+st*(0+(k:Int))) % 26).toNat]⟩:Str).cps++tl.cps)[0]?=_;rw [Array.getElem?_append_left (by simp)];rfl
   rw [e2];exact this
  rw [e];refine q _ (by simp) (λx hx=>?_) (xI (g:=λx:Str=>x.cps[0]?) nd) nd;obtain⟨k,_,rfl⟩:=Av.mp hx;have e0:0<=(d+st*(0+(k:Int))) % 26:=CA _ ⋯;have e1:(d+st*(0+(k:Int))) % 26 < 26:=Cg _ ⋯;exact N4 ht ∅ ∅
def O5 (h:l[j]?=ap v) (hl:l.length<=1000):xB l (.int (j:Int))=.ret (l.eraseIdx j,v):=by
 have hj:=(Ak.mp h).1;unfold xB;simp only [Ll hj,wv,ga,h,mo (bF hl)]
def QC {l:List Tr}{x p y:Tr} (h:l[j]?=ap y) (hp:p.ay.Perm (x.ay++y.ay)):((l.set j p).flatMap Tr.ay).Perm (x.ay++l.flatMap Tr.ay):=by
 induction l generalizing j with
 | nil=>simp at h
 | cons a l ih=>cases j with
  | zero=>
   simp at h;subst h;simp only [List.set_cons_zero,CJ];rw [<- Az];exact hp.append_right _
  | succ j=>
   simp only [List.set_cons_succ,CJ];have:=(ih (j:=j) (by simpa using h)).append_left a.ay;refine this.trans ?_;rw [<- Az,<- Az];exact CD.append_right _
def Jv {l:List Tr}{x:Tr} (h:l[j]?=ap x):(x.ay++(l.eraseIdx j).flatMap Tr.ay).Perm (l.flatMap Tr.ay):=by
 induction l generalizing j with
 | nil=>simp at h
 | cons a l ih=>cases j with
  | zero=>simp at h;subst h;simp
  | succ j=>
   simp only [Cq,CJ];have:=(ih (j:=j) (by simpa using h)).append_left a.ay;refine List.Perm.trans ?_ this;rw [<- Az,<- Az];exact CD.append_right _
def MD {l:List Tr}:(l.map Tr.pv).eraseIdx j=(l.eraseIdx j).map Tr.pv:=by
 induction l generalizing j with
 | nil=>simp
 | cons a l ih=>cases j with
  | zero=>simp
  | succ j=>simp [ih]
theorem tQ (hw:ws≠[]) (h8:ws.length<=100) {Q:PV->Prop} (q:∀t:Tr,t.ay.Perm ws->Q t.pv):(cS (.cl (ws.map PV.str))).run Q:=by
 have hp:0 < ws.length:=B8.mpr hw;unfold cS;simp only [ga,ci,bO,gl,yS,ug,Af,c6,mo (bg (i:=0) (j:=(ws.length:Int)-1) ∅ ∅)];refine fX (λi s=>∃ts:List Tr,s=ts.map Tr.pv/\ts.length+i=ws.length/\(ts.flatMap Tr.ay).Perm ws) ⟨ws.map Tr.leaf,by simp [Tr.pv],by simp,?_⟩ ?_ ?_
 ·rw [List.flatMap_map];have:ws.flatMap (λx=>(Tr.leaf x).ay)=ws:=by simp [Tr.ay,List.flatMap_singleton']
  rw [this]
 ·rintro i s hi ⟨ts,rfl,hl,hp⟩;have h2:2<=ts.length:=by omega
  simp only [ga,ci,yS,Af,b9 (ts.length:Int) ∅ ∅,gl];refine a8 λd d0 d1=>?_;obtain⟨j,rfl⟩:∃j:Nat,d=(j:Int):=⟨d.toNat,by omega⟩;obtain⟨x,hx⟩:∃x,ts[j]?=ap x:=⟨_,Ad ∅⟩;have Ĺ:(ts.eraseIdx j).length=ts.length-1:=by rw [E9];simp;omega
  simp only [O5 (l:=ts.map Tr.pv) (v:=x.pv) (by rw [Aj,hx];rfl) (by rw [Af];omega),gl,MD,yS,Af,Ĺ,b9 ((ts.length-1:Nat):Int) ∅ ∅];refine a8 λe e0 e1=>?_;obtain⟨m,rfl⟩:∃m:Nat,e=(m:Int):=⟨e.toNat,by omega⟩;obtain⟨y,hy⟩:∃y,(ts.eraseIdx j)[m]?=ap y:=⟨_,Ad ∅⟩;have i0:dC ((ts.eraseIdx j).map Tr.pv) (m:Int)=ap y.pv:=cK (by rw [Aj,hy];rfl);have hm:m < ((ts.eraseIdx j).map Tr.pv).length:=by rw [Af,Ĺ];omega
  simp only [ga,cf,i0,wv,gl,b9 2 ⋯ ⋯];refine a8 λf _ _=>?_;have fin:∀p:Tr,p.ay.Perm (x.ay++y.ay)->(kI ((ts.eraseIdx j).map Tr.pv) (.int (m:Int)) p.pv).run λs=>∃ts:List Tr,s=ts.map Tr.pv/\ts.length+(i+1)=ws.length/\(ts.flatMap Tr.ay).Perm ws:=λp ı=>by
   rw [nN hm];exact⟨(ts.eraseIdx j).set m p,by rw [EA],by rw [BO,Ĺ];omega,(QC hy ı).trans ((Jv hx).trans hp)⟩
  simp only [gj,a7,gl];cases c:f==0 with
  | true=>exact fin (.node x y) (List.Perm.refl _)
  | false=>
   simp only [Au,if_false,ga,Jx,oU,LA,ci,gl];exact fin (.node y x) CD
 ·rintro s ⟨ts,rfl,hl,hp⟩
  match ts,hl,hp with
  | [],hl,_=>simp at hl;omega
  | [t],_,hp=>
   have:t.ay.Perm ws:=by simpa using hp
   exact q t this
  | _::_::_,hl,_=>simp at hl;omega
end My
variable {Q:PL.PV->Prop}{n:Int}
namespace My
open PySem PySem.Spec PyProof.Rows L2 PL FL
theorem Jm (n0:0 < n) (n1:n<=8) (q:∀(t:Tr) (ws:List Str),xb t->t.ay.Perm ws->Q (.tup [t.pv,.cl (ws.map PV.str)])):(dj (.int n)).run Q:=by
 unfold dj;simp only [ga,ci,b9 n n0 ∅];refine a8 λk k0 k1=>?_;obtain⟨m,hm⟩:∃m:Nat,1+k=(m:Int):=⟨(1+k).toNat,by omega⟩;simp only [c7,gl,hm];refine HU ∅ λws hl hw hd hb=>?_;refine tQ (λz=>by rw [z] at hl;simp at hl;omega) ∅ λt ht=>?_;exact q t ws ⟨λx hx=>hw x (ht.mem_iff.mp hx),ht.nodup_iff.mpr hd,by rw [ht.length_eq,hl];omega,0,by decide,(ht.map _).nodup_iff.mpr hb⟩ ht
theorem Ie (hw:ws≠[]) (h8:ws.length<=100) (n0:0 < n) (n1:n<=10) (q:∀s:Tr,(∀w∈s.ay,w∈ws)->s.ay.length<=n->Q s.pv):(di (.cl (ws.map PV.str)) (.int n)).run Q:=by
 unfold di;simp only [ga,ci,b9 n n0 ∅];refine a8 λk k0 k1=>?_;obtain⟨m,hm⟩:∃m:Nat,1+k=(m:Int):=⟨(1+k).toNat,by omega⟩;simp only [c7,gl,hm,c6,mo (bg (i:=0) (j:=(m:Int)) ∅ ∅),A2];refine Gs (S:=λv=>∃w∈ws,v=PV.str w) (λx _ R r=>pick_run (by simpa using hw) (by rw [Af];omega) λv hv=>r v (let ⟨w,h1,h2⟩:=Av.mp hv;⟨w,h1,h2.symm⟩)) λms hl hs=>?_;obtain⟨us,rfl,hu⟩:=Kv hs;rw [jh,Af] at hl;exact tQ (λz=>by rw [z] at hl;simp at hl;omega) ∅ λs hp=>q s (λw h=>hu w (hp.mem_iff.mp h)) (by rw [hp.length_eq];omega)
theorem jJ:∀(n:Nat) (t:Tr),t.depth < n->t.size<=400->(aV n t.pv).le (.ret ((t.nd 0).map Ent.pv))
 | 0,_,h,_=>by omega
 | n+1,.leaf w,_,_=>λQ q=>by
  unfold aV;simp [Tr.pv];exact q
 | n+1,.node a b,h,hz=>λQ q=>by
  have hs:(Tr.node a b).size=a.size+b.size+1:=rfl;have hpa:=a.size_pos;have hpb:=b.size_pos;have hd:a.depth < n/\b.depth < n:=by simp [Tr.depth] at h;omega
  unfold aV;have i0:dC [a.pv,b.pv] 0=ap a.pv:=rfl;have i1:dC [a.pv,b.pv] 1=ap b.pv:=rfl;simp only [Tr.pv,ga,ci,jQ,ma,e6,Au,if_false,aH,cf,i0,i1,wv];refine W.le.use (jJ n a hd.1 ∅) ?_;simp only [gl];refine W.le.use (jJ n b hd.2 ∅) ?_;simp only [gl,bO];refine gC (λi s=>s=(((b.nd 0).take i).map (Ww a.size)).map Ent.pv) (by simp) (λi x s hx hs=>?_) (λs hs=>?_)
  ·subst hs;rw [Aj] at hx;cases e:(b.nd 0)[i]? with
   | none=>rw [e] at hx;cases hx
   | some en=>
    rw [e] at hx;have ex:=Option.some.inj hx;subst ex;have hi:i < b.size:=by have:=(Ak.mp e).1;rw [b.bc] at this;exact this
    have et:(b.nd 0).take (i+1)=(b.nd 0).take i++[en]:=by rw [CO,e];rfl
    have al:∀y,fY ((((b.nd 0).take i).map (Ww a.size)).map Ent.pv) y=.ret ((((b.nd 0).take i).map (Ww a.size)).map Ent.pv++[y]):=λy=>dr (by simp;omega);cases en with
    | word w=>
     simp only [Ent.pv,ga,ci,yU,yT,e6,al,gl,et,El,Au,if_false];simp [Ww,Ent.pv]
    | pair u v=>
     have j0:dC [PV.int (u:Int),PV.int (v:Int)] 0=ap (.int u):=rfl;have j1:dC [PV.int (u:Int),PV.int (v:Int)] 1=ap (.int v):=rfl;simp only [Ent.pv,ga,ci,jQ,ma,e6,Fb,if_true,aH,cf,j0,j1,wv,c7,fw,Af,a.bc,al,gl,et];simp [Ww,Ent.pv]
  ·subst hs;rw [C8 (by rw [Af];exact An _)];have es:(b.nd 0).map (Ww a.size)=b.nd a.size:=by rw [<- IB b 0 a.size,AI]
   rw [es];simp only [ga,ci,jP,ug,fw,c7,Af,a.bc,b.bc,gl,ib (l:=(a.nd 0).map Ent.pv) (m:=(b.nd a.size).map Ent.pv) (by simp [a.bc,b.bc];omega)];rw [ib (by simp [a.bc,b.bc];omega)];have e:(Tr.node a b).nd 0=a.nd 0++b.nd a.size++[.pair (a.size-1) (a.size+b.size-1)]:=by rw [Tr.nd];simp
   rw [e] at q;have e1:((a.size:Int)-1)=((a.size-1:Nat):Int):=by omega
   have e2:((a.size:Int)+(b.size:Int)-1)=((a.size+b.size-1:Nat):Int):=by omega
   rw [e1,e2];simpa [Ent.pv] using q
end My
variable {l:List Nat}
namespace My
open PySem PySem.Spec PyProof.Rows L2 PL FL
def Sn (h:j∈left):WH (aP left) (.int (j:Int))=.ret (aP (left.erase j)):=by
 show am (mM (aP left)) _=_;rw [vU,gH];show W.fB _ _=_;rw [mo (Av.mpr ⟨j,h,rfl⟩),uh,<- vU]
def Gk (h:(aP l)[i]?=ap x):∃k,l[i]?=ap k/\x=.int (k:Int):=by
 unfold aP at h;rw [Aj] at h;cases e:l[i]? with
 | none=>rw [e] at h;cases h
 | some k=>rw [e] at h;exact⟨k,rfl,(Option.some.inj h).symm⟩
theorem JR (t:Tr) (hz:t.size<=400) (hd:t.depth < 12) (q:∀ds d,Dt t ds [] d->d<=13*((splits t).length:Int)->Q (.tup (br ds))):(dq t.pv).run Q:=by
 unfold dq;have e1:Sm [PV.int 0] (.int ((t.nd 0).map Ent.pv).length)=.ret (br (Am t.size 0)):=by
  rw [Yq,mo ⟨by omega,by rw [Af,t.bc];omega,bF (by simp [t.bc];omega)⟩];congr 1;rw [Af,t.bc,A2]
  induction t.size with
  | zero=>rfl
  | succ n ih=>rw [Bw,B5,ih];rfl
 have e3:((t.nd 0).map Ent.pv).length<=sizeLine:=bF (by rw [Af,t.bc];omega);simp only [ga,ci];refine W.le.use (jJ 12 t hd hz) ?_;simp only [ga,fw,e1,bO,mo e3,gl];refine aa1 Tj (λx hx=>?_) ?_
 ·rw [LB] at hx;obtain⟨j,hj,rfl⟩:=Av.mp hx;cases en t 0 j with
  | word w=>simp [Ent.pv,Tj]
  | pair u v=>simp [Ent.pv,Tj]
 rw [XD t];have hsl:(splits t).length<=t.size:=by
  have:=KN (splits t) 0 t.size (Dt.first t).ris λx hx=>⟨Bd _,((Dt.first t).Y9 x hx).1⟩;omega
 simp only [gl,yS,dN,c6,mo (bg (i:=0) (j:=((splits t).length:Int)) ∅ ∅),A2];refine fX (λi s=>∃(ds:List Int) (left:List Nat) (d:Int),s=(br ds,PV.int d,aP left)/\left.length+i=(splits t).length/\Dt t ds left d/\d+13*(left.length:Int)<=13*((splits t).length:Int)) ⟨_,_,0,rfl,rfl,Dt.first t,by omega⟩ ?_ ?_
 ·rintro i s hi ⟨ds,left,d,rfl,hl,D,hd⟩;have he:left≠[]:=λz=>by rw [z] at hl;simp at hl;omega
  have ô:left.length<=t.size:=by omega
  simp only [ga,ci,gl];refine gC (λi s=>s=aP ((left.take i).filter (NR t left))) (by simp [aP]) (λi x s hx hs=>?_) (λs hs=>?_)
  ·obtain⟨k,hk,rfl⟩:=Gk hx;subst hs;have hkm:=A7 hk;have et:left.take (i+1)=left.take i++[k]:=by rw [CO,hk];rfl
   have Zg:=(Ak.mp hk).1;have fl:((left.take i).filter (NR t left)).length<=i:=by
    have:=Bx (NR t left) (left.take i);have:=DH i left;omega
   have al:fY (aP ((left.take i).filter (NR t left))) (.int (k:Int))=.ret (aP ((left.take i).filter (NR t left))++[.int (k:Int)]):=dr (by rw [dN];omega);obtain⟨h1,h2⟩:=D.Y9 k hkm;cases e:en t 0 k with
   | word w=>rw [e] at h2;cases h2
   | pair a b=>
    have j0:dC [PV.int (a:Int),PV.int (b:Int)] 0=ap (.int a):=rfl;have j1:dC [PV.int (a:Int),PV.int (b:Int)] 1=ap (.int b):=rfl;have hr:NR t left k=(!decide (a∈left)&&!decide (b∈left)):=by unfold NR;rw [e]
    rw [et,D6];simp only [ga,bO,cf,Xu t h1,e,Ent.pv,wv,aH,j0,j1,Qe,if_true];by_cases ca:a∈left
    ·simp [ca,hr,aP]
    ·by_cases cb:b∈left
     ·simp [ca,cb,hr,aP]
     ·simp [ca,cb,hr,al]
  ·subst hs;rw [dN,CS];have ne:=D.aak he;refine pick_run ne (by rw [dN];have:=Bx (NR t left) left;omega) λx hx=>?_;obtain⟨j,hj,rfl⟩:=Av.mp hx;obtain⟨Yc,RJ⟩:=Bc.mp hj;obtain⟨js,jp⟩:=D.Y9 j Yc;cases ej:en t 0 j with
   | word w=>rw [ej] at jp;cases jp
   | pair a b=>
   unfold NR at RJ;rw [ej] at RJ;simp at RJ;simp only [c7,gl,b9 12 ⋯ ⋯,ga];refine a8 λy y0 y1=>?_;simp only [c7,gl,nN (l:=br ds) (k:=j) (by rw [fV,D.len];exact js),Sn Yc,Qd,ga];refine⟨_,left.erase j,_,rfl,by rw [Ek Yc];have:=EB Yc;omega,D.next Yc ej RJ.1 RJ.2 y0,?_⟩;rw [Ek Yc];have:=EB Yc;omega
 ·rintro s ⟨ds,left,d,rfl,hl,D,hd⟩;have:left=[]:=B1 ∅;subst this;simp;exact q ds d D (by simpa using hd)
theorem Ma (g:xb t) (q:∀s,WG s t.ay->Q (kC s)):(eX t.pv).run Q:=by
 have hz:=g.size;have hdp:=g.depth;unfold eX;simp only [ga,ci,b9 2 ⋯ ⋯];refine a8 λd _ _=>?_;simp only [gj,a7,gl];cases c:d==0 with
 | true=>
  simp only [if_true];refine M9 t ∅ Q ?_;rw [<- abQ];exact q _ (L1 ∅)
 | false=>
  simp only [Au,if_false,ci];refine JR t ∅ ∅ λds d D aj5=>?_;have T4:(splits t).length<=7:=by have:=Ic t;have:=g.few;omega
  have DDt:=DD.of (D.isD ∅);have hb:(aR t ds).length<=16:=by unfold aR;rw [Aq,pL];have:=KC t ds;omega
  refine Q7 DDt ∅ Q ?_;rw [<- acm];exact q _ (N5 DDt hz hb)
theorem sS (q:∀ps:List Int,ps.length=4->(∀p∈ps,0<=p)->Q (.tup (br ps))):bS.run Q:=by
 unfold bS;have p2:RB 10 28:=⟨by decide,by decide,by decide⟩;simp only [ga,ci,gl,c6,mo (bg (i:=0) (j:=4) ∅ ∅)];refine fX (n:=4) (λi s=>∃ps:List Int,s=br ps/\ps.length=i/\∀p∈ps,0<=p) ⟨[],rfl,rfl,by simp⟩ ?_ ?_
 ·rintro i s hi ⟨ps,rfl,hl,hp⟩;simp only [ga,ci,gl,b9 10 ⋯ ⋯];refine a8 λa a0 a1=>?_;simp only [b9 1001 ⋯ ⋯];refine a8 λb b0 b1=>?_;simp only [jP,gl,QN,mo p2,b9 1000 ⋯ ⋯];refine a8 λc c0 c1=>?_;simp only [c7,gl];rw [ib (by simp)];refine pick_run (by simp) (by simp) λx hx=>?_;have Ĥ:(0:Int)<=10 ^ Int.toNat 28:=by decide +kernel
  obtain⟨v,rfl,hv⟩:∃v:Int,x=.int v/\0<=v:=by
   simp at hx;rcases hx with rfl | rfl | rfl | rfl | rfl | rfl | rfl | rfl | rfl
   all_goals first | exact⟨_,rfl,by omega⟩ | exact⟨_,rfl,by have:=Ĥ;simp at this;omega⟩
  rw [dr (by rw [fV];omega)];exact⟨ps++[v],by simp [br],by simp [hl],λp h=>by rcases AW.mp h with h | h;exact hp p h;rw [AN.mp h];exact hv⟩
 ·rintro s ⟨ps,rfl,hl,hp⟩;exact q ps hl hp
theorem Rc {m:Int} (n0:0 < n) (n1:n<=8) (m0:0 < m) (m1:m<=10) (q:∀(g:List Sy) (ws:List Str) (t:Tr) (ps:List Int),WG g ws->(∀w∈t.ay,w∈ws)->t.ay.length<=10->ps.length=4->(∀p∈ps,0<=p)->Q (.tup [kC g,t.pv,.cl ((t.nd 0).map Ent.pv),.tup (br ps)])):(fR (.int n) (.int m)).run Q:=by
 unfold fR;simp only [ga,ci];refine Jm n0 n1 λt ws G hp=>?_;simp only [m4,gl];refine Ma G λg wg=>?_;have hl:=hp.length_eq;have:=G.few;have:=t.jK;refine Ie (λz=>by rw [z,Bn] at hl;omega) ∅ m0 m1 λs hs hn=>?_;have h1:=s.size_eq;have h2:=s.oW;refine W.le.use (jJ 12 s ∅ ∅) ?_;refine sS λps p4 p0=>?_;exact q g t.ay s ps wg (λw h=>hp.mem_iff.mpr (hs w h)) ∅ p4 p0
end My
variable {ps:List Int}{d:B3}
namespace My
open PySem PySem.Spec PyProof.Rows L2 PL FL
abbrev OI:=Option Int
def oP:OI->PV
 | none=>.aG
 | some i=>.int i
def zS (l:List OI):List Int:=l.filterMap id
def uT (l:List OI):OI:=if bm∈l then bm else ap (zS l).sum
def tm (l:List OI):OI:=if zS l=[] then bm else ap (pW (zS l))
theorem K3:∀{l:List OI},bm∉l->l.map oP=(zS l).map PV.int
 | [],_=>rfl
 | none::l,h=>absurd (.head _) h
 | some a::l,h=>by
  have:=K3 (l:=l) λz=>h (.tail _ z);rw [Ao,this];rfl
def Yn (l:List OI):(l.map oP).filterMap (λx=>if x matches .aG then bm else ap x)=(zS l).map PV.int:=by
 induction l with
 | nil=>rfl
 | cons a l ih=>cases a with
  | none=>rw [Ao,A9];exact ih
  | some i=>rw [Ao,A9];exact congrArg _ ih
def X0 (l:List OI):rh false .aG (l.map oP)=.ret (decide (bm∈l)):=by
 have h0:∀x∈l.map oP,PV.iB x=true/\PV.fq x<=150:=λx hx=>by
  obtain⟨o,_,rfl⟩:=Av.mp hx;cases o <;> simp [oP]
 have h1:TZ .aG (l.map oP):=⟨by simp,g9.mpr λx hx=>(h0 x hx).1,hE λx hx=>(h0 x hx).2⟩;have h2:tW .aG (l.map oP)=decide (bm∈l):=by
  unfold tW;rw [List.any_map];clear h0 h1
  induction l with
  | nil=>rfl
  | cons a l ih=>
   rw [Bz,ih];cases a <;> simp [oP,kE]
 unfold rh;rw [mo h1,h2];simp
def pK (l:List OI):jb (.cl (l.map oP))=.ret (oP (uT l)):=by
 unfold jb uT;simp only [ga,bO,X0];by_cases h:bm∈l
 ·simp [h,oP]
 ·rw [if_neg h];simp only [h,decide_false,Au,if_false,jP,ga,K3 h,Kt,gH];rfl
def Th (l:List OI):La ((zS l).map PV.int)=.ret (oP (tm l)):=by
 unfold La tm;rw [gH,ga]
 split <;> rfl
def Hm (l:List OI):(mJ (l.map oP) λp2=>PF (am (of2 vS p2 .aG) asB) (bd p2))=.ret ((zS l).map PV.int):=by
 rw [<- Yn];refine xS λx hx=>?_;obtain⟨o,_,rfl⟩:=Av.mp hx;cases o <;> simp [oP,PV.fe]
def Hl (l:List OI):gV (.cl (l.map oP))=.ret (oP (tm l)):=by
 unfold gV;simp only [ga,bO,Hm,Th]
def Mz {a b:List Int} (h:a.Perm b):pW a=pW b:=by
 by_cases c:a=[]
 ·subst c;rw [List.nil_perm.mp h]
 ·have c2:b≠[]:=λz=>c (by subst z;exact List.perm_nil.mp h);exact ES (xJ (h.mem_iff.mpr (tq c2))) (xJ (h.mem_iff.mp (tq c)))
def vV {a b:List OI} (h:a.Perm b):tm a=tm b:=by
 have h2:(zS a).Perm (zS b):=h.filterMap _;unfold tm;rw [Mz h2];have:(zS a=[])=(zS b=[]):=propext ⟨λz=>List.nil_perm.mp (z▸h2),λz=>List.perm_nil.mp (z▸h2)⟩;simp only [this]
def JT (l:List OI):ux (l.map oP)=true:=Hi.mpr λx hx=>by
 obtain⟨o,_,rfl⟩:=Av.mp hx;cases o <;> (rw [oP,PV.dat] <;> simp)
def VV (d:Str):Nat:=if d="split" then 0 else if d="doubled" then 1 else 2
def Y4 (ps:List Int) (d:Str):Int:=ps.getD (VV d) 0
theorem Q6 (d:Str):VV d < 3:=by unfold VV;split;omega;split <;> omega
theorem Rl (h:ps.length=4) (hk:k < 4):dC (br ps) (k:Int)=ap (.int (ps.getD k 0)):=cK (by
 unfold br;rw [Aj,Ad ∅,Al,Ad ∅];rfl)
def XZ (d:Str):Prop:=d="split"\/d="doubled"\/d="over"
def Lm:rh false (.str d) ([("split":Str),("doubled":Str),("over":Str)].map PV.str)=.ret (decide (d∈[("split":Str),("doubled":Str),("over":Str)])):=by
 unfold rh;rw [mo ⟨by simp,by simp [fo],by simp [dU]⟩];congr 1;simp only [tW,Ao,DP,Bz,List.any_nil,VJ,Bool.or_false,Au,if_false];have e:∀a:Str,(a==d)=decide (d=a):=λa=>by
  by_cases c:a=d
  ·subst c;simp
  ·have c2:¬d=a:=λz=>c z.symm;simp [c,c2]
 simp [e,Ax]
theorem O4 (h:ps.length=4) (hd:XZ d):d7 (.tup (br ps)) (.str d)=.ret (.int (Y4 ps d)):=by
 unfold d7;have hm:d∈[("split":Str),("doubled":Str),("over":Str)]:=by rcases hd with rfl | rfl | rfl <;> simp
 have hi:Qh ["split","doubled","over"] (.str d)=.ret (.int ((VV d:Nat):Int)):=by
  show W.fB _ _=_;rw [mo hm];rcases hd with rfl | rfl | rfl <;> rfl
 have:=Q6 d;simp only [ga,Lm,hm,decide_true,if_true,aH,hi,cf,Rl h (k:=VV d) ∅,wv];rfl
def F4:d7 (.tup (br ps)) (.str "found")=.ret (.int 0):=by
 unfold d7;have hm:("found":Str)∉[("split":Str),("doubled":Str),("over":Str)]:=by decide +kernel
 simp only [ga,Lm,hm,decide_false,Au,if_false]
end My
variable {n:Nat}{T:List (List My.OI)}{d:My.Dd}
namespace My
open PySem PySem.Spec PyProof.Rows L2 PL FL
def rg (T:List (List OI)) (j i:Nat):OI:=(T.getD j []).getD i bm
def rP (T:List (List OI)):List PV:=T.map λr=>.tup (r.map oP)
def wM (ps:List Int) (R:Nat->Nat->OI) (a b:Nat) (d:Dd):OI:=uT [ap (Y4 ps d.1),R a d.2.1,R b d.2.2]
def Uy (g:List Sy) (ps:List Int) (R:Nat->Nat->OI) (e:Ent) (i:Nat):List OI:=match e with
 | .word w=>if hm g i w=true then [ap 0] else []
 | .pair a b=>(dl g i).map (wM ps R a b)
def Ir (g:List Sy) (ps:List Int) (i:Nat):Int:=if (sy g i).un.length=2 then ps.getD 3 0 else 0
def RE (g:List Sy) (ps:List Int) (row:List OI) (i:Nat):List OI:=(sy g i).un.map λu=>uT [ap (Ir g ps i),row.getD u bm]
def c8 (g:List Sy) (ps:List Int) (R:Nat->Nat->OI) (e:Ent):Nat->List OI
 | 0=>[]
 | k+1=>c8 g ps R e k++[tm (Uy g ps R e k++RE g ps (c8 g ps R e k) k)]
def gK (g:List Sy) (ps:List Int) (es:List Ent):Nat->List (List OI)
 | 0=>[]
 | j+1=>gK g ps es j++[c8 g ps (rg (gK g ps es j)) (esD es j) g.length]
theorem nU (g:List Sy) (ps:List Int) (R:Nat->Nat->OI) (e:Ent):∀k,(c8 g ps R e k).length=k
 | 0=>rfl
 | k+1=>by rw [c8,Ah,nU g ps R e k];rfl
theorem kO (g:List Sy) (ps:List Int) (es:List Ent):∀j,(gK g ps es j).length=j
 | 0=>rfl
 | j+1=>by rw [gK,Ah,kO g ps es j];rfl
structure Wide (g:List Sy) (T:List (List OI)) (n:Nat):Prop where
 len:T.length=n
 row:∀j,j < n->(T.getD j []).length=g.length
theorem gF (g:List Sy) (ps:List Int) (es:List Ent):∀j,Wide g (gK g ps es j) j
 | 0=>⟨rfl,λj h=>absurd h (Nat.not_lt_zero j)⟩
 | j+1=>⟨kO g ps es _,λk hk=>by
  have W:=gF g ps es j;rw [gK];by_cases c:k < j
  ·rw [qo (by rw [W.len];exact c)];exact W.row k c
  ·have:k=j:=by omega
   subst this;rw [lY (by rw [W.len];exact An _),W.len,C6];exact nU _ _ _ _ _⟩
def Vc (W':Wide g T n) (hj:j < n) (hi:i < g.length):(cB (am (cB (bd (rP T)) (bd (.int (j:Int)))) aB) (bd (.int (i:Int))))=.ret (oP (rg T j i)):=by
 have hl:=W'.row j hj;have h1:dC (rP T) (j:Int)=ap (.tup ((T.getD j []).map oP)):=cK (by
  unfold rP;rw [Aj,Ad (by rw [W'.len];exact hj),Al,Ad (by rw [W'.len];exact hj)];rfl)
 have h2:dC ((T.getD j []).map oP) (i:Int)=ap (oP (rg T j i)):=cK (by
  unfold rg;rw [Aj,Ad (by rw [hl];exact hi),Al (l:=T.getD j []),Ad (by rw [hl];exact hi)];rfl)
 simp only [ga,cf,h1,wv,aH,h2]
def acj (h:d∈dl g i):XZ d.1:=by
 unfold dl at h;rcases Ax.mp h with rfl | h
 ·exact .inr (.inl rfl)
 rcases AW.mp h with h | h
 ·unfold xo at h
  split at h
  ·simp at h;rcases h with rfl | rfl <;> exact .inl rfl
  ·cases h
 ·rcases AW.mp h with h | h <;> obtain⟨o,_,rfl⟩:=Av.mp h <;> exact .inr (.inr rfl)
def Pb {f:α->β}{a b:List β} (h:a.Perm b):∀{l:List α},b=l.map f->∃ds:List α,a=ds.map f/\ds.Perm l:=by
 induction h with
 | nil=>intro l e;exact⟨[],rfl,by rw [List.map_eq_nil_iff.mp e.symm]⟩
 | cons x _ ih=>
  intro l e;cases l with
  | nil=>cases e
  | cons y l=>
   injection e with e1 e2;obtain⟨ds,h1,h2⟩:=ih e2;exact⟨y::ds,by rw [Ao,e1,h1],h2.cons y⟩
 | swap x y r=>
  intro l e
  match l,e with
  | u::v::l,e=>
   injection e with e1 e2;injection e2 with e2 e3;exact⟨v::u::l,by rw [Ao,Ao,e1,e2,e3],.swap u v l⟩
 | trans _ _ ih1 ih2=>
  intro l e;obtain⟨ds,h1,h2⟩:=ih2 e;obtain⟨es,h3,h4⟩:=ih1 h1;exact⟨es,h3,h4.trans h2⟩
theorem wB (f h:α->β):∀l:List α,(l.map f++l.map h).Perm (l.flatMap λo=>[f o,h o])
 | []=>.nil
 | a::l=>by
  rw [Ao,Ao,CJ,Cb];exact ((List.perm_middle).trans ((wB f h l).cons _)).cons _
def LH (g:List Sy) (i:Nat):(dl g i).Perm (dds g i):=((wB (λo=>(("over",i,o):Dd)) (λo=>(("over",o,i):Dd)) (sy g i).be).append_left _).cons _
def VW (G:WG g ws) (h:i < g.length) (hd:d∈dl g i):d.2.1 < g.length/\d.2.2 < g.length:=YE G h ((LH g i).mem_iff.mp hd)
theorem Nu (p4:ps.length=4) (W':Wide g T n) (ha:a < n) (hb:b < n) (hd:XZ d.1) (hx:d.2.1 < g.length) (hy:d.2.2 < g.length):df (.tup (br ps)) (.cl (rP T)) (Ent.pair a b).pv (d2 d)=.ret (oP (wM ps (rg T) a b d)):=by
 unfold df;have i0:dC [PV.str d.1,PV.tup [.int (d.2.1:Int),.int (d.2.2:Int)]] 0=ap (.str d.1):=rfl;have i1:dC [PV.str d.1,PV.tup [.int (d.2.1:Int),.int (d.2.2:Int)]] 1=ap (.tup [.int (d.2.1:Int),.int (d.2.2:Int)]):=rfl;have ez:LX [PV.int (a:Int),.int (b:Int)] [.int (d.2.1:Int),.int (d.2.2:Int)]=.ret [.tup [.int (a:Int),.int (d.2.1:Int)],.tup [.int (b:Int),.int (d.2.2:Int)]]:=mo (by simp;exact bF ∅);have ec:nt [PV.int (Y4 ps d.1)] [oP (rg T a d.2.1),oP (rg T b d.2.2)]=.ret ([ap (Y4 ps d.1),rg T a d.2.1,rg T b d.2.2].map oP):=by rw [ib (by simp)];rfl
 have em:(bC [PV.tup [.int (a:Int),.int (d.2.1:Int)],.tup [.int (b:Int),.int (d.2.2:Int)]] λp6=>am (vH p6) λt7=>(cB (am (cB (bd (rP T)) (bd t7.1)) aB) (bd t7.2)))=.ret [oP (rg T a d.2.1),oP (rg T b d.2.2)]:=by
  simp only [bC,m4,ga];have h1:=Vc W' ha hx;have h2:=Vc W' hb hy;simp only [ga] at h1 h2;simp only [h1,h2,ga]
 simp only [ga] at em;simp only [d2,ga,qm,Qi,aP,Ao,DP,aH,cf,i0,i1,wv,ez,em,O4 p4 hd,bO,jP,ec];exact pK [ap (Y4 ps d.1),rg T a d.2.1,rg T b d.2.2]
def JQ (G:WG g ws) (p4:ps.length=4) (W':Wide g T n) (he:Ry n e) (hi:i < g.length) {Q:List PV->Prop} (q:∀L:List OI,L.Perm (Uy g ps (rg T) e i)->Q (L.map oP)):(eR (kC g) (.tup (br ps)) (.cl (rP T)) e.pv (.int (i:Int))).run Q:=by
 unfold eR;simp only [ga,ci];cases e with
 | word w=>
  unfold fh;simp only [Ent.pv,ga,ci,yU,yT,e6,gl,if_true,T6 G hi];unfold Uy at q;cases h:hm g i w with
  | false=>
   simp only [h,Au,if_false] at q ⊢;exact q [] (List.Perm.refl _)
  | true=>
   simp only [h,if_true] at q ⊢;have ef:df (.tup (br ps)) (.cl (rP T)) (.str w) (.tup [.str "found",.tup []])=.ret (.int 0):=by
    unfold df;have i0:dC [PV.str "found",PV.tup []] 0=ap (.str "found"):=rfl;have i1:dC [PV.str "found",PV.tup []] 1=ap (.tup []):=rfl;have hv:cL (.str w)=.ret (.tup []):=qm (.word w);have ez:LX [] []=.ret []:=mo (by simp);have ec:nt [PV.int 0] []=.ret ([ap (0:Int)].map oP):=by rw [ib (by simp)];rfl
    simp only [ga,hv,aH,cf,i0,i1,wv,ez,bC,F4,jP,ec,pK];rfl
   simp only [gl,bC,ga,ef];exact q [ap 0] (List.Perm.refl _)
 | pair a b=>
  refine Np G hi λm hm=>?_;obtain⟨ds,rfl,hp⟩:∃ds:List Dd,m=ds.map d2/\ds.Perm (dl g i):=Pb hm rfl;refine gs (λd=>oP (wM ps (rg T) a b d)) (λd hd=>?_) ?_
  ·have hdl:=hp.mem_iff.mp hd;obtain⟨h1,h2⟩:=VW G hi hdl;rw [Nu p4 W' he.1 he.2 (acj hdl) h1 h2];exact λQ q=>q
  ·have e:ds.map (λd=>oP (wM ps (rg T) a b d))=(ds.map (wM ps (rg T) a b)).map oP:=by rw [AB];rfl
   rw [e];exact q _ (hp.map _)
theorem W9 (p4:ps.length=4) (hi:i < g.length):fK (kC g) (.tup (br ps)) (.int (i:Int))=.ret (.int (Ir g ps i)):=by
 unfold fK Ir;simp only [ga,nH hi,d3,dN,gj,a7,aH,cf];by_cases c:(sy g i).un.length=2
 ·have h3:=Rl p4 (k:=3) ∅;have c2:(((sy g i).un.length:Int)==2)=true:=by simp [c]
  rw [if_pos c,c2];simp only [if_true];rw [show ((3:Nat):Int)=3 from rfl] at h3;rw [h3];rfl
 ·have c2:(((sy g i).un.length:Int)==2)=false:=by simp;omega
  rw [if_neg c,c2];rfl
theorem Oj (G:WG g ws) (p4:ps.length=4) {row:List OI} (hi:i < g.length) (hr:row.length=i):eQ (kC g) (.tup (br ps)) (.cl (row.map oP)) (.int (i:Int))=.ret ((RE g ps row i).map oP):=by
 unfold eQ RE;simp only [ga,W9 p4 hi,nH hi,aH];rw [AB];refine jH λu hu=>?_;have hu:=G.dn i hi u hu;have h1:dC (row.map oP) (u:Int)=ap (oP (row.getD u bm)):=cK (by rw [Aj,Ad ∅,Al,Ad ∅];rfl);have e:[PV.int (Ir g ps i),oP (row.getD u bm)]=[ap (Ir g ps i),row.getD u bm].map oP:=rfl;simp only [ga,bO,cf,h1,wv,e,pK];rfl
theorem WC (G:WG g ws) (p4:ps.length=4) (W':Wide g T n) (he:Ry n e):(kX (kC g) (.tup (br ps)) (.cl (rP T)) e.pv).le (.ret (.tup ((c8 g ps (rg T) e g.length).map oP))):=λQ q=>by
 unfold kX;have hg:=G.len;have el:n8 cJ [kC g]=.ret (.int (g.length:Int)):=by simp [kC]
 simp only [ga,ci,gl];simp only [el,gl,c6,mo (bg (i:=0) (j:=(g.length:Int)) ∅ ∅),A2];refine fX (λi s=>s=(c8 g ps (rg T) e i).map oP) rfl (λi s hi hs=>?_) (λs hs=>?_)
 ·subst hs;have ď:=nU g ps (rg T) e i;refine JQ G p4 W' he hi λL hL=>?_;rw [Oj G p4 hi ď];have h1:L.length<=63:=by
   rw [hL.length_eq];cases e with
   | word w=>show (if hm g i w=true then [ap 0] else []).length<=63;split <;> simp
   | pair a b=>show ((dl g i).map _).length<=63;rw [Af];exact JO G hi
  have h2:(RE g ps (c8 g ps (rg T) e i) i).length<=2:=by unfold RE;rw [Af];exact G.vH i hi
  simp only [ga,ci];rw [ib (by rw [Af,Af];omega),<- Aw];have et:vL ((L++RE g ps (c8 g ps (rg T) e i) i).map oP)=.ret ((L++RE g ps (c8 g ps (rg T) e i) i).map oP):=mo (JT _);simp only [gl,et,Hl];rw [dr (by rw [Af];omega)];show _=_;rw [c8,Aw,vV (hL.append_right _)];rfl
 ·subst hs;exact q
theorem Oe (G:WG g ws) (p4:ps.length=4) (hz:t.size<=400):(oo (kC g) t.pv (.tup (br ps))).le (.ret (.tup (rP (gK g ps (t.nd 0) t.size)))):=λQ q=>by
 unfold oo;simp only [ga,ci,gl];refine W.le.use (kT t ∅) ?_;simp only [aH,gl];refine gC (λi s=>s=rP (gK g ps (t.nd 0) i)) rfl (λi x s hx hs=>?_) (λs hs=>?_)
 ·subst hs;have hi:i < t.size:=by have:=(Ak.mp hx).1;rw [du] at this;exact this
  rw [Aj,iz t 0 i hi] at hx;have ex:=(Option.some.inj hx).symm;subst ex;simp only [ci];refine W.le.use (WC G p4 (gF g ps (t.nd 0) i) (VP t hi)) ?_;have ed:esD (t.nd 0) i=en t 0 i:=by unfold esD;rw [Al,iz t 0 i hi];rfl
  have et:Oc (.tup ((c8 g ps (rg (gK g ps (t.nd 0) i)) (en t 0 i) g.length).map oP))=.ret (.tup ((c8 g ps (rg (gK g ps (t.nd 0) i)) (en t 0 i) g.length).map oP)):=mo (by rw [PV.dat];exact JT _);simp only [et,gl];rw [dr (by unfold rP;rw [Af,kO];omega)];show _=_;rw [gK,ed];unfold rP;rw [Aw];rfl
 ·subst hs;rw [du];exact q
abbrev kk (j i:Nat):List Key:=[.inl (j:Int),.inl (i:Int)]
def IT (j:Nat):Nat->List OI->List (List Key×PV)
 | _,[]=>[]
 | i,v::r=>(kk j i,oP v)::IT j (i+1) r
def tM:Nat->List (List OI)->List (List Key×PV)
 | _,[]=>[]
 | j,r::T=>IT j 0 r++tM (j+1) T
theorem IU {j' i':Nat} (h:kk j i=kk j' i'):j=j'/\i=i':=by
 injection h with h1 h2;injection h2 with h2 _;injection h1 with h1;injection h2 with h2;omega
def tX (a b:List (List Key×PV)) (k:List Key):cU (a++b) k=(cU a k).or (cU b k):=by
 unfold cU;rw [List.find?_append];cases a.find? λkv=>decide (kv.1=k) <;> rfl
theorem Yh (j:Nat) (k:List Key):∀(r:List OI) (i:Nat),(∀n,n < r.length->k≠kk j (i+n))->cU (IT j i r) k=bm
 | [],_,_=>rfl
 | v::r,i,h=>by
  have h0:¬kk j i=k:=λz=>h 0 (by simp) z.symm;have:=Yh j k r (i+1) λn hn=>by have:=h (n+1) (by simpa using hn);rw [show i+1+n=i+(n+1) by omega];exact this
  unfold cU at this ⊢;rw [IT,Bi];simp only [h0,decide_false];exact this
theorem Lr (j:Nat):∀(r:List OI) (i n:Nat),n < r.length->cU (IT j i r) (kk j (i+n))=ap (oP (r.getD n bm))
 | v::r,i,0,_=>by
  unfold cU;rw [IT,Bi];simp
 | v::r,i,n+1,h=>by
  have h0:¬kk j i=kk j (i+(n+1)):=λz=>by have:=(IU z).2;omega
  have:=Lr j r (i+1) n (by simpa using h);rw [show i+1+n=i+(n+1) by omega] at this;unfold cU at this ⊢;rw [IT,Bi];simp only [h0,decide_false];exact this
theorem abO (k:List Key):∀(T:List (List OI)) (j:Nat),(∀m n,m < T.length->n < (T.getD m []).length->k≠kk (j+m) n)->cU (tM j T) k=bm
 | [],_,_=>rfl
 | r::T,j,h=>by
  rw [tM,tX,Yh j k r 0 λn hn=>by rw [AI];exact h 0 n (by simp) hn,abO k T (j+1) λm n hm hn=>by
   rw [show j+1+m=j+(m+1) by omega];exact h (m+1) n (by simpa using hm) (by simpa using hn)]
  rfl
theorem rT:∀(T:List (List OI)) (j m n:Nat),m < T.length->n < (T.getD m []).length->cU (tM j T) (kk (j+m) n)=ap (oP (rg T m n))
 | r::T,j,0,n,_,hn=>by
  have:=Lr j r 0 n hn;rw [AI] at this;rw [tM,tX];show (cU (IT j 0 r) (kk j n)).or _=_;rw [this];rfl
 | r::T,j,m+1,n,hm,hn=>by
  rw [tM,tX,Yh j _ r 0 λn' _ z=>by have:=(IU z).1;omega];have:=rT T (j+1) m n (by simpa using hm) (by simpa using hn);rw [show j+1+m=j+(m+1) by omega] at this;rw [this];rfl
theorem GB (j:Nat) (v:OI):∀(r:List OI) (i:Nat),IT j i (r++[v])=IT j i r++[(kk j (i+r.length),oP v)]
 | [],i=>rfl
 | u::r,i=>by
  rw [Cb,IT,GB j v r (i+1),IT,Cb,Aq,show i+1+r.length=i+(r.length+1) by omega]
theorem oB (r:List OI):∀(T:List (List OI)) (j:Nat),tM j (T++[r])=tM j T++IT (j+T.length) 0 r
 | [],j=>by rw [ER,tM,tM,tM,Cz];rfl
 | u::T,j=>by
  rw [Cb,tM,oB r T (j+1),tM,Az,Aq,show j+1+T.length=j+(T.length+1) by omega]
def Sv {k:List Key} (h:cU kvs k=bm):FL.F0 kvs k v=kvs++[(k,v)]:=by
 unfold FL.F0;rw [if_neg];intro c;obtain⟨x,h1,h2⟩:=List.any_eq_true.mp c;unfold cU at h;rw [Ey,List.find?_eq_none] at h;exact h x h1 h2
theorem Lh:∀(T:List (List OI)) (j:Nat),(tM j T).length=(T.map BP).sum
 | [],_=>rfl
 | r::T,j=>by
  have:∀(r:List OI) (i:Nat),(IT j i r).length=r.length:=λr=>by
   induction r with
   | nil=>intro i;rfl
   | cons v r ih=>intro i;rw [IT,Aq,ih,Aq]
  rw [tM,Ah,this,Lh T,Ao,Dp]
def ldl (g:List Sy) (i:Nat):List Dd:=dbl i::((sy g i).be.flatMap (Xa i)++xo (sy g i).un)
def GA (g:List Sy) (i:Nat):(ldl g i).Perm (dl g i):=(CD.cons _).trans (LH g i).symm
def eP (e:Nat×Nat):PV:=.tup [.int (e.1:Int),.int (e.2:Int)]
def loP (a b:Nat) (d:Dd):PV:=.tup [.int ((VV d.1:Nat):Int),.cl ([(a,d.2.1),(b,d.2.2)].map eP)]
def ldO (g:List Sy) (e:Ent) (i:Nat):List PV:=match e with
 | .word w=>if hm g i w=true then [.tup [.aG,.cl []]] else []
 | .pair a b=>(ldl g i).map (loP a b)
theorem IQ (G:WG g ws) (he:es[j]?=ap e) (hi:i < g.length):(dm (kC g) (.cl (es.map Ent.pv)) (.int (j:Int)) (.int (i:Int))).le (.ret (ldO g e i)):=λQ q=>by
 unfold dm;have h1:dC (es.map Ent.pv) (j:Int)=ap e.pv:=cK (by rw [Aj,he];rfl);have hu:=G.vH i hi;have hb:=G.YM i hi;have gi:=Qw hi;simp only [kC,ga,aH,gi,Sy.pv,QL,bO,cf,h1,wv,ci];cases e with
 | word w=>
  simp only [Ent.pv,ga,yU,yT,e6,gl,if_true,eq_nil _ (show (sy g i).un.length<=1000 by omega),a7,VO (G.nm i hi) w];have e:hm g i w=((sy g i).un.isEmpty&&Jf w (sy g i).nm):=rfl;have q:Q (if hm g i w=true then [.tup [.aG,.cl []]] else []):=q;cases h1:(sy g i).un.isEmpty with
  | false=>rw [e,h1] at q;simpa using q
  | true=>cases h2:Jf w (sy g i).nm with
   | false=>rw [e,h1,h2] at q;simpa using q
   | true=>rw [e,h1,h2] at q;simpa using q
 | pair a b=>
  have j0:dC [PV.int (a:Int),PV.int (b:Int)] 0=ap (.int a):=rfl;simp only [Ent.pv,ga,jQ,ma,e6,gl,Au,if_false,m4,ci];refine gC (λk s=>s=(dbl i::((sy g i).be.take k).flatMap (Xa i)).map (loP a b)) rfl (λk x s hx hs=>?_) (λs hs=>?_)
  ·obtain⟨o,ho,rfl⟩:=Gk hx;subst hs;have hk:=(Ak.mp ho).1;have hl:((sy g i).be.take k).length<=k:=DH _ _;have et:(sy g i).be.take (k+1)=(sy g i).be.take k++[o]:=by rw [CO,ho];rfl
   simp only [ga,ci,gl];rw [dr (by rw [Af,Aq,oS];omega)];simp only [gl,ga];rw [dr (by rw [Ah,Af,Aq,oS];simp;omega)];show _=_;rw [et,List.flatMap_append,Az,<- Cb,Aw];rfl
  ·subst hs;rw [dN,CS];simp only [ga,d3,dN,gj,a7,gl];have q:Q ((dbl i::((sy g i).be.flatMap (Xa i)++xo (sy g i).un)).map (loP a b)):=q;rw [<- Cb,Aw] at q;have hfl:((dbl i::(sy g i).be.flatMap (Xa i)).map (loP a b)).length<=61:=by rw [Af,Aq,oS];omega
   generalize (dbl i::(sy g i).be.flatMap (Xa i)).map (loP a b)=M at q hfl;revert hu q;generalize (sy g i).un=l;intro hu q
   match l,hu,q with
   | [],_,q=>simpa [xo] using q
   | [u],_,q=>simpa [xo] using q
   | [u,v],_,q=>
    have k0:dC [PV.int (u:Int),PV.int (v:Int)] 0=ap (.int u):=rfl;have k1:dC [PV.int (u:Int),PV.int (v:Int)] 1=ap (.int v):=rfl;have c:((([u,v]:List Nat).length:Int)==2)=true:=rfl;simp only [c,if_true,lS,oj,aH,ga,cf,k0,k1,wv,ci,gl];rw [dr ∅];simp only [gl,ga];rw [dr (by rw [Ah];simp;omega)];rw [Az];exact q
def stO (g:List Sy) (i j u:Nat):PV:=.tup [if (sy g i).un.length=2 then .int 3 else .aG,.cl ([(j,u)].map eP)]
theorem MF (hi:i < g.length) (j:Nat):eW (kC g) (.int (j:Int)) (.int (i:Int))=.ret ((sy g i).un.map (stO g i j)):=by
 unfold eW;have gi:=Qw hi;have i2:dC [(sy g i).nm,PV.int (sy g i).lv,.tup (aP (sy g i).un),.tup (aP (sy g i).be)] 2=ap (.tup (aP (sy g i).un)):=rfl;simp only [kC,ga,aH,gi,Sy.pv,cf,i2,wv,d3,dN,gj,a7];by_cases c:(sy g i).un.length=2
 ·have c2:(((sy g i).un.length:Int)==2)=true:=by simp [c]
  rw [c2];simp only [if_true,ga];refine jH λu _=>?_;simp only [ga,stO,c,if_true];rfl
 ·have c2:(((sy g i).un.length:Int)==2)=false:=by simp;omega
  rw [c2];simp only [Au,if_false,ga];refine jH λu _=>?_;simp only [ga,stO,c,if_false];rfl
theorem K2:∀{l:List OI},bm∉l->(zS l).sum=(l.map λo=>o.getD 0).sum
 | [],_=>rfl
 | none::l,h=>absurd (.head _) h
 | some a::l,h=>by
  have:=K2 (l:=l) λz=>h (.tail _ z);show (a::zS l).sum=_;rw [Dp,this,Ao,Dp];rfl
def N3 {R:Nat->Nat->OI} (p4:ps.length=4) {pl:PV}{RC:Int}{es:List (Nat×Nat)} (dI:(pl=.aG/\RC=0)\/∃p:Nat,p < 4/\pl=.int (p:Int)/\RC=ps.getD p 0) (hk:∀e∈es,cU kvs (kk e.1 e.2)=ap (oP (R e.1 e.2))) :
  (eV (.tup (br ps)) (zj kvs) (.tup [pl,.cl (es.map eP)])).le (.ret (oP (uT (ap RC::es.map λe=>R e.1 e.2)))):=λQ q=>by
 unfold eV;have i0:dC [pl,.cl (es.map eP)] 0=ap pl:=rfl;have i1:dC [pl,.cl (es.map eP)] 1=ap (.cl (es.map eP)):=rfl;have q:Q (oP (uT (ap RC::es.map λe=>R e.1 e.2))):=q;have main:((PV.int RC)\λnI=>(es.map eP)\λl7=>am (mq l7 nI λmd s2=>(
 dR (t2 qV (RM (bd (zj kvs)) (bd md)) (bd .aG)) (
 .aG\λx4=>bd (Lp.out x4)) (
 am (w2 addW (bd s2) (RM (bd (zj kvs)) (bd md))) λrD=>
 bd (.go rD)))) (Na (λs2=>
 (bd s2)) id)).run Q:=by
  simp only [ga,ci];refine yO (λk s=>s=.int (RC+((es.take k).map λe=>(R e.1 e.2).getD 0).sum)/\∀e∈es.take k,R e.1 e.2≠bm) ⟨by simp,by simp⟩ (λk x s hx hs=>?_) (λs hs=>?_)
  ·obtain⟨rfl,hs⟩:=hs;rw [Aj] at hx;cases e:es[k]? with
   | none=>rw [e] at hx;cases hx
   | some en=>
    rw [e] at hx;have ex:=(Option.some.inj hx).symm;subst ex;have et:es.take (k+1)=es.take k++[en]:=by rw [CO,e];rfl
    have hm:=A7 e;have dg:(dgW (zj kvs) (eP en)).le (.ret (oP (R en.1 en.2))):=λQ q=>rY (k:=kk en.1 en.2) (hk en hm) q;simp only [ga,ci];refine W.le.use dg ?_;cases hr:R en.1 en.2 with
    | none=>
     simp only [oP,lu,a7,gl,ga,PV.fe,if_true];show (Na _ _ (Lp.out PV.aG)).run Q;have hn:uT (ap RC::es.map λe=>R e.1 e.2)=bm:=if_pos (.tail _ (Av.mpr ⟨en,hm,hr⟩));rw [hn] at q;exact q
    | some v=>
     simp only [oP,lu,a7,gl,ga,PV.fe,Au,if_false,ci];refine W.le.use dg ?_;simp only [hr,oP,c7,gl];refine⟨?_,λe he=>?_⟩
     ·rw [et,Aw,List.sum_append];simp [hr,Int.add_assoc]
     ·rw [et] at he;rcases AW.mp he with he | he
      ·exact hs e he
      ·rw [AN.mp he,hr];simp
  ·obtain⟨rfl,hs⟩:=hs;rw [Af,CS] at hs ⊢;have hn:bm∉(ap RC::es.map λe=>R e.1 e.2):=λz=>by
    rcases Ax.mp z with z | z
    ·cases z
    ·obtain⟨e,h1,h2⟩:=Av.mp z;exact hs e h1 h2
   unfold uT at q;rw [if_neg hn,K2 hn,Ao,Dp,AB] at q;exact q
 simp only [ga,aH,cf,i0,i1,wv,bO];simp only [ga] at main;rcases dI with⟨rfl,rfl⟩ | ⟨p,hp,rfl,rfl⟩
 ·simp only [lu,PV.fe,a7,ga,if_true];exact main
 ·simp only [lu,PV.fe,a7,ga,Au,if_false,cf,Rl p4 hp,wv];exact main
end My
variable {r:List My.OI}
namespace My
open PySem PySem.Spec PyProof.Rows L2 PL FL
structure Op where
 pl:PV
 RC:Int
 es:List (Nat×Nat)
def Op.pv (o:Op):PV:=.tup [o.pl,.cl (o.es.map eP)]
def Op.cost (R:Nat->Nat->OI) (o:Op):OI:=uT (ap o.RC::o.es.map λe=>R e.1 e.2)
def Pk (g:List Sy) (ps:List Int) (e:Ent) (i:Nat):List Op:=match e with
 | .word w=>if hm g i w=true then [⟨.aG,0,[]⟩] else []
 | .pair a b=>(ldl g i).map λd=>⟨.int ((VV d.1:Nat):Int),Y4 ps d.1,[(a,d.2.1),(b,d.2.2)]⟩
def RG (g:List Sy) (ps:List Int) (i j:Nat):List Op:=(sy g i).un.map λu=>⟨if (sy g i).un.length=2 then .int 3 else .aG,Ir g ps i,[(j,u)]⟩
def Xl (g:List Sy) (ps:List Int) (e:Ent) (i:Nat):(Pk g ps e i).map Op.pv=ldO g e i:=by
 cases e with
 | word w=>unfold Pk ldO;simp only;split <;> rfl
 | pair a b=>unfold Pk ldO;simp only;rw [AB];rfl
def Xk (g:List Sy) (ps:List Int) (i j:Nat):(RG g ps i j).map Op.pv=(sy g i).un.map (stO g i j):=by
 unfold RG;rw [AB];rfl
def Gf (g:List Sy) (ps:List Int) (R:Nat->Nat->OI) (e:Ent) (i:Nat):((Pk g ps e i).map (Op.cost R)).Perm (Uy g ps R e i):=by
 cases e with
 | word w=>unfold Pk Uy;simp only;split <;> exact List.Perm.refl _
 | pair a b=>unfold Pk Uy;simp only;rw [AB];exact (GA g i).map _
def X1 (l:List OI):(dR (bd (!((zS l).map PV.int).isEmpty)) (Gr ((zS l).map PV.int)) (bd .aG))=.ret (oP (tm l)):=by
 unfold Gr tm;simp only [gH,ga];by_cases c:zS l=[]
 ·rw [if_pos c,c];rfl
 ·rw [if_neg c,mo c];have:(!((zS l).map PV.int).isEmpty)=true:=by cases h:zS l with | nil=>exact absurd h c | cons a r=>rfl
  rw [this,if_pos rfl];rfl
def KO (h:j < T.length):rg (T++[r]) j i=rg T j i:=by unfold rg;rw [qo h]
def Sk:rg (T++[r]) T.length i=r.getD i bm:=by unfold rg;rw [lY (An _),C6];rfl
theorem Wq (h:∀x∈l,x<=m):l.sum<=l.length*m:=by
 induction l with
 | nil=>simp
 | cons a l ih=>
  rw [Dp,Aq,Ez];have:=h a (.head _);have:=ih λx hx=>h x (.tail _ hx);omega
theorem GC (G:WG g ws) (p4:ps.length=4) (hz:t.size<=400):(dz (kC g) (.cl ((t.nd 0).map Ent.pv)) (.tup (br ps))).le (.ret (zj (tM 0 (gK g ps (t.nd 0) t.size)))):=λQ q=>by
 unfold dz;have hg:=G.len;have el:n8 cJ [kC g]=.ret (.int (g.length:Int)):=by simp [kC]
 simp only [ga,ci,fw,du,gl,c6,mo (bg (i:=0) (j:=(t.size:Int)) ∅ ∅),A2];refine fX (λj s=>s=tM 0 (gK g ps (t.nd 0) j)) rfl (λj s hj hs=>?_) (λs hs=>by subst hs;exact q);subst hs;simp only [el,ga,ci,gl,c6,mo (bg (i:=0) (j:=(g.length:Int)) ∅ ∅),A2];have ed:esD (t.nd 0) j=en t 0 j:=by unfold esD;rw [Al,iz t 0 j hj];rfl
 have Wd:=gF g ps (t.nd 0) j;have iA:=VP t hj;have ht:gK g ps (t.nd 0) (j+1)=gK g ps (t.nd 0) j++[c8 g ps (rg (gK g ps (t.nd 0) j)) (en t 0 j) g.length]:=by rw [gK,ed]
 rw [ht];generalize gK g ps (t.nd 0) j=T at Wd ⊢;refine fX (λi s=>s=tM 0 (T++[c8 g ps (rg T) (en t 0 j) i])) (by rw [oB];exact (Cz _).symm) (λi s hi hs=>?_) (λs hs=>hs);subst hs;have ď:=nU g ps (rg T) (en t 0 j) i;have eT:T.length=j:=Wd.len;simp only [ci];refine W.le.use (IQ G (iz t 0 j hj) hi) ?_;simp only [jP,ga,gl,ci,MF hi];rw [<- Xl g ps,<- Xk g ps];have l1:(Pk g ps (en t 0 j) i).length<=63:=by
  have:=(Gf g ps (rg T) (en t 0 j) i).length_eq;rw [Af] at this;rw [this];cases en t 0 j with
  | word w=>show (if hm g i w=true then [ap 0] else []).length<=63;split <;> simp
  | pair a b=>show ((dl g i).map _).length<=63;rw [Af];exact JO G hi
 have l2:(RG g ps i j).length<=2:=by unfold RG;rw [Af];exact G.vH i hi
 rw [ib (by rw [Af,Af];omega),<- Aw];simp only [gl,bO,ga];have gt:∀a x,a < j->x < g.length->cU (tM 0 (T++[c8 g ps (rg T) (en t 0 j) i])) (kk a x)=ap (oP (rg (T++[c8 g ps (rg T) (en t 0 j) i]) a x)):=λa x ha hx=>by
  have:=rT (T++[c8 g ps (rg T) (en t 0 j) i]) 0 a x (by simp;omega) (by rw [qo ∅,Wd.row a ha];exact hx);rw [AI] at this;exact this
 have gt2:∀u,u < i->cU (tM 0 (T++[c8 g ps (rg T) (en t 0 j) i])) (kk j u)=ap (oP (rg (T++[c8 g ps (rg T) (en t 0 j) i]) j u)):=λu hu=>by
  have:=rT (T++[c8 g ps (rg T) (en t 0 j) i]) 0 j u (by simp;omega) (by rw [lY ∅,eT,C6];show u < (c8 g ps (rg T) (en t 0 j) i).length;rw [ď];exact hu);rw [AI] at this;exact this
 refine gs (λo=>oP (o.cost (rg (T++[c8 g ps (rg T) (en t 0 j) i])))) (λo ho=>?_) ?_
 ·refine N3 p4 ?_ ?_
  ·rcases AW.mp ho with ho | ho
   ·revert ho;cases en t 0 j with
    | word w=>
     intro ho;have ho:o∈(if hm g i w=true then [(⟨.aG,0,[]⟩:Op)] else []):=ho
     split at ho
     ·rw [AN.mp ho];exact .inl ⟨rfl,rfl⟩
     ·cases ho
    | pair a b=>
     intro ho;obtain⟨d,hd,rfl⟩:=Av.mp ho;exact .inr ⟨VV d.1,by have:=Q6 d.1;omega,rfl,rfl⟩
   ·obtain⟨u,hu,rfl⟩:=Av.mp ho;by_cases c:(sy g i).un.length=2
    ·exact .inr ⟨3,by omega,if_pos c,if_pos c⟩
    ·exact .inl ⟨if_neg c,if_neg c⟩
  ·intro e he;rcases AW.mp ho with ho | ho
   ·revert ho iA;cases h:en t 0 j with
    | word w=>
     intro _ ho;have ho:o∈(if hm g i w=true then [(⟨.aG,0,[]⟩:Op)] else []):=ho
     split at ho
     ·rw [AN.mp ho] at he;cases he
     ·cases ho
    | pair a b=>
     intro Qr ho;obtain⟨d,hd,rfl⟩:=Av.mp ho;obtain⟨h1,h2⟩:=VW G hi ((GA g i).mem_iff.mp hd);rw [h] at gt;have he:e∈[(a,d.2.1),(b,d.2.2)]:=he;simp at he;rcases he with rfl | rfl
     ·exact gt _ _ Qr.1 h1
     ·exact gt _ _ Qr.2 h2
   ·obtain⟨u,hu,rfl⟩:=Av.mp ho;have he:e∈[(j,u)]:=he;rw [AN.mp he];exact gt2 u (G.dn i hi u hu)
 ·have em:(Pk g ps (en t 0 j) i++RG g ps i j).map (λo=>oP (o.cost (rg (T++[c8 g ps (rg T) (en t 0 j) i]))))=((Pk g ps (en t 0 j) i++RG g ps i j).map (Op.cost (rg (T++[c8 g ps (rg T) (en t 0 j) i])))).map oP:=by rw [AB];rfl
  rw [em];have et:∀l:List OI,vL (l.map oP)=.ret (l.map oP):=λl=>mo (JT _);simp only [et,gl,Hm];have eD:Uy g ps (rg (T++[c8 g ps (rg T) (en t 0 j) i])) (en t 0 j) i=Uy g ps (rg T) (en t 0 j) i:=by
   revert iA;cases en t 0 j with
   | word w=>intro _;rfl
   | pair a b=>
    intro Qr;refine Cm λd _=>?_;unfold wM;rw [KO (by rw [eT];exact Qr.1),KO (by rw [eT];exact Qr.2)]
  have eS:(RG g ps i j).map (Op.cost (rg (T++[c8 g ps (rg T) (en t 0 j) i])))=RE g ps (c8 g ps (rg T) (en t 0 j) i) i:=by
   unfold RG RE;rw [AB];refine Cm λu _=>?_;show uT [ap (Ir g ps i),rg (T++[_]) j u]=_;rw [<- eT,Sk]
  have Ń:tm ((Pk g ps (en t 0 j) i++RG g ps i j).map (Op.cost (rg (T++[c8 g ps (rg T) (en t 0 j) i]))))=tm (Uy g ps (rg T) (en t 0 j) i++RE g ps (c8 g ps (rg T) (en t 0 j) i) i):=by
   rw [Aw,eS];refine vV (List.Perm.append_right _ ?_);rw [<- eD];exact Gf g ps _ _ i
  have em2:=X1 ((Pk g ps (en t 0 j) i++RG g ps i j).map (Op.cost (rg (T++[c8 g ps (rg T) (en t 0 j) i]))));simp only [ga] at em2;simp only [em2,gl];rw [Ń];have ek:Li (.tup [.int (j:Int),.int (i:Int)])=.ret (kk j i):=rfl;have gn:cU (tM 0 (T++[c8 g ps (rg T) (en t 0 j) i])) (kk j i)=bm:=abO _ _ _ λm n hm hn z=>by
   obtain⟨z1,z2⟩:=IU z;rw [AI] at z1;subst z1 z2;rw [lY ∅,eT,C6] at hn;have hn:i < (c8 g ps (rg T) (en t 0 j) i).length:=hn;omega
  have hkl:(tM 0 (T++[c8 g ps (rg T) (en t 0 j) i])).length < sizeLine:=by
   rw [Lh];have h1:∀x∈(T++[c8 g ps (rg T) (en t 0 j) i]).map BP,x<=300:=λx hx=>by
    obtain⟨r,hr,rfl⟩:=Av.mp hx;rcases AW.mp hr with hr | hr
    ·obtain⟨m,hm⟩:=CP hr;have Ĕ:=(Ak.mp hm).1;have:=Wd.row m ∅;rw [Al,hm] at this;have:r.length=g.length:=this;omega
    ·rw [AN.mp hr];omega
   have h2:=Wq h1;rw [Af,Ah,Df,eT] at h2;have h3:(j+1)*300<=401*300:=E5 _ ∅;have h4:(401*300:Nat) < sizeLine:=by decide
   omega
  unfold OY;simp only [ek,ga,mo hkl,Sv gn,gl];rw [c8,oB,oB,GB,ď,AI,AI,eT,Az]
theorem KL (Wd:Wide g T n) (hg:g.length<=300) (hn:n<=400) {Á:PV} (ht:n8 cJ [Á]=.ret (.int (n:Int))):(eA (kC g) Á (zj (tM 0 T))).le (.ret (.tup (rP T))):=λQ q=>by
 unfold eA;have el:n8 cJ [kC g]=.ret (.int (g.length:Int)):=by simp [kC]
 simp only [ga,ci,ht,gl,c6,mo (bg (i:=0) (j:=(n:Int)) ∅ ∅),A2];refine fX (λj s=>s=rP (T.take j)) (by simp [rP]) (λj s hj hs=>?_) (λs hs=>?_)
 ·subst hs;have RJ:j < T.length:=by rw [Wd.len];exact hj
  simp only [el,ga,ci,gl,c6,mo (bg (i:=0) (j:=(g.length:Int)) ∅ ∅),A2];rw [lW];refine gs (λi=>oP (rg T j i)) (λi hi Q q=>?_) ?_
  ·have hi:=A6.mp hi;have:=rT T 0 j i RJ (by rw [Wd.row j hj];exact hi);rw [AI] at this;exact rY (k:=kk j i) this q
  ·have er:(AJ g.length).map (λi=>oP (rg T j i))=(T.getD j []).map oP:=by
    apply B6;intro i;have hl:=Wd.row j hj;by_cases hi:i < g.length
    ·rw [Aj,BM hi,Aj,Ad ∅];show ap (oP ((T.getD j []).getD i bm))=_;rw [Al (l:=T.getD j []),Ad (show i < (T.getD j []).length by omega)];rfl
    ·rw [AV (by rw [Af,CI];omega),AV (by rw [Af,hl];omega)]
   have et:T.take (j+1)=T.take j++[T.getD j []]:=by rw [CO,Al,Ad RJ];rfl
   have hl:(rP (T.take j)).length<=j:=by unfold rP;rw [Af];exact DH _ _
   simp only [er,QM,gl];rw [dr ∅];show _=_;rw [et];unfold rP;rw [Aw];rfl
 ·subst hs;rw [<- Wd.len,CS];exact q
theorem Sj (r:List OI):PV.iB (.tup (r.map oP))=true/\PV.fq (.tup (r.map oP))<=1:=by
 have h0:∀x∈r.map oP,PV.iB x=true/\PV.fq x<=0:=λx hx=>by
  obtain⟨o,_,rfl⟩:=Av.mp hx;cases o <;> simp [oP]
 have h1:=hE (n:=0) λx hx=>(h0 x hx).2;simp only [PV.iB,PV.fq];exact⟨g9.mpr λx hx=>(h0 x hx).1,by omega⟩
theorem Il (T:List (List OI)):PV.iB (.tup (rP T))=true/\PV.fq (.tup (rP T))<=2:=by
 have h0:∀x∈rP T,PV.iB x=true/\PV.fq x<=1:=λx hx=>by
  obtain⟨r,_,rfl⟩:=Av.mp hx;exact Sj r
 have h1:=hE λx hx=>(h0 x hx).2;simp only [PV.iB,PV.fq];exact⟨g9.mpr λx hx=>(h0 x hx).1,by omega⟩
theorem aao (T U:List (List OI)):Jz (.tup (rP T)) (.tup (rP U)):=⟨(Il T).1,(Il U).1,by have:=(Il T).2;omega⟩
end My
variable {U:List (List My.OI)}
namespace My
open PySem PySem.Spec PyProof.Rows L2 PL FL
theorem Ly:∀(r s:List OI),eF (r.map oP) (s.map oP)=decide (r=s)
 | [],[]=>by simp
 | [],_::_=>by simp [eF]
 | _::_,[]=>by simp [eF]
 | a::r,b::s=>by
  rw [Ao,Ao,QG,Ly r s];have:kE (oP a) (oP b)=decide (a=b):=by
   cases a <;> cases b <;> simp [oP,kE]
   next x y=>by_cases c:x=y <;> simp [c]
  rw [this];by_cases c:a=b <;> by_cases d:r=s <;> simp [c,d]
theorem Lx:∀(T U:List (List OI)),eF (rP T) (rP U)=decide (T=U)
 | [],[]=>by simp [rP]
 | [],_::_=>by simp [eF,rP]
 | _::_,[]=>by simp [eF,rP]
 | a::r,b::s=>by
  have ih:=Lx r s;unfold rP at ih ⊢;rw [Ao,Ao,QG,ih,VI,Ly];by_cases c:a=b <;> by_cases d:r=s <;> simp [c,d]
def OS (T U:List (List OI)):of2 fg (.tup (rP T)) (.tup (rP U))=.ret (.bl (decide (T=U))):=by rw [wD,mo (aao T U),VI,Lx]
def zT (g:List Sy) (U:List (List OI)):Prop:=∀r∈U,r.length=g.length
def JA (h:r.length=g.length):dw (kC g) (.tup (r.map oP))=.ret (.bl true):=by
 unfold dw;have el:n8 cJ [kC g]=.ret (.int (g.length:Int)):=by simp [kC]
 have em:(bC (r.map oP) λp2=>orB (of2 qV p2 .aG) (gU p2))=.ret ((r.map λ_=>true).map PV.bl):=by
  rw [tw (k:=λ_=>PV.bl true) λo _=>?_,AB];rfl;cases o with
  | none=>simp [oP,PV.fe]
  | some v=>
   unfold gU;have b1:gz .bool (.int v)=.ret (.bl false):=rfl;have Ĝ:gz .int (.int v)=.ret (.bl true):=rfl;simp [oP,PV.fe,b1,Ĝ]
 have ea:J3 ((r.map λ_=>true).map PV.bl)=.ret (.bl true):=by
  rw [LR,Fw];have:r.all (id∘λ_=>true)=true:=by rw [Cc];intro x _;rfl
  rw [this]
 have c:(((r.map oP).length:Int)==(g.length:Int))=true:=by rw [Af,h];exact beq_self_eq_true _
 simp only [ga,el,OE,c,aH,em,ea];rfl
theorem MY (hz:t.size<=400) (h:zT g U):(jd (kC g) t.pv (.tup (rP U))).le (.ret (.bl (decide (U.length=t.size)))):=λQ q=>by
 unfold jd;simp only [ga,ci];refine W.le.use (kT t ∅) ?_;have ul:(rP U).length=U.length:=Af _;simp only [d3,du,gl,OE,ul];by_cases c:U.length=t.size
 ·have c2:((U.length:Int)==(t.size:Int))=true:=by rw [c];exact beq_self_eq_true _
  have em:(bC (rP U) λp2=>dw (kC g) p2)=.ret ((U.map λ_=>true).map PV.bl):=by
   unfold rP;rw [tw (k:=λ_=>PV.bl true) λr hr=>JA (h r hr),AB];rfl
  have ea:J3 ((U.map λ_=>true).map PV.bl)=.ret (.bl true):=by
   rw [LR,Fw];have:U.all (id∘λ_=>true)=true:=by rw [Cc];intro x _;rfl
   rw [this]
  rw [c2];rw [decide_eq_true c] at q;simp only [rV,aH,ga,em,ea,gl];exact q
 ·have c2:((U.length:Int)==(t.size:Int))=false:=by simp;omega
  rw [c2];rw [decide_eq_false c] at q;exact q
def FU (G:WG g ws) (p4:ps.length=4) (hz:t.size<=400) (h:zT g U):(cR (kC g) t.pv (.tup (br ps)) (.tup (rP U))).le (.ret (.bl (decide (U=gK g ps (t.nd 0) t.size)))):=λQ q=>by
 unfold cR;simp only [ga,ci];refine W.le.use (MY hz h) ?_;by_cases c:U.length=t.size
 ·rw [decide_eq_true c];simp only [rV,ci];refine W.le.use (Oe G p4 hz) ?_;simp only [OS,gl];exact q
 ·rw [decide_eq_false c];have:U≠gK g ps (t.nd 0) t.size:=λz=>c (by rw [z,kO]);rw [decide_eq_false this] at q;exact q
theorem nS {d:Nat} (h:a<=n):HT.dE n d (ap (a:Int))=a:=by
 show (if (a:Int) < 0 then ((a:Int)+n).toNat else min (a:Int).toNat n)=a;rw [if_neg ∅];omega
def LK (l:List PV) (h:a<=l.length):nk l bm (ap (a:Int))=l.take a:=by
 unfold nk;have e1:HT.dE l.length 0 bm=0:=rfl;have e2:HT.dE l.length l.length (ap (a:Int))=a:=nS h;rw [e1,e2];simp
theorem Ib (g0:0 < g.length) (g3:g.length<=300) (h:zT g U) (u0:U≠[]) (ul:U.length<=450) (q:∀V:List (List OI),zT g V->V.length<=U.length+1->Q (.tup (rP V))):(cM (.tup (rP U))).run Q:=by
 unfold cM;have up:0 < U.length:=B8.mpr u0;have ur:(rP U).length=U.length:=Af _;simp only [ga,ci,d3,ur,b9 (U.length:Int) ∅ ∅,gl];refine a8 λd d0 d1=>?_;obtain⟨a,rfl⟩:∃a:Nat,d=(a:Int):=⟨d.toNat,by omega⟩;obtain⟨r,hr⟩:∃r,U[a]?=ap r:=⟨_,Ad ∅⟩;have rl:=h r (A7 hr);have i0:dC (rP U) (a:Int)=ap (.tup (r.map oP)):=cK (by unfold rP;rw [Aj,hr];rfl);simp only [aH,cf,i0,wv,gl,d3,Af,rl,b9 (g.length:Int) ∅ ∅];refine a8 λe e0 e1=>?_;obtain⟨b,rfl⟩:∃b:Nat,e=(b:Int):=⟨e.toNat,by omega⟩;obtain⟨v,hv⟩:∃v,r[b]?=ap v:=⟨_,Ad ∅⟩;have i1:dC (r.map oP) (b:Int)=ap (oP v):=cK (by rw [Aj,hv];rfl);obtain⟨r0,hr0⟩:∃r0,U[0]?=ap r0:=⟨_,Ad up⟩;have r0l:=h r0 (A7 hr0);obtain⟨v0,hv0⟩:∃v0,r0[b]?=ap v0:=⟨_,Ad ∅⟩;have i2:dC (rP U) 0=ap (.tup (r0.map oP)):=cK (j:=0) (by unfold rP;rw [Aj,hr0];rfl);have i3:dC (r0.map oP) (b:Int)=ap (oP v0):=cK (by rw [Aj,hv0];rfl);have Ĵ:of2 qV (oP v) .aG=.ret (.bl v.isNone):=by cases v <;> simp [oP,PV.fe]
 obtain⟨num,afv⟩:∃num:Int,(if v.isNone=true then bd (.int 0) else bd (oP v))=.ret (.int num):=by
  cases v with
  | none=>exact⟨0,rfl⟩
  | some x=>exact⟨x,rfl⟩
 simp only [ga,cf,i1,wv,Ĵ,a7,gl,afv,b9 8 ⋯ ⋯];refine a8 λw w0 w1=>?_;have put:∀(A B:List (List OI)) (M:List (List OI)),zT g A->zT g B->zT g M->A.length+M.length+B.length<=U.length+1->∀{X Y Z:PV},X=.tup (rP A)->Y=.tup (rP M)->Z=.tup (rP B)->(am (addW X Y) λx=>addW x Z).run Q:=λA B M ha hb hm hl X Y Z hX hY hZ=>by
  subst hX hY hZ;have e:∀T:List (List OI),(rP T).length=T.length:=λT=>Af _;simp only [oV,mo (show (rP A).length+(rP M).length<=sizeLine from bF (by rw [e,e];omega)),ga];rw [mo (show (rP A++rP M).length+(rP B).length<=sizeLine from bF (by rw [Ah,e,e,e];omega))];have e2:rP A++rP M++rP B=rP (A++M++B):=by unfold rP;rw [Aw,Aw]
  rw [e2];refine q _ (λr hr=>?_) (by rw [Ah,Ah];exact hl);rcases AW.mp hr with hr | hr
  ·rcases AW.mp hr with hr | hr
   ·exact ha r hr
   ·exact hm r hr
  ·exact hb r hr
 have Hj:∀{k:Nat},k<=U.length->nk (rP U) bm (ap (k:Int))=rP (U.take k)/\nk (rP U) (ap (k:Int)) bm=rP (U.drop k):=λ{k} hk=>by
  refine⟨?_,?_⟩
  ·rw [LK _ (by rw [ur];exact hk)];unfold rP;rw [Fj]
  ·rw [Q9 _ (by rw [ur];exact hk)];unfold rP;rw [Fm]
 have wt:∀k,zT g (U.take k):=λk r hr=>h r (E6 hr);have wd:∀k,zT g (U.drop k):=λk r hr=>h r (E7 hr);have Ę:((a:Int)+1)=((a+1:Nat):Int):=by omega
 have eb1:((b:Int)+1)=((b+1:Nat):Int):=by omega
 have lt:(U.take a).length=a:=by rw [Cp];omega
 have ld:(U.drop (a+1)).length=U.length-(a+1):=CT ..;have one:∀r:List OI,r.length=g.length->zT g [r]:=λr hr x hx=>by rw [AN.mp hx];exact hr
 simp only [G5,gj,a7,gl];by_cases c5:w < 5
 ·simp only [c5,decide_true,if_true,ga,c7,ug,aH,cf,i2,i3,wv,ci];obtain⟨o,ho⟩:∃o:OI,dC [PV.int (num+1),.int (num-1),.aG,.int 0,oP v0] w=ap (oP o):=by
   have:w=0\/w=1\/w=2\/w=3\/w=4:=by omega
   rcases this with rfl | rfl | rfl | rfl | rfl
   ·exact⟨ap (num+1),rfl⟩
   ·exact⟨ap (num-1),rfl⟩
   ·exact⟨bm,rfl⟩
   ·exact⟨ap 0,rfl⟩
   ·exact⟨v0,rfl⟩
  have rr:addW (.tup ((r.map oP).take b)) (.tup [oP o])=.ret (.tup ((r.take b++[o]).map oP)):=by
   rw [oV,mo (bF (by simp;omega)),Aw,Fj];rfl
  have rr2:addW (.tup ((r.take b++[o]).map oP)) (.tup ((r.map oP).drop (b+1)))=.ret (.tup ((r.take b++[o]++r.drop (b+1)).map oP)):=by
   rw [oV,mo (bF (by simp;omega)),Aw (l₁:=r.take b++[o]),Fm]
  have lr:(r.take b++[o]++r.drop (b+1)).length=g.length:=by simp;omega
  simp only [ho,wv,gl,ga,oU,yR,eb1,Ę,LK (r.map oP) (show b<=(r.map oP).length by rw [Af];omega),Q9 (r.map oP) (show b+1<=(r.map oP).length by rw [Af];omega),rr,rr2,(Hj (show a<=U.length by omega)).1,(Hj (show a+1<=U.length by omega)).2];exact put (U.take a) (U.drop (a+1)) [_] (wt _) (wd _) (one _ lr) (by rw [lt,ld];simp;omega) rfl rfl rfl
 ·simp only [c5,decide_false,Au,if_false,ci,gl,a7];cases k5:w==5 with
  | true=>
   simp only [a7,gl,if_true,ga,oU,yR,c7,Ę,Jx,LA,(Hj (show a<=U.length by omega)).1,(Hj (show a+1<=U.length by omega)).2];refine put (U.take a) (U.drop (a+1)) [r.reverse] (wt _) (wd _) (one _ (by rw [BL];exact rl)) (by rw [lt,ld];simp;omega) rfl ?_ rfl;unfold rP;rw [List.map_singleton,List.map_reverse]
  | false=>
   simp only [Au,if_false,ci,gl,a7,gj];cases k6:w==6 with
   | true=>
    simp only [a7,gl,if_true,ga,oU,yR,c7,Ę,(Hj (show a<=U.length by omega)).1,(Hj (show a+1<=U.length by omega)).2];have:=put (U.take a) (U.drop (a+1)) [] (wt _) (wd _) (λ_ h=>nomatch h) (by rw [lt,ld];simp;omega) rfl rfl rfl;have e:addW (.tup (rP (U.take a))) (.tup (rP []))=.ret (.tup (rP (U.take a))):=by
     rw [oV,mo (bF (by unfold rP;rw [Af,lt];simp;omega))];simp [rP]
    rw [e,ga] at this;exact this
   | false=>
    simp only [a7,gl,Au,if_false,ga,oU,yR,c7,(Hj (show a<=U.length by omega)).1,(Hj (show a<=U.length by omega)).2];obtain⟨M,hM,hm,ml⟩:∃M:List (List OI),nk (rP U) (ap (a:Int)) (ap ((a:Int)+1))=rP M/\zT g M/\M.length<=1:=by
     refine⟨(U.drop a).take 1,?_,λr hr=>h r (E7 (E6 hr)),by rw [Cp];omega⟩;unfold nk;have e1:HT.dE (rP U).length 0 (ap (a:Int))=a:=nS (by rw [ur];omega);have e2:HT.dE (rP U).length (rP U).length (ap ((a:Int)+1))=a+1:=by rw [Ę];exact nS (by rw [ur];omega)
     rw [e1,e2,show a+1-a=1 by omega];unfold rP;rw [Fj,Fm]
    rw [hM];have ld2:(U.drop a).length=U.length-a:=CT ..;exact put (U.take a) (U.drop a) M (wt _) (wd _) hm (by rw [lt,ld2];omega) rfl rfl rfl
def tU (U:List (List OI)):PV:=.tup (rP U)
def vJ (t:Tr):n8 cJ [.cl ((t.nd 0).map Ent.pv)]=.ret (.int (t.size:Int)):=by rw [fw,du]
def Kp (g:List Sy) (ps:List Int) (t:Tr):zT g (gK g ps (t.nd 0) t.size):=λr hr=>by
 have W':=gF g ps (t.nd 0) t.size;obtain⟨m,hm⟩:=CP hr;have:=W'.row m (by have:=(Ak.mp hm).1;rw [W'.len] at this;exact this);rw [Al,hm] at this;exact this
theorem law32_ok:∀ns:List Int,ns.length<=63->(oq (.cl (ns.map PV.int))).run (·=.bl true):=by
 intro ns hn;unfold oq;obtain⟨m,hm,m0,m1⟩:∃m:Nat,(am ((PV.int 1)\λx3=>am ((PV.int 4)\λx1=>am (c1 cJ (bd (PV.cl (ns.map PV.int)))) λx2=>n8 NG [x1,x2]) λx4=>n8 NH [x3,x4]) fH)=.ret (jk 0 m)/\1<=m/\m<=4:=by
  simp only [ga,fw,Af,Yu,Yv];generalize hx:(if (if (ns.length:Int) < 4 then (ns.length:Int) else 4) > 1 then (if (ns.length:Int) < 4 then (ns.length:Int) else 4) else 1)=x;have h1:1<=x/\x<=4:=by rw [<- hx];split <;> split <;> omega
  refine⟨x.toNat,?_,by omega,by omega⟩;rw [c6,mo (bg ∅ ∅)]
 rw [hm];simp only [ga,ci];refine Qz (λ_ s=>s=()) rfl (λk s hk hs=>?_) (λs hs=>rfl);refine Qq ∅ ∅ λl hl=>?_;refine⟨hl,?_⟩;simp only [ga,ci,gl,b9 2 ⋯ ⋯];refine a8 λd d0 d1=>?_;obtain⟨n,hs,n0,n1⟩:∃n:Int,dC [PV.int 5,PV.int 8] d=ap (.int n)/\0 < n/\n<=8:=by
  have:d=0\/d=1:=by omega
  rcases this with rfl | rfl
  ·exact⟨5,rfl,by decide⟩
  ·exact⟨8,rfl,by decide⟩
 simp only [cf,hs,wv,gl];refine Rc n0 n1 ⋯ ⋯ λg ws t ps G _ tl p4 p0=>?_;have hz:t.size<=19:=by have:=t.size_eq;omega
 have tp:=t.size_pos;have g0:=G.pos;have g3:=G.len;simp only [QL,gl];refine W.le.use (GC G p4 ∅) ?_;refine W.le.use (KL (gF g ps (t.nd 0) t.size) G.len ∅ (vJ t)) ?_;have wT:=Kp g ps t;have lT:=kO g ps (t.nd 0) t.size;refine W.le.use (FU G p4 ∅ wT) ?_;simp only [decide_true,Ng,gl,a7,ci];show ((if (!(true==true))=true then _ else _:W _)).run _;rw [if_neg ⋯];simp only [ci];refine sS λqs q4 _=>?_;refine W.le.use (GC G q4 ∅) ?_;refine W.le.use (KL (gF g qs (t.nd 0) t.size) G.len ∅ (vJ t)) ?_;simp only [gl,c6,mo (bg (i:=0) (j:=6) ∅ ∅)];generalize hT:gK g ps (t.nd 0) t.size=T at wT lT;have Ġ:T≠[]:=λz=>by rw [z] at lT;simp at lT;omega
 refine fX (n:=6) (λi s=>∃(Us:List (List (List OI))) (U:List (List OI)),s=(Us.map tU,tU U)/\(∀V∈Us,zT g V)/\Us.length=i+1/\zT g U/\U≠[]/\U.length<=19+i) ⟨[gK g qs (t.nd 0) t.size],T,rfl,λV hV=>by rw [AN.mp hV];exact Kp g qs t,rfl,wT,Ġ,by omega⟩ ?_ ?_
 ·rintro i s hi ⟨Us,U,rfl,hU,hl,wU,une,ul⟩;simp only [ga,ci,gl,b9 2 ⋯ ⋯];refine a8 λe e0 e1=>?_;obtain⟨V,hV,wV,vne,vl⟩:∃V:List (List OI),dC [PV.tup (rP T),tU U] e=ap (.tup (rP V))/\zT g V/\V≠[]/\V.length<=19+i:=by
   have:e=0\/e=1:=by omega
   rcases this with rfl | rfl
   ·exact⟨T,rfl,wT,Ġ,by omega⟩
   ·exact⟨U,rfl,wU,une,ul⟩
  simp only [cf,hV,wv,gl];refine Ib g0 g3 wV vne ∅ λX wX xl=>?_;have e0:of2 fg (.tup (rP X)) (.tup [])=.ret (.bl (decide (X=[]))):=OS X [];simp only [e0,gl,a7];have ĝ:∀Y:List (List OI),fY (Us.map tU) (tU Y)=.ret ((Us++[Y]).map tU):=λY=>by rw [dr (by rw [Af];omega),Aw];rfl
  have fin:∀Y:List (List OI),zT g Y->Y≠[]->Y.length<=19+(i+1)->∃(ń:List (List (List OI))) (U':List (List OI)),((Us++[Y]).map tU,tU Y)=(ń.map tU,tU U')/\(∀V∈ń,zT g V)/\ń.length=i+1+1/\zT g U'/\U'≠[]/\U'.length<=19+(i+1):=λY wY yne yl=>⟨Us++[Y],Y,rfl,λV hV=>by
   rcases AW.mp hV with hV | hV
   ·exact hU V hV
   ·rw [AN.mp hV];exact wY,by simp [hl],wY,yne,yl⟩
  by_cases c:X=[]
  ·simp only [c,decide_true,if_true,ga,ci,gl];show (fY (Us.map tU) (tU T)).run _;rw [ĝ];exact fin T wT Ġ ∅
  ·simp only [c,decide_false,Au,if_false,ga,ci,gl];show (fY (Us.map tU) (tU X)).run _;rw [ĝ];exact fin X wX c ∅
 ·rintro s ⟨Us,U,rfl,hU,hl,wU,une,ul⟩;simp only [bO,gl,ci];refine yO (λ_ s=>s=()) rfl (λk x s hx _=>?_) (λs _=>trivial);obtain⟨V,hV,rfl⟩:=Av.mp (A7 hx);simp only [ci,ga];refine W.le.use (FU G p4 ∅ (hU V hV)) ?_;have e1:of2 fg (tU V) (.tup (rP T))=.ret (.bl (decide (V=T))):=OS V T;have b1:∀b,gz .bool (.bl b)=.ret (.bl true):=λb=>rfl;rw [hT];simp only [b1,e6,ga,El,Au,if_false,e1,Yt,a7,gl,beq_self_eq_true]
end My
variable {Kq FO Oh Ks Kr Og vM Oi:PySem.Tok}{rZ:BC}
namespace My
section
open PySem PySem.Spec PyProof.Rows L2 PL FL
def top (i:Nat):sn:=PySem.Challenge.pw_treewithin_k32_tables_shown.main.body.getD i (.Pass ⟨0,0,0,0⟩)
def FX:ao ["thing"] ["thing"] (ag (top 1)):=gh
def Mi:ao ["thing","many"] ["thing","many"] (ag (top 2)):=gh
def iq:ao ["tree","backward","waiting","part"] ["tree"] (ag (top 4)):=gh
def i6:ao ["tree","told","loose","part","other","one"] ["tree"] (ag (top 5)):=gh
def Mj:ao ["node"] ["node"] (ag (top 6)):=gh
abbrev uM:List Str:=["tree","told","node","ahead","number","half"]
def d9:ao uM ["tree"] (ag (top 7)):=gh
abbrev tJ:pc:=qF [("node",lo)]
def mI:ax (ag (top 7)) uM tJ ["node"] [bm]:=lcs
def FV:ao ["stays","stay"] ["stays","stay"] (ag (top 12)):=gh
def xu:ao ["stays","stay"] ["stays","stay"] (ag (top 13)):=gh
def Ij:ao ["stays","stay","word"] ["stays","stay","word"] (ag (top 14)):=gh
def Ih:ao ["houses","house"] ["houses","house"] (ag (top 15)):=gh
abbrev uK:List Str:=["great","ahead","house","lines","above"]
def fF:ao uK ["great"] (ag (top 16)):=gh
abbrev tF:pc:=qF [("house",lo)]
def mE:ax (ag (top 16)) uK tF ["house"] [bm]:=lcs
abbrev pz:List Str:=["lines","house"]
def uX:ao pz ["lines","house"] (ag (top 17)):=gh
abbrev qb:pc:=qF [("far",lo),("house",fr),("lines",fr)]
def kr:ax (ag (top 17)) pz qb ["far","house","lines"] [bm,ap 1,ap 0]:=lcs
abbrev HF:List Str:=["great","houses","lines"]
def pP:ao HF ["great"] (ag (top 18)):=gh
abbrev xM:pc:=qF [("house",lo),("name_of",gi),("halves",gi),("apart_from",gi),("houses",fr),("lines",fr)]
def qH:ax (ag (top 18)) HF xM ["house","houses","lines"] [bm,ap 1,ap 2]:=lcs
def nP:ao ["ground","stay","under"] ["ground","stay"] (ag (top 25)):=gh
abbrev ny:List Str:=["ground","stay","beside"]
def qD:ao ny ["ground","stay"] (ag (top 26)):=gh
abbrev tE:pc:=qF [("far",lo),("stay",fr)]
abbrev tD:pc:=qF [("far",lo),("stay",fr)]
def mD:ax (ag (top 26)) ny tE ["far","stay"] [bm,ap 1]:=lcs
def mC:ax (ag (top 26)) ny tD ["far","stay"] [bm,ap 1]:=lcs
abbrev nA:List Str:=["ground","node","stay","split","over"]
def kQ:ao nA ["ground","node","stay"] (ag (top 27)):=gh
abbrev tH:pc:=qF [("ins",lo),("SPLIT",gi)]
abbrev tG:pc:=qF [("ins",lo),("OVER",gi)]
def mG:ax (ag (top 27)) nA tH ["ins"] [bm]:=lcs
def mF:ax (ag (top 27)) nA tG ["ins"] [bm]:=lcs
def Mh:ao ["costs"] ["costs"] (ag (top 30)):=gh
abbrev uL:List Str:=["costs"]
def FY:ao uL ["costs"] (ag (top 31)):=gh
abbrev tI:pc:=qF [("cost",lo)]
def mH:ax (ag (top 31)) uL tI ["cost"] [bm]:=lcs
def FW:ao ["prices","deed"] ["prices","deed"] (ag (top 32)):=gh
abbrev qS:List Str:=["prices","rows","node","deed","onward"]
def nQ:ao qS ["prices","rows","node","deed"] (ag (top 33)):=gh
abbrev qY:pc:=qF [("half",lo),("stay",lo),("rows",fr)]
def gX:ax (ag (top 33)) qS qY ["half","stay","rows"] [bm,bm,ap 1]:=lcs
abbrev pw:List Str:=["ground","prices","rows","node","stay"]
def uW:ao pw ["ground","prices","rows","node","stay"] (ag (top 34)):=gh
abbrev qa:pc:=qF [("deed",lo),("deed_cost",gi),("node",fr),("prices",fr),("rows",fr)]
def kq:ax (ag (top 34)) pw qa ["deed","node","prices","rows"] [bm,ap 3,ap 1,ap 2]:=lcs
def xt:ao ["ground","prices","stay"] ["ground","prices","stay"] (ag (top 35)):=gh
abbrev pj:List Str:=["ground","prices","row","stay","own"]
def my:ao pj ["ground","prices","row","stay"] (ag (top 36)):=gh
abbrev pY:pc:=qF [("below",lo),("summed",gi),("own",fr),("row",fr)]
def kn:ax (ag (top 36)) pj pY ["below","own","row"] [bm,ap 4,ap 2]:=lcs
def lP:ao ["ground","prices","rows","node","row","stay","costs"] ["ground","prices","rows","node"] (ag (top 37)):=gh
def sJ:ao ["ground","small","prices","rows","node"] ["ground","small","prices"] (ag (top 38)):=gh
abbrev pq:List Str:=["ground","thing"]
def uV:ao pq ["ground","thing"] (ag (top 40)):=gh
abbrev pZ:pc:=qF [("entry",lo),("is_whole",gi)]
def ko:ax (ag (top 40)) pq pZ ["entry"] [bm]:=lcs
abbrev xa:List Str:=["ground","small","thing"]
def Ii:ao xa ["ground","small","thing"] (ag (top 41)):=gh
abbrev va:pc:=qF [("row",lo),("is_entries",gi),("ground",fr)]
def oz:ax (ag (top 41)) xa va ["row","ground"] [bm,ap 0]:=lcs
def sM:ao ["ground","small","prices","thing"] ["ground","small","prices","thing"] (ag (top 42)):=gh
abbrev mS:List Str:=["houses","dates"]
def sL:ao mS ["houses","dates"] (ag (top 44)):=gh
abbrev ou:pc:=qF [("house",lo),("date",lo),("isinstance",gi),("str",gi)]
def fj:ax (ag (top 44)) mS ou ["house","date"] [bm,bm]:=lcs
def da:ao ["great","dates","begins","ahead","pairs","number","begin","house","date"] ["great","dates","begins"] (ag (top 45)):=gh
abbrev qz:List Str:=["houses","dates","begins","numbers","pair","house","layer","goes_on","below","under","beside"]
def d5:ao qz ["houses","dates","begins","numbers","pair"] (ag (top 46)):=gh
abbrev u9:pc:=qF [("each",lo),("layer",fr),("numbers",fr)]
abbrev u7:pc:=qF [("far",lo),("house",fr),("layer",fr),("numbers",fr)]
def oy:ax (ag (top 46)) qz u9 ["each","layer","numbers"] [bm,ap 6,ap 3]:=lcs
def ox:ax (ag (top 46)) qz u7 ["far","house","layer","numbers"] [bm,ap 5,ap 6,ap 3]:=lcs
abbrev zQ:List Str:=["great","dates","houses","begins","pairs","numbers"]
def kR:ao zQ ["great","dates"] (ag (top 47)):=gh
abbrev Gv:pc:=qF [("number",lo),("pair",lo)]
abbrev Gu:pc:=qF [("pair",lo),("stay_of",gi),("begins",fr),("dates",fr),("houses",fr),("numbers",fr)]
def mX:ax (ag (top 47)) zQ Gv ["number","pair"] [bm,bm]:=lcs
def tK:ax (ag (top 47)) zQ Gu ["pair","begins","dates","houses","numbers"] [bm,ap 3,ap 1,ap 2,ap 5]:=lcs
def jB:ao ["_law_script","_law_k","_law_cell","_law_great_here"] ["_law_script","_law_k"] (ag (top 49)):=gh
def nR:ao ["_law_hand_here","_law_many","_law_digit"] ["_law_hand_here","_law_many"] (ag (top 50)):=gh
def xv:ao ["_law_hand_here","_law_some"] ["_law_hand_here","_law_some"] (ag (top 51)):=gh
abbrev pA:List Str:=["_law_hand_here","_law_many","_law_letters","_law_first","_law_turn","_law_tail"]
def dJ:ao pA ["_law_hand_here","_law_many"] (ag (top 52)):=gh
abbrev qc:pc:=qF [("_law_k",lo),("_law_first",fr),("_law_letters",fr),("_law_tail",fr),("_law_turn",fr)]
def ku:ax (ag (top 52)) pA qc ["_law_k","_law_first","_law_letters","_law_tail","_law_turn"] [bm,ap 3,ap 2,ap 5,ap 4]:=lcs
def cu:ao ["_law_hand_here","_law_some","_law_turn","_law_one","_law_at","_law_pair"] ["_law_hand_here","_law_some"] (ag (top 53)):=gh
def mB:ao ["_law_hand_here","_law_most","_law_words_here"] ["_law_hand_here","_law_most"] (ag (top 54)):=gh
abbrev pC:List Str:=["_law_hand_here","_law_words_here","_law_most","_law_some"]
def mz:ao pC ["_law_hand_here","_law_words_here","_law_most"] (ag (top 55)):=gh
abbrev qe:pc:=qF [("_law_k",lo),("_law_pick",gi),("_law_hand_here",fr),("_law_words_here",fr)]
def kz:ax (ag (top 55)) pC qe ["_law_k","_law_hand_here","_law_words_here"] [bm,ap 0,ap 1]:=lcs
def dM:ao ["_law_tree","_law_one","_law_other","_law_shifted","_law_node"] ["_law_tree"] (ag (top 56)):=gh
abbrev pD:List Str:=["_law_hand_here","_law_great_here","_law_houses","_law_found","_law_date","_law_at","_law_waiting","_law_turn","_law_free"]
def ba:ao pD ["_law_hand_here","_law_great_here"] (ag (top 57)):=gh
abbrev qh:pc:=qF [("_law_at",lo),("_law_house",lo),("isinstance",gi),("str",gi)]
def gb:ax (ag (top 57)) pD qh ["_law_at","_law_house"] [bm,bm]:=lcs
def uY:ao ["_law_hand_here","_law_great_here"] ["_law_hand_here","_law_great_here"] (ag (top 58)):=gh
def dc:ao ["_law_hand_here","_law_found","_law_k","_law_some"] ["_law_hand_here"] (ag (top 59)):=gh
def bo:ao ["_law_stays_here","_law_told","_law_node","_law_at","_law_name","_law_piece","_law_under","_law_beside","_law_one","_law_other","_law_found","_law_to"] ["_law_stays_here","_law_told","_law_node","_law_at"] (ag (top 60)):=gh
abbrev pB:List Str:=["_law_stays_here","_law_node","_law_at","_law_under","_law_place"]
def iK:ao pB ["_law_stays_here","_law_node","_law_at"] (ag (top 61)):=gh
abbrev qd:pc:=qF [("_law_below",lo),("_law_node",fr),("_law_place",fr)]
def kx:ax (ag (top 61)) pB qd ["_law_below","_law_node","_law_place"] [bm,ap 1,ap 4]:=lcs
def fu:ao ["_law_prices_here","_law_known_here","_law_option","_law_total","_law_entry"] ["_law_prices_here","_law_known_here","_law_option"] (ag (top 62)):=gh
abbrev kj:List Str:=["_law_stays_here","_law_told","_law_prices_here","_law_known_here","_law_node","_law_at","_law_some","_law_costs"]
def bG:ao kj ["_law_stays_here","_law_told","_law_prices_here"] (ag (top 63)):=gh
abbrev qg:pc:=qF [("_law_option",lo),("_law_worth",gi),("_law_known_here",fr),("_law_prices_here",fr)]
abbrev qf:pc:=qF [("_law_cost",lo)]
def kB:ax (ag (top 63)) kj qg ["_law_option","_law_known_here","_law_prices_here"] [bm,ap 3,ap 2]:=lcs
def kA:ax (ag (top 63)) kj qf ["_law_cost"] [bm]:=lcs
abbrev qT:List Str:=["_law_stays_here","_law_told","_law_known_here","_law_found","_law_node"]
def jA:ao qT ["_law_stays_here","_law_told","_law_known_here"] (ag (top 64)):=gh
abbrev qZ:pc:=qF [("_law_at",lo),("_law_known_here",fr),("_law_node",fr)]
def kZ:ax (ag (top 64)) qT qZ ["_law_at","_law_known_here","_law_node"] [bm,ap 2,ap 4]:=lcs
def eK:ao ["_law_hand_here","_law_great_most","_law_small_most","_law_great_here","_law_words_here","_law_stays_here","_law_small_here"] ["_law_hand_here","_law_great_most","_law_small_most"] (ag (top 65)):=gh
def bp:ao ["_law_hand_here","_law_rows_here","_law_at","_law_row","_law_to","_law_number","_law_way","_law_other"] ["_law_hand_here","_law_rows_here"] (ag (top 66)):=gh
def d6:ao ["_law_script","_law_k","_law_hand_here","_law_stays_here","_law_small_here","_law_told","_law_prices_here","_law_due","_law_things","_law_thing","_law_turn","_law_found"] ["_law_script"] (ag (top 67)):=gh
structure NB (v:EV):Prop where
 isinstance:v.mg "isinstance"=bm
 bool:v.mg "bool"=bm
 int:v.mg "int"=bm
 len:v.mg "len"=bm
 tuple:v.mg "tuple"=bm
 str:v.mg "str"=bm
 list:v.mg "list"=bm
 reversed:v.mg "reversed"=bm
 enumerate:v.mg "enumerate"=bm
 range:v.mg "range"=bm
 sorted:v.mg "sorted"=bm
 sum:v.mg "sum"=bm
 min:v.mg "min"=bm
 zip:v.mg "zip"=bm
 all:v.mg "all"=bm
 dict:v.mg "dict"=bm
 abs:v.mg "abs"=bm
 max:v.mg "max"=bm
variable {v:EV}
abbrev ng:DF:=⟨"is_whole",top 1,["thing"],1,λK=>f6 K [.v] (cq 1 gU)⟩
def Jb (D:DI v ng) (q:NB v):D.O:=
 om (m:=gU) D FX λcG _ _ _ _ _ _ hr=>
 (SF.cy (wH (iD rfl .int rfl q.isinstance (aa 0) rfl q.int boot_int) (um (acb (iD rfl .bool rfl q.isinstance (aa 0) rfl q.bool boot_bool)))) λ_=>rfl)
abbrev oY:DF:=⟨"is_row",top 2,["thing","many"],1,λK=>f6 K [.v,.v] (cq 2 je)⟩
def P1 (D:DI v oY) (q:NB v):D.O:=
 u4 (m:=je) D Mi λcG km _ _ _ _ _ _ hr=>
 (SF.cy (wH (iD rfl .tup rfl q.isinstance (aa 0) rfl q.tuple boot_tuple) (um (qO (fU rfl (aW hr)) (cF rfl rfl q.len (aa 0)) (aa 1)))) λ_=>rfl)
abbrev m7:DF:=⟨"parts_of",top 4,["tree"],1,λK=>fD K [.v] (cq 1 jI)⟩
def IZ (D:DI v m7) (q:NB v):D.O:=
 Xy (m:=jI) D iq λcW _ _ _ _ _ _ hr=>
 (sl 1 iq.nd (aN (n:=0) aj rfl) λnv=>
 (sl 2 iq.nd (aN (n:=1) (ae (aa 0) aj) rfl) λpG=>
 (SF.ZK (hd:=(λ(s4:List PV×List PV)=>([ap (.val cW),ap (.ol bm s4.1),ap (.ol bm s4.2),bm]:bh))) (s0:=(nv,pG)) AH (.refl _) (λs4=>(ZP rfl (cv 2) (λ_=>rfl))) (λs4=>
 (SF.Io 2 3 rfl ⋯ rfl rfl (.inl rfl) iq.nd rfl (C2 rfl) λt7=>
 (SF.append 1 rfl rfl rfl (.inl rfl) (aa 3) λnu=>
 (SF.ifT (FN (iZ rfl (iD rfl .str rfl q.isinstance (aa 3) rfl q.str xL) (λ_=>rfl)))
 (SF.extend 2 rfl rfl rfl (.inl rfl) (aD (aa 3)) λso=>
 (SF.f9 rfl (.keep (.keep (.keep (.drop (.refl _)))))))
 (SF.f9 rfl (.keep (.keep (.keep (.drop (.refl _)))))))))) λs4=>
 (SF.ir (aa2 rfl rfl rfl q.list rfl q.reversed (OX 1)) λ_=>rfl))))
abbrev jU:DF:=⟨"nodes",top 5,["tree"],2,λK=>f6 K [.v] (cq 1 gw)⟩
def TH (D:DI v jU) (q:NB v) (Jp:m7.C v):D.O:=
 om (m:=gw) D i6 λcW _ _ _ _ _ _ hr=>
 (sl 1 i6.nd (aN (n:=0) aj rfl) λjv=>
 (sl 2 i6.nd (aN (n:=0) aj rfl) λxN=>
 (SF.oQ (hd:=(λ(s4:List PV×List PV)=>([ap (.val cW),ap (.ol bm s4.1),ap (.ol bm s4.2),bm,bm,bm]:bh))) (s0:=(jv,xN)) AH rfl (bJ rfl (Ln (lC Jp hr (ae (aa 0) aj)))) (.refl _) (dD 3 i6.nd) (λs4 xC=>
 (SF.ifS (out1:=λ(Wz:List PV×List PV)=>.nx ([ap (.val cW),ap (.ol bm Wz.1),ap (.ol bm Wz.2),ap (.val xC),bm,bm]:bh)) (iZ rfl (iD rfl .str rfl q.isinstance (aa 3) rfl q.str xL) (λ_=>rfl))
 (SF.append 1 rfl rfl rfl (.inl rfl) (aa 3) λKn=>
 (SF.nil rfl (.refl _)))
 (SF.Io 2 4 rfl ⋯ rfl rfl (.inl rfl) i6.nd rfl (C2 rfl) λt20=>
 (SF.Io 2 5 rfl ⋯ rfl rfl (.inl rfl) i6.nd rfl (C2 rfl) λt22=>
 (SF.append 1 rfl rfl rfl (.inl rfl) (az (n:=2) (ae (aa 5) (ae (aa 4) aj)) rfl) λKm=>
 (SF.nil rfl (.keep (.keep (.keep (.keep (.drop (.drop (.refl _)))))))))))
 λWz=>(SF.append 2 rfl rfl rfl (.inl rfl) (uk (uq rfl rfl q.len (cv 1)) ak) λGw=>
 (SF.f9 rfl (.keep (.keep (.keep (.drop (.refl _))))))))) λs4=>
 (SF.cy (dB rfl rfl q.tuple (cv 1)) λ_=>rfl))))
abbrev jm:DF:=⟨"halves",top 6,["node"],1,λK=>f6 K [.v] (cq 1 cL)⟩
def P4 (D:DI v jm) (q:NB v):D.O:=
 om (m:=cL) D Mj λcn _ _ _ _ _ _ hr=>
 (SF.cy (qr (iZ rfl (iD rfl .str rfl q.isinstance (aa 0) rfl q.str xL) (λ_=>rfl)) (az (n:=0) aj rfl) (aa 0)) λ_=>rfl)
abbrev jY:DF:=⟨"ahead_of",top 7,["tree"],3,λK=>f6 K [.v] (cq 1 fi)⟩
def Je (D:DI v jY) (q:NB v) (gB:jU.C v) (g8:jm.C v):D.O:=
 om (m:=fi) D d9 λcW _ _ _ _ _ _ hr=>
 (sv 1 d9.nd (eC gB hr (ae (aa 0) aj)) λjv=>
 (SF.nM (i:=3) rfl d9.nd rfl rfl mI (bJ rfl (bP (aa 1))) (λ_ _ _ _ _=>(dD 0 mI.nd)) (λ_ _ _ _ _ p5=>gm) rfl λzw=>
 (SF.Ym (hd:=(λ(s7:List PV)=>([ap (.val cW),ap (.val jv),bm,ap (.ol bm s7),bm,bm]:bh))) (s0:=zw) AH rfl (oD rfl rfl q.enumerate (bP (aa 1))) (.refl _) (λ_=>(RL rfl (f7 rfl (aK (dD 4 d9.nd) (aK (dD 2 d9.nd) dZ))))) (λs7 t9=>
 (SF.oQ (hd:=(λ(WA:List PV)=>([ap (.val cW),ap (.val jv),ap (.val t9.2),ap (.ol bm WA),ap (.val t9.1),bm]:bh))) (s0:=s7) AH rfl (bJ rfl (bP (eC g8 hr (ae (aa 2) aj)))) (.refl _) (dD 5 d9.nd) (λWA Lq=>
 (SF.Ig 3 rfl rfl (.inl rfl) (aa 4) (aa 5) λHs=>
 (SF.f9 rfl (.keep (.keep (.keep (.keep (.keep (.drop (.refl _)))))))))) λWA=>
 (SF.f9 rfl (.keep (.keep (.drop (.keep (.drop (.refl _))))))))) λs7=>
 (SF.cy (dB rfl rfl q.tuple (cv 3)) λ_=>rfl))))
abbrev ft:DF:=⟨"under_at",top 12,["stays","stay"],1,λK=>f6 K [.v,.v] (cq 2 de)⟩
def IV (D:DI v ft) (oZ:v.mg "UNDER"=ap (.int 2 Kq)):D.O:=
 u4 (m:=de) D FV λjw bu _ _ _ _ _ _ hr=>
 (SF.cy (aQ rfl (aD (aQ rfl (aD (aa 0)) (aa 1))) (yZ oZ rfl)) λ_=>rfl)
abbrev lB:DF:=⟨"beside_at",top 13,["stays","stay"],1,λK=>f6 K [.v,.v] (cq 2 fN)⟩
def GJ (D:DI v lB) (lI:v.mg "BESIDE"=ap (.int 3 FO)):D.O:=
 u4 (m:=fN) D xu λjw bu _ _ _ _ _ _ hr=>
 (SF.cy (aQ rfl (aD (aQ rfl (aD (aa 0)) (aa 1))) (yZ lI rfl)) λ_=>rfl)
abbrev qv:DF:=⟨"is_home",top 14,["stays","stay","word"],2,λK=>f6 K [.v,.v,.v] (cq 3 jg)⟩
def MV (D:DI v qv) (uD:v.mg "NAME"=ap (.int 0 Oh)) (d8:ft.C v):D.O:=
 IG (m:=jg) D Ij λjw bu U3 _ _ _ _ _ _ hr=>
 (SF.cy (wH (qO (fU rfl (aW hr)) (eC d8 hr (ae (aa 0) (ae (aa 1) aj))) (az (n:=0) aj rfl)) (um (qO (fU rfl (aW hr)) (aQ rfl (aD (aQ rfl (aD (aa 0)) (aa 1))) (yZ uD rfl)) (aa 2)))) λ_=>rfl)
abbrev me:DF:=⟨"name_of",top 15,["houses","house"],1,λK=>f6 K [.v,.v] (cq 2 eg)⟩
def MR (D:DI v me) (q:NB v):D.O:=
 u4 (m:=eg) D Ih λfv lh _ _ _ _ _ _ hr=>
 (SF.cy (qr (iZ rfl (iD rfl .str rfl q.isinstance (aQ rfl (aD (aa 0)) (aa 1)) rfl q.str xL) (λ_=>rfl)) (aQ rfl (aD (aa 0)) (aa 1)) (aa 1)) λ_=>rfl)
abbrev m9:DF:=⟨"lines_up",top 16,["great"],4,λK=>fD K [.v] (cq 1 gT)⟩
def Ja (D:DI v m9) (q:NB v) (mZ:jY.C v):D.O:=
 Xy (m:=gT) D fF λdG _ _ _ _ _ _ hr=>
 (sv 1 fF.nd (eC mZ hr (ae (aa 0) aj)) λd4=>
 (SF.nM (i:=3) rfl fF.nd rfl rfl mE (bJ rfl (bP (aa 1))) (λ_ _ _ _ _=>(dD 0 mE.nd)) (λ_ _ _ _ _ p5=>(az (n:=0) aj rfl)) rfl λlV=>
 (SF.oQ (hd:=(λ(s9:List PV)=>([ap (.val dG),ap (.val d4),bm,ap (.ol bm s9),bm]:bh))) (s0:=lV) AH rfl (TR rfl q.range (uk (cF rfl rfl q.len (aa 1)) ak) (LD ak) (LD ak)) (.refl _) (dD 2 fF.nd) (λs9 lg=>
 (sv 4 fF.nd (qr (cm qi (aQ rfl (aD (aa 1)) (aa 2)) gm) (az (n:=0) aj rfl) (aQ rfl (cv 3) (aQ rfl (aD (aa 1)) (aa 2)))) λHt=>
 (SF.Ig 3 rfl rfl (.inl rfl) (aX rfl (az (n:=1) (ae (aa 2) aj) rfl) (aa 4)) (aa 2) λGy=>
 (SF.f9 rfl (.keep (.keep (.drop (.keep (.drop (.refl _)))))))))) λs9=>
 (SF.WD 3 rfl rfl))))
abbrev jX:DF:=⟨"apart_from",top 17,["lines","house"],1,λK=>f6 K [.v,.v] (cq 2 eU)⟩
def xZ (D:DI v jX) (q:NB v):D.O:=
 u4 (m:=eU) D uX λxP lh _ _ _ _ _ _ hr=>
 (SF.cy (dB rfl rfl q.tuple (nV (PM rfl kr (cZ rfl q.range (cF rfl rfl q.len (aa 0))) (λ_ _ _ _ _=>(dD 0 kr.nd)) (λ_ _ _ _ _ p3=>(HL.t (pI (xj rfl (aW hr) (aa 0) (aD (aQ rfl (aD (aa 2)) (aa 1)))) (lM (xj rfl (aW hr) (aa 1) (aD (aQ rfl (aD (aa 2)) (aa 0)))))))) (λ_ _ _ _ _ p3=>(aa 0)) rfl))) λ_=>rfl)
abbrev uz:DF:=⟨"ground",top 18,["great"],5,λK=>f6 K [.v] (cq 1 kY)⟩
def P5 (D:DI v uz) (q:NB v) (gB:jU.C v) (Jr:m9.C v) (qp:me.C v) (g8:jm.C v) (yB:jX.C v):D.O:=
 om (m:=kY) D pP λdG _ _ _ _ _ _ hr=>
 (sv 1 pP.nd (eC gB hr (ae (aa 0) aj)) λbD=>
 (sl 2 pP.nd (lC Jr hr (ae (aa 0) aj)) λlV=>
 SF.cE 2 rfl (SF.cy (dB rfl rfl q.tuple (nV (gc rfl qH (cZ rfl q.range (cF rfl rfl q.len (aa 1))) (λ_ _ _ _ _=>(dD 0 qH.nd)) (λ_ _ _ _ _ p7=>(az (n:=4) (ae (eC qp hr (ae (aa 1) (ae (aa 0) aj))) (ae ak (ae (eC g8 hr (ae (aQ rfl (aD (aa 1)) (aa 0)) aj)) (ae (eC yB hr (ae (aa 2) (ae (aa 0) aj))) aj)))) rfl)) rfl))) λ_=>rfl)))
abbrev lz:DF:=⟨"split_ins",top 25,["ground","stay"],2,λK=>fD K [.v,.v] (cq 2 fM)⟩
def GH (D:DI v lz) (q:NB v) (d8:ft.C v):D.O:=
 Tf (m:=fM) D nP λaA bu _ _ _ _ _ _ hr=>
 (sv 2 nP.nd (eC d8 hr (ae (aa 0) (ae (aa 1) aj))) λgp=>
 (SF.ir (XI (cm (fU rfl (aW hr)) (cF rfl rfl q.len (aa 2)) ak) (aN (n:=2) (ae (aa 2) (ae (az (n:=2) (ae (aQ rfl (aD (aa 2)) ak) (ae (aQ rfl (aD (aa 2)) ak) aj)) rfl) aj)) rfl) (aN (n:=0) aj rfl)) λ_=>rfl))
abbrev m8:DF:=⟨"over_ins",top 26,["ground","stay"],2,λK=>fD K [.v,.v] (cq 2 gR)⟩
def I0 (D:DI v m8) (GW:lB.C v):D.O:=
 Tf (m:=gR) D qD λaA bu _ _ _ _ _ _ hr=>
 (sv 2 qD.nd (eC GW hr (ae (aa 0) (ae (aa 1) aj))) λuF=>
 (SF.ir (mK rfl (cH (gc rfl mD (bJ rfl (bP (aa 2))) (λ_ _ _ _ _=>(dD 0 mD.nd)) (λ_ _ _ _ _ p5=>(az (n:=2) (ae (aa 1) (ae (aa 0) aj)) rfl)) rfl)) (cH (gc rfl mC (bJ rfl (bP (aa 2))) (λ_ _ _ _ _=>(dD 0 mC.nd)) (λ_ _ _ _ _ p9=>(az (n:=2) (ae (aa 0) (ae (aa 1) aj)) rfl)) rfl))) λ_=>rfl))
abbrev nh:DF:=⟨"deeds_at",top 27,["ground","node","stay"],3,λK=>fD K [.v,.v,.v] (cq 3 fh)⟩
def Jc (D:DI v nh) (q:NB v) (o5:v.mg "FOUND"=ap (.str "found" Ks)) (o4:v.mg "SPLIT"=ap (.str "split" Kr)) (uC:v.mg "OVER"=ap (.str "over" Og)) (jn:v.mg "DOUBLED"=ap (.str "doubled" vM)) (Nf:qv.C v) (GU:lz.C v) (Jq:m8.C v):D.O:=
 Xx (m:=fh) D kQ λaA cn bu _ _ _ _ _ _ hr=>
 (SF.RH (iZ rfl (iD rfl .str rfl q.isinstance (aa 1) rfl q.str xL) (λ_=>rfl))
 (SF.ir (XI (iZ rfl (eC Nf hr (ae (aa 0) (ae (aa 2) (ae (aa 1) aj)))) (λ_=>rfl)) (aN (n:=1) (ae (az (n:=2) (ae (yY o5 rfl) (ae (az (n:=0) aj rfl) aj)) rfl) aj) rfl) (aN (n:=0) aj rfl)) λ_=>rfl)
 (SF.nM (i:=3) rfl kQ.nd rfl rfl mG (bJ rfl (Ln (lC GU hr (ae (aa 0) (ae (aa 2) aj))))) (λ_ _ _ _ _=>(dD 0 mG.nd)) (λ_ _ _ _ _ Ĉ=>(az (n:=2) (ae (yY o4 rfl) (ae (aa 0) aj)) rfl)) rfl λKz=>
 SF.cE 3 rfl (SF.nM (i:=4) rfl kQ.nd rfl rfl mF (bJ rfl (Ln (lC Jq hr (ae (aa 0) (ae (aa 2) aj))))) (λ_ _ _ _ _=>(dD 0 mF.nd)) (λ_ _ _ _ _ p18=>(az (n:=2) (ae (yY uC rfl) (ae (aa 0) aj)) rfl)) rfl λKZ=>
 SF.cE 4 rfl (SF.ir (Ts rfl (aW hr) rfl q.sorted (cH (mK rfl (cH (mK rfl (cH (aN (n:=1) (ae (az (n:=2) (ae (yY jn rfl) (ae (az (n:=2) (ae (aa 2) (ae (aa 2) aj)) rfl) aj)) rfl) aj) rfl)) (jC (aa 3)))) (jC (aa 4))))) λ_=>rfl))))
abbrev oX:DF:=⟨"summed",top 30,["costs"],1,λK=>f6 K [.v] (cq 1 jb)⟩
def PY (D:DI v oX) (q:NB v):D.O:=
 om (m:=jb) D Mh λqx _ _ _ _ _ _ hr=>
 (SF.cy (qr (ZS rfl (aW hr) gm (aD (aa 0))) gm (Yy rfl rfl rfl q.sum (jC (aa 0)))) λ_=>rfl)
abbrev nj:DF:=⟨"cheapest",top 31,["costs"],1,λK=>f6 K [.v] (cq 1 gV)⟩
def Jd (D:DI v nj) (q:NB v):D.O:=
 om (m:=gV) D FY λqx _ _ _ _ _ _ hr=>
 (SF.cy (YA rfl rfl rfl q.min (cH (PM rfl mH (bJ rfl (bP (aa 0))) (λ_ _ _ _ _=>(dD 0 mH.nd)) (λ_ _ _ _ _ p2=>(cm Lj (aa 0) gm)) (λ_ _ _ _ _ p2=>(aa 0)) rfl))) λ_=>rfl)
abbrev m6:DF:=⟨"price_of",top 32,["prices","deed"],1,λK=>f6 K [.v,.v] (cq 2 d7)⟩
def IX (D:DI v m6) (mf:v.mg "DEEDS"=ap (.ref rZ)) (rO:Rt v.K rZ ["split","doubled","over"]):D.O:=
 u4 (m:=d7) D FW λaY uw _ _ _ _ _ _ hr=>
 (SF.cy (qr (ZR rfl (aW hr) (aa 1) mf rO) (aQ rfl (aD (aa 0)) (YB rfl (aa 1) mf rO)) ak) λ_=>rfl)
abbrev lA:DF:=⟨"deed_cost",top 33,["prices","rows","node","deed"],2,λK=>f6 K [.v,.v,.v,.v] (cq 4 df)⟩
def GI (D:DI v lA) (q:NB v) (g8:jm.C v) (tY:oX.C v) (Jo:m6.C v):D.O:=
 Xw (m:=df) D nQ λaY nT cn uw _ _ _ _ _ _ hr=>
 (SF.KJ (i:=4) rfl nQ.nd rfl rfl gX (Qb rfl rfl q.zip (bP (eC g8 hr (ae (aa 2) aj))) (bP (aQ rfl (aD (aa 3)) ak))) (λ_ _ _ _ _=>(RL rfl (f7 rfl (aK (dD 0 gX.nd) (aK (dD 1 gX.nd) dZ))))) (λ_ _ _ _ _ t7=>(aQ rfl (aD (aQ rfl (aD (aa 2)) (aa 0))) (aa 1))) (Tp rfl rfl ⋯) ⋯ λGg=>
 SF.cE 4 rfl (SF.cy (eC tY hr (ae (hJ (mK rfl (cH (aN (n:=1) (ae (eC Jo hr (ae (aa 0) (ae (aQ rfl (aD (aa 3)) ak) aj))) aj) rfl)) (jC (aa 4)))) aj)) λ_=>rfl))
abbrev jW:DF:=⟨"deed_costs",top 34,["ground","prices","rows","node","stay"],4,λK=>fD K [.v,.v,.v,.v,.v] (cq 5 eR)⟩
def xY (D:DI v jW) (Jt:nh.C v) (GV:lA.C v):D.O:=
 aeT (m:=eR) D uW λaA aY nT cn bu _ _ _ _ _ _ hr=>
 (SF.ir (gc rfl kq (bJ rfl (Ln (lC Jt hr (ae (aa 0) (ae (aa 3) (ae (aa 4) aj)))))) (λ_ _ _ _ _=>(dD 0 kq.nd)) (λ_ _ _ _ _ p5=>(eC GV hr (ae (aa 2) (ae (aa 3) (ae (aa 1) (ae (aa 0) aj)))))) rfl) λ_=>rfl)
abbrev ly:DF:=⟨"step_cost",top 35,["ground","prices","stay"],2,λK=>f6 K [.v,.v,.v] (cq 3 fK)⟩
def GG (D:DI v ly) (q:NB v) (uE:v.mg "LOST"=ap (.int 3 Oi)) (d8:ft.C v):D.O:=
 IG (m:=fK) D xt λaA aY bu _ _ _ _ _ _ hr=>
 (SF.cy (qr (cm (fU rfl (aW hr)) (cF rfl rfl q.len (eC d8 hr (ae (aa 0) (ae (aa 2) aj)))) ak) (aQ rfl (aD (aa 1)) (yZ uE rfl)) ak) λ_=>rfl)
abbrev jT:DF:=⟨"step_costs",top 36,["ground","prices","row","stay"],3,λK=>fD K [.v,.v,.v,.v] (cq 4 eQ)⟩
def xU (D:DI v jT) (GS:ly.C v) (d8:ft.C v) (tY:oX.C v):D.O:=
 aaW (m:=eQ) D my λaA aY aai bu _ _ _ _ _ _ hr=>
 (sv 4 my.nd (eC GS hr (ae (aa 0) (ae (aa 1) (ae (aa 3) aj)))) λVg=>
 (SF.ir (gc rfl kn (bJ rfl (bP (eC d8 hr (ae (aa 0) (ae (aa 3) aj))))) (λ_ _ _ _ _=>(dD 0 kn.nd)) (λ_ _ _ _ _ p8=>(eC tY hr (ae (hJ (aN (n:=2) (ae (aa 1) (ae (aQ rfl (aD (aa 2)) (aa 0)) aj)) rfl)) aj))) rfl) λ_=>rfl))
abbrev uy:DF:=⟨"row_of",top 37,["ground","prices","rows","node"],5,λK=>f6 K [.v,.v,.v,.v] (cq 4 kX)⟩
def PZ (D:DI v uy) (q:NB v) (yA:jW.C v) (yx:jT.C v) (Ju:nj.C v):D.O:=
 Xw (m:=kX) D lP λaA aY nT cn _ _ _ _ _ _ hr=>
 (sl 4 lP.nd (aN (n:=0) aj rfl) λOJ=>
 (SF.oQ (hd:=(λ(s3:List PV)=>([ap (.val aA),ap (.val aY),ap (.val nT),ap (.val cn),ap (.ol bm s3),bm,bm]:bh))) (s0:=OJ) AH rfl (cZ rfl q.range (cF rfl rfl q.len (aa 0))) (.refl _) (dD 5 lP.nd) (λs3 Ia=>
 (sl 6 lP.nd (aa5 4 rfl (mK rfl (cH (lC yA hr (ae (aa 0) (ae (aa 1) (ae (aa 2) (ae (aa 3) (ae (aa 5) aj))))))) (cH (lC yx hr (ae (aa 0) (ae (aa 1) (ae (aa 4) (ae (aa 5) aj)))))))) λLL=>
 SF.cE 6 rfl (SF.append 4 rfl rfl rfl (.inl rfl) (eC Ju hr (ae (aa 6) aj)) λOG=>
 (SF.f9 rfl (.keep (.keep (.keep (.keep (.keep (.drop (.drop (.refl _)))))))))))) λs3=>
 (SF.cy (dB rfl rfl q.tuple (cv 4)) λ_=>rfl)))
abbrev zm:DF:=⟨"table",top 38,["ground","small","prices"],6,λK=>f6 K [.v,.v,.v] (cq 3 oo)⟩
def TC (D:DI v zm) (q:NB v) (gB:jU.C v) (Qv:uy.C v):D.O:=
 IG (m:=oo) D sJ λaA iJ aY _ _ _ _ _ _ hr=>
 (sl 3 sJ.nd (aN (n:=0) aj rfl) λIk=>
 (SF.oQ (hd:=(λ(s3:List PV)=>([ap (.val aA),ap (.val iJ),ap (.val aY),ap (.ol bm s3),bm]:bh))) (s0:=Ik) AH rfl (bJ rfl (bP (eC gB hr (ae (aa 1) aj)))) (.refl _) (dD 4 sJ.nd) (λs3 gP=>
 (SF.append 3 rfl rfl rfl (.inl rfl) (ach 3 rfl (eC Qv hr (ae (aa 0) (ae (aa 2) (ae (aa 3) (ae (aa 4) aj)))))) λOD=>
 (SF.f9 rfl (.keep (.keep (.keep (.keep (.drop (.refl _))))))))) λs3=>
 (SF.cy (dB rfl rfl q.tuple (cv 3)) λ_=>rfl)))
abbrev jV:DF:=⟨"is_entries",top 40,["ground","thing"],2,λK=>f6 K [.v,.v] (cq 2 dw)⟩
def xW (D:DI v jV) (q:NB v) (Js:ng.C v) (tZ:oY.C v):D.O:=
 u4 (m:=dw) D uV λaA cG _ _ _ _ _ _ hr=>
 (SF.cy (wH (eC tZ hr (ae (aa 1) (ae (cF rfl rfl q.len (aa 0)) aj))) (um (VT rfl rfl rfl q.all (cH (gc rfl ko (bJ rfl (bP (aa 1))) (λ_ _ _ _ _=>(dD 0 ko.nd)) (λ_ _ _ _ _ p2=>(agd (qO qi (aa 0) gm) (um (eC Js hr (ae (aa 0) aj))))) rfl))))) λ_=>rfl)
abbrev qu:DF:=⟨"is_rows",top 41,["ground","small","thing"],3,λK=>f6 K [.v,.v,.v] (cq 3 jd)⟩
def MU (D:DI v qu) (q:NB v) (yz:jV.C v) (tZ:oY.C v) (gB:jU.C v):D.O:=
 IG (m:=jd) D Ii λaA iJ cG _ _ _ _ _ _ hr=>
 (SF.cy (wH (eC tZ hr (ae (aa 2) (ae (cF rfl rfl q.len (eC gB hr (ae (aa 1) aj))) aj))) (um (VT rfl rfl rfl q.all (cH (gc rfl oz (bJ rfl (bP (aa 2))) (λ_ _ _ _ _=>(dD 0 oz.nd)) (λ_ _ _ _ _ p2=>(eC yz hr (ae (aa 1) (ae (aa 0) aj)))) rfl))))) λ_=>rfl)
abbrev iR:DF:=⟨"shows_table",top 42,["ground","small","prices","thing"],7,λK=>f6 K [.v,.v,.v,.v] (cq 4 cR)⟩
def vf (D:DI v iR) (Uc:zm.C v) (Nd:qu.C v):D.O:=
 Xw (m:=cR) D sM λaA iJ aY cG _ _ _ _ _ _ hr=>
 (SF.cy (wH (eC Nd hr (ae (aa 0) (ae (aa 1) (ae (aa 3) aj)))) (um (qO (fU rfl (aW hr)) (aa 3) (eC Uc hr (ae (aa 0) (ae (aa 1) (ae (aa 2) aj))))))) λ_=>rfl)
abbrev iQ:DF:=⟨"split_dates",top 44,["houses","dates"],1,λK=>fD K [.v,.v] (cq 2 dP)⟩
def ve (D:DI v iQ) (q:NB v):D.O:=
 Tf (m:=dP) D sL λfv dH _ _ _ _ _ _ hr=>
 (SF.ir (aa4 rfl fj (Qb rfl rfl q.zip (bP (aa 0)) (bP (aa 1))) (λ_ _ _ _ _=>(RL rfl (f7 rfl (aK (dD 0 fj.nd) (aK (dD 1 fj.nd) dZ))))) (λ_ _ _ _ _ t5=>(FN (iZ rfl (iD rfl .str rfl q.isinstance (aa 0) rfl q.str xL) (λ_=>rfl)))) (λ_ _ _ _ _ t5=>(aa 1)) (Tp rfl rfl ⋯) ⋯) λ_=>rfl)
abbrev m5:DF:=⟨"standing",top 45,["great","dates","begins"],4,λK=>fD K [.v,.v,.v] (cq 3 gQ)⟩
def IW (D:DI v m5) (q:NB v) (mZ:jY.C v):D.O:=
 Xx (m:=gQ) D da λdG dH ke _ _ _ _ _ _ hr=>
 (sv 3 da.nd (eC mZ hr (ae (aa 0) aj)) λd4=>
 (sl 4 da.nd (aN (n:=0) aj rfl) λxE=>
 (SF.Ym (hd:=(λ(s5:List PV)=>([ap (.val dG),ap (.val dH),ap (.val ke),ap (.val d4),ap (.ol bm s5),bm,bm,bm,bm]:bh))) (s0:=xE) AH rfl (oD rfl rfl q.enumerate (bP (aa 2))) (.refl _) (λ_=>(RL rfl (f7 rfl (aK (dD 5 da.nd) (aK (dD 6 da.nd) dZ))))) (λs5 t7=>
 (SF.Ym (hd:=(λ(s9:List PV)=>([ap (.val dG),ap (.val dH),ap (.val ke),ap (.val d4),ap (.ol bm s9),ap (.val t7.1),ap (.val t7.2),bm,bm]:bh))) (s0:=s5) AH rfl (oD rfl rfl q.enumerate (bP (aa 1))) (.refl _) (λ_=>(RL rfl (f7 rfl (aK (dD 7 da.nd) (aK (dD 8 da.nd) dZ))))) (λs9 Z8=>
 (SF.ifT (HL.t (pI (cm Vv (aa 8) (aa 6)) (lM (HL.t (U4 (cm qi (aQ rfl (aD (aa 3)) (aa 7)) gm) (N9 (cm Lk (aa 6) (aQ rfl (aD (aa 1)) (aQ rfl (aD (aa 3)) (aa 7))))))))))
 (SF.append 4 rfl rfl rfl (.inl rfl) (az (n:=2) (ae (aa 7) (ae (aa 5) aj)) rfl) λGa=>
 (SF.f9 rfl (.keep (.keep (.keep (.keep (.keep (.keep (.keep (.drop (.drop (.refl _))))))))))))
 (SF.f9 rfl (.keep (.keep (.keep (.keep (.keep (.keep (.keep (.drop (.drop (.refl _))))))))))))) λs9=>
 (SF.f9 rfl (.keep (.keep (.keep (.keep (.keep (.drop (.drop (.refl _))))))))))) λs5=>
 (SF.WD 4 rfl rfl))))
abbrev qt:DF:=⟨"stay_of",top 46,["houses","dates","begins","numbers","pair"],2,λK=>f6 K [.v,.v,.v,.v,.v] (cq 5 jc)⟩
def MP (D:DI v qt) (q:NB v) (g8:jm.C v) (qp:me.C v):D.O:=
 aeR (m:=jc) D d5 λfv dH ke n9 Ph _ _ _ _ _ _ hr=>
 (sv 5 d5.nd (aQ rfl (aD (aa 4)) ak) λlX=>
 (sv 6 d5.nd (aQ rfl (aD (aa 4)) ak) λoA=>
 (sv 7 d5.nd (qO Lk (aQ rfl (aD (aa 1)) (aa 5)) (aQ rfl (aD (aa 2)) (aa 6))) λwA=>
 (sv 8 d5.nd (qr (iZ rfl (aa 7) (λ_=>rfl)) (az (n:=1) (ae (aa 5) aj) rfl) (eC g8 hr (ae (aQ rfl (aD (aa 0)) (aa 5)) aj))) λbelow_4=>
 (sv 9 d5.nd (dB rfl rfl q.tuple (nV (gc rfl oy (bJ rfl (bP (aa 8))) (λ_ _ _ _ _=>(dD 0 oy.nd)) (λ_ _ _ _ _ p9=>(uv (aW hr) (aa 2) (az (n:=2) (ae (aa 0) (ae (uk (aa 1) ak) aj)) rfl) (λ_ _=>rfl))) rfl))) λKj=>
 (sv 10 d5.nd (dB rfl rfl q.tuple (nV (PM rfl ox (TU (aa 3)) (λ_ _ _ _ _=>(dD 0 ox.nd)) (λ_ _ _ _ _ é=>(HL.t (pI (cm (fU rfl (aW hr)) (aQ rfl (aD (aa 0)) ak) (aa 2)) (lM (cm (Vu rfl (aW hr)) (aQ rfl (aD (aa 0)) ak) (aa 1)))))) (λ_ _ _ _ _ é=>(uv (aW hr) (aa 3) (aa 0) (λ_ _=>rfl))) rfl))) λw5=>
 (SF.cy (az (n:=4) (ae (eC qp hr (ae (aa 0) (ae (aa 5) aj))) (ae (aa 6) (ae (aa 9) (ae (aa 10) aj)))) rfl) λ_=>rfl)))))))
abbrev zp:DF:=⟨"dated",top 47,["great","dates"],5,λK=>f6 K [.v,.v] (cq 2 lU)⟩
def TJ (D:DI v zp) (q:NB v) (gB:jU.C v) (vn:iQ.C v) (Jn:m5.C v) (Nc:qt.C v):D.O:=
 u4 (m:=lU) D kR λdG dH _ _ _ _ _ _ hr=>
 (sv 2 kR.nd (eC gB hr (ae (aa 0) aj)) λbD=>
 (sl 3 kR.nd (mK rfl (cH (aN (n:=1) (ae ak aj) rfl)) (cH (Tt rfl rfl q.sorted (cH (lC vn hr (ae (aa 2) (ae (aa 1) aj))))))) λuG=>
 SF.cE 3 rfl (sl 4 kR.nd (lC Jn hr (ae (aa 0) (ae (aa 1) (ae (aa 3) aj)))) λxD=>
 SF.cE 4 rfl (sv 5 kR.nd (agf (Uz rfl rfl (aW hr) rfl q.dict (cH (XF rfl mX (oD rfl rfl q.enumerate (bP (aa 4))) (λ_ _ _ _ _=>(RL rfl (f7 rfl (aK (dD 0 mX.nd) (aK (dD 1 mX.nd) dZ))))) (λ_ _ _ _ _ mx=>(az (n:=2) (ae (aa 1) (ae (aa 0) aj)) rfl)) (Tp rfl rfl ⋯) ⋯)))) λsV=>
 (SF.cy (dB rfl rfl q.tuple (nV (gc rfl tK (bJ rfl (bP (aa 4))) (λ_ _ _ _ _=>(dD 0 tK.nd)) (λ_ _ _ _ _ è=>(eC Nc hr (ae (aa 3) (ae (aa 2) (ae (aa 1) (ae (aa 4) (ae (aa 0) aj))))))) rfl))) λ_=>rfl)))))
abbrev lF:DF:=⟨"_law_hand",top 49,["_law_script","_law_k"],1,λK=>fD K [.v,.v] (cq 2 fP)⟩
def GO (D:DI v lF) (q:NB v):D.O:=
 Tf (m:=fP) D jB λeJ k_ _ _ _ _ _ _ hr=>
 (sv 2 jB.nd (qr (cm Lk (aa 1) (cF rfl rfl q.len (aa 0))) (aQ rfl (aD (aa 0)) (aa 1)) ak) λlH=>
 (sv 3 jB.nd (uo (VU rfl q.abs (aa 2)) (Um rfl q.int (qO abe (VU rfl q.abs (aa 2)) (VQ ak ak)))) λgA=>
 (SF.ir (aN (n:=3) (ae (aa 3) (ae (qN (uo (aX rfl (aX rfl (qN (aa 2) ak) (uo (uo ak (aa 1)) (aa 1))) ak) ak) ak) (ae ak aj))) rfl) λ_=>rfl)))
abbrev bb:DF:=⟨"_law_take",top 50,["_law_hand_here","_law_many"],1,λK=>f6 K [.p (iV gN),.v] (cq 1 bx)⟩
def GK (D:DI v bb):D.O:=
 W0 (n:=1) (fnO (n:=1) (m:=dQ) D.fn nR rfl λad gY l hl=>match l,hl with | [km],_=>λ_ _ _ _ _ _ hr=>show SF _ _ _ [ap (.ol (ap ad) gY),ap (.val km),bm] _ (dQ gY km) _ from
 (SF.Ig 0 rfl rfl (.inl rfl) (aX rfl (aQ rfl (cv 0) ak) ak) ak λbX=>
 (SF.RH (HL.t (pI (cm abd (aQ rfl (cv 0) ak) ak) (lM (cm Vv (aQ rfl (cv 0) ak) ak))))
 (sv 2 nR.nd (qN (aQ rfl (cv 0) ak) (aa 1)) λLI=>
 (SF.Ig 0 rfl rfl (.inl rfl) (VS (aQ rfl (cv 0) ak) (aa 1)) ak λlj=>
 (SF.aaj 0 (k:=λx8=>(x8,lj)) rfl (aa 2) λ_=>rfl)))
 (SF.Ig 0 rfl rfl (.inl rfl) (qN (aX rfl (aX rfl (uo (aQ rfl (cv 0) ak) ak) ak) (aQ rfl (cv 0) ak)) ak) ak λfW=>
 (SF.aaj 0 (k:=λpF=>(pF,fW)) rfl (qN (VS (qN (uo (aQ rfl (cv 0) ak) (aX rfl (qN (aQ rfl (cv 0) ak) ak) ak)) ak) ak) (aa 1)) λ_=>rfl))))) Od
abbrev eE:DF:=⟨"_law_pick",top 51,["_law_hand_here","_law_some"],2,λK=>f6 K [.p (iV gN),.v] (cq 1 bV)⟩
def GN (D:DI v eE) (q:NB v) (aw:bb.C v):D.O:=
 om (m:=bV) D xv λvP _ _ _ _ _ _ hr=>
 (SF.cy (aQ rfl (aD (aa 1)) (eC aw hr (bE 0 (ae (cF rfl rfl q.len (aa 1)) aj)))) λ_=>rfl)
abbrev j3:DF:=⟨"_law_words",top 52,["_law_hand_here","_law_many"],3,λK=>fD K [.p (iV gN),.v] (cq 1 dh)⟩
def yb (D:DI v j3) (q:NB v) (aw:bb.C v) (cC:eE.C v):D.O:=
 Xy (m:=dh) D dJ λkm _ _ _ _ _ _ hr=>
 (sv 2 dJ.nd wG λvX=>
 (SF.OA (az (n:=2) (ae (eC aw hr (bE 0 (ae ak aj))) (ae (eC cC hr (bE 0 (ae (hJ (aN (n:=6) (ae ak (ae ak (ae ak (ae ak (ae ak (ae ak aj)))))) rfl)) aj))) aj)) rfl) (RL rfl (f7 rfl (aK (dD 3 dJ.nd) (aK (dD 4 dJ.nd) dZ)))) λt13=>
 (sv 5 dJ.nd (eC cC hr (bE 0 (ae (hJ (aN (n:=5) (ae wG (ae wG (ae wG (ae wG (ae wG aj))))) rfl)) aj))) λKo=>
 (SF.ir (gc rfl ku (cZ rfl q.range (aa 1)) (λ_ _ _ _ _=>(dD 0 ku.nd)) (λ_ _ _ _ _ p23=>(aX rfl (acg (aa 2) (qN (aX rfl (aa 1) (uo (aa 4) (aa 0))) ak) (λ_ _=>rfl)) (aa 3))) rfl) λ_=>rfl))))
abbrev fy:DF:=⟨"_law_joined",top 53,["_law_hand_here","_law_some"],2,λK=>f6 K [.p (iV gN),.v] (cq 1 cS)⟩
def vi (D:DI v fy) (q:NB v) (aw:bb.C v):D.O:=
 om (m:=cS) D cu λvP _ _ _ _ _ _ hr=>
 (sl 1 cu.nd (XG rfl rfl q.list (aD (aa 1))) λmV=>
 (SF.oQ (hd:=(λ(s3:List PV)=>([ap (.mn (iV gN)),ap (.ol bm s3),bm,bm,bm,bm]:bh))) (s0:=mV) AH rfl (cZ rfl q.range (uk (uq rfl rfl q.len (cv 1)) ak)) (.refl _) (dD 2 cu.nd) (λs3 Wg=>
 (SF.aeG 1 3 rfl ⋯ rfl rfl (.inl rfl) cu.nd rfl (C2 rfl) (eC aw hr (bE 0 (ae (uq rfl rfl q.len (cv 1)) aj))) λt8=>
 (sv 4 cu.nd (eC aw hr (bE 0 (ae (uq rfl rfl q.len (cv 1)) aj))) λYN=>
 (sv 5 cu.nd (az (n:=2) (ae (aa 3) (ae (aQ rfl (cv 1) (aa 4)) aj)) rfl) λxF=>
 (SF.Ig 1 rfl rfl (.inl rfl) (qr (cm (fU rfl (aW hr)) (eC aw hr (bE 0 (ae ak aj))) ak) (aa 5) (QX rfl (aa 5) eO eO (eN (LD ak)))) (aa 4) λKG=>
 (SF.f9 rfl (.keep (.keep (.drop (.drop (.drop (.drop (.refl _))))))))))))) λs3=>
 (SF.cy (aQ rfl (cv 1) ak) λ_=>rfl)))
abbrev j9:DF:=⟨"_law_great",top 54,["_law_hand_here","_law_most"],4,λK=>f6 K [.p (iV gN),.v] (cq 1 dj)⟩
def yg (D:DI v j9) (yD:j3.C v) (aw:bb.C v) (iP:fy.C v):D.O:=
 om (m:=dj) D mB λGn _ _ _ _ _ _ hr=>
 (sl 2 mB.nd (lC yD hr (bE 0 (ae (aX rfl ak (eC aw hr (bE 0 (ae (aa 1) aj)))) aj))) λjt=>
 SF.cE 2 rfl (SF.cy (az (n:=2) (ae (eC iP hr (bE 0 (ae (aa 2) aj))) (ae (aa 2) aj)) rfl) λ_=>rfl))
abbrev j7:DF:=⟨"_law_small",top 55,["_law_hand_here","_law_words_here","_law_most"],3,λK=>f6 K [.p (iV gN),.v,.v] (cq 2 di)⟩
def ye (D:DI v j7) (q:NB v) (aw:bb.C v) (cC:eE.C v) (iP:fy.C v):D.O:=
 u4 (m:=di) D mz λqA Gn _ _ _ _ _ _ hr=>
 (SF.nM (i:=3) rfl mz.nd rfl rfl kz (cZ rfl q.range (aX rfl ak (eC aw hr (bE 0 (ae (aa 2) aj))))) (λ_ _ _ _ _=>(dD 0 kz.nd)) (λ_ _ _ _ _ p5=>(eC cC hr (bE 1 (ae (aa 2) aj)))) rfl λmV=>
 SF.cE 3 rfl (SF.cy (eC iP hr (bE 0 (ae (aa 3) aj))) λ_=>rfl))
abbrev gE:DF:=⟨"_law_nodes",top 56,["_law_tree"],12,λK=>fD K [.v] (cq 1 (aV 12))⟩
theorem oC (D:DI v gE) (q:NB v):∀n,jq v.P v.w v.K v.mg v.base mT (n+0) D.f D.fd ["_law_tree"] (fD v.K [.v] (cq 1 (aV n)))
 | 0=>abZ (Sa λl Q hl=>match l,hl with | [cW],_=>λh=>h.elim)
 | n+1=>have dA:=D.cN (oC D q n)
  fnL (k:=n+0) (n:=1) (m:=aV (n+1)) D.fn dM rfl (iw cY) λl hl=>match l,hl with | [cW],_=>λ_ _ _ _ _ _ hr=>show SF _ _ _ [ap (.val cW),bm,bm,bm,bm] _ (aV (n+1) cW) _ from
 (SF.RH (iZ rfl (iD rfl .str rfl q.isinstance (aa 0) rfl q.str xL) (λ_=>rfl))
 (SF.ir (aN (n:=1) (ae (aa 0) aj) rfl) λ_=>rfl)
 (SF.par (i:=1) (j:=2) rfl dM.nd rfl rfl ⋯ rfl rfl (hJ (lC dA hr (ae (aQ rfl (aD (aa 0)) ak) aj))) (hJ (lC dA hr (ae (aQ rfl (aD (aa 0)) ak) aj))) λqE nZ=>
 (sl 3 dM.nd (aN (n:=0) aj rfl) λpO=>
 (SF.oQ (hd:=(λ(s7:List PV)=>([ap (.val cW),ap (.val qE),ap (.val nZ),ap (.ol bm s7),bm]:bh))) (s0:=pO) AH rfl (bJ rfl (bP (aa 2))) (.refl _) (dD 4 dM.nd) (λs7 sZ=>
 (SF.ifS (out1:=λ(Ć:PV)=>.nx ([ap (.val cW),ap (.val qE),ap (.val nZ),ap (.ol bm s7),ap (.val Ć)]:bh)) (FN (iZ rfl (iD rfl .str rfl q.isinstance (aa 4) rfl q.str xL) (λ_=>rfl)))
 (sv 4 dM.nd (az (n:=2) (ae (aX rfl (aQ rfl (aD (aa 4)) ak) (cF rfl rfl q.len (aa 1))) (ae (aX rfl (aQ rfl (aD (aa 4)) ak) (cF rfl rfl q.len (aa 1))) aj)) rfl) λK5=>
 (SF.nil rfl (.refl _)))
 (SF.nil rfl (.refl _))
 λĆ=>(SF.append 3 rfl rfl rfl (.inl rfl) (aa 4) λsG=>
 (SF.f9 rfl (.keep (.keep (.keep (.keep (.drop (.refl _)))))))))) λs7=>
 (SF.ir (mK rfl (cH (mK rfl (jC (aa 1)) (OX 3))) (cH (aN (n:=1) (ae (az (n:=2) (ae (uk (cF rfl rfl q.len (aa 1)) ak) (ae (uk (aX rfl (cF rfl rfl q.len (aa 1)) (cF rfl rfl q.len (aa 2))) ak) aj)) rfl) aj) rfl))) λ_=>rfl)))))
abbrev kd:DF:=⟨"_law_dates",top 57,["_law_hand_here","_law_great_here"],13,λK=>f6 K [.p (iV gN),.v] (cq 1 dq)⟩
def yi (D:DI v kd) (q:NB v) (dA:gE.C v) (cC:eE.C v) (aw:bb.C v):D.O:=
 om (m:=dq) D ba λbZ _ _ _ _ _ _ hr=>
 (sl 2 ba.nd (lC dA hr (ae (aa 1) aj)) λbD=>
 SF.cE 2 rfl (sl 3 ba.nd (aa3 (aN (n:=1) (ae ak aj) rfl) (cF rfl rfl q.len (aa 2))) λyN=>
 (sv 4 ba.nd ak λJS=>
 (SF.Wx (i:=6) rfl ba.nd rfl rfl gb (oD rfl rfl q.enumerate (bP (aa 2))) (λ_ _ _ _ _=>(RL rfl (f7 rfl (aK (dD 0 gb.nd) (aK (dD 1 gb.nd) dZ))))) (λ_ _ _ _ _ ă=>(FN (iZ rfl (iD rfl .str rfl q.isinstance (aa 1) rfl q.str xL) (λ_=>rfl)))) (λ_ _ _ _ _ ă=>(aa 0)) (Tp rfl rfl ⋯) ⋯ λlK=>
 (SF.oQ (hd:=(λ(FZ:List PV×PV×List PV)=>([ap (.mn (iV gN)),ap (.val bZ),ap (.val (.cl bD)),ap (.ol bm FZ.1),ap (.val FZ.2.1),bm,ap (.ol bm FZ.2.2),bm,bm]:bh))) (s0:=(yN,JS,lK)) AH rfl (cZ rfl q.range (uq rfl rfl q.len (cv 6))) (.refl _) (dD 7 ba.nd) (λFZ Kl=>
 (sl 8 ba.nd (aN (n:=0) aj rfl) λyK=>
 (SF.abW 6 (hd:=(λYR (U9:List PV)=>([ap (.mn (iV gN)),ap (.val bZ),ap (.val (.cl bD)),ap (.ol bm FZ.1),ap (.val FZ.2.1),bm,ap (.ol (ap YR) FZ.2.2),ap (.val Kl),ap (.ol bm U9)]:bh))) (s0:=yK) rfl rfl rfl (.inl rfl) AH rfl (λ_=>(.refl _)) (λ_ _=>rfl) (dD 5 ba.nd) (λYR U9 LQ=>
 (SF.ifT (HL.t (pI (xj rfl (aW hr) (aQ rfl (aD (aQ rfl (aD (aa 2)) (aa 5))) ak) (cv 6)) (lM (xj rfl (aW hr) (aQ rfl (aD (aQ rfl (aD (aa 2)) (aa 5))) ak) (cv 6)))))
 (SF.append 8 rfl rfl rfl (.inl rfl) (aa 5) λLv=>
 (SF.f9 rfl (.keep (.keep (.keep (.keep (.keep (.drop (.refl _)))))))))
 (SF.f9 rfl (.keep (.keep (.keep (.keep (.keep (.drop (.refl _)))))))))) λYR U9=>
 (SF.cE 8 rfl (sv 5 ba.nd (eC cC hr (bE 0 (ae (aa 8) aj))) λRm=>
 (sv 4 ba.nd (aX rfl (aX rfl (aa 4) ak) (eC aw hr (bE 0 (ae ak aj)))) λzl=>
 (SF.Ig 3 rfl rfl (.inl rfl) (aa 4) (aa 5) λG3=>
 (SF.remove 6 rfl rfl rfl (.inl rfl) (aa 5) λsk=>
 (SF.f9 rfl (.keep (.keep (.keep (.keep (.keep (.drop (.keep (.drop (.drop (.refl _))))))))))))))))))) λFZ=>
 (SF.cy (dB rfl rfl q.tuple (cv 3)) λ_=>rfl))))))
abbrev j6:DF:=⟨"_law_stays",top 58,["_law_hand_here","_law_great_here"],14,λK=>f6 K [.p (iV gN),.v] (cq 1 eX)⟩
def yd (D:DI v j6) (aw:bb.C v) (Qx:uz.C v) (Ud:zp.C v) (yJ:kd.C v):D.O:=
 om (m:=eX) D uY λbZ _ _ _ _ _ _ hr=>
 (SF.RH (cm (fU rfl (aW hr)) (eC aw hr (bE 0 (ae ak aj))) ak)
 (SF.cy (eC Qx hr (ae (aa 1) aj)) λ_=>rfl)
 (SF.cy (eC Ud hr (ae (aa 1) (ae (eC yJ hr (bE 0 (ae (aa 1) aj))) aj))) λ_=>rfl))
abbrev fx:DF:=⟨"_law_prices",top 59,["_law_hand_here"],3,λK=>f6 K [.p (iV gN)] (cq 0 bS)⟩
def vh (D:DI v fx) (q:NB v) (aw:bb.C v) (cC:eE.C v):D.O:=
 aeS (m:=bS) D dc λ_ _ _ _ _ _ hr=>
 (sl 1 dc.nd (aN (n:=0) aj rfl) λjO=>
 (SF.oQ (hd:=(λ(s3:List PV)=>([ap (.mn (iV gN)),ap (.ol bm s3),bm,bm]:bh))) (s0:=jO) AH rfl (cZ rfl q.range ak) (.refl _) (dD 2 dc.nd) (λs3 k_4=>
 (sl 3 dc.nd (aN (n:=7) (ae ak (ae ak (ae ak (ae ak (ae ak (ae (eC aw hr (bE 0 (ae ak aj))) (ae (eC aw hr (bE 0 (ae ak aj))) aj))))))) rfl) λOv=>
 SF.cE 3 rfl (sl 3 dc.nd (mK rfl (jC (aa 3)) (cH (aN (n:=2) (ae ak (ae (aX rfl (VQ ak ak) (eC aw hr (bE 0 (ae ak aj)))) aj)) rfl))) λKD=>
 SF.cE 3 rfl (SF.append 1 rfl rfl rfl (.inl rfl) (eC cC hr (bE 0 (ae (aa 3) aj))) λlq=>
 (SF.f9 rfl (.keep (.keep (.drop (.drop (.refl _)))))))))) λs3=>
 (SF.cy (dB rfl rfl q.tuple (cv 1)) λ_=>rfl)))
abbrev ka:DF:=⟨"_law_deeds",top 60,["_law_stays_here","_law_told","_law_node","_law_at"],1,λK=>fD K [.v,.v,.v,.v] (cq 4 dm)⟩
def yh (D:DI v ka) (q:NB v):D.O:=
 aaW (m:=dm) D bo λaL gk cn Ø _ _ _ _ _ _ hr=>
 (SF.OA (aQ rfl (aD (aa 0)) (aa 3)) (g_4 rfl (f7 rfl (aK (dD 4 bo.nd) (aK (dD 5 bo.nd) (aK (dD 6 bo.nd) (aK (dD 7 bo.nd) dZ)))))) λt3=>
 (SF.RH (iZ rfl (iD rfl .str rfl q.isinstance (aQ rfl (aD (aa 1)) (aa 2)) rfl q.str xL) (λ_=>rfl))
 (SF.ir (XI (HL.t (pI (cm (fU rfl (aW hr)) (aa 6) (az (n:=0) aj rfl)) (lM (cm (fU rfl (aW hr)) (aa 4) (aQ rfl (aD (aa 1)) (aa 2)))))) (aN (n:=1) (ae (az (n:=2) (ae gm (ae (hJ (aN (n:=0) aj rfl)) aj)) rfl) aj) rfl) (aN (n:=0) aj rfl)) λ_=>rfl)
 (SF.OA (aQ rfl (aD (aa 1)) (aa 2)) (RL rfl (f7 rfl (aK (dD 8 bo.nd) (aK (dD 9 bo.nd) dZ)))) λt8=>
 (sl 10 bo.nd (aN (n:=1) (ae (az (n:=2) (ae ak (ae (hJ (aN (n:=2) (ae (az (n:=2) (ae (aa 8) (ae (aa 3) aj)) rfl) (ae (az (n:=2) (ae (aa 9) (ae (aa 3) aj)) rfl) aj)) rfl)) aj)) rfl) aj) rfl) λyM=>
 (SF.oQ (hd:=(λ(U8:List PV)=>([ap (.val aL),ap (.val gk),ap (.val cn),ap (.val Ø),ap (.val t3.1),ap (.val t3.2.1),ap (.val t3.2.2.1),ap (.val t3.2.2.2),ap (.val t8.1),ap (.val t8.2),ap (.ol bm U8),bm]:bh))) (s0:=yM) AH rfl (bJ rfl (bP (aa 7))) (.refl _) (dD 11 bo.nd) (λU8 Oa=>
 (SF.append 10 rfl rfl rfl (.inl rfl) (az (n:=2) (ae ak (ae (hJ (aN (n:=2) (ae (az (n:=2) (ae (aa 8) (ae (aa 3) aj)) rfl) (ae (az (n:=2) (ae (aa 9) (ae (aa 11) aj)) rfl) aj)) rfl)) aj)) rfl) λlq=>
 (SF.append 10 rfl rfl rfl (.inl rfl) (az (n:=2) (ae ak (ae (hJ (aN (n:=2) (ae (az (n:=2) (ae (aa 8) (ae (aa 11) aj)) rfl) (ae (az (n:=2) (ae (aa 9) (ae (aa 3) aj)) rfl) aj)) rfl)) aj)) rfl) λG1=>
 (SF.f9 rfl (.keep (.keep (.keep (.keep (.keep (.keep (.keep (.keep (.keep (.keep (.keep (.drop (.refl _))))))))))))))))) λU8=>
 (SF.ifS (out1:=λ(Ą:List PV)=>.nx ([ap (.val aL),ap (.val gk),ap (.val cn),ap (.val Ø),ap (.val t3.1),ap (.val t3.2.1),ap (.val t3.2.2.1),ap (.val t3.2.2.2),ap (.val t8.1),ap (.val t8.2),ap (.ol bm Ą),bm]:bh)) (cm (fU rfl (aW hr)) (cF rfl rfl q.len (aa 6)) ak)
 (SF.append 10 rfl rfl rfl (.inl rfl) (az (n:=2) (ae ak (ae (hJ (aN (n:=2) (ae (az (n:=2) (ae (aa 8) (ae (aQ rfl (aD (aa 6)) ak) aj)) rfl) (ae (az (n:=2) (ae (aa 9) (ae (aQ rfl (aD (aa 6)) ak) aj)) rfl) aj)) rfl)) aj)) rfl) λG0=>
 (SF.append 10 rfl rfl rfl (.inl rfl) (az (n:=2) (ae ak (ae (hJ (aN (n:=2) (ae (az (n:=2) (ae (aa 8) (ae (aQ rfl (aD (aa 6)) ak) aj)) rfl) (ae (az (n:=2) (ae (aa 9) (ae (aQ rfl (aD (aa 6)) ak) aj)) rfl) aj)) rfl)) aj)) rfl) λGZ=>
 (SF.nil rfl (.refl _))))
 (SF.nil rfl (.refl _))
 λĄ=>(SF.WD 10 rfl rfl)))))))
abbrev j5:DF:=⟨"_law_steps",top 61,["_law_stays_here","_law_node","_law_at"],1,λK=>fD K [.v,.v,.v] (cq 3 eW)⟩
def yc (D:DI v j5) (q:NB v):D.O:=
 Xx (m:=eW) D iK λaL cn Ø _ _ _ _ _ _ hr=>
 (sv 3 iK.nd (aQ rfl (aD (aQ rfl (aD (aa 0)) (aa 2))) ak) λgp=>
 (sv 4 iK.nd (qr (cm (fU rfl (aW hr)) (cF rfl rfl q.len (aa 3)) ak) ak gm) λKQ=>
 (SF.ir (gc rfl kx (bJ rfl (bP (aa 3))) (λ_ _ _ _ _=>(dD 0 kx.nd)) (λ_ _ _ _ _ p4=>(az (n:=2) (ae (aa 2) (ae (hJ (aN (n:=1) (ae (az (n:=2) (ae (aa 1) (ae (aa 0) aj)) rfl) aj) rfl)) aj)) rfl)) rfl) λ_=>rfl)))
abbrev jZ:DF:=⟨"_law_worth",top 62,["_law_prices_here","_law_known_here","_law_option"],1,λK=>f6 K [.v,.v,.v] (cq 3 eV)⟩
def ya (D:DI v jZ):D.O:=
 IG (m:=eV) D fu λbU cA n6 _ _ _ _ _ _ hr=>
 (sv 3 fu.nd (qr (cm qi (aQ rfl (aD (aa 2)) ak) gm) ak (aQ rfl (aD (aa 0)) (aQ rfl (aD (aa 2)) ak))) λnI=>
 (SF.QA (hd:=(λ(s2:PV)=>([ap (.val bU),ap (.val cA),ap (.val n6),ap (.val s2),bm]:bh))) (s0:=nI) (inj:=id) AH rfl (bJ rfl (bP (aQ rfl (aD (aa 2)) ak))) (.refl _) (dD 4 fu.nd) (λ_=>trivial) (λs2 md=>
 (SF.RH (cm qi (uv (aW hr) (aa 1) (aa 4) (λ_ _=>rfl)) gm)
 (SF.ret (k:=λx4=>(Lp.out x4)) gm λ_=>rfl)
 (sv 3 fu.nd (aX rfl (aa 3) (uv (aW hr) (aa 1) (aa 4) (λ_ _=>rfl))) λrD=>
 (SF.f9 rfl (.keep (.keep (.keep (.keep (.drop (.refl _)))))))))) λs2=>
 (SF.cy (aa 3) λ_=>rfl)))
abbrev j8:DF:=⟨"_law_known",top 63,["_law_stays_here","_law_told","_law_prices_here"],2,λK=>f6 K [.v,.v,.v] (cq 3 dz)⟩
def yf (D:DI v j8) (q:NB v) (yI:ka.C v) (yE:j5.C v) (yC:jZ.C v):D.O:=
 IG (m:=dz) D bG λaL gk bU _ _ _ _ _ _ hr=>
 (SF.aad (i:=3) bG.nd rfl (CC rfl)
 (SF.oQ (hd:=(λ(s3:List (List Key×PV))=>([ap (.val aL),ap (.val gk),ap (.val bU),ap (.ot s3),bm,bm,bm,bm]:bh))) (s0:=[]) AH rfl (cZ rfl q.range (cF rfl rfl q.len (aa 1))) (.refl _) (dD 4 bG.nd) (λs3 gP=>
 (SF.oQ (hd:=(λ(s6:List (List Key×PV))=>([ap (.val aL),ap (.val gk),ap (.val bU),ap (.ot s6),ap (.val gP),bm,bm,bm]:bh))) (s0:=s3) AH rfl (cZ rfl q.range (cF rfl rfl q.len (aa 0))) (.refl _) (dD 5 bG.nd) (λs6 UH=>
 (sl 6 bG.nd (lC yI hr (ae (aa 0) (ae (aa 1) (ae (aa 4) (ae (aa 5) aj))))) λOu=>
 SF.cE 6 rfl (sl 6 bG.nd (mK rfl (jC (aa 6)) (cH (lC yE hr (ae (aa 0) (ae (aa 4) (ae (aa 5) aj)))))) λKH=>
 SF.cE 6 rfl (SF.as (YO 3 rfl (UJ (i:=7) rfl bG.nd rfl rfl kB (bJ rfl (bP (aa 6))) (λ_ _ _ _ _=>(dD 0 kB.nd)) (λ_ _ _ _ _ è=>(eC yC hr (ae (aa 2) (ae (aa 1) (ae (aa 0) aj))))) rfl)) λHk=>
 SF.cE 7 rfl (SF.Wy (i:=7) rfl bG.nd rfl rfl kA (bJ rfl (bP (aa 7))) (λ_ _ _ _ _=>(dD 0 kA.nd)) (λ_ _ _ _ _ ć=>(cm Lj (aa 0) gm)) (λ_ _ _ _ _ ć=>(aa 0)) rfl λuB=>
 SF.cE 7 rfl (SF.F0 3 rfl (aW hr) rfl (.inr (.inl rfl)) (qr (ZQ rfl (aW hr) (jC (aa 7))) (Yz rfl rfl rfl q.min (jC (aa 7))) gm) (az (n:=2) (ae (aa 4) (ae (aa 5) aj)) rfl) λmL=>
 (SF.f9 rfl (.keep (.keep (.keep (.keep (.keep (.drop (.drop (.drop (.refl _)))))))))))))))) λs6=>
 (SF.f9 rfl (.keep (.keep (.keep (.keep (.drop (.refl _))))))))) λs3=>
 (SF.cE 3 rfl (SF.cy (aa 3) λ_=>rfl))))
abbrev lE:DF:=⟨"_law_rows",top 64,["_law_stays_here","_law_told","_law_known_here"],1,λK=>f6 K [.v,.v,.v] (cq 3 eA)⟩
def GL (D:DI v lE) (q:NB v):D.O:=
 IG (m:=eA) D jA λaL gk cA _ _ _ _ _ _ hr=>
 (sl 3 jA.nd (aN (n:=0) aj rfl) λjO=>
 (SF.oQ (hd:=(λ(s3:List PV)=>([ap (.val aL),ap (.val gk),ap (.val cA),ap (.ol bm s3),bm]:bh))) (s0:=jO) AH rfl (cZ rfl q.range (cF rfl rfl q.len (aa 1))) (.refl _) (dD 4 jA.nd) (λs3 gP=>
 (SF.append 3 rfl rfl rfl (.inl rfl) (dB rfl rfl q.tuple (nV (gc rfl kZ (cZ rfl q.range (cF rfl rfl q.len (aa 0))) (λ_ _ _ _ _=>(dD 0 kZ.nd)) (λ_ _ _ _ _ p8=>(uv (aW hr) (aa 1) (az (n:=2) (ae (aa 2) (ae (aa 0) aj)) rfl) (λ_ _=>rfl))) rfl))) λLw=>
 (SF.f9 rfl (.keep (.keep (.keep (.keep (.drop (.refl _))))))))) λs3=>
 (SF.cy (dB rfl rfl q.tuple (cv 3)) λ_=>rfl)))
abbrev lG:DF:=⟨"_law_case",top 65,["_law_hand_here","_law_great_most","_law_small_most"],15,λK=>f6 K [.p (iV gN),.v,.v] (cq 2 fR)⟩
def GP (D:DI v lG) (yH:j9.C v) (yF:j6.C v) (yG:j7.C v) (dA:gE.C v) (iO:fx.C v):D.O:=
 u4 (m:=fR) D eK λqJ qC _ _ _ _ _ _ hr=>
 (SF.OA (eC yH hr (bE 0 (ae (aa 1) aj))) (RL rfl (f7 rfl (aK (dD 3 eK.nd) (aK (dD 4 eK.nd) dZ)))) λt3=>
 (sv 5 eK.nd (eC yF hr (bE 0 (ae (aa 3) aj))) λnK=>
 (sv 6 eK.nd (eC yG hr (bE 0 (ae (aa 4) (ae (aa 2) aj)))) λjz=>
 (SF.cy (az (n:=4) (ae (aa 5) (ae (aa 6) (ae (hJ (lC dA hr (ae (aa 6) aj))) (ae (eC iO hr (bE 0 aj)) aj)))) rfl) λ_=>rfl))))
abbrev iT:DF:=⟨"_law_spoilt",top 66,["_law_hand_here","_law_rows_here"],2,λK=>f6 K [.p (iV gN),.v] (cq 1 cM)⟩
def vg (D:DI v iT) (q:NB v) (aw:bb.C v):D.O:=
 om (m:=cM) D bp λbf _ _ _ _ _ _ hr=>
 (sv 2 bp.nd (eC aw hr (bE 0 (ae (cF rfl rfl q.len (aa 1)) aj))) λrz=>
 (sv 3 bp.nd (aQ rfl (aD (aa 1)) (aa 2)) λsP=>
 (sv 4 bp.nd (eC aw hr (bE 0 (ae (cF rfl rfl q.len (aa 3)) aj))) λL6=>
 (sv 5 bp.nd (qr (cm qi (aQ rfl (aD (aa 3)) (aa 4)) gm) ak (aQ rfl (aD (aa 3)) (aa 4))) λsW=>
 (sv 6 bp.nd (eC aw hr (bE 0 (ae ak aj))) λzY=>
 (SF.RH (cm Lk (aa 6) ak)
 (sv 7 bp.nd (aQ rfl (nV (aN (n:=5) (ae (aX rfl (aa 5) ak) (ae (uk (aa 5) ak) (ae gm (ae ak (ae (aQ rfl (aD (aQ rfl (aD (aa 1)) ak)) (aa 4)) aj))))) rfl)) (aa 6)) λK0=>
 (sv 3 bp.nd (aX rfl (aX rfl (lx rfl (aa 3) eO (eN (aa 4))) (az (n:=1) (ae (aa 7) aj) rfl)) (lx rfl (aa 3) (eN (aX rfl (aa 4) ak)) eO)) λOH=>
 (SF.cy (aX rfl (aX rfl (lx rfl (aa 1) eO (eN (aa 2))) (az (n:=1) (ae (aa 3) aj) rfl)) (lx rfl (aa 1) (eN (aX rfl (aa 2) ak)) eO)) λ_=>rfl)))
 (SF.RH (cm (fU rfl (aW hr)) (aa 6) ak)
 (SF.cy (aX rfl (aX rfl (lx rfl (aa 1) eO (eN (aa 2))) (az (n:=1) (ae (QX rfl (aa 3) eO eO (eN (LD ak))) aj) rfl)) (lx rfl (aa 1) (eN (aX rfl (aa 2) ak)) eO)) λ_=>rfl)
 (SF.RH (cm (fU rfl (aW hr)) (aa 6) ak)
 (SF.cy (aX rfl (lx rfl (aa 1) eO (eN (aa 2))) (lx rfl (aa 1) (eN (aX rfl (aa 2) ak)) eO)) λ_=>rfl)
 (SF.cy (aX rfl (aX rfl (lx rfl (aa 1) eO (eN (aa 2))) (lx rfl (aa 1) (eN (aa 2)) (eN (aX rfl (aa 2) ak)))) (lx rfl (aa 1) (eN (aa 2)) eO)) λ_=>rfl)))))))))
abbrev VX:DF:=⟨"law",top 67,["_law_script"],16,λK=>f6 K [.v] (cq 1 oq)⟩
def abb (D:DI v VX) (q:NB v) (GX:lF.C v) (GY:lG.C v) (aw:bb.C v) (qK:lE.C v) (oM:j8.C v) (mN:iR.C v) (iO:fx.C v) (vo:iT.C v):D.O:=
 om (m:=oq) D d6 λeJ _ _ _ _ _ _ hr=>
 (SF.QA (hd:=(λ(s6:Unit)=>([ap (.val eJ),bm,bm,bm,bm,bm,bm,bm,bm,bm,bm,bm]:bh))) (s0:=()) (inj:=id) AH rfl (cZ rfl q.range (ace rfl rfl q.max ak (acd rfl rfl q.min ak (cF rfl rfl q.len (aa 0))))) (.refl _) (dD 1 d6.nd) (λ_=>trivial) (λs6 ð=>
 (sl 2 d6.nd (lC GX hr (ae (aa 0) (ae (aa 1) aj))) λqI=>SF.mn 2 rfl
 (SF.OA (eC GY hr (bE 2 (ae (aQ rfl (nV (aN (n:=2) (ae ak (ae ak aj)) rfl)) (eC aw hr (bE 2 (ae ak aj)))) (ae ak aj)))) (g_4 rfl (f7 rfl (aK (dD 3 d6.nd) (aK (dD 4 d6.nd) (aK (dD 5 d6.nd) (aK (dD 6 d6.nd) dZ)))))) λmx=>
 (sv 7 d6.nd (eC qK hr (ae (aa 3) (ae (aa 5) (ae (eC oM hr (ae (aa 3) (ae (aa 5) (ae (aa 6) aj)))) aj)))) λjR=>
 (SF.RH (cm MW (eC mN hr (ae (aa 3) (ae (aa 4) (ae (aa 6) (ae (aa 7) aj))))) Ut)
 (SF.ret (k:=λV8=>(Lp.out V8)) Ut λ_=>rfl)
 (sl 8 d6.nd (aN (n:=1) (ae (eC qK hr (ae (aa 3) (ae (aa 5) (ae (eC oM hr (ae (aa 3) (ae (aa 5) (ae (eC iO hr (bE 2 aj)) aj)))) aj)))) aj) rfl) λpJ=>
 (sv 9 d6.nd (aa 7) λsF=>
 (SF.oQ (hd:=(λ(OC:List PV×PV)=>([ap (.val eJ),ap (.val ð),ap (.mn (iV gN)),ap (.val mx.1),ap (.val mx.2.1),ap (.val mx.2.2.1),ap (.val mx.2.2.2),ap (.val jR),ap (.ol bm OC.1),ap (.val OC.2),bm,bm]:bh))) (s0:=(pJ,sF)) AH rfl (cZ rfl q.range ak) (.refl _) (dD 10 d6.nd) (λOC Kk=>
 (sv 9 d6.nd (eC vo hr (bE 2 (ae (aQ rfl (nV (aN (n:=2) (ae (aa 7) (ae (aa 9) aj)) rfl)) (eC aw hr (bE 2 (ae ak aj)))) aj))) λsE=>
 (SF.ifS (out1:=λ(ã:PV)=>.nx ([ap (.val eJ),ap (.val ð),ap (.mn (iV gN)),ap (.val mx.1),ap (.val mx.2.1),ap (.val mx.2.2.1),ap (.val mx.2.2.2),ap (.val jR),ap (.ol bm OC.1),ap (.val ã),ap (.val Kk),bm]:bh)) (cm (fU rfl (aW hr)) (aa 9) (az (n:=0) aj rfl))
 (sv 9 d6.nd (aa 7) λFK=>
 (SF.nil rfl (.refl _)))
 (SF.nil rfl (.refl _))
 λã=>(SF.append 8 rfl rfl rfl (.inl rfl) (aa 9) λvK=>
 (SF.f9 rfl (.keep (.keep (.keep (.keep (.keep (.keep (.keep (.keep (.keep (.keep (.drop (.refl _))))))))))))))))) λOC=>
 (SF.cE 8 rfl (SF.QA (hd:=(λ(ą:Unit)=>([ap (.val eJ),ap (.val ð),ap (.mn (iV gN)),ap (.val mx.1),ap (.val mx.2.1),ap (.val mx.2.2.1),ap (.val mx.2.2.2),ap (.val jR),ap (.val (.cl OC.1)),bm,bm,bm]:bh))) (s0:=()) (inj:=Lp.out) AH rfl (bJ rfl (bP (aa 8))) (.keep (.keep (.keep (.keep (.keep (.keep (.keep (.keep (.keep (.drop (.refl _))))))))))) (dD 9 d6.nd) (λ_=>trivial) (λą sD=>
 (sv 11 d6.nd (eC mN hr (ae (aa 3) (ae (aa 4) (ae (aa 6) (ae (aa 9) aj))))) λud=>
 (SF.ifT (HL.t (U4 (FN (iZ rfl (iD rfl .bool rfl q.isinstance (aa 11) rfl q.bool boot_bool) (λ_=>rfl))) (N9 (cm (Vu rfl (aW hr)) (aa 11) (qO (fU rfl (aW hr)) (aa 9) (aa 7))))))
 (SF.ret (k:=λx59=>(Lp.out x59)) Ut λ_=>rfl)
 (SF.f9 rfl (.keep (.keep (.keep (.keep (.keep (.keep (.keep (.keep (.keep (.drop (.keep (.drop (.refl _))))))))))))))))) λą=>
 (SF.f9 rfl (.keep (.drop (.drop (.drop (.drop (.drop (.drop (.drop (.drop (.refl _))))))))))))))))))))) λs6=>
 (SF.cy Ut λ_=>rfl))
end
open PySem PySem.Spec PyProof.Rows L2 PL FL
def all_d {K:Ab} (X:K.In h) (G:h.Ns ev mg) (JK:DX K "is_whole" (top 1)) (Q0:DX K "is_row" (top 2)) (JH:DX K "parts_of" (top 4)) (Up:DX K "nodes" (top 5)) (Q1:DX K "halves" (top 6)) (JN:DX K "ahead_of" (top 7)) (JD:DX K "under_at" (top 12)) (Hb:DX K "beside_at" (top 13)) (Nl:DX K "is_home" (top 14)) (Nj:DX K "name_of" (top 15)) (JJ:DX K "lines_up" (top 16)) (y7:DX K "apart_from" (top 17)) (Q2:DX K "ground" (top 18)) (G9:DX K "split_ins" (top 25)) (JI:DX K "over_ins" (top 26)) (JL:DX K "deeds_at" (top 27)) (QW:DX K "summed" (top 30)) (JM:DX K "cheapest" (top 31)) (JG:DX K "price_of" (top 32)) (Ha:DX K "deed_cost" (top 33)) (y6:DX K "deed_costs" (top 34)) (G8:DX K "step_cost" (top 35)) (yW:DX K "step_costs" (top 36)) (QY:DX K "row_of" (top 37)) (Uo:DX K "table" (top 38)) (yX:DX K "is_entries" (top 40)) (Nk:DX K "is_rows" (top 41)) (vt:DX K "shows_table" (top 42)) (vq:DX K "split_dates" (top 44)) (JE:DX K "standing" (top 45)) (Ni:DX K "stay_of" (top 46)) (Uq:DX K "dated" (top 47)) (Hf:DX K "_law_hand" (top 49)) (Hc:DX K "_law_take" (top 50)) (He:DX K "_law_pick" (top 51)) (y9:DX K "_law_words" (top 52)) (vA:DX K "_law_joined" (top 53)) (zg:DX K "_law_great" (top 54)) (zc:DX K "_law_small" (top 55)) (zd:DX K "_law_nodes" (top 56)) (zi:DX K "_law_dates" (top 57)) (zb:DX K "_law_stays" (top 58)) (vz:DX K "_law_prices" (top 59)) (zh:DX K "_law_deeds" (top 60)) (za:DX K "_law_steps" (top 61)) (y8:DX K "_law_worth" (top 62)) (zf:DX K "_law_known" (top 63)) (Hd:DX K "_law_rows" (top 64)) (Hg:DX K "_law_case" (top 65)) (vv:DX K "_law_spoilt" (top 66)) (oZ:AD K ev "UNDER"=ap (ap (.int 2 Kq))) (lI:AD K ev "BESIDE"=ap (ap (.int 3 FO))) (uD:AD K ev "NAME"=ap (ap (.int 0 Oh))) (o5:AD K ev "FOUND"=ap (ap (.str "found" Ks))) (o4:AD K ev "SPLIT"=ap (ap (.str "split" Kr))) (uC:AD K ev "OVER"=ap (ap (.str "over" Og))) (jn:AD K ev "DOUBLED"=ap (ap (.str "doubled" vM))) (mf:AD K ev "DEEDS"=ap (ap (.ref rZ))) (rO:Rt K rZ ["split","doubled","over"]) (uE:AD K ev "LOST"=ap (ap (.int 3 Oi))) (xc:AD K ev "isinstance"=ap bm) (V5:AD K ev "bool"=ap bm) (ZE:AD K ev "int"=ap bm) (ZD:AD K ev "len"=ap bm) (RQ:AD K ev "tuple"=ap bm) (Zz:AD K ev "str"=ap bm) (V3:AD K ev "list"=ap bm) (HP:AD K ev "reversed"=ap bm) (zW:AD K ev "enumerate"=ap bm) (RS:AD K ev "range"=ap bm) (NY:AD K ev "sorted"=ap bm) (Zy:AD K ev "sum"=ap bm) (ZA:AD K ev "min"=ap bm) (Zx:AD K ev "zip"=ap bm) (ZF:AD K ev "all"=ap bm) (V4:AD K ev "dict"=ap bm) (ZG:AD K ev "abs"=ap bm) (ZC:AD K ev "max"=ap bm):acE K mg VX:=by
 constructor
 rintro v rfl rfl D;have q:NB v:=⟨AE X G xc,AE X G V5,AE X G ZE,AE X G ZD,AE X G RQ,AE X G Zz,AE X G V3,AE X G HP,AE X G zW,AE X G RS,AE X G NY,AE X G Zy,AE X G ZA,AE X G Zx,AE X G ZF,AE X G V4,AE X G ZG,AE X G ZC⟩;replace oZ:=BG X G oZ;replace lI:=BG X G lI;replace uD:=BG X G uD;replace o5:=BG X G o5;replace o4:=BG X G o4;replace uC:=BG X G uC;replace jn:=BG X G jn;replace mf:=BG X G mf;replace uE:=BG X G uE;refine JK.go (d:=ng) X G (λD=>Jb D q) λKc=>?_;refine Q0.go (d:=oY) X G (λD=>P1 D q) λHz=>?_;refine JH.go (d:=m7) X G (λD=>IZ D q) λJ9=>?_;refine Up.go (d:=jU) X G (λD=>TH D q J9) λo9=>?_;refine Q1.go (d:=jm) X G (λD=>P4 D q) λpd=>?_;refine JN.go (d:=jY) X G (λD=>Je D q o9 pd) λuH=>?_;refine JD.go (d:=ft) X G (λD=>IV D oZ) λki=>?_;refine Hb.go (d:=lB) X G (λD=>GJ D lI) λHB=>?_;refine Nl.go (d:=qv) X G (λD=>MV D uD ki) λNM=>?_;refine Nj.go (d:=me) X G (λD=>MR D q) λw6=>?_;refine JJ.go (d:=m9) X G (λD=>Ja D q uH) λKb=>?_;refine y7.go (d:=jX) X G (λD=>xZ D q) λzD=>?_;refine Q2.go (d:=uz) X G (λD=>P5 D q o9 Kb w6 pd zD) λRv=>?_;refine G9.go (d:=lz) X G (λD=>GH D q ki) λHy=>?_;refine JI.go (d:=m8) X G (λD=>I0 D HB) λKa=>?_;refine JL.go (d:=nh) X G (λD=>Jc D q o5 o4 uC jn NM Hy Ka) λKe=>?_;refine QW.go (d:=oX) X G (λD=>PY D q) λHw=>?_;refine JM.go (d:=nj) X G (λD=>Jd D q) λKf=>?_;refine JG.go (d:=m6) X G (λD=>IX D mf rO) λJ8=>?_;refine Ha.go (d:=lA) X G (λD=>GI D q pd Hw J8) λHA=>?_;refine y6.go (d:=jW) X G (λD=>xY D Ke HA) λzC=>?_;refine G8.go (d:=ly) X G (λD=>GG D q uE ki) λHx=>?_;refine yW.go (d:=jT) X G (λD=>xU D Hx ki Hw) λzA=>?_;refine QY.go (d:=uy) X G (λD=>PZ D q zC zA Kf) λRu=>?_;refine Uo.go (d:=zm) X G (λD=>TC D q o9 Ru) λUN=>?_;refine yX.go (d:=jV) X G (λD=>xW D q Kc Hz) λzB=>?_;refine Nk.go (d:=qu) X G (λD=>MU D q zB Hz o9) λNL=>?_;refine vt.go (d:=iR) X G (λD=>vf D UN NL) λvE=>?_;refine vq.go (d:=iQ) X G (λD=>ve D q) λvD=>?_;refine JE.go (d:=m5) X G (λD=>IW D q uH) λJ7=>?_;refine Ni.go (d:=qt) X G (λD=>MP D q pd w6) λNK=>?_;refine Uq.go (d:=zp) X G (λD=>TJ D q o9 vD J7 NK) λUO=>?_;refine Hf.go (d:=lF) X G (λD=>GO D q) λHD=>?_;refine Hc.go (d:=bb) X G (λD=>GK D) λbI=>?_;refine He.go (d:=eE) X G (λD=>GN D q bI) λiE=>?_;refine y9.go (d:=j3) X G (λD=>yb D q bI iE) λzF=>?_;refine vA.go (d:=fy) X G (λD=>vi D q bI) λmR=>?_;refine zg.go (d:=j9) X G (λD=>yg D zF bI mR) λzK=>?_;refine zc.go (d:=j7) X G (λD=>ye D q bI iE mR) λzI=>?_;refine zd.go (d:=gE) X G (λD=>oC D q 12) λpe=>?_;refine zi.go (d:=kd) X G (λD=>yi D q pe iE bI) λzM=>?_;refine zb.go (d:=j6) X G (λD=>yd D bI Rv UO zM) λzH=>?_;refine vz.go (d:=fx) X G (λD=>vh D q bI iE) λmQ=>?_;refine zh.go (d:=ka) X G (λD=>yh D q) λzL=>?_;refine za.go (d:=j5) X G (λD=>yc D q) λzG=>?_;refine y8.go (d:=jZ) X G (λD=>ya D) λzE=>?_;refine zf.go (d:=j8) X G (λD=>yf D q zL zG zE) λzJ=>?_;refine Hd.go (d:=lE) X G (λD=>GL D q) λHC=>?_;refine Hg.go (d:=lG) X G (λD=>GP D zK zH zI pe mQ) λHE=>?_;refine vv.go (d:=iT) X G (λD=>vg D q bI) λvF=>?_;exact abb D q HD HE bI HC zJ vE mQ vF
def walk {l:EJ}{q:sK}{d:DefRec}{K:Params->Ab} (hn:l.most=ap 63) (ú:d.params.defaults=[])
  (hY:∀(w:tz) (h:lf),YP w h->(K w.params).In h)
  (F:∀(w:tz) (mg:Str->Option bn) (fa:ce) (h:lf),(K w.params).In h->h.Ns ev mg->mg d.name=ap (.ref fa)->
   ∃fd:Fa,(∀(s:cr) (u:bn),BindsTo s fd ⟨[u],[]⟩ [("_law_script",u)])/\∀base:lf,(K w.params).In base->base.Ns ev mg->jq l.prog w (K w.params) mg base mT 16 fa fd ["_law_script"] (KA (K w.params))) :
  PySem.W.WalkO q Ñ XP YP l.row.toRowW d [] (λf vs=>FH f vs):=
 L2.RX (n:=63) (k:=16) (x:="_law_script") (CX:=λ_=>mT) (sp:=λw=>KA (K w.params)) hn ⋯ ú ⟨rfl,by decide,by decide,rfl⟩ hY F (λ_ _ a ns hl hO hS=>⟨a,ns,rfl,hO,hS,hl,λ_=>rfl⟩) λ_ _ _ _ _ z=>z
end My
end
open PySem PySem.W PyProof.Rows
inductive PySem.W.Fast:Prop|tw13772843606671049848|tw11021420018977558119|tw11939569083946455645|tw9982363848107778844|tw17768658362628299394|tw7760074974125266306|tw7330702990743246154|tw7809057514686652454|tw15141358433938996195|tw1136171542249492642|tw9981946489426664993|tw1531440722823934075|tw7377967097669844321|tw3963362697777568146|tw16599290980655372599|tw2189281802726177868|tw17231893100786814964|tw11659224013102492437|tw1580649947158643700|tw3329768451509083557|tw16302108202855023616|tw11553362830246799998|tw7766040111774948170|tw6413276717710011068|tw8080758531753155308|tw5027741243852294971|tw17453809813934911999|tw17250441786719165362|tw2142235747203656061|tw776322050070257445|tw3949101491034846986|tw4940320845720778333|tw15814903047115917229|tw12225345529611522142|tw15426137748286744388|tw4981531008940070908|tw6795157965783030177|tw1876925704583668424|tw11218298657554567703|tw3466666174374682093|tw11291986260763652028|tw3837305433922557959|tw18245478505134122312|tw9551598307743822840|tw18268254400608572494|tw8419302871492768711|tw15925901338643754005|tw9324630161372971281|tw11186140513806240892|tw8464175101941301793|tw6178645931543322363|tw6798689161510232731|tw5487598773551371793|tw7516183786737060260|tw7263831067059510963|tw1499885143155712619|tw8928257642740823419|tw162977633010803757|tw10399204370428135467|tw15410920408353816959|tw1542890001195085581|tw10435282368161473101|tw13103400330478537389|tw15528852771872222442|tw850210672486722038|tw3803850113409090541|tw10393873146905976344|tw17614315778255019500|tw5224108546884975389|tw3329753476589181339|tw3237020496326323774|tw7362638073982651658|tw4308126907553165711|tw17543336260449340970|tw13456604623987027269|tw9074930360491257709|tw3678494002030317052|tw18440280419650045040|tw12314018176070106306|tw14650257514482387503|tw13459364007396213722|tw874351395472346836|tw16013979078358050627|tw7712424168507075400|tw11050317005699703412|tw4729274447506081065|tw5157073619175285353|tw5154410380420324909|tw14301354677988792743|tw1538423126106971760|tw189177905324135339|tw2501680226276632056|tw17738655627653414215|tw9467512902789294102|tw17807511050142889432|tw12602896409062003650|tw9261196487850371347|tw2360209501449109234|tw15504969651990356129|tw9705536773455607291
def PySem.W.Fast.tw11745131536487892605:=PySem.Challenge.pw_treewithin_k32_tables_shown
theorem PySem.W.Fast.te11745131536487892605:PySem.Challenge.pw_treewithin_k32_tables_shown=PySem.W.Fast.tw11745131536487892605:=rfl
set_option maxRecDepth 100000 in
set_option maxHeartbeats 0 in
theorem PySem.Challenge.cw_treewithin_k32_tables_shown_holds : PySem.Challenge.rw_treewithin_k32_tables_shown.Holds := by
 w_on;o_law;k_head;(case hw=>w_witness2)
 k_fill
 refine My.walk (l:=PySem.Challenge.rw_treewithin_k32_tables_shown) rfl rfl (fun w h Y=>PySem.W.kIn_of Y) ?F
 case F=>
  intro w mg fa h KX G hmg;refine' FL.mkAll (st:=My.top 67) (k:=16) My.law32_ok KX G hmg ?e (fun _ _ _ _ _ _=>FL.us1 fun _=>rfl) (My.all_d KX G ..)
  all_goals try first | (refine' FL.dx ?a ?l ?c ?k;(case a=>k_is);(case l=>k_is);(case c=>k_is);(case k=>k_is)) | (refine' FL.tup3K ?a;(case a=>k_is)) | k_is
#print axioms PySem.Challenge.cw_treewithin_k32_tables_shown_holds
