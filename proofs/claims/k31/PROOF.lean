import PyProof.Rows.All
import Wide.All
import OpenK.AllK
import Wide.FinOn
import Lean
import PyProof.EqAt
import PyProof.EqKinds
import PyProof.TupleCall
import PyProof.NeKinds
import PyProof.FactsAll.tuple_2
import PyProof.FactsAll.str_0
import PyProof.FactsAll.str_1
import PyProof.FactsAll.str_2
import PyProof.FactsAll.str_3
import PyProof.Rows.MinMaxN
import PyProof.Rows.SumAny
import PyProof.Rows.SetFrom
import PyProof.ReprRoads
import PyProof.Rows.StrKeys3
import PyProof.CallFns
import KE.KSortTup
import KE.KDictSum
import PyProof.Rows.CallKwBuiltin
import KE.KMinBuiltin
import PySem.Challenge.RW_treewithin_k31_whole_trees_changed
local macro_rules | `(tactic| omega) => `(tactic| lia)
open PySem renaming wpAny_bind -> Aa, wpAny_pure -> Ae, wpAny_newObj_type -> AJ, wpAny_callSpecial?_slot -> AV, wpAny_field -> AY, wpAny_setField_rec -> A2, Value -> A4, wpAny_call_entry -> A8, wpAny_holding -> Bb, wpAny_seqItems -> Bs, Str -> BB, Addr -> BG, wpAny_Call_Name_kw -> BH, wpAny_mono -> BN, mem_of_lookup -> BO, wpAny_typeNameOfWhole_keyiter -> B2, Expr -> B7, Pos -> B9, wpAny_passesOwn -> Ce, wpAny_typeNameOf_keyiter -> Cm, wpAny_of_eq -> Cs, wpAny_letGo -> Ct, wpAny_typeOf -> Cv, wpAny_updateSeq -> Cy, wpAny_rule -> CG, wpAny_newTuple -> CH, wpAny_attempt -> CS, wpAny_truthy_bool -> CY, wpAny_pyIter_list -> CZ, wpAny_pyIter_enum -> C0, wpAny_isInstance -> Dg, wpAny_eqBool_str -> Dh, wpAny_updateSeq_pair -> Dr, wpAny_execs_nil -> Dy, Shared -> DH, wpAny_tryCatch -> DS, wpAny_setField -> DT, wpAny_pyIter_tuple -> DU, wpAny_letOwnedTupleGo_enum -> DV, wpAny_sequenceKey -> D8, wpAny_dictEntries -> D9, wpAny_standAt -> Eb, wpAny_onRaise -> Ec, wpAny_comprehension_free -> Ed, wpAny_specialOf -> EC, wpAny_dictEpoch -> ED, Heap -> Fd, Obj -> Fm, call -> Fs
open PySem.W renaming Frag -> Ab, nsIn -> AD, mg_none_of -> AI, kia_one -> A7, kitOne -> Br, mg_of -> BK, fnOf -> B1, KasT -> DE, keepIn -> DM, codeIn -> DN, methodObj -> D5, kitx_list -> D6, kitx_dict -> D7, cellsFrom_some -> El, kas_rev -> Ez, instObj -> EA, OpenLaw -> EB, lookIn -> EO, kitx_tuple -> E9, plainGet -> Fh, kat_cons -> Fi, kas_sort -> Fj
open List renaming getElem?_eq_getElem -> Ad, getD_eq_getElem?_getD -> Af, size_toArray -> Ah, length_map -> Ai, getElem?_map -> Aj, length_append -> Ak, getElem?_eq_some_iff -> Al, replicate -> Am, length_cons -> Ar, map_cons -> Au, mem_map -> Av, mem_cons -> Aw, mem_append_right -> Ay, range -> AG, append_assoc -> AL, getElem?_append_left -> AM, map_map -> AN, getElem?_append_right -> AQ, mem_filter -> AR, mem_cons_of_mem -> AU, mem_range -> AW, getElem?_eq_none -> AZ, map_append -> A3, filterMap_cons -> A6, mem_append_left -> A9, idxOf_lt_length_of_mem -> Bf, lookup_cons -> Bh, drop_eq_getElem_cons -> Bi, mem_singleton -> Bk, mem_append -> Bm, length_replicate -> Bn, getElem?_replicate -> Bq, mem_of_getElem? -> Bt, mem_cons_self -> Bu, length_nil -> Bv, not_mem_nil -> Bx, replicate_succ -> Bz, map_congr_left -> BA, length_filter_le -> BC, find?_cons -> BF, length_reverse -> BP, length_set -> BR, forIn_cons -> BS, pairwise_iff_getElem -> BV, getElem?_set_ne -> B3, eq_nil_of_length_eq_zero -> B4, flatten_cons -> B6, getElem?_range -> B8, getElem_mem -> Ca, length -> Cj, ext_getElem? -> Ck, any_cons -> Cn, length_pos_iff -> Co, eraseIdx_cons_succ -> Cr, getElem?_set_self -> Cw, perm_append_comm -> CC, reverse_cons -> CF, getElem?_of_mem -> CI, all_eq_true -> CJ, mergeSort_perm -> CN, foldl_cons -> CT, pairwise_lt_range -> C4, length_range -> C5, flatMap_cons -> C6, replicate_append_replicate -> C7, eraseIdxIfInBounds_toArray -> C8, length_take -> Dj, filter_cons -> Dk, drop_length -> Dl, getElem_toArray -> Du, nodup_cons -> Dz, append_nil -> DA, getElem_of_mem -> DC, pairwise_cons -> DY, mem_filterMap -> DZ, filter_append -> D1, pairwise_map -> Ea, length_erase_of_mem -> Ee, pairwise_mergeSort -> Ei, mem_flatMap -> Ej, length_drop -> Ek, take_of_length_le -> Ep, map_set -> Er, map_nil -> Es, length_pos_of_mem -> Et, filter_eq_nil_iff -> Eu, drop_eq_nil_of_le -> Ew, of_mem_zip -> EE, idxOf_cons -> EG, length_singleton -> EM, getElem?_toArray -> EN, take_succ -> EX, nodup_nil -> EY, length_eraseIdx -> EZ, reverse_append -> E6, any_map -> Fg, map -> Fu
open PySem.Heap renaming get?_push_of_some -> Ag, lt_size -> Ao, get?_push_size -> Ap, get?_update_other -> BM, get?_update_self -> BW, SameBut -> Ci, size_push -> Cp, size_update -> Ef, IsSliceOf -> ER, get?_update_ne -> E5, ExtBut -> Fo
open Nat renaming le_refl -> An, zero_add -> Ax, lt_of_lt_of_le -> AA, ne_of_lt -> AB, lt_irrefl -> AX, add_assoc -> Bc, zero_le -> Bg, strongRecOn -> Bl, le_trans -> Bw, le_add_right -> BJ, add_sub_cancel_left -> B5, sub_zero -> C2, lt_or_ge -> C3, le_succ -> Ds, sub_self -> DJ, le_of_lt -> DK, eq_or_lt_of_le -> DW, lt_succ_self -> Eh, le_of_ble_eq_true -> EL, sub_sub -> EW, succ_mul -> Ff, succ -> Ft
open Bool renaming false_eq_true -> Aq, and_eq_true -> AE, false_ne_true -> A5, not_true -> CA, not_false -> D2, and_false -> D3, false_and -> E1, true_and -> E8
open PySem.Value renaming ref -> Az, none -> AO, str -> Bd, type -> BX, int -> DL, bool -> Fb
open PyProof.Rows renaming slot_tuple_getitem -> AH, callWith_type1 -> Be
open PySem.PassesOwn renaming never -> A1
open PySem.NameKind renaming free -> Ba, cell -> E7
open PySem.Obj renaming mapSeq -> Bj, data_mapFields -> CU, isFreed_of_fields -> EI
open False renaming elim -> Bo
open Int renaming toNat_natCast -> Bp, le_refl -> BU, emod_lt_of_pos -> Cd, emod_nonneg -> Cz, zero_add -> Ex, le_antisymm -> EH
open PySem.F renaming slot_dict_keyiterator_next -> BD, plainAttrs_list -> BI, slot_tuple_iterator_next -> Cb, plain_min_loop -> Cq, slot_enumerate_next -> CB, args_tuple_add_2 -> CO, slot_list_getattribute -> CP, entry_tuple_add -> CV, slot_tuple_add -> CW, args_dict_keyiterator_next_1 -> De, entry_dict_keyiterator_next -> Dm, args_list_extend_2 -> Dn, slot_zip_next -> Dv, args_tuple_iterator_next_1 -> Dw, entry_list_extend -> DB, entry_tuple_iterator_next -> DG, slot_list_extend -> DQ, args_enumerate_next_1 -> Eg, entry_enumerate_next -> Em, type_list_pop -> EJ, slot_list_pop -> EK
open Ne renaming symm -> BE
open PySem.Str renaming ofString -> BL
open Array renaming length_toList -> BQ, getElem?_eq_getElem -> CM, getElem?_toList -> C9, perm_iff_toList_perm -> D4, getElem?_eq_none -> Ey
open PySem.AutoSeq1 renaming wpAny_loadPart' -> BZ, sub_tuple_tuple -> Df, sub_tuple_list -> Dp, sub_list_tuple -> Dq, sub_list_list -> Dx, idx_int -> Eo
open PySem.Calls renaming spliced_cons -> Cc, spliced_nil -> CD, Name_function_global -> DR, callWith_builtin -> En
open Option renaming map_some -> Cf
open ForInStep renaming yield -> Cg
open True renaming intro -> Cu
open And renaming right -> CK
open Or renaming inr -> C1, inl -> Di
open PySem.SeqAt renaming EqAt -> Dc
open PySem.SeqAt.EqAt renaming int_int -> DP, of_refs -> Fc, same -> Fp
open PySem.Fin renaming done -> ES
open PySem.Data renaming seq -> ET
open PySem.Around renaming under_plainId -> EU
open Sum renaming inr -> E2, inl -> E3
open PyProof.Rows.IsTup renaming new -> E4
open PySem.SeqAt.RcAt renaming tuples -> Fe
open PySem.Flow renaming ret -> Fq
set_option compiler.extract_closed false
set_option Elab.async false
set_option linter.all false
set_option maxRecDepth 100000
set_option maxHeartbeats 1000000
open Option renaming some→am,none→bm
open PyProof.Rows renaming envOfC→pc,seqObj→sB,IntsAre→tt,boot_str→wf,AllBare→FS
open PySem renaming Value→bn,Addr→ce,Shared→ci,wpAny→db,model→dL,mainGlobals→ev,starEach→f8,Expr→gt,eval→ii,bootBuiltins→im,Heap→kw,attributeBase→lc,tupleKind→lw,swapsWith→mo,Around→nn,compareOp→o0,binaryOp→pr,call_meets→re,Scope→r9,cLine→ss,Program→sK,behindInMarks→t0,Stmt→ul,World→ut,rawInt→u8,plainId_quiet→v4,Builtin→wn,backTo→wv,PassesOwn→ww,setField→wE,NameKind→wP,IntMulOk→wS,assignEach→xz,sliceBounds→zn,sysModules→Ch,holding→Da,getItem→Db,codeAny→Ev,swapsWithSole→EQ,swappedStores→Fa,assign→Fk,FuncData→FB,typeLookup→FM,letOwnedTupleGo→Gc,codeAny_builtin→GE
local macro_rules | `(∅)=>`(by omega)
local macro_rules | `(⋯)=>`(by decide)
namespace L2
open PySem PySem.Spec PyProof.Rows
abbrev Key:=Sum Int Str
def uR:Key->bn->Bool
 | .inl k,v=>Value.isInt k v
 | .inr x,v=>Value.isStrOf x v
def acv (w:ut):Key->Int
 | .inl k=>hashInt k
 | .inr x=>hashStr w x
def bK:∀{k:Key}{v:bn},uR k v=true->(∃i t,k=E3 i/\v=DL i t)\/(∃x t,k=E2 x/\v=Bd x t)
 | .inl i,v,h=>by
  obtain⟨t,e⟩:=Value.isInt_shape (k:=i) (v:=v) h;exact .inl ⟨i,t,rfl,e⟩
 | .inr x,v,h=>by
  obtain⟨t,e⟩:=Value.isStrOf_shape (x:=x) (v:=v) h;exact .inr ⟨x,t,rfl,e⟩
def Kp (i:Int) (t:Tok):uR (.inl i) (.int i t)=true:=by simp [uR,Value.isInt]
def Ko (x:Str) (t:Tok):uR (.inr x) (.str x t)=true:=by simp [uR,Value.isStrOf]
def Vp (a b:Int):decide ((E3 a:Key)=E3 b)=(a==b):=by
 by_cases e:a=b
 ·subst e;simp
 ·have h:¬(E3 a:Key)=E3 b:=λq=>e (E3.inj q);rw [decide_eq_false h];exact (beq_eq_false_iff_ne.mpr e).symm
def Vm (a b:Str):decide ((E2 a:Key)=E2 b)=decide (a=b):=by
 by_cases e:a=b
 ·subst e;simp
 ·have h:¬(E2 a:Key)=E2 b:=λq=>e (E2.inj q);rw [decide_eq_false h,decide_eq_false e]
def Vo (a:Int) (b:Str):decide ((E3 a:Key)=E2 b)=false:=decide_eq_false (λq=>nomatch q)
def Vn (a:Str) (b:Int):decide ((E2 a:Key)=E3 b)=false:=decide_eq_false (λq=>nomatch q)
def cu (prog:sK) (w:ut):PySem.KeyKind prog w Key where
 is:=uR
 hash:=acv w
 inj:=λv a b ha hb=>by
  rcases bK ha with⟨i,t,rfl,rfl⟩ | ⟨x,t,rfl,rfl⟩
  ·rcases bK hb with⟨j,u,rfl,e⟩ | ⟨y,u,rfl,e⟩
   ·injection e with e1 _;rw [e1]
   ·exact nomatch e
  ·rcases bK hb with⟨j,u,rfl,e⟩ | ⟨y,u,rfl,e⟩
   ·exact nomatch e
   ·injection e with e1 _;rw [e1]
 byValue:=λk v h=>by
  rcases bK h with⟨i,t,rfl,rfl⟩ | ⟨x,t,rfl,rfl⟩ <;> rfl
 pyHash:=λhv h=>by
  rcases bK hv with⟨i,t,rfl,rfl⟩ | ⟨x,t,rfl,rfl⟩
  ·exact wpAny_pyHash_int h
  ·exact wpAny_pyHash_str h
 eqBool:=λhu hv h=>by
  rcases bK hu with⟨i,t,rfl,rfl⟩ | ⟨x,t,rfl,rfl⟩
  ·rcases bK hv with⟨j,u,rfl,rfl⟩ | ⟨y,u,rfl,rfl⟩
   ·rw [Vp] at h;exact wpAny_eqBool_int h
   ·rw [Vo] at h;exact Dc.int_str i t y u _ _ _ _ h
  ·rcases bK hv with⟨j,u,rfl,rfl⟩ | ⟨y,u,rfl,rfl⟩
   ·rw [Vn] at h;exact Dc.str_int x t j u _ _ _ _ h
   ·rw [Vm] at h;exact Dh h
 «strs»:=λk x t v h=>by
  rcases bK h with⟨i,u,rfl,e⟩ | ⟨y,u,rfl,e⟩
  ·exact nomatch e
  ·injection e with e1 _;subst e1;cases v <;> rfl
def zi (prog:sK) (w:ut) (i:Int) (t:Tok):(cu prog w).is (.inl i) (.int i t)=true:=Kp i t
def zh (prog:sK) (w:ut) (x:Str) (t:Tok):(cu prog w).is (.inr x) (.str x t)=true:=Ko x t
end L2
variable {us:List A4}{u:A4}{κ α β:Type}{a b e:BG}{P:PySem.Program}{w:PySem.World}{h h':Fd}{ob:Fm}
namespace L2
open PySem PySem.Spec PyProof.Rows
inductive V where
 | aD | bl (b:Bool) | int (i:Int) | str (x:Str) | Wi (b:Array UInt8) | W3 (b:UInt64) | ref (a:ce) | ty (n:String)
 deriving DecidableEq
def RelV:V->bn->Prop
 | .aD,u=>u=AO
 | .bl b,u=>u=Fb b
 | .int i,u=>∃t,u=DL i t
 | .str x,u=>∃t,u=Bd x t
 | .Wi b,u=>∃t,u=Value.bytes b t
 | .W3 b,u=>∃t,u=Value.float b t
 | .ref a,u=>u=Az a
 | .ty n,u=>u=BX n
abbrev Vals:List V->List bn->Prop:=Paired RelV
def Vals.length {xs:List V} (r:Vals xs us):xs.length=us.length:=Paired.length r
theorem Vals.get:∀{xs:List V}{us:List bn}{i:Nat}{x:V},Vals xs us->xs[i]?=am x->∃u,us[i]?=am u/\RelV x u
 | _,_,_,_,.nil,e=>by simp at e
 | _,_,0,_,.cons r _,e=>by simp at e;subst e;exact⟨_,rfl,r⟩
 | _,_,i+1,x,.cons _ t,e=>by
  obtain⟨u,h1,h2⟩:=Vals.get (i:=i) (x:=x) t (by simpa using e);exact⟨u,by simpa using h1,h2⟩
theorem Vals.set {x:V} (r:RelV x u):∀{xs:List V}{us:List bn} (i:Nat),Vals xs us->Vals (xs.set i x) (us.set i u)
 | _,_,_,.nil=>.nil
 | _,_,0,.cons _ t=>.cons r t
 | _,_,i+1,.cons q t=>.cons q (Vals.set r i t)
theorem Vals.append:∀{xs ys:List V}{us ws:List bn},Vals xs us->Vals ys ws->Vals (xs++ys) (us++ws)
 | _,_,_,_,.nil,s=>s
 | _,_,_,_,.cons r t,s=>.cons r (Vals.append t s)
theorem Vals.take:∀{xs:List V}{us:List bn} (n:Nat),Vals xs us->Vals (xs.take n) (us.take n)
 | _,_,0,_=>.nil
 | _,_,_+1,.nil=>.nil
 | _,_,n+1,.cons r t=>.cons r (Vals.take n t)
theorem Vals.drop:∀{xs:List V}{us:List bn} (n:Nat),Vals xs us->Vals (xs.drop n) (us.drop n)
 | _,_,0,r=>r
 | _,_,_+1,.nil=>.nil
 | _,_,n+1,.cons _ t=>Vals.drop n t
def yf:Option V->Option bn->Prop
 | some v,am u=>RelV v u
 | none,bm=>True
 | _,_=>False
def KV:List (κ×V)->List (κ×bn)->Prop:=Paired λ(p:κ×V) (q:κ×bn)=>p.1=q.1/\RelV p.2 q.2
def kV:Key->V
 | .inl i=>.int i
 | .inr x=>.str x
inductive HO where
 | lst (xs:List V)
 | tup (xs:List V)
 | dK (kvs:List (Key×V)) | dT (kvs:List (List Key×V))
 | set (S:Int->Bool) (n:Nat)
 | ins (C dx:ce) (fs:List (Str×V))
 | own (x:ce)
 | xd (fs:List (Str×V))
 | met (f x:ce)
 | rng (lo hi:Int)
 | cI (o:Obj) (u:HO)
 | T7 (ps:Array bn)
 | ext (φ:kw->Prop)
abbrev Hp:=ce->Option HO
def upd (H:Hp) (a:ce) (o:HO):Hp:=λb=>if b=a then am o else H b
def aN {H:Hp}{o:HO}:upd H a o a=am o:=by unfold upd;rw [if_pos rfl]
def aw {H:Hp}{o:HO} (h:b≠a):upd H a o b=H b:=by unfold upd;rw [if_neg h]
def MX {H:Hp}{o u:HO} (h:H a=am o) (h':H b=am u) (d:o≠u):a≠b:=by
 intro e;subst e;rw [h] at h';exact d (Option.some.inj h')
def bj {H:Hp}{o:HO} (h:H a=am o) (h':H b=bm):a≠b:=by
 intro e;subst e;rw [h] at h';cases h'
section
variable (P:sK) (w:ut)
def bb (H:Hp) (h:kw) (a:ce):HO->Prop
 | .lst xs=>xs.length<=sizeLine/\∃(ak:List bn) (n:Nat),Vals xs ak/\h.get? a=am {cls:=.type "list",data:=.seq ak.toArray n}
 | .tup xs=>xs.length<=sizeLine/\∃ak:List bn,Vals xs ak/\IsTup h a ak.toArray
 | .dK kvs=>kvs.length<=sizeLine/\(a==Ch)=false/\∃vs,KV kvs vs/\h.DictOf (cu P w) a vs
 | .dT kvs=>kvs.length<=sizeLine/\(a==Ch)=false/\∃xs:List (List Key×ce×bn),
   Paired (λ(p:List Key×V) (q:List Key×ce×bn)=>p.1=q.1/\H q.2.1=am (.tup (p.1.map kV))/\RelV p.2 q.2.2) kvs xs/\
   ∃o es ep,h.get? a=am o/\o.ExactDict/\o.data=.dict es ep/\es.toList=xs.map (entryOfKey (lw (cu P w)))/\(xs.map (·.1)).Nodup
 | .set S n=>h.SetOf (intKind P w) a S n
 | .ins C dx fs=>H dx=am (.own a)/\fs.length<=1000/\dx≠a/\h.get? a=am (EA C dx)/\
   ∃mA,h.Ns1 dx mA/\(∀f,yf (fs.lookup f) (mA f))/\PySem.Within mA (fs.map (·.1))
 | .own _=>∃o,h.get? a=am o
 | .xd fs=>∃mA,h.Ns1 a mA/\∀f,yf (fs.lookup f) (mA f)
 | .rng lo hi=>∃t u v,h.get? a=am {cls:=.type "range",data:=.fields #[.int lo t,.int hi u,.int 1 v]}
 | .cI o u=>h.get? a=am o/\bb H h a u
 | .T7 ps=>h.get? a=am {cls:=.none,data:=.fields ps}
 | .met f x=>h.get? a=am (D5 (.ref f) (.ref x))
 | .ext φ=>φ h/\(∃o,h.get? a=am o)/\∀h1 h2:kw,φ h1->(∀o,h1.get? a=am o->h2.get? a=am o)->φ h2
def lY (H:Hp) (h:kw):Prop:=∀a o,H a=am o->bb P w H h a o
end
section
variable {H H':Hp}{o:HO}
def bb.lt (x:bb P w H h a o):a < h.objs.size:=by
 cases o with
 | lst xs=>obtain⟨_,_,_,_,e⟩:=x;exact Ao e
 | tup xs=>obtain⟨_,_,_,p⟩:=x;exact p.lt
 | dK kvs=>obtain⟨_,_,_,_,o,_,_,e,_⟩:=x;exact Ao e
 | dT kvs=>obtain⟨_,_,_,_,o,_,_,e,_⟩:=x;exact Ao e
 | set S n=>obtain⟨o,_,_,_,e,_⟩:=x;exact Ao e
 | ins C dx fs=>obtain⟨_,_,_,e,_⟩:=x;exact Ao e
 | own y=>obtain⟨_,e⟩:=x;exact Ao e
 | xd fs=>obtain⟨_,⟨_,_,_,e,_⟩,_⟩:=x;exact Ao e
 | rng lo hi=>obtain⟨_,_,_,e⟩:=x;exact Ao e
 | cI ob u=>obtain⟨e,_⟩:=x;exact Ao e
 | T7 ps=>exact Ao (show h.get? a=am _ from x)
 | met f y=>exact Ao (show h.get? a=am _ from x)
 | ext φ=>obtain⟨_,⟨_,e⟩,_⟩:=x;exact Ao e
theorem Paired.U7 {F G:α->β->Prop}:∀{l₁:List α}{l₂:List β},Paired F l₁ l₂->(∀a b,F a b->G a b)->Paired G l₁ l₂
 | _,_,.nil,_=>.nil
 | _,_,.cons r t,f=>.cons (f _ _ r) (Paired.U7 t f)
def bb.vI (x:bb P w H h a o) (k:∀b u,(b=a\/H b=am (.own a))->h.get? b=am u->h'.get? b=am u)
  (ho:∀b,H b=am (.own a)->H' b=am (.own a)) (ht:∀b xs,H b=am (.tup xs)->H' b=am (.tup xs)):bb P w H' h' a o:=by
 induction o with
 | lst xs=>obtain⟨z,ak,n,r,e⟩:=x;exact⟨z,ak,n,r,k _ _ (.inl rfl) e⟩
 | tup xs=>obtain⟨z,ak,r,ob,e,c⟩:=x;exact⟨z,ak,r,ob,k _ _ (.inl rfl) e,c⟩
 | dK kvs=>obtain⟨z,y,vs,r,ob,es,ep,e,c⟩:=x;exact⟨z,y,vs,r,ob,es,ep,k _ _ (.inl rfl) e,c⟩
 | dT kvs=>
  obtain⟨z,y,xs,r,ob,es,ep,e,c⟩:=x;exact⟨z,y,xs,Paired.U7 r λp q z=>⟨z.1,ht _ _ z.2.1,z.2.2⟩,ob,es,ep,k _ _ (.inl rfl) e,c⟩
 | set S n=>obtain⟨ob,es,ep,t,e,c⟩:=x;exact⟨ob,es,ep,t,k _ _ (.inl rfl) e,c⟩
 | ins C dx fs=>
  obtain⟨d,z,ne,e,mA,⟨od,es,ep,e2,c⟩,r⟩:=x;exact⟨ho _ d,z,ne,k _ _ (.inl rfl) e,mA,⟨od,es,ep,k _ _ (.inr d) e2,c⟩,r⟩
 | own y=>obtain⟨ob,e⟩:=x;exact⟨ob,k _ _ (.inl rfl) e⟩
 | xd fs=>obtain⟨mA,⟨od,es,ep,e,c⟩,r⟩:=x;exact⟨mA,⟨od,es,ep,k _ _ (.inl rfl) e,c⟩,r⟩
 | rng lo hi=>obtain⟨t,u,v,e⟩:=x;exact⟨t,u,v,k _ _ (.inl rfl) e⟩
 | cI ob u ih=>obtain⟨e,q⟩:=x;exact⟨k _ _ (.inl rfl) e,ih q⟩
 | T7 ps=>
  have e:h.get? a=am {cls:=.none,data:=.fields ps}:=x;show h'.get? a=am {cls:=.none,data:=.fields ps};exact k a _ (.inl rfl) e
 | met f y=>
  have e:h.get? a=am (D5 (.ref f) (.ref y)):=x;show h'.get? a=am (D5 (.ref f) (.ref y));exact k a _ (.inl rfl) e
 | ext φ=>obtain⟨p,⟨o,e⟩,st⟩:=x;exact⟨st _ _ p λo q=>k _ _ (.inl rfl) q,⟨o,k _ _ (.inl rfl) e⟩,st⟩
def lY.lt (x:lY P w H h) (e:H a=am o):a < h.objs.size:=(x a o e).lt
def lY.fresh (x:lY P w H h) (e:h.objs.size<=a):H a=bm:=by
 cases q:H a with
 | none=>rfl
 | some u=>exact absurd (AA (x.lt q) e) (AX _)
def lY.kept (x:lY P w H h) (k:∀b u,h.get? b=am u->h'.get? b=am u):lY P w H h':=λa o e=>
 (x a o e).vI (λb u _ q=>k b u q) (λ_ q=>q) λ_ _ q=>q
def lY.laid (x:lY P w H h) (k:∀b u,h.get? b=am u->h'.get? b=am u) (hp:h.objs.size<=a) (new:bb P w (upd H a o) h' a o):lY P w (upd H a o) h':=λb u e=>by
 have hn:=x.fresh hp;by_cases hb:b=a
 ·subst hb;rw [aN] at e;cases e;exact new
 ·rw [aw hb] at e;exact (x b u e).vI (λc v _ q=>k c v q) (λc q=>by rw [aw (bj q hn)];exact q) λc xs q=>by rw [aw (bj q hn)];exact q
end
def Rd (H:Hp) (a:ce) (u:HO):Prop:=H a=am u\/∃o,H a=am (.cI o u)
def Rd.ok {H:Hp}{u:HO} (r:Rd H a u) (x:lY P w H h):bb P w H h a u:=by
 rcases r with r | ⟨o,r⟩
 ·exact x a u r
 ·obtain⟨_,q⟩:=x a _ r;exact q
def Mut:Option HO->Prop
 | some (.lst _)=>True
 | some (.dK _)=>True
 | some (.dT _)=>True
 | some (.set _ _)=>True
 | some (.ins _ _ _)=>True
 | some (.ext _)=>True
 | _=>False
section
variable {H:Hp}{x:ce}{o':HO}
def lY.write (ok:lY P w H h) (mu:Mut (H x)) (he:e=x\/H e=am (.own x)) (k:∀b u,b≠e->h.get? b=am u->h'.get? b=am u) (WV:∃u,h'.get? e=am u)
  (new:bb P w (upd H x o') h' x o'):lY P w (upd H x o') h':=λb u q=>by
 have Yw:∀c y,H c=am (.own y)->c≠x:=λc y r z=>by subst z;rw [r] at mu;exact mu
 have ab6:∀c xs,H c=am (.tup xs)->c≠x:=λc xs r z=>by subst z;rw [r] at mu;exact mu
 by_cases hb:b=x
 ·subst hb;rw [aN] at q;cases q;exact new
 ·rw [aw hb] at q;by_cases VL:b=e
  ·have q':H b=am (.own x):=by
    rcases he with z | z
    ·exact absurd (VL.trans z) hb
    ·rw [VL];exact z
   rw [q] at q';cases q';obtain⟨v,hv⟩:=WV;exact⟨v,by rw [VL];exact hv⟩
  ·refine (ok b u q).vI (λc v hc r=>k c v ?_ r) (λc r=>by rw [aw (Yw c b r)];exact r) λc xs r=>by rw [aw (ab6 c xs r)];exact r
   rcases hc with rfl | hc
   ·exact VL
   ·rintro rfl;rcases he with z | z
    ·exact Yw c b hc z
    ·rw [hc] at z;cases z;exact hb rfl
end
structure Un (fs ex:List ce) (H H':Hp) (h h':kw):Prop where
 keep:∀b o,h.get? b=am o->H b=bm->b∉fs->b∉ex->h'.get? b=am o
 slot:∀b o,h.get? b=am o->H b=bm->b∈fs->b∉ex->∃sl,h'.get? b=am {o with slots:=sl}
 free:∀b o,h.get? b=am o->H b=bm->b∉ex->H' b=bm
 there:∀b o,h.get? b=am o->b∉ex->∃o',h'.get? b=am o'
 dZ:∀b xs,H b=am (.tup xs)->H' b=am (.tup xs)
 su:∀b o u,H b=am (.cI o u)->H' b=am (.cI o u)
 vF:∀b ps,H b=am (.T7 ps)->∃more,H' b=am (.T7 (ps++more))
section
variable {fs ex:List ce}{H H1:Hp}{h1:kw}{x:ce}{o:HO}
def Un.any (u:Un fs ex H H1 h h1) (q:h.get? b=am ob) (n:H b=bm) (hx:b∉ex):∃sl,h1.get? b=am {ob with slots:=sl}:=by
 by_cases hb:b∈fs
 ·exact u.slot b ob q n hb hx
 ·exact⟨ob.slots,u.keep b ob q n hb hx⟩
def Un.kept (k:∀b u,h.get? b=am u->h'.get? b=am u):Un fs ex H H h h':=
 ⟨λb ob q _ _ _=>k b ob q,λb ob q _ _ _=>⟨ob.slots,k b ob q⟩,λ_ _ _ n _=>n,λb ob q _=>⟨ob,k b ob q⟩,λ_ _ q=>q,λ_ _ _ q=>q,λ_ ps q=>⟨#[],by rw [q];simp⟩⟩
def Un.refl:Un fs ex H H h h:=Un.kept λ_ _ q=>q
def Un.laid (k:∀b u,h.get? b=am u->h'.get? b=am u) (hp:h.objs.size<=a) (hn:H a=bm):Un fs ex H (upd H a o) h h' where
 keep:=λb u q _ _ _=>k b u q
 slot:=λb u q _ _ _=>⟨u.slots,k b u q⟩
 free:=λb u q n _=>by rw [aw (AB (AA (Ao q) hp))];exact n
 there:=λb u q _=>⟨u,k b u q⟩
 dZ:=λb xs q=>by rw [aw (bj q hn)];exact q
 su:=λb u xs q=>by rw [aw (bj q hn)];exact q
 vF:=λb ps q=>⟨#[],by rw [aw (bj q hn),q];simp⟩
def Un.write (mu:Mut (H x)) (he:e=x\/H e=am (.own x)) (k:∀b u,b≠e->h.get? b=am u->h'.get? b=am u) (WV:∃u,h'.get? e=am u):Un fs ex H (upd H x o) h h':=by
 have hx:∀b,H b=bm->b≠x:=λb n z=>by subst z;rw [n] at mu;exact mu
 have hb:∀b,H b=bm->b≠e:=λb n z=>by
  subst z;rcases he with r | r
  ·exact hx b n r
  ·rw [n] at r;cases r
 have hm:∀b u,H b=am u->¬Mut (am u)->b≠x:=λb u q nm z=>by subst z;rw [q] at mu;exact nm mu
 refine⟨λb u q n _ _=>k b u (hb b n) q,λb u q n _ _=>⟨u.slots,k b u (hb b n) q⟩,λb u q n _=>by rw [aw (hx b n)];exact n,λb u q _=>?_,
  λb xs q=>by rw [aw (hm b _ q λz=>z)];exact q,λb u xs q=>by rw [aw (hm b _ q λz=>z)];exact q,λb ps q=>⟨#[],by rw [aw (hm b _ q λz=>z),q];simp⟩⟩
 by_cases VL:b=e
 ·subst VL;exact WV
 ·exact⟨u,k b u VL q⟩
end
def trk (h:kw) (H:Hp):List ce:=(AG h.objs.size).filter λa=>(H a).isSome
def w6 (h:kw) (H:Hp):kw:=PySem.W.hideAll h (trk h H)
def KA (h:kw) (H:Hp):(w6 h H).objs.size=h.objs.size:=PySem.W.hideAll_size _ _
def NJ {H:Hp}{o:Obj} (e:h.get? b=am o) (n:H b=bm):(w6 h H).get? b=am o:=
 PySem.W.hideAll_get _ e λhm=>by
  have q:=(AR.mp hm).2;rw [n] at q;simp at q
def QB {H:Hp}{o:Obj} (e:(w6 h H).get? b=am o):h.get? b=am o/\H b=bm:=by
 have e':=PySem.W.of_hideAll (trk h H) e;refine⟨e',?_⟩;cases q:H b with
 | none=>rfl
 | some x=>
  have hm:b∈trk h H:=AR.mpr ⟨AW.mpr (Ao e'),by simp [q]⟩;have z:(w6 h H).get? b=bm:=PySem.W.hideAll_none (trk h H) hm;rw [z] at e;cases e
def R5 (g h:kw) (L:ce):List (ce×Obj):=(AG h.objs.size).filterMap λa=>if a=L\/(g.get? a).isSome=true then bm else (h.get? a).map λo=>(a,o)
def rest (g h:kw) (L d:ce):List (ce×Obj):=(R5 g h L).filter λp=>decide (p.1≠d)
end L2
variable {o:Fm}{ch:List BG}{it:BG}{i j:Nat}{M:PySem.Model}{A:PySem.Around}{E:A4->DH->Prop}{v:L2.V}{Q:Unit->DH->Prop}{s' s:DH}
namespace L2
open PySem PySem.Spec PyProof.Rows
structure Mod (K:Ab) (mg:Str->Option bn) (base:kw):Prop where
 kin:K.In base
 glob:base.Ns ev mg
 blt:∃mb,base.Ns builtinsNs mb/\∀x:Str,x≠"__name__"->mb x=im x
 nolimit:base.NoLimit
structure Cx where
 prog:sK
 w:ut
 K:Ab
 mg:Str->Option bn
 base:kw
 A:nn
 N:List Str
 s₀:ci
 H₀:Hp
 env:Env
 outer:List Env
 stack:List Env
 ex:List ce
 fn:Str->Bool
 calm:Bool
 pn:List (ce×Obj)
 xe:bn->ci->Prop
abbrev jS (x:Str):Prop:=(x==("__debug__":Str))=false
abbrev JM (x:Str):Prop:=(x==("__classdict__":Str))=false
abbrev gs (X:Cx) (e:gt) (es:List gt):Prop:=f8 (e::es) X.env=(false,ii e X.env)::f8 es X.env
abbrev lq (X:Cx) (p:Pos) (es:List gt):Prop:=(wv p (f8 es X.env)).any (·.1)=false
abbrev yr (X:Cx) (e:gt):Prop:=∀x,foldedSetIterable e X.env x=pure x
abbrev Tw (X:Cx) (p:Pos) (l:List gt):Prop:=((wv p (f8 l X.env)).all (λx=>!x.1)&&(backToKw p (keywordEach [] X.env)).all (λx=>x.1.isSome)&&decide (l.length+([]:List Keyword).length+(if ([]:List Keyword).isEmpty then 0 else 1) < 30))=true
abbrev O3 (p q:Pos):Prop:=(p.endLine==q.line)=true
abbrev O0 (X:Cx) (y:Str):Prop:=X.fn y=true\/X.env.scope.names.lookup y=am .local
def Lo (l:List Env):List ce:=l.filterMap (·.frame)
abbrev Cx.fs (X:Cx):List ce:=Lo X.outer
def HK (sc:r9) (x:Str):Prop:=sc.names.lookup x=am .local\/sc.names.lookup x=am .cell\/sc.names.lookup x=am .free
def Loc (sc:r9) (x:Str):Prop:=sc.names.lookup x=am .local\/sc.names.lookup x=am .cell
def Look (env:Env) (h:kw) (m:Str->Option bn) (x:Str) (u:bn):Prop:=
 (env.kindOf x=am .local/\m x=am u)\/((env.kindOf x=am .cell\/env.kindOf x=am .free)/\∃c,env.cells.lookup x=am c/\h.IsCell c (am u))
structure Cx.Ok (X:Cx):Prop where
 mod:Mod X.K X.mg X.base
 kind:X.env.scope.kind=.function
 glob:X.env.globals=ev
 blt:X.env.builtins=builtinsNs
 above:X.s₀.heap.objs.size<=X.env.locals
 inj:∀x y c,X.env.cells.lookup x=am c->X.env.cells.lookup y=am c->x=y
 has:∀x,(X.env.kindOf x=am .cell\/X.env.kindOf x=am .free)->∃c,X.env.cells.lookup x=am c
 Z0:∀x c,X.fn x=true->X.env.cells.lookup x=am c->X.s₀.heap.objs.size<=c
 hd:X.calm=true->X.A.handled=bm
 frames:X.A.frames=am X.stack
 stk:X.stack=X.outer\/(X.stack=X.env::X.outer/\X.env.frame=am X.env.locals)
 exf:∀b∈X.ex,b≠X.env.locals/\∀x c,X.env.cells.lookup x=am c->c≠b
 bs:∀b o,X.base.get? b=am o->X.s₀.heap.get? b=am o/\X.H₀ b=bm
 Tv:X.base.objs.size<=X.s₀.heap.objs.size
 MR:∀b o,X.base.get? b=am o->b∉X.ex
 N9:∀b∈X.ex,b∉X.fs
 so:X.s₀.heap.FunFrames X.base X.outer
 WZ:∀b∈X.fs,X.H₀ b=bm
structure Inv (X:Cx) (Z:List (ce×Obj)) (σ:List (Option V)) (H:Hp) (s:ci):Prop where
 ok:X.Ok
 os:s.os=X.s₀.os
 bare:FS s.gens
 base:Un X.fs X.ex X.H₀ H X.s₀.heap s.heap
 loc:∃m,s.heap.Ns X.env.locals m/\∀(i:Nat) (x:Str) (v:V),X.N[i]?=am x->σ[i]?=am (am v)->HK X.env.scope x->∃u,RelV v u/\Look X.env s.heap m x u
 cell:∀x c,X.env.cells.lookup x=am c->∃v,s.heap.IsCell c v
 free:H X.env.locals=bm
 jP:∀x c,X.env.cells.lookup x=am c->H c=bm
 pin:∀p∈X.pn++Z,s.heap.get? p.1=am p.2/\H p.1=bm/\p.1≠X.env.locals/\p.1∉X.fs/\∀v,p.2.data≠.cell v
 bu:lY X.prog X.w H s.heap
 len:σ.length=X.N.length
section
variable {X:Cx}{Z:List (ce×Obj)}{σ:List (Option V)}{H H':Hp}{s:ci}{h':kw}
def Cx.Ok.ab8 (ok:X.Ok) (e:X.base.get? b=am o):b∉X.fs:=λhb=>by
 have:=(ok.so.mem hb).1;rw [e] at this;cases this
def Inv.bs (I:Inv X Z σ H s):∀b o,X.base.get? b=am o->s.heap.get? b=am o/\H b=bm:=λb o e=>
 ⟨I.base.keep b o (I.ok.bs b o e).1 (I.ok.bs b o e).2 (I.ok.ab8 e) (I.ok.MR b o e),I.base.free b o (I.ok.bs b o e).1 (I.ok.bs b o e).2 (I.ok.MR b o e)⟩
def Inv.bk (I:Inv X Z σ H s):∀b o,X.base.get? b=am o->s.heap.get? b=am o:=λb o e=>(I.bs b o e).1
def Inv.mod (I:Inv X Z σ H s):Mod X.K X.mg X.base:=I.ok.mod
def Inv.uT (I:Inv X Z σ H s):X.K.In s.heap:=I.ok.mod.kin.keeps I.bk
def Inv.lt (I:Inv X Z σ H s):X.env.locals < s.heap.objs.size:=let ⟨_,hn,_⟩:=I.loc;hn.lt
def Inv.sz (I:Inv X Z σ H s):X.s₀.heap.objs.size<=s.heap.objs.size:=Bw I.ok.above (DK I.lt)
def Inv.ab7 (I:Inv X Z σ H s) (h:s.heap.objs.size<=a):a∉X.fs:=λhb=>by
 obtain⟨_,o,ho,_⟩:=I.ok.so.mem hb;exact absurd (AA (Ao ho) (Bw I.sz h)) (AX _)
def Inv.Wf (I:Inv X Z σ H s):∀x c,X.env.cells.lookup x=am c->c≠X.env.locals:=λx c e z=>by
 obtain⟨v,o,ho,hd⟩:=I.cell x c e;obtain⟨m,⟨o',es,ep,VE,Zi,_⟩,_⟩:=I.loc;rw [z,VE] at ho;cases ho;rw [Zi] at hd;cases hd
def Inv.so (I:Inv X Z σ H s):s.heap.FunFrames X.base X.outer:=by
 have all:∀(l:List Env),(∀b∈Lo l,b∈X.fs)->X.s₀.heap.FunFrames X.base l->s.heap.FunFrames X.base l:=by
  intro l
  induction l with
  | nil=>intro _ _;trivial
  | cons env r ih=>
   intro hs hl;obtain⟨hk,⟨L,o,hf,hn,ho,hd⟩,hr⟩:=hl;have hL:=hs L (by unfold Lo;rw [A6,hf];exact Bu);obtain⟨sl,e⟩:=I.base.slot L o ho (I.ok.WZ L hL) hL λz=>I.ok.N9 L z hL;exact⟨hk,⟨L,_,hf,hn,e,hd⟩,ih (λb hb=>hs b (by unfold Lo;rw [A6,hf];exact AU _ hb)) hr⟩
 exact all X.outer (λ_ hb=>hb) I.ok.so
def Inv.stack (I:Inv X Z σ H s):s.heap.FunFrames X.base X.stack:=by
 rcases I.ok.stk with e | ⟨e,hf⟩
 ·rw [e];exact I.so
 ·rw [e];obtain⟨m,hn,_⟩:=I.loc;refine .cons (by rw [I.ok.kind];decide) hf hn ?_ I.so;exact Heap.get?_none_of_le (Bw I.ok.Tv I.ok.above)
def Inv.F9 (I:Inv X Z σ H s):∀b∈Lo X.stack,b∈X.env.locals::X.fs:=λb hb=>by
 rcases I.ok.stk with e | ⟨e,hf⟩
 ·rw [e] at hb;exact AU _ hb
 ·rw [e] at hb;unfold Lo at hb;rw [A6,hf] at hb;exact hb
def Inv.Im (I:Inv X Z σ H s):∀b∈Lo X.stack,H b=bm:=λb hb=>by
 rcases Aw.mp (I.F9 b hb) with e | hb
 ·rw [e];exact I.free
 ·obtain⟨_,o,ho,_⟩:=I.ok.so.mem hb;exact I.base.free b o ho (I.ok.WZ b hb) λz=>I.ok.N9 b z hb
def Inv.step {g':Array GenState}{t':Nat}{d':Drawn}{ch:List ce} (I:Inv X Z σ H s)
  (Pa:∀b∈ch,(b∈X.ex\/X.s₀.heap.objs.size<=b)/\b≠X.env.locals/\(∀x c,X.env.cells.lookup x=am c->c≠b)/\∀p∈X.pn++Z,p.1≠b)
  (keep:∀b o,b≠X.env.locals->b∉X.fs->b∉ch->s.heap.get? b=am o->H b=bm->h'.get? b=am o)
  (slot:∀b o,b≠X.env.locals->b∈X.fs->b∉ch->s.heap.get? b=am o->H b=bm->∃sl,h'.get? b=am {o with slots:=sl}) (free:∀b o,b∉ch->s.heap.get? b=am o->H b=bm->H' b=bm)
  (there:∀b o,b∉ch->s.heap.get? b=am o->∃o',h'.get? b=am o')
  (dZ:∀b xs,H b=am (.tup xs)->H' b=am (.tup xs)) (su:∀b o u,H b=am (.cI o u)->H' b=am (.cI o u)) (vF:∀b ps,H b=am (.T7 ps)->∃more,H' b=am (.T7 (ps++more)))
  (ns:∀m,s.heap.Ns X.env.locals m->h'.Ns X.env.locals m) (bu:lY X.prog X.w H' h') (hg:FS g') :
  Inv X Z σ H' {s with heap:=h',gens:=g',drawn:=d',toks:=t'}:=by
 have neL:∀b o,X.s₀.heap.get? b=am o->b≠X.env.locals:=λb o e=>AB (AA (Ao e) I.ok.above);have ì:∀b o,X.s₀.heap.get? b=am o->b∉X.ex->b∉ch:=λb o e hx hb=>by
  rcases (Pa b hb).1 with z | z
  ·exact hx z
  ·exact absurd (AA (Ao e) z) (AX _)
 have Û:∀x c,X.env.cells.lookup x=am c->∀v,s.heap.IsCell c v->h'.IsCell c v:=λx c e v ⟨o,ho,hd⟩=>by
  have Yy:c∉ch:=λz=>(Pa c z).2.2.1 x c e rfl;by_cases hc:c∈X.fs
  ·obtain⟨sl,q⟩:=slot c o (I.Wf x c e) hc Yy ho (I.jP x c e);exact⟨_,q,hd⟩
  ·exact⟨o,keep c o (I.Wf x c e) hc Yy ho (I.jP x c e),hd⟩
 refine⟨I.ok,I.os,hg,⟨λb o e n hb hx=>?_,λb o e n hb hx=>?_,λb o e n hx=>?_,λb o e hx=>?_,λb xs e=>dZ b xs (I.base.dZ b xs e),λb o xs e=>su b o xs (I.base.su b o xs e),λb ps e=>?_⟩,?_,λx c e=>?_,?_,λx c e=>?_,λp hp=>?_,bu,I.len⟩
 ·exact keep b o (neL b o e) hb (ì b o e hx) (I.base.keep b o e n hb hx) (I.base.free b o e n hx)
 ·obtain⟨sl,e1⟩:=I.base.slot b o e n hb hx;obtain⟨sl',e2⟩:=slot b _ (neL b o e) hb (ì b o e hx) e1 (I.base.free b o e n hx);exact⟨sl',e2⟩
 ·obtain⟨o',e1⟩:=I.base.there b o e hx;exact free b o' (ì b o e hx) e1 (I.base.free b o e n hx)
 ·obtain⟨o',e1⟩:=I.base.there b o e hx;exact there b o' (ì b o e hx) e1
 ·obtain⟨m1,e1⟩:=I.base.vF b ps e;obtain⟨m2,e2⟩:=vF b _ e1;exact⟨m1++m2,by rw [e2,Array.append_assoc]⟩
 ·obtain⟨m,hn,hl⟩:=I.loc;refine⟨m,ns m hn,λi x v e1 e2 e3=>?_⟩;obtain⟨u,r,l⟩:=hl i x v e1 e2 e3;refine⟨u,r,?_⟩;rcases l with l | ⟨k,c,e,z⟩
  ·exact .inl l
  ·exact .inr ⟨k,c,e,Û x c e _ z⟩
 ·obtain⟨v,z⟩:=I.cell x c e;exact⟨v,Û x c e v z⟩
 ·obtain⟨m,⟨o,_,_,ho,_⟩,_⟩:=I.loc;exact free _ o (λz=>(Pa _ z).2.1 rfl) ho I.free
 ·obtain⟨v,o,ho,hd⟩:=I.cell x c e;exact free c o (λz=>(Pa c z).2.2.1 x c e rfl) ho (I.jP x c e)
 ·obtain⟨e,n,ne,nf,d⟩:=I.pin p hp;have Yy:p.1∉ch:=λz=>(Pa p.1 z).2.2.2 p hp rfl;exact⟨keep p.1 p.2 ne nf Yy e n,free p.1 p.2 Yy e n,ne,nf,d⟩
def Inv.un {t':Nat} (I:Inv X Z σ H s) (u:Un X.fs [] H H' s.heap h') (bu:lY X.prog X.w H' h'):Inv X Z σ H' {s with heap:=h',toks:=t'}:=by
 obtain⟨m,⟨o,es,ep,ho,r⟩,_⟩:=id I.loc;obtain⟨sl,hL⟩:=u.any ho I.free (by simp);exact I.step (g':=s.gens) (d':=s.drawn) (ch:=[]) (λ_ z=>nomatch z) (λb o _ hb _ e n=>u.keep b o e n hb (by simp)) (λb o _ hb _ e n=>u.slot b o e n hb (by simp)) (λb o _ e n=>u.free b o e n (by simp)) (λb o _ e=>u.there b o e (by simp)) u.dZ u.su u.vF (λm' hm=>by
  obtain⟨o',ú,û,VE,r'⟩:=hm;rw [ho] at VE;cases VE;exact⟨_,ú,û,hL,r'⟩) bu I.bare
def Inv.call {g':Array GenState}{t':Nat}{d':Drawn} (I:Inv X Z σ H s) (u:Un (Lo X.stack) ch H H' s.heap h') (bu:lY X.prog X.w H' h') (hg:FS g')
  (Pa:∀b∈ch,(b∈X.ex\/X.s₀.heap.objs.size<=b)/\b≠X.env.locals/\(∀x c,X.env.cells.lookup x=am c->c≠b)/\∀p∈X.pn++Z,p.1≠b) :
  Inv X Z σ H' {s with heap:=h',gens:=g',drawn:=d',toks:=t'}:=by
 obtain⟨m,⟨o,es,ep,ho,r⟩,_⟩:=id I.loc;obtain⟨sl,hL⟩:=u.any ho I.free λz=>(Pa _ z).2.1 rfl;exact I.step (ch:=ch) Pa (λb o hL hb hc e n=>u.keep b o e n (λz=>(Aw.mp (I.F9 b z)).elim hL hb) hc) (λb o _ _ hc e n=>u.any e n hc) (λb o hc e n=>u.free b o e n hc) (λb o hc e=>u.there b o e hc) u.dZ u.su u.vF (λm' hm=>by
  obtain⟨o',ú,û,VE,r'⟩:=hm;rw [ho] at VE;cases VE;exact⟨_,ú,û,hL,r'⟩) bu hg
def Inv.turned {t':Nat} (I:Inv X Z σ H s) (k:∀b o,b≠it->s.heap.get? b=am o->h'.get? b=am o) (hn:H it=bm) (hL:it≠X.env.locals)
  (h1:it∈X.ex\/X.s₀.heap.objs.size<=it) (h2:∀x c,X.env.cells.lookup x=am c->c≠it) (h3:∀p∈X.pn++Z,p.1≠it):Inv X Z σ H {s with heap:=h',toks:=t'}:=by
 have SM:∀b u,H b=am u->b≠it:=λb u e z=>by rw [z,hn] at e;cases e
 refine I.step (g':=s.gens) (d':=s.drawn) (ch:=[it]) (λb hb=>?_) (λb o _ _ hc e _=>k b o (λz=>hc (by simp [z])) e) (λb o _ _ hc e _=>⟨o.slots,k b o (λz=>hc (by simp [z])) e⟩) (λ_ _ _ _ n=>n)
  (λb o hc e=>⟨o,k b o (λz=>hc (by simp [z])) e⟩) (λ_ _ e=>e) (λ_ _ _ e=>e) (λb ps e=>⟨#[],by rw [e];simp⟩) (λm hm=>?_) (λb u e=>?_) I.bare
 ·have e:b=it:=by simpa using hb
  subst e;exact⟨h1,hL,h2,h3⟩
 ·obtain⟨o,es,ep,ho,r⟩:=hm;exact⟨o,es,ep,k _ o (BE hL) ho,r⟩
 ·refine (I.bu b u e).vI (λc v hc q=>k c v ?_ q) (λ_ q=>q) λ_ _ q=>q;rcases hc with z | z
  ·rw [z];exact SM b u e
  ·exact SM c _ z
def Inv.tok (I:Inv X Z σ H s) (t:Nat):Inv X Z σ H {s with toks:=t}:=I.un (h':=s.heap) (t':=t) Un.refl I.bu
def Inv.kept {t':Nat} (I:Inv X Z σ H s) (k:∀b u,s.heap.get? b=am u->h'.get? b=am u):Inv X Z σ H {s with heap:=h',toks:=t'}:=I.un (Un.kept k) (I.bu.kept k)
def Inv.laid {o:HO}{t':Nat} (I:Inv X Z σ H s) (k:∀b u,s.heap.get? b=am u->h'.get? b=am u) (hp:s.heap.objs.size<=a) (new:bb X.prog X.w (upd H a o) h' a o) :
  Inv X Z σ (upd H a o) {s with heap:=h',toks:=t'}:=I.un (Un.laid k hp (I.bu.fresh hp)) (I.bu.laid k hp new)
def Inv.write {x:ce}{o:HO}{t':Nat} (I:Inv X Z σ H s) (mu:Mut (H x)) (he:e=x\/H e=am (.own x)) (k:∀b u,b≠e->s.heap.get? b=am u->h'.get? b=am u) (WV:∃u,h'.get? e=am u)
  (new:bb X.prog X.w (upd H x o) h' x o):Inv X Z σ (upd H x o) {s with heap:=h',toks:=t'}:=I.un (Un.write mu he k WV) (I.bu.write mu he k WV new)
def Inv.ID {yV:List (ce×Obj)} (I:Inv X Z σ H s) (h:∀p∈yV,s.heap.get? p.1=am p.2/\H p.1=bm/\p.1≠X.env.locals/\p.1∉X.fs/\∀v,p.2.data≠.cell v):Inv X yV σ H s:=
 ⟨I.ok,I.os,I.bare,I.base,I.loc,I.cell,I.free,I.jP,λp hp=>(Bm.mp hp).elim (λz=>I.pin p (A9 _ z)) (h p),I.bu,I.len⟩
def zc {N:List Str} (hN:N.Nodup) {x:Str} (a:N[i]?=am x) (b:N[j]?=am x):i=j:=by
 obtain⟨h1,e1⟩:=Al.mp a;obtain⟨h2,e2⟩:=Al.mp b;exact (List.getElem_inj hN).mp (e1.trans e2.symm)
def uB {x:Str} (I:Inv X Z σ H s) (hN:X.N.Nodup) (hi:X.N[i]?=am x) (hx:Loc X.env.scope x) (r:RelV v u)
  (h:∀s',Inv X Z (σ.set i (am v)) H s'->(∃a,Ci a s.heap s'.heap/\(a=X.env.locals\/X.env.cells.lookup x=am a))->Q () s') (hf:O0 X x:=by first | exact .inl rfl | exact .inr rfl | assumption):db M A (storeName X.env x u) Q E s:=by
 obtain⟨m,hn,hl⟩:=id I.loc;have ade:(X.env.scope.kind==.class||(X.env.scope.kind==.module&&X.env.locals != X.env.globals))=false:=by rw [I.ok.kind];rfl
 have Za:i < σ.length:=by rw [I.len];exact (Al.mp hi).1
 have Wf:=I.Wf;have Ï:∀{a:ce}{h':kw},(∃o,s.heap.get? a=am o/\H a=bm)->Ci a s.heap h'->lY X.prog X.w H h':=λ{a h'} ha hs b ob e=>by
  obtain⟨_,_,S7⟩:=ha;refine (I.bu b ob e).vI (λc w' hc q=>(hs.2 c ?_).trans q) (λ_ q=>q) λ_ _ q=>q;rintro rfl;rcases hc with rfl | hc
  ·rw [S7] at e;cases e
  ·rw [S7] at hc;cases hc
 rcases hx with hk | hk
 ·refine wpAny_storeName_local hk hn (λh' hn' hs=>?_) ade;obtain⟨oL,_,_,õ,_⟩:=id hn;refine h _ ⟨I.ok,I.os,I.bare,⟨λb o e n hb hx=>?_,λb o e n hb hx=>?_,I.base.free,λb o e hx=>?_,I.base.dZ,I.base.su,I.base.vF⟩,⟨_,hn',λj y v' e1 e2 e3=>?_⟩,λy c e=>?_,I.free,I.jP,λp hp=>?_,Ï ⟨oL,õ,I.free⟩ hs,by simpa using I.len⟩ ⟨_,hs,.inl rfl⟩
  ·exact (hs.2 b (AB (AA (Ao e) I.ok.above))).trans (I.base.keep b o e n hb hx)
  ·obtain⟨sl,e1⟩:=I.base.slot b o e n hb hx;exact⟨sl,(hs.2 b (AB (AA (Ao e) I.ok.above))).trans e1⟩
  ·obtain⟨o',e1⟩:=I.base.there b o e hx;exact⟨o',(hs.2 b (AB (AA (Ao e) I.ok.above))).trans e1⟩
  ·by_cases hj:j=i
   ·subst hj;rw [hi] at e1;cases e1;rw [Cw Za] at e2;cases e2;exact⟨u,r,.inl ⟨hk,by simp⟩⟩
   ·rw [B3 (BE hj)] at e2;obtain⟨u',r',q⟩:=hl j y v' e1 e2 e3;refine⟨u',r',?_⟩;rcases q with⟨k,e⟩ | ⟨k,c,e,z⟩
    ·refine .inl ⟨k,?_⟩;have:y≠x:=λe=>hj (zc hN e1 (e▸hi));simp [this,e]
    ·exact .inr ⟨k,c,e,z.sameBut hs (Wf y c e)⟩
  ·obtain⟨w',z⟩:=I.cell y c e;exact⟨w',z.sameBut hs (Wf y c e)⟩
  ·obtain⟨e,n,ne,nf,d⟩:=I.pin p hp;exact⟨(hs.2 p.1 ne).trans e,n,ne,nf,d⟩
 ·have Zf:X.fn x=true:=by
   rcases hf with z | z
   ·exact z
   ·rw [z] at hk;cases hk
  obtain⟨c,hc⟩:=I.ok.has x (.inl hk);obtain⟨w',z⟩:=I.cell x c hc;refine wpAny_storeName_cell I.ok.kind hk hc z (λh' WX hs=>?_);obtain⟨oc,hoc,acY⟩:=id z;refine h {s with heap:=h'} ⟨I.ok,I.os,I.bare,⟨λb o e n hb hx=>?_,λb o e n hb hx=>?_,I.base.free,λb o e hx=>?_,I.base.dZ,I.base.su,I.base.vF⟩,⟨m,hn.sameBut hs (BE (Wf x c hc)),λj y v' e1 e2 e3=>?_⟩,λy c' e=>?_,I.free,I.jP,λp hp=>?_,Ï ⟨oc,hoc,I.jP x c hc⟩ hs,by simpa using I.len⟩ ⟨c,hs,.inr hc⟩
  ·exact (hs.2 b (AB (AA (Ao e) (I.ok.Z0 x c Zf hc)))).trans (I.base.keep b o e n hb hx)
  ·obtain⟨sl,e1⟩:=I.base.slot b o e n hb hx;exact⟨sl,(hs.2 b (AB (AA (Ao e) (I.ok.Z0 x c Zf hc)))).trans e1⟩
  ·obtain⟨o',e1⟩:=I.base.there b o e hx;exact⟨o',(hs.2 b (AB (AA (Ao e) (I.ok.Z0 x c Zf hc)))).trans e1⟩
  ·by_cases hj:j=i
   ·subst hj;rw [hi] at e1;cases e1;rw [Cw Za] at e2;cases e2;exact⟨u,r,.inr ⟨.inl hk,c,hc,WX⟩⟩
   ·rw [B3 (BE hj)] at e2;obtain⟨u',r',q⟩:=hl j y v' e1 e2 e3;refine⟨u',r',?_⟩;rcases q with q | ⟨k,c',e,z'⟩
    ·exact .inl q
    ·refine .inr ⟨k,c',e,z'.sameBut hs ?_⟩;rintro rfl;exact hj (zc hN e1 (I.ok.inj _ _ _ e hc▸hi))
  ·by_cases hcc:c'=c
   ·subst hcc;exact⟨_,WX⟩
   ·obtain⟨w2,z2⟩:=I.cell y c' e;exact⟨w2,z2.sameBut hs hcc⟩
  ·obtain⟨e,n,ne,nf,d⟩:=I.pin p hp;refine⟨(hs.2 p.1 ?_).trans e,n,ne,nf,d⟩;intro q;rw [q,hoc] at e;have q':oc=p.2:=Option.some.inj e;exact d w' (by rw [<- q'];exact acY)
def mR {x:Str} (I:Inv X Z σ H s) (hN:X.N.Nodup) (hi:X.N[i]?=am x) (hx:Loc X.env.scope x) (r:RelV v u)
  (h:∀s',Inv X Z (σ.set i (am v)) H s'->Q () s') (hf:O0 X x:=by first | exact .inl rfl | exact .inr rfl | assumption):db M A (storeName X.env x u) Q E s:=
 uB I hN hi hx r (λs' I' _=>h s' I') hf
def Inv.ZZ (I:Inv X Z σ H s) (ho:s'.os=s.os) (u:Un (Lo X.stack) ch H H' s.heap s'.heap) (bu:lY X.prog X.w H' s'.heap) (hg:FS s'.gens)
  (Pa:∀b∈ch,(b∈X.ex\/X.s₀.heap.objs.size<=b)/\b≠X.env.locals/\(∀x c,X.env.cells.lookup x=am c->c≠b)/\∀p∈X.pn++Z,p.1≠b):Inv X Z σ H' s':=by
 obtain⟨h',g',d',t',o'⟩:=s';have e:o'=s.os:=ho;subst e;exact I.call (g':=g') (t':=t') (d':=d') u bu hg Pa
end
abbrev XK:=bn->Option ce->Hp->Prop
abbrev St:=List (Option V)
abbrev VK:=V->Hp->Prop
abbrev TE:=St->Hp->VK->Prop
abbrev TT:=St->Hp->(Bool->Hp->Prop)->Prop
abbrev TA:=St->Hp->(List V->Hp->Prop)->Prop
structure Ends where
 nx:St->Hp->Prop
 rt:VK
 bk:St->Hp->Prop:=λ_ _=>False
 ct:St->Hp->Prop:=λ_ _=>False
abbrev TS:=Ends->St->Hp->Prop
def EP (X:Cx) (Z:List (ce×Obj)) (σ:St) (Q:VK) (u:bn) (s':ci):Prop:=∃v H',Inv X Z σ H' s'/\RelV v u/\Q v H'
def TP (X:Cx) (Z:List (ce×Obj)) (σ:St) (Q:Bool->Hp->Prop) (b:Bool) (s':ci):Prop:=∃H',Inv X Z σ H' s'/\Q b H'
def AP (X:Cx) (Z:List (ce×Obj)) (σ:St) (Q:List V->Hp->Prop) (us:List bn) (s':ci):Prop:=∃vs H',Inv X Z σ H' s'/\Vals vs us/\Q vs H'
def SP (X:Cx) (Z:List (ce×Obj)) (D:Ends) (f:Flow) (s':ci):Prop:=
 match f with
 | .next=>∃σ' H',Inv X Z σ' H' s'/\D.nx σ' H'
 | .brk=>∃σ' H',Inv X Z σ' H' s'/\D.bk σ' H'
 | .cont=>∃σ' H',Inv X Z σ' H' s'/\D.ct σ' H'
 | .ret u=>∃v σ' H',Inv X Z σ' H' s'/\RelV v u/\D.rt v H'
def PE (X:Cx) (e:gt) (t:TE):Prop:=
 ∀(Z:List (ce×Obj)) (s:ci) (σ:St) (H:Hp) (Q:VK),Inv X Z σ H s->t σ H Q->db (dL X.prog X.w) X.A (ii e X.env) (EP X Z σ Q) X.xe s
def PT (X:Cx) (e:gt) (t:TT):Prop:=
 ∀(Z:List (ce×Obj)) (s:ci) (σ:St) (H:Hp) (Q:Bool->Hp->Prop),Inv X Z σ H s->t σ H Q->db (dL X.prog X.w) X.A (isTrue e X.env (ii e X.env)) (TP X Z σ Q) X.xe s
def PW (X:Cx) (e:gt) (t:TT):Prop:=
 ∀(Å:Sem bn) (Z:List (ce×Obj)) (s:ci) (σ:St) (H:Hp) (Q:Bool->Hp->Prop),Inv X Z σ H s->t σ H Q->db (dL X.prog X.w) X.A (isTrue e X.env Å) (TP X Z σ Q) X.xe s
def PW.pt {X:Cx}{e:gt}{t:TT} (h:PW X e t):PT X e t:=h _
def PA (X:Cx) (es:List gt) (t:TA):Prop:=
 ∀(pos:Pos) (Z:List (ce×Obj)) (s:ci) (σ:St) (H:Hp) (Q:List V->Hp->Prop),Inv X Z σ H s->t σ H Q->db (dL X.prog X.w) X.A (spliced (wv pos (f8 es X.env))) (AP X Z σ Q) X.xe s
def PS (X:Cx) (st:ul) (t:TS):Prop:=
 ∀(Z:List (ce×Obj)) (s:ci) (σ:St) (H:Hp) (D:Ends),Inv X Z σ H s->t D σ H->db (dL X.prog X.w) X.A (exec st X.env) (SP X Z D) X.xe s
def qN (X:Cx) (st:List ul) (t:TS):Prop:=
 ∀(Z:List (ce×Obj)) (s:ci) (σ:St) (H:Hp) (D:Ends),Inv X Z σ H s->t D σ H->db (dL X.prog X.w) X.A (execs st X.env) (SP X Z D) X.xe s
def bR {t:Sem α}{Q Q':α->ci->Prop} (h:db M A t Q E s) (hQ:∀a s,Q a s->Q' a s):db M A t Q' E s:=BN h hQ λ_ _ x=>x
end L2
variable {x:BB}{H:L2.Hp}{a:B7}{Q:A4->DH->Prop}{X:L2.Cx}{ta tb:L2.TE}{Z:List (BG×Fm)}{σ:L2.St}{R:L2.V->L2.V->L2.Hp->Prop}{pos:B9}
namespace L2
open PySem PySem.Spec PyProof.Rows
section
def bin {b:gt} (ha:PE X a ta) (hb:PE X b tb) (I:Inv X Z σ H s) (h:ta σ H λx H1=>tb σ H1 λy H2=>R x y H2) {Q:α->ci->Prop}{f:bn->bn->Sem α}
  (hf:∀v u s2 x y H2,Inv X Z σ H2 s2->RelV x v->RelV y u->R x y H2->db (dL X.prog X.w) X.A (f v u) Q X.xe s2) :
  db (dL X.prog X.w) X.A (ii a X.env) (λv s₁=>db (dL X.prog X.w) X.A (ii b X.env) (λu s₂=>db (dL X.prog X.w) X.A (f v u) Q X.xe s₂) X.xe s₁) X.xe s:=by
 refine bR (ha Z s σ H _ I h) λv s1 ⟨x,H1,I1,r1,q1⟩=>?_;refine bR (hb Z s1 σ H1 _ I1 q1) λu s2 ⟨y,H2,I2,r2,q2⟩=>?_;exact hf v u s2 x y H2 I2 r1 r2 q2
def abE (i:Nat):TE:=λσ H Q=>∃v,σ[i]?=am (am v)/\Q v H
def tC (v:V):TE:=λ_ H Q=>Q v H
def fe (hN:X.N[i]?=am x) (hv:HK X.env.scope x) (hd:jS x:=by decide) (kr:JM x:=by decide):PE X (.Name x pos) (abE i):=by
 intro Z s σ H Q I h;obtain⟨v,e,h⟩:=h;obtain⟨m,hn,hl⟩:=I.loc;obtain⟨u,r,l⟩:=hl i x v hN e hv;have fin:EP X Z σ Q u s:=⟨v,H,I,r,h⟩;rcases l with⟨hk,hm⟩ | ⟨hk,c,hc,Ta⟩
 ·exact wpAny_Name (wpAny_loadName_local I.ok.kind hk hn hm fin) hd
 ·rcases hk with hk | hk
  ·exact wpAny_Name (wpAny_loadName_cell I.ok.kind hk hc Ta fin) hd
  ·exact wpAny_Name (wpAny_loadName_free I.ok.kind hk hc Ta fin kr) hd
def UK {i j pos}:PE X (.Constant (.int i) j pos) (tC (.int i)):=λ_ _ _ H _ I h=>wpAny_Constant_int ⟨.int i,H,I.tok _,⟨_,rfl⟩,h⟩
def Yk {b j pos}:PE X (.Constant (.bool b) j pos) (tC (.bl b)):=λ_ _ _ H _ I h=>Constant_bool ⟨.bl b,H,I,rfl,h⟩
def MB {j pos}:PE X (.Constant .none j pos) (tC .aD):=λ_ _ _ H _ I h=>Constant_none ⟨.aD,H,I,rfl,h⟩
def UI {x j pos}:PE X (.Constant (.str x) j pos) (tC (.str x)):=λ_ _ _ H _ I h=>Calls.Constant_str ⟨.str x,H,I.tok _,⟨_,rfl⟩,h⟩
def Gl (X:Cx) (x:Str):Prop:=X.env.kindOf x=am .globalImplicit
def I0 (I:Inv X Z σ H s) (hg:Gl X x) (hm:X.mg x=am u) (h:Q u s)
  (hd:jS x:=by decide):db (dL X.prog X.w) X.A (ii (.Name x pos) X.env) Q E s:=
 DR I.ok.kind hg (Calls.loadGlobal_global (by rw [I.ok.glob];exact I.mod.glob.keeps I.bk) hm h) hd
def gX (I:Inv X Z σ H s) (hg:Gl X x) (hm:X.mg x=bm) (hv:im x=am u) (h:Q u s)
  (hn:x≠"__name__":=by decide) (hd:jS x:=by decide):db (dL X.prog X.w) X.A (ii (.Name x pos) X.env) Q E s:=by
 obtain⟨mb,h1,h2⟩:=I.mod.blt;exact DR I.ok.kind hg (Calls.loadGlobal_builtin (by rw [I.ok.glob];exact I.mod.glob.keeps I.bk) hm (by rw [I.ok.blt];exact h1.keeps I.bk) ((h2 x hn).trans hv) h) hd
def qt (hg:Gl X x) (hm:X.mg x=am u) (r:RelV v u) (hd:jS x:=by decide):PE X (.Name x pos) (tC v):=
 λ_ _ _ H _ I h=>I0 I hg hm ⟨v,H,I,r,h⟩ hd
def Qo (hg:Gl X x) (hm:X.mg x=bm) (hv:im x=am u) (r:RelV v u) (hn:x≠"__name__":=by decide) (hd:jS x:=by decide):PE X (.Name x pos) (tC v):=
 λ_ _ _ H _ I h=>gX I hg hm hv ⟨v,H,I,r,h⟩ hn hd
variable {b:gt}
variable {tA æ:TT}{rest:List gt}
def abO (t u:TT):TT:=λσ H Q=>t σ H λc H1=>if c=true then u σ H1 Q else Q false H1
def tOr (t u:TT):TT:=λσ H Q=>t σ H λc H1=>if c=true then Q true H1 else u σ H1 Q
def abJ (t:TT):TT:=λσ H Q=>t σ H λc H1=>Q (!c) H1
def P8 (ha:PT X a tA):PW X (.BoolOp .And [a] pos) tA:=by
 intro wh Z s σ H Q I h;refine isTrue_and (bR (ha Z s σ H Q I h) λc s1 e=>?_);cases c with
 | true=>exact isTrue_and_nil e
 | false=>exact e
def Uz (ha:PT X a tA):PW X (.BoolOp .Or [a] pos) tA:=by
 intro wh Z s σ H Q I h;refine isTrue_or (bR (ha Z s σ H Q I h) λc s1 e=>?_);cases c with
 | false=>exact isTrue_or_nil e
 | true=>exact e
def UA (ha:PT X a tA) (hb:PW X (.BoolOp .And (b::rest) pos) æ):PW X (.BoolOp .And (a::b::rest) pos) (abO tA æ):=by
 intro wh Z s σ H Q I h;refine isTrue_and (bR (ha Z s σ H _ I h) λc s1 ⟨H1,I1,q1⟩=>?_);cases c with
 | true=>exact hb wh Z s1 σ H1 Q I1 q1
 | false=>exact⟨H1,I1,q1⟩
def Yf (ha:PT X a tA) (hb:PW X (.BoolOp .Or (b::rest) pos) æ):PW X (.BoolOp .Or (a::b::rest) pos) (tOr tA æ):=by
 intro wh Z s σ H Q I h;refine isTrue_or (bR (ha Z s σ H _ I h) λc s1 ⟨H1,I1,q1⟩=>?_);cases c with
 | true=>exact⟨H1,I1,q1⟩
 | false=>exact hb wh Z s1 σ H1 Q I1 q1
def UB (ha:PT X a tA):PT X (.UnaryOp .Not a pos) (abJ tA):=by
 intro Z s σ H Q I h;exact isTrue_not (ha Z s σ H (λc H1=>Q (!c) H1) I h)
def XM (ta tb:TE):TE:=λσ H Q=>ta σ H λx H1=>∃c,x=.bl c/\if c=true then tb σ H1 Q else Q (.bl false) H1
def UJ {op}{t:TE} (h:PE X a t):PE X (.BoolOp op [a] pos) t:=λZ s σ H Q I hw=>BoolOp_one (h Z s σ H Q I hw)
def UM (ha:PE X a ta) (hb:PE X (.BoolOp .And (b::rest) pos) tb):PE X (.BoolOp .And (a::b::rest) pos) (XM ta tb):=by
 intro Z s σ H Q I h;refine BoolOp_and (bR (ha Z s σ H _ I h) λv s1 ⟨x,H1,I1,r1,q1⟩=>?_);obtain⟨c,rfl,q1⟩:=q1;cases r1;refine CY ?_;cases c with
 | true=>exact hb Z s1 σ H1 Q I1 q1
 | false=>exact⟨.bl false,H1,I1,rfl,q1⟩
def tIf (t:TT) (ta tb:TE):TE:=λσ H Q=>t σ H λc H1=>if c=true then ta σ H1 Q else tb σ H1 Q
def yX {c:gt} (hc:PT X c tA) (ha:PE X a ta) (hb:PE X b tb):PE X (.IfExp c a b pos) (tIf tA ta tb):=by
 intro Z s σ H Q I h;refine wpAny_IfExp (bR (hc Z s σ H _ I h) λd s1 ⟨H1,I1,q1⟩=>?_);cases d with
 | true=>exact ha Z s1 σ H1 Q I1 q1
 | false=>exact hb Z s1 σ H1 Q I1 q1
end
end L2
variable {xs ys:List L2.V}{H':L2.Hp}{e tg:B7}{y:L2.V}{D:L2.Ends}{te:L2.TE}{tc:L2.TT}{es:List B7}{k n:Nat}{â px py pt:B9}{body:List PySem.Stmt}
namespace L2
open PySem PySem.Spec PyProof.Rows
def dP (K:Ab) (H:Hp) (a:ce) (xs:List V):Prop:=
 Rd H a (.lst xs)\/
  ∃(o:Obj) (ak:Array bn) (n:Nat),K.lookup a=am o/\o.cls=.type "list"/\o.dict=bm/\o.data=.seq ak n/\ak.size<=sizeLine/\Vals xs ak.toList
def dG (K:Ab) (H:Hp) (a:ce) (xs:List V):Prop:=
 Rd H a (.tup xs)\/
  ∃(o:Obj) (ak:Array bn) (n:Nat),K.lookup a=am o/\o.cls=.type "tuple"/\o.data=.seq ak n/\ak.size<=sizeLine/\Vals xs ak.toList
def adM:bn->Option V
 | .none=>am .aD
 | .bool b=>am (.bl b)
 | .int i _=>am (.int i)
 | .str x _=>am (.str x)
 | .bytes b _=>am (.Wi b)
 | .float b _=>am (.W3 b)
 | .ref a=>am (.ref a)
 | .type n=>am (.ty n)
 | _=>bm
def RelV.abs {x:V} (r:RelV x u):adM u=am x:=by
 cases x with
 | aD=>cases r;rfl
 | bl _=>cases r;rfl
 | int _=>obtain⟨t,rfl⟩:=r;rfl
 | str _=>obtain⟨t,rfl⟩:=r;rfl
 | Wi _=>obtain⟨t,rfl⟩:=r;rfl
 | W3 _=>obtain⟨t,rfl⟩:=r;rfl
 | ref _=>cases r;rfl
 | ty _=>cases r;rfl
def RelV.inj {x:V} (r:RelV x u) (q:RelV y u):x=y:=Option.some.inj (r.abs.symm.trans q.abs)
theorem Vals.inj:∀{xs ys:List V}{us:List bn},Vals xs us->Vals ys us->xs=ys
 | _,_,_,.nil,.nil=>rfl
 | _,_,_,.cons r t,.cons r' t'=>by rw [r.inj r',Vals.inj t t']
section
variable {a:ce}
def dP.of {K:Ab} (h:H a=am (.lst xs)):dP K H a xs:=.inl (.inl h)
def dG.of {K:Ab} (h:H a=am (.tup xs)):dG K H a xs:=.inl (.inl h)
theorem Inv.list (I:Inv X Z σ H s) (h:dP X.K H a xs):∃ak:List bn,Vals xs ak/\PlainL s.heap a ak.toArray/\xs.length<=sizeLine:=by
 rcases h with h | ⟨o,ak,n,hk,hc,hd,hs,hz,r⟩
 ·obtain⟨z,ak,n,r,e⟩:=h.ok I.bu;exact⟨ak,r,⟨_,n,e,rfl,rfl,rfl⟩,z⟩
 ·refine⟨ak.toList,r,⟨o,n,I.uT a o hk,hc,hd,by simpa using hs⟩,?_⟩;have e:=r.length;simp only [BQ] at e;omega
theorem Inv.tuple (I:Inv X Z σ H s) (h:dG X.K H a xs):∃ak:List bn,Vals xs ak/\IsTup s.heap a ak.toArray/\xs.length<=sizeLine:=by
 rcases h with h | ⟨o,ak,n,hk,hc,hs,hz,r⟩
 ·obtain⟨z,ak,r,p⟩:=h.ok I.bu;exact⟨ak,r,p,z⟩
 ·refine⟨ak.toList,r,⟨o,I.uT a o hk,hc,n,by simpa using hs⟩,?_⟩;have e:=r.length;simp only [BQ] at e;omega
def Inv.zp (I:Inv X Z σ H s) (h:dP X.K H a xs) (h':dP X.K H a ys):xs=ys:=by
 obtain⟨ak,r,⟨o,n,e,_,_,d⟩,_⟩:=I.list h;obtain⟨its',r',⟨o',n',e',_,_,d'⟩,_⟩:=I.list h';rw [e] at e';cases e';rw [d] at d';injection d' with d1 _;have:ak=its':=by simpa using congrArg Array.toList d1
 subst this;exact r.inj r'
def Inv.kI (I:Inv X Z σ H s) (h:dG X.K H a xs) (h':dG X.K H a ys):xs=ys:=by
 obtain⟨ak,r,⟨o,e,_,n,d⟩,_⟩:=I.tuple h;obtain⟨its',r',⟨o',e',_,n',d'⟩,_⟩:=I.tuple h';rw [e] at e';cases e';rw [d] at d';injection d' with d1 _;have:ak=its':=by simpa using congrArg Array.toList d1
 subst this;exact r.inj r'
end
abbrev Cx.tB (X:Cx) (E:bn->ci->Prop):Cx:={X with xe:=E}
abbrev Cx.uJ (X:Cx):Cx:=X.tB λ_ _=>False
def Cx.Ok.tB (ok:X.Ok) (E:bn->ci->Prop):(X.tB E).Ok:=
 ⟨ok.mod,ok.kind,ok.glob,ok.blt,ok.above,ok.inj,ok.has,ok.Z0,ok.hd,ok.frames,ok.stk,ok.exf,ok.bs,ok.Tv,ok.MR,ok.N9,ok.so,ok.WZ⟩
def Cx.Ok.jX (ok:(X.tB E).Ok):X.Ok:=
 ⟨ok.mod,ok.kind,ok.glob,ok.blt,ok.above,ok.inj,ok.has,ok.Z0,ok.hd,ok.frames,ok.stk,ok.exf,ok.bs,ok.Tv,ok.MR,ok.N9,ok.so,ok.WZ⟩
section
def Inv.tB (I:Inv X Z σ H s) (E:bn->ci->Prop):Inv (X.tB E) Z σ H s:=⟨I.ok.tB E,I.os,I.bare,I.base,I.loc,I.cell,I.free,I.jP,I.pin,I.bu,I.len⟩
def Inv.jX (I:Inv (X.tB E) Z σ H s):Inv X Z σ H s:=⟨I.ok.jX,I.os,I.bare,I.base,I.loc,I.cell,I.free,I.jP,I.pin,I.bu,I.len⟩
def SP.jX {f:Flow} (h:SP (X.tB E) Z D f s'):SP X Z D f s':=by
 cases f with
 | next=>obtain⟨σ',H',I,q⟩:=h;exact⟨σ',H',I.jX,q⟩
 | brk=>obtain⟨σ',H',I,q⟩:=h;exact⟨σ',H',I.jX,q⟩
 | cont=>obtain⟨σ',H',I,q⟩:=h;exact⟨σ',H',I.jX,q⟩
 | ret u=>obtain⟨v,σ',H',I,r,q⟩:=h;exact⟨v,σ',H',I.jX,r,q⟩
def qN.uJ {st:List ul}{t:TS} (h:qN X.uJ st t):qN X st t:=λZ s σ H D I hw=>
 BN (h Z s σ H D (I.tB _) hw) (λ_ _ q=>q.jX) λ_ _ z=>Bo z
end
section
variable {st:ul}{rest:List ul}{t u:TS}
def XD:TS:=λD σ H=>D.nx σ H
def abG (t u:TS):TS:=λD σ H=>t {D with nx:=u D} σ H
def vT:qN X [] XD:=λ_ _ σ H _ I h=>Dy ⟨σ,H,I,h⟩
def yQ (h1:PS X st t) (h2:qN X rest u):qN X (st::rest) (abG t u):=by
 intro Z s σ H D I h;refine wpAny_execs_cons (bR (h1 Z s σ H {D with nx:=u D} I h) λf s1 q=>?_);cases f with
 | next=>
  obtain⟨σ',H',I',q⟩:=q;exact h2 Z s1 σ' H' D I' q
 | ret v=>exact q
 | brk=>exact q
 | cont=>exact q
def P9 (h1:PS X st t):qN X [st] t:=by
 intro Z s σ H D I h;refine wpAny_execs_cons (bR (h1 Z s σ H D I h) λf s1 q=>?_);cases f with
 | next=>exact Dy q
 | ret v=>exact q
 | brk=>exact q
 | cont=>exact q
def XH:TS:=λD σ H=>D.ct σ H
def yR:PS X (.Continue pos) XH:=λ_ _ σ H _ I h=>wpAny_Continue ⟨σ,H,I,h⟩
def Inv.quiet (I:Inv X Z σ H s):interactive X.env=false:=by simp [interactive,I.ok.kind]
def XF (te:TE):TS:=λD σ H=>te σ H λ_ H1=>D.nx σ H1
def qr (he:PE X e te) (hs:mo e bm pos.line X.env=pure false:=by rfl):PS X (.Expr e pos) (XF te):=by
 intro Z s σ H D I h;exact wpAny_Expr_any (bR (he Z s σ H _ I h) λv s1 ⟨x,H1,I1,r1,q1⟩=>⟨σ,H1,I1,q1⟩) I.quiet hs
def abH (te:TE):TS:=λD σ H=>te σ H D.rt
def vV (he:PE X e te):PS X (.Return (am e) pos) (abH te):=by
 intro Z s σ H D I h;exact wpAny_Return_some (bR (he Z s σ H _ I h) λv s1 ⟨x,H1,I1,r1,q1⟩=>⟨x,σ,H1,I1,r1,q1⟩)
def abL (c:TT) (t u:TS):TS:=λD σ H=>c σ H λb H1=>if b=true then t D σ H1 else u D σ H1
def Mo {c:gt}{a b:List ul} (hc:PT X c tc) (ha:qN X a t) (hb:qN X b u):PS X (.If c a b pos) (abL tc t u):=by
 intro Z s σ H D I h;refine wpAny_If (bR (hc Z s σ H _ I h) λd s1 ⟨H1,I1,q1⟩=>?_);cases d with
 | true=>exact ha Z s1 σ H1 D I1 q1
 | false=>exact hb Z s1 σ H1 D I1 q1
def T9:TS:=λ_ _ _=>False
end
abbrev TG:=V->St->Hp->(St->Hp->Prop)->Prop
abbrev Wu:=List V->St->Hp->(St->Hp->Prop)->Prop
def PG (X:Cx) (É:gt) (t:TG):Prop:=
 ∀(Z:List (ce×Obj)) (s:ci) (σ:St) (H:Hp) (v:V) (u:bn) (Q:St->Hp->Prop),Inv X Z σ H s->RelV v u->t v σ H Q->
  db (dL X.prog X.w) X.A (Fk É X.env u) (λ_ s'=>∃σ' H',Inv X Z σ' H' s'/\Q σ' H') X.xe s
def PGs (X:Cx) (ts:List gt) (t:Wu):Prop:=
 ∀(Z:List (ce×Obj)) (s:ci) (σ:St) (H:Hp) (vs:List V) (us:List bn) (Q:St->Hp->Prop),Inv X Z σ H s->Vals vs us->t vs σ H Q->
  db (dL X.prog X.w) X.A (assignInOrder ((xz ts X.env).map (·.2)) us) (λ_ s'=>∃σ' H',Inv X Z σ' H' s'/\Q σ' H') X.xe s
abbrev OZ:=V->V->V->Hp->(Hp->Prop)->Prop
def Lg (X:Cx) (t:OZ):Prop:=
 ∀(Z:List (ce×Obj)) (s:ci) (σ:St) (H:Hp) (o i v:V) (ov iv u:bn) (Q:Hp->Prop),Inv X Z σ H s->RelV o ov->RelV i iv->RelV v u->t o i v H Q->
  db (dL X.prog X.w) X.A (setItem ov iv u) (λ_ s'=>∃H',Inv X Z σ H' s'/\Q H') X.xe s
section
def gN (i:Nat):TG:=λv σ H Q=>Q (σ.set i (am v)) H
def Qe (hN:X.N.Nodup) (hi:X.N[i]?=am x) (hx:Loc X.env.scope x) (hf:O0 X x:=by first | exact .inl rfl | exact .inr rfl | assumption):PG X (.Name x pos) (gN i):=by
 intro Z s σ H v u Q I r h;exact wpAny_assign_Name (mR I hN hi hx r (λs' I'=>⟨_,H,I',h⟩) hf)
def Zu:Wu:=λvs σ H Q=>vs=[]/\Q σ H
def NV (t:TG) (u:Wu):Wu:=λvs σ H Q=>∃v r,vs=v::r/\t v σ H λσ' H'=>u r σ' H' Q
def fj:PGs X [] Zu:=by
 intro Z s σ H vs us Q I r h;obtain⟨e,h⟩:=h;subst e;cases r;exact assignInOrder_nil ⟨σ,H,I,h⟩
def ba {t:TG}{u:Wu} (h1:PG X e t) (h2:PGs X es u)
  (hs:(xz (e::es) X.env).map (·.2)=Fk e X.env::(xz es X.env).map (·.2):=by rfl):PGs X (e::es) (NV t u):=by
 intro Z s σ H vs us Q I r h;obtain⟨v,vr,e1,h⟩:=h;subst e1;cases r with
 | cons r rr=>
  rw [hs];refine assignInOrder_cons (bR (h1 Z s σ H _ _ _ I r h) λ_ s1 ⟨σ1,H1,I1,q1⟩=>?_);exact h2 Z s1 σ1 H1 _ _ Q I1 rr q1
def Zs (K:Ab) (n:Nat) (t:Wu):TG:=λv σ H Q=>∃a xs,v=.ref a/\dG K H a xs/\xs.length=n/\t xs σ H Q
def i6 {t:Wu} (hc:X.calm=true) (h:PGs X es t)
  (hn:(xz es X.env).length=n:=by rfl) (pj:(xz es X.env).findIdx? (·.1)=bm:=by rfl):PG X (.Tuple es k pos) (Zs X.K n t):=by
 intro Z s σ H v u Q I r hw;obtain⟨a,xs,e1,hq,hl,hw⟩:=hw;subst e1;cases r;obtain⟨ak,rv,ht,hz⟩:=I.tuple hq;refine assign_Tuple_tuple (I.ok.hd hc) ht (by simp [hn,<- hl,rv.length]) pj λh' hx=>?_;have I1:Inv X Z σ H {s with heap:=h'}:=I.kept (t':=s.toks) λb o e=>hx b o (AB (Ao e)) e;exact h Z _ σ H xs _ Q I1 (by simpa using rv) hw
def adp (to ti:TE) (t:OZ):TG:=λv σ H Q=>to σ H λo H1=>ti σ H1 λi H2=>t o i v H2 λH3=>Q σ H3
def UH {o i:gt}{to ti:TE}{t:OZ} (ho:PE X o to) (hi:PE X i ti) (hs:Lg X t)
  (ha:∀v,Fk (.Subscript o i pos) X.env v=(do
   let ov <- Da [v] (ii o X.env)
   let iv <- Da [v,ov] (ii i X.env)
   standAt pos
   Da [v,ov,iv] (setItem ov iv v)
   release [v,ov,iv] []):=by intro _;rfl):PG X (.Subscript o i pos) (adp to ti t):=by
 intro Z s σ H v u Q I r h;refine Aa (Bb (bR (ho Z s σ H _ I h) λov s1 ⟨x,H1,I1,r1,q1⟩=>?_));refine Aa (Bb (bR (hi Z s1 σ H1 _ I1 q1) λiv s2 ⟨y,H2,I2,r2,q2⟩=>?_));refine Aa (Eb (Aa (Bb (bR (hs Z s2 σ H2 x y v ov iv u _ I2 r1 r2 r q2) λ_ s3 ⟨H3,I3,q3⟩=>?_))));exact wpAny_release ⟨σ,H3,I3,q3⟩
def Ua (te:TE) (g:TG):TS:=λD σ H=>te σ H λx H1=>g x σ H1 D.nx
def Mp {g:TG} (he:PE X e te) (hg:PG X tg g) (hs:EQ [tg] e pos.line X.env=pure false:=by rfl) (hw:Fa [tg] e X.env=pure bm:=by rfl)
  (h1:(xz [tg] X.env).map (·.2)=[Fk tg X.env]:=by rfl):PS X (.Assign [tg] e pos) (Ua te g):=by
 intro Z s σ H D I h;refine wpAny_Assign_stores (bR (he Z s σ H _ I h) λv s1 ⟨x,H1,I1,r1,q1⟩=>?_) hs hw;rw [h1];exact bR (hg Z s1 σ H1 x v _ I1 r1 q1) λ_ s2 q=>q
def vU (hN:X.N.Nodup) (hi:X.N[i]?=am x) (hx:Loc X.env.scope x) (he:PE X e te) (hs:mo e (am (.Name x â)) pos.line X.env=pure false:=by rfl) (hf:O0 X x:=by first | exact .inl rfl | exact .inr rfl | assumption) :
  PS X (.Assign [.Name x â] e pos) (Ua te (gN i)):=by
 intro Z s σ H D I h;refine wpAny_Assign_Name (bR (he Z s σ H _ I h) λv s1 ⟨y,H1,I1,r1,q1⟩=>?_) hs;exact mR I1 hN hi hx r1 (λs2 I2=>⟨_,H1,I2,q1⟩) hf
def abI (i j:Nat) (ta:TA):TS:=λD σ H=>ta σ H λvs H1=>∃v w,vs=[v,w]/\D.nx ((σ.set i (am v)).set j (am w)) H1
def UD {y:Str}{b:gt}{ta:TA}{kt k2 UC} (hc:X.calm=true) (hN:X.N.Nodup) (hi:X.N[i]?=am x) (hj:X.N[j]?=am y) (Zc:i≠j)
  (hx:X.env.scope.names.lookup x=am .local) (hy:X.env.scope.names.lookup y=am .local) (ha:PA X [a,b] ta)
  (hw:Fa [.Tuple [.Name x px,.Name y py] kt pt] (.Tuple [a,b] k2 UC) X.env=pure (am [x,y]))
  (hs:EQ [.Tuple [.Name x px,.Name y py] kt pt] (.Tuple [a,b] k2 UC) pos.line X.env=pure false:=by rfl) :
  PS X (.Assign [.Tuple [.Name x px,.Name y py] kt pt] (.Tuple [a,b] k2 UC) pos) (abI i j ta):=by
 intro Z s σ H D I h;refine Aa (Eb ?_);refine Aa (Ae ?_);rw [if_neg ⋯];refine Aa (Tuple_ (bR (ha _ Z s σ H _ I h) λus s1 ⟨vs,H1,I1,r1,q1⟩=>?_));obtain⟨v,w,e1,q1⟩:=q1;subst e1;obtain⟨u1,u2,rfl,rv,vP⟩:∃u1 u2,us=[u1,u2]/\RelV v u1/\RelV w u2:=by
  cases r1 with
  | cons p q=>
   cases q with
   | cons p' q'=>
    cases q';exact⟨_,_,rfl,p,p'⟩
 refine AJ ?_ (by show 2<=sizeLine;decide);have I2:Inv X Z σ H1 {s1 with heap:=s1.heap.push {cls:=.type "tuple",data:=.seq [u1,u2].toArray}}:=I1.kept (t':=s1.toks) λb o e=>Ag _ e;rw [hw];refine Aa (Ae ?_);refine Aa (CG (Aa (unpackItems_tuple (items:=#[u1,u2]) (I.ok.hd hc) (E4 s1.heap _) λh' uX=>?_)));have I3:=I2.kept (h':=h') (t':=s1.toks) λb o e=>uX b o (AB (Ao e)) e;show db _ _ (assignInOrder [λv=>bindName X.env y v,λv=>bindName X.env x v] [u2,u1] >>= λ_=>pure Flow.next) _ _ _;refine Aa (assignInOrder_cons (wpAny_bindName (mR I3 hN hj (.inl hy) vP (λs2 I4=>?_) (.inr hy))));refine assignInOrder_cons (wpAny_bindName (mR I4 hN hi (.inl hx) rv (λs3 I5=>assignInOrder_nil (Ae ?_)) (.inr hx)));rw [List.set_comm _ _ (BE Zc)] at I5;exact⟨_,H1,I5,q1⟩
end
section
def T8 (c:TT) (tb:TS):TS:=λD σ H=>∃W:Nat->St->Hp->Prop,(∃m,W m σ H)/\∀m σ H,W m σ H->
 c σ H λb H1=>if b=true then ∃N:St->Hp->Prop,(∀σ' H',N σ' H'->∃m',m' < m/\W m' σ' H')/\tb {D with nx:=N,ct:=N,bk:=D.nx} σ H1 else D.nx σ H1
def Mm {c:gt}{tb:TS} (hp:ww (dL X.prog X.w) X.A X.env X.xe) (hc:PT X c tc) (hb:qN X body tb):PS X (.While c body [] pos) (T8 tc tb):=by
 intro Z s σ H D I h;obtain⟨W,⟨m0,w0⟩,turn⟩:=h;refine wpAny_While (codeAny_whileLoop (λn s'=>∃σ' H',Inv X Z σ' H' s'/\W n σ' H') ?_ m0 ⟨σ,H,I,w0⟩);rintro n s1 ⟨σ1,H1,I1,w1⟩;refine Ce hp (bR (hc Z s1 σ1 H1 _ I1 (turn n σ1 H1 w1)) λb s2 ⟨H2,I2,q2⟩=>?_);cases b with
 | true=>
  obtain⟨N,hN,q2⟩:=q2;refine Ce hp (bR (hb Z s2 σ1 H2 _ I2 q2) λf s3 q3=>?_);cases f with
  | next=>
   obtain⟨σ3,H3,I3,n3⟩:=q3;obtain⟨m',hm,w3⟩:=hN σ3 H3 n3;exact⟨m',hm,σ3,H3,I3,w3⟩
  | cont=>
   obtain⟨σ3,H3,I3,n3⟩:=q3;obtain⟨m',hm,w3⟩:=hN σ3 H3 n3;exact⟨m',hm,σ3,H3,I3,w3⟩
  | brk=>exact q3
  | ret v=>exact q3
 | false=>
  exact Dy ⟨σ1,H2,I2,q2⟩
end
structure It where
 go:Nat->Hp->Prop
 Sm:Nat->Hp->V->Hp->Prop
 stop:Nat->Hp->Prop
def ux (X:Cx) (Z:List (ce×Obj)) (H:Hp) (b:ce):Prop:=
 H b=bm/\b≠X.env.locals/\b∉X.fs/\(b∈X.ex\/X.s₀.heap.objs.size<=b)/\(∀x c,X.env.cells.lookup x=am c->c≠b)/\∀p∈X.pn++Z,p.1≠b
def Inv.xj (I:Inv X Z σ H s) (hb:s.heap.objs.size<=b) (hn:H' b=bm):ux X Z H' b:=by
 refine⟨hn,Nat.ne_of_gt (AA I.lt hb),I.ab7 hb,.inr (Bw I.sz hb),λx c e z=>?_,λp hp z=>?_⟩
 ·obtain⟨v,q⟩:=I.cell x c e;exact absurd (AA q.lt (by rw [z];exact hb)) (AX _)
 ·exact absurd (AA (Ao (I.pin p hp).1) (by rw [z];exact hb)) (AX _)
structure Turn (P:sK) (w:ut) (K:Ab) (tg:gt) (J:It) (fp:List ce) (it:ce) (tn:Nat->kw->Prop):Prop where
 mem:it∈fp
 obj:∀i h,tn i h->∀b∈fp,∃o,h.get? b=am o/\∀v,o.data≠.cell v
 keep:∀i h h',tn i h->(∀b∈fp,∀o,h.get? b=am o->h'.get? b=am o)->tn i h'
 item:∀(X:Cx),X.prog=P->X.w=w->X.K=K->X.calm=true->∀(i:Nat) (Z:List (ce×Obj)) (s:ci) (σ:St) (H:Hp) (E:bn->ci->Prop),Inv X Z σ H s->(∀b∈fp,ux X Z H b)->tn i s.heap->J.go i H->
  db (dL P w) X.A (pyNext (.ref it)) (λr s1=>∃u,r=am u/\
   db (dL P w) X.A (Gc tg (.ref it) u) (λ_ s2=>∃x H',Inv X Z σ H' s2/\RelV x u/\J.Sm i H x H'/\tn (i+1) s2.heap/\∀b∈fp,H' b=bm) E s1) E s
 done:∀(X:Cx),X.prog=P->X.w=w->X.K=K->X.calm=true->∀(i:Nat) (Z:List (ce×Obj)) (s:ci) (σ:St) (H:Hp) (E:bn->ci->Prop),Inv X Z σ H s->(∀b∈fp,ux X Z H b)->tn i s.heap->J.stop i H->
  db (dL P w) X.A (pyNext (.ref it)) (λr s1=>r=bm/\Inv X Z σ H s1) E s
 self:∀(A:nn) (i:Nat) (s:ci) (Q:bn->ci->Prop) (E:bn->ci->Prop),tn i s.heap->Q (.ref it) s->db (dL P w) A (pyIter (.ref it)) Q E s
abbrev TI:=St->Hp->(It->Hp->Prop)->Prop
def PIE (X:Cx) (Z:List (ce×Obj)) (σ:St) (tg:gt) (R:It->Hp->Prop) (ï:bn) (s2:ci):Prop:=
 ∃(it:ce) (fp:List ce) (tn:Nat->kw->Prop) (J:It) (H':Hp),ï=.ref it/\Inv X Z σ H' s2/\Turn X.prog X.w X.K tg J fp it tn/\tn 0 s2.heap/\(∀b∈fp,ux X Z H' b)/\R J H'
def PI (X:Cx) (tg iter:gt) (wi:TI):Prop:=
 ∀(Z:List (ce×Obj)) (s:ci) (σ:St) (H:Hp) (R:It->Hp->Prop),Inv X Z σ H s->wi σ H R->
  db (dL X.prog X.w) X.A (ii iter X.env) (λv s1=>db (dL X.prog X.w) X.A (pyIter v) (PIE X Z σ tg R) X.xe s1) X.xe s
def zH {n:String}{vs:Array bn}{Q:Unit->ci->Prop} (ho:s.heap.get? it=am o) (hc:o.cls=.type n) (hd:o.data=.fields vs)
  (hn:["enumerate","zip","dict_itemiterator","dict_reverseitemiterator","odict_iterator","itertools.zip_longest","itertools.pairwise"].contains n=false) (hQ:Q () s):db M A (Gc tg (.ref it) u) Q E s:=by
 unfold Gc;cases tg <;> first
  | exact Ae hQ
  | (cases u <;> first
    | exact Ae hQ
    | (
      refine Aa (wpAny_load ho ?_);rw [hc,hd];show db M A (if (["enumerate","zip","dict_itemiterator","dict_reverseitemiterator","odict_iterator","itertools.zip_longest","itertools.pairwise"].contains n&&vs[0]?==am (u8 _))=true then _ else _) Q E s;rw [if_neg (by intro h;rw [hn,E1] at h;cases h)];exact Ae hQ))
def Itl (K:Ab) (a:ce):It:=
 ⟨λi H=>∃xs x,dP K H a xs/\xs[i]?=am x,λi H x H'=>H'=H/\∀xs,dP K H a xs->xs[i]?=am x,λi H=>∃xs,dP K H a xs/\xs.length<=i⟩
def Itt (K:Ab) (a:ce):It:=
 ⟨λi H=>∃xs x,dG K H a xs/\xs[i]?=am x,λi H x H'=>H'=H/\∀xs,dG K H a xs->xs[i]?=am x,λi H=>∃xs,dG K H a xs/\xs.length<=i⟩
def Itr (lo:Int) (n:Nat):It:=⟨λi _=>i < n,λi H x H'=>H'=H/\x=.int (lo+i),λi _=>n<=i⟩
theorem uy {K:Ab} (a it:ce):Turn P w K tg (Itl K a) [it] it (λi h=>h.IsListIter it a i) where
 mem:=by simp
 obj:=λi h st b hb=>by
  have e:b=it:=by simpa using hb
  subst e;obtain⟨o,e,c,d⟩:=st;exact⟨o,e,λv z=>by rw [d] at z;cases z⟩
 keep:=λi h h' st k=>st.at λo e=>k it (by simp) o e
 item:=by
  intro X hP hw hK hc i Z s σ H E I hf st hg;subst hP hw hK;obtain⟨xs,x,hq,hx⟩:=hg;obtain⟨ak,rv,p,hz⟩:=I.list hq;obtain⟨u,hu,ru⟩:=rv.get hx;obtain⟨f0,f1,f2,f3,f4,f5⟩:=hf it (by simp);refine wpAny_pyNext_list_item st p.isList (x:=u) (by simpa using hu) λh' qo sb=>?_;have I1:Inv X Z σ H {s with heap:=h'}:=I.turned (t':=s.toks) (λb o hb e=>(sb.2 b hb).trans e) f0 f1 f3 f4 f5;obtain⟨o,e,c,d⟩:=id qo;exact⟨u,rfl,zH (s:={s with heap:=h'}) e c d ⋯ ⟨x,H,I1,ru,⟨rfl,λys hy=>by rw [I.zp hy hq];exact hx⟩,qo,λb hb=>(hf b hb).1⟩⟩
 done:=by
  intro X hP hw hK hc i Z s σ H E I hf st hg;subst hP hw hK;obtain⟨xs,hq,hx⟩:=hg;obtain⟨ak,rv,p,hz⟩:=I.list hq;obtain⟨f0,f1,f2,f3,f4,f5⟩:=hf it (by simp);have hl:=rv.length;exact wpAny_pyNext_list_end (I.ok.hd hc) st p.isList (by simp;omega) λh' eb=>⟨rfl,I.turned (t':=s.toks) (λb o hb e=>eb b o hb e) f0 f1 f3 f4 f5⟩
 self:=λ_ _ _ _ _ st h=>wpAny_pyIter_listiter st h
theorem F4 {K:Ab} (a it:ce):Turn P w K tg (Itt K a) [it] it (λi h=>h.IsTupleIter it a i) where
 mem:=by simp
 obj:=λi h st b hb=>by
  have e:b=it:=by simpa using hb
  subst e;obtain⟨o,e,c,d⟩:=st;exact⟨o,e,λv z=>by rw [d] at z;cases z⟩
 keep:=λi h h' st k=>st.at λo e=>k it (by simp) o e
 item:=by
  intro X hP hw hK hc i Z s σ H E I hf st hg;subst hP hw hK;obtain⟨xs,x,hq,hx⟩:=hg;obtain⟨ak,rv,p,hz⟩:=I.tuple hq;obtain⟨u,hu,ru⟩:=rv.get hx;obtain⟨f0,f1,f2,f3,f4,f5⟩:=hf it (by simp);refine wpAny_pyNext_tuple_item st (show s.heap.IsTuple a ak.toArray from p) (x:=u) (by simpa using hu) λh' qo sb=>?_;have I1:Inv X Z σ H {s with heap:=h'}:=I.turned (t':=s.toks) (λb o hb e=>(sb.2 b hb).trans e) f0 f1 f3 f4 f5;obtain⟨o,e,c,d⟩:=id qo;exact⟨u,rfl,zH (s:={s with heap:=h'}) e c d ⋯ ⟨x,H,I1,ru,⟨rfl,λys hy=>by rw [I.kI hy hq];exact hx⟩,qo,λb hb=>(hf b hb).1⟩⟩
 done:=by
  intro X hP hw hK hc i Z s σ H E I hf st hg;subst hP hw hK;obtain⟨xs,hq,hx⟩:=hg;obtain⟨ak,rv,p,hz⟩:=I.tuple hq;obtain⟨f0,f1,f2,f3,f4,f5⟩:=hf it (by simp);have hl:=rv.length;exact wpAny_pyNext_tuple_end (I.ok.hd hc) st (show s.heap.IsTuple a ak.toArray from p) (by simp;omega) λh' eb=>⟨rfl,I.turned (t':=s.toks) (λb o hb e=>eb b o hb e) f0 f1 f3 f4 f5⟩
 self:=λ_ _ _ _ _ st h=>wpAny_pyIter_tupleiter st h
theorem F5 {K:Ab} (it:ce) (lo:Int) (n:Nat):Turn P w K tg (Itr lo n) [it] it (λi h=>IsRangeIter h it (lo+(i:Nat)*1) ((n:Int)-(i:Nat)) 1) where
 mem:=by simp
 obj:=λi h st b hb=>by
  have e:b=it:=by simpa using hb
  subst e;exact⟨_,st,λv z=>by
   have z':=z;cases z'⟩
 keep:=λi h h' st k=>k it (by simp) _ st
 item:=by
  intro X hP hw hK hc i Z s σ H E I hf st hg;subst hP hw hK;obtain⟨f0,f1,f2,f3,f4,f5⟩:=hf it (by simp);have W:=Walks.range (prog:=X.prog) (w:=X.w) (I.ok.hd hc) it lo 1 n;refine W.item i s _ _ hg st λv h' tk hv qo kk=>?_;obtain⟨t,rfl⟩:=hv;have I1:Inv X Z σ H {s with heap:=h',toks:=tk}:=I.turned (λb o hb e=>kk b o (by simpa using hb) e) f0 f1 f3 f4 f5;refine⟨_,rfl,zH (s:={s with heap:=h',toks:=tk}) (n:="range_iterator") qo rfl rfl ⋯ ⟨.int (lo+i),H,I1,⟨t,?_⟩,⟨rfl,rfl⟩,qo,λb hb=>(hf b hb).1⟩⟩;rw [Int.mul_one]
 done:=by
  intro X hP hw hK hc i Z s σ H E I hf st hg;obtain⟨f0,f1,f2,f3,f4,f5⟩:=hf it (by simp);exact wpAny_pyNext_range_end (I.ok.hd hc) st (by have:n<=i:=hg;omega) λh' eb=>⟨rfl,I.turned (t':=s.toks) (λb o hb e=>eb b o hb e) f0 f1 f3 f4 f5⟩
 self:=λ_ _ _ _ _ st h=>wpAny_pyIter_rangeiter st h
end L2
variable {tl:L2.TE}{p:B9}{fp:List BG}{iter:B7}
namespace L2
open PySem PySem.Spec PyProof.Rows
section
def S3 (K:Ab) (tl:TE):TI:=λσ H R=>tl σ H λx H1=>∃a,x=.ref a/\(∃xs,dP K H1 a xs)/\R (Itl K a) H1
def Qd {l:gt} (hl:PE X l tl):PI X tg l (S3 X.K tl):=by
 intro Z s σ H R I h;refine bR (hl Z s σ H _ I h) λv s1 ⟨x,H1,I1,r1,q1⟩=>?_;obtain⟨a,e,⟨xs,hq⟩,q⟩:=q1;subst e;cases r1;obtain⟨ak,rv,p,hz⟩:=I1.list hq;refine CZ p.isList ?_;refine⟨s1.heap.objs.size,[s1.heap.objs.size],_,_,H1,rfl,I1.kept (t':=s1.toks) λb o e=>Ag _ e,uy a _,⟨_,Ap _ rfl,rfl,rfl⟩,λb hb=>?_,q⟩;have e:b=s1.heap.objs.size:=by simpa using hb
 subst e;exact I1.xj (An _) (I1.bu.fresh (An _))
theorem Mb {R:It->Hp->Prop}{lo hi:Int}{t u v:Tok}{tk:Nat} (I:Inv X Z σ H s) (h1:-(2 ^ 62)<=lo) (h2:lo < 2 ^ 62) (h3:-(2 ^ 62)<=hi) (h4:hi < 2 ^ 62)
  (q:R (Itr lo (hi-lo).toNat) H):db (dL X.prog X.w) X.A (pyIter (.ref s.heap.objs.size)) (PIE X Z σ tg R) E {s with heap:=s.heap.push {cls:=.type "range",data:=.fields #[.int lo t,.int hi u,.int 1 v]},toks:=tk}:=by
 refine wpAny_pyIter_range (IsRange.new ..) (small_one h1 h2 h3 h4) ?_;have I1:Inv X Z σ H {s with heap:=s.heap.push {cls:=.type "range",data:=.fields #[.int lo t,.int hi u,.int 1 v]},toks:=tk}:=I.kept λb o e=>Ag _ e;refine⟨(s.heap.push {cls:=.type "range",data:=.fields #[.int lo t,.int hi u,.int 1 v]}).objs.size,[(s.heap.push {cls:=.type "range",data:=.fields #[.int lo t,.int hi u,.int 1 v]}).objs.size],_,_,H,rfl,
  I1.kept (t':=tk) λb o e=>Ag _ e,F5 _ lo (hi-lo).toNat,?_,λb hb=>?_,q⟩
 ·have e1:lo+((0:Nat):Int)*1=lo:=by simp
  have e2:(((hi-lo).toNat:Nat):Int)-((0:Nat):Int)=Builtin.Range.rangeSize lo hi 1:=by rw [rangeSize_one];split <;> omega
  show IsRangeIter _ _ (lo+((0:Nat):Int)*1) ((((hi-lo).toNat:Nat):Int)-((0:Nat):Int)) 1;rw [e1,e2];exact Ap _ rfl
 ·have e:b=(s.heap.push {cls:=.type "range",data:=.fields #[.int lo t,.int hi u,.int 1 v]}).objs.size:=by simpa using hb
  subst e;exact I1.xj (An _) (I1.bu.fresh (An _))
def YU (ta:TA):TI:=λσ H R=>ta σ H λvs H1=>∃j:Int,vs=[.int j]/\-(2 ^ 62)<=j/\j < 2 ^ 62/\R (Itr 0 j.toNat) H1
theorem Ka {ta:TA} (hg:Gl X "range") (hm:X.mg "range"=bm) (ha:PA X [a] ta) (hs:f8 [a] X.env=[(false,ii a X.env)]:=by rfl):PI X tg (.Call (.Name "range" p) [a] [] pos) (YU ta):=by
 intro Z s σ H R I h;refine Call_ (gX I hg hm boot_range (Be (bR (ha pos Z s σ H _ I h) λus s1 ⟨vs,H1,I1,r1,q1⟩=>?_) hs rfl));obtain⟨j,e,q1,q2,q⟩:=q1;subst e;cases r1 with
 | cons r rr=>
  cases rr;obtain⟨t,rfl⟩:=r;exact call_range_1 (Mb I1 ∅ ∅ q1 q2 (by simpa using q))
def abM (wi:TI) (g:TG) (tb:TS):TS:=λD σ H=>wi σ H λJ H1=>∃W:Nat->Nat->St->Hp->Prop,(∃m,W 0 m σ H1)/\∀i m σ H,W i m σ H->
 (J.stop i H/\D.nx σ H)\/(J.go i H/\∃N:St->Hp->Prop,(∀σ' H',N σ' H'->∃m',m' < m/\W (i+1) m' σ' H')/\∀x H',J.Sm i H x H'->g x σ H' λσ2 H2=>tb {D with nx:=N,ct:=N,bk:=D.nx} σ2 H2)
def oU (fp:List ce) (h:kw):List (ce×Obj):=fp.filterMap λb=>(h.get? b).map λo=>(b,o)
def jc (hb:b∈fp) (e:h.get? b=am o):(b,o)∈oU fp h:=DZ.mpr ⟨b,hb,by rw [e];rfl⟩
def Kb {p:ce×Obj} (hp:p∈oU fp h):p.1∈fp/\h.get? p.1=am p.2:=by
 obtain⟨b,hb,e⟩:=DZ.mp hp;cases q:h.get? b with
 | none=>rw [q] at e;cases e
 | some o=>
  rw [q] at e;have e':=Option.some.inj e;subst e';exact⟨hb,q⟩
def Inv.pinned (I:Inv X Z σ H s) (hf:∀b∈fp,ux X Z H b) (ho:∀b∈fp,∃o,s.heap.get? b=am o/\∀v,o.data≠.cell v):Inv X (Z++oU fp s.heap) σ H s:=
 I.ID λp hp=>(Bm.mp hp).elim (λz=>I.pin p (Ay _ z)) λz=>by
  obtain⟨hb,e⟩:=Kb z;obtain⟨f0,f1,f2,_⟩:=hf p.1 hb;obtain⟨o,e',d⟩:=ho p.1 hb;rw [e] at e';cases e';exact⟨e,f0,f1,f2,d⟩
def Inv.jY {pl:List (ce×Obj)} (I:Inv X (Z++pl) σ H s):Inv X Z σ H s:=I.ID λp hp=>I.pin p (Ay _ (A9 _ hp))
def Gj {wi:TI}{g:TG}{tb:TS} (hp:ww (dL X.prog X.w) X.A X.env X.xe) (hc:X.calm=true) (hi:PI X tg iter wi) (hg:PG X tg g) (hb:qN X body tb)
  (hs:yr X iter:=by intro _;rfl):PS X (.For tg iter body [] pos) (abM wi g tb):=by
 intro Z s σ H D I h;refine wpAny_For (bR (hi Z s σ H _ I h) λv s1 h1=>bR h1 λï s2 h2=>?_) hs;obtain⟨it,fp,tn,J,H2,e,I2,T,JW,f2,W,⟨m0,w0⟩,turn⟩:=h2;subst e;have Ue:∀{H':Hp},(∀b∈fp,H' b=bm)->∀b∈fp,ux X Z H' b:=λhn b hb=>⟨hn b hb,(f2 b hb).2⟩;refine codeAny_forLoop_any (λn s'=>∃i σ' H',Inv X Z σ' H' s'/\tn i s'.heap/\(∀b∈fp,H' b=bm)/\W i n σ' H') ?_ m0 ⟨0,σ,H2,I2,JW,λb hb=>(f2 b hb).1,w0⟩;rintro n s3 ⟨i,σ3,H3,I3,XR,Zx,w3⟩;rcases turn i n σ3 H3 w3 with⟨stop,qn⟩ | ⟨go,N,hN,step⟩
 ·refine Ce hp (bR (T.done X rfl rfl rfl hc i Z s3 σ3 H3 X.xe I3 (Ue Zx) XR stop) λr s4 ⟨hr,I4⟩=>?_);subst hr;exact Dy ⟨σ3,H3,I4,qn⟩
 ·refine Ce hp (bR (T.item X rfl rfl rfl hc i Z s3 σ3 H3 X.xe I3 (Ue Zx) XR go) λr s4 ⟨u,hr,h4⟩=>?_);subst hr;refine Ce hp (bR h4 λ_ s5 ⟨x,H5,I5,r5,y5,Ug,ģ⟩=>?_);have Ħ:=I5.pinned (Ue ģ) (T.obj _ _ Ug);refine Ce hp (bR (hg _ s5 σ3 H5 x u _ Ħ r5 (step x H5 y5)) λ_ s6 ⟨σ6,H6,I6,q6⟩=>?_);refine Ce hp (bR (hb _ s6 σ6 H6 _ I6 q6) λf s7 q7=>?_);have again:∀{σ7:St}{H7:Hp},Inv X (Z++oU fp s5.heap) σ7 H7 s7->N σ7 H7->∃m,m < n/\∃i σ' H',Inv X Z σ' H' s7/\tn i s7.heap/\(∀b∈fp,H' b=bm)/\W i m σ' H':=λ{σ7 H7} I7 n7=>by
   obtain⟨m',hm,w7⟩:=hN σ7 H7 n7;refine⟨m',hm,i+1,σ7,H7,I7.jY,T.keep _ _ _ Ug λb hb o e=>(I7.pin (b,o) (Ay _ (Ay _ (jc hb e)))).1,λb hb=>?_,w7⟩;obtain⟨o,e,d⟩:=T.obj _ _ Ug b hb;exact (I7.pin (b,o) (Ay _ (Ay _ (jc hb e)))).2.1
  cases f with
  | next=>obtain⟨σ7,H7,I7,n7⟩:=q7;exact again I7 n7
  | cont=>obtain⟨σ7,H7,I7,n7⟩:=q7;exact again I7 n7
  | brk=>obtain⟨σ7,H7,I7,q7⟩:=q7;exact⟨σ7,H7,I7.jY,q7⟩
  | ret v=>obtain⟨x7,σ7,H7,I7,r7,q7⟩:=q7;exact⟨x7,σ7,H7,I7.jY,r7,q7⟩
end
end L2
variable {i:Int}{tc:L2.TE}{g:Int->Int->Int}{ak:List A4}
namespace L2
open PySem PySem.Spec PyProof.Rows
abbrev R2:=V->V->Hp->VK->Prop
def jG (X:Cx) (f:bn->bn->Sem bn) (r:R2):Prop:=
 ∀(Z:List (ce×Obj)) (s:ci) (σ:St) (H:Hp) (x y:V) (v u:bn) (Q:VK),Inv X Z σ H s->RelV x v->RelV y u->r x y H Q->
  db (dL X.prog X.w) X.A (f v u) (EP X Z σ Q) X.xe s
def UnR (X:Cx) (f:bn->Sem bn) (r:V->Hp->VK->Prop):Prop:=
 ∀(Z:List (ce×Obj)) (s:ci) (σ:St) (H:Hp) (x:V) (v:bn) (Q:VK),Inv X Z σ H s->RelV x v->r x H Q->
  db (dL X.prog X.w) X.A (f v) (EP X Z σ Q) X.xe s
def bN (X:Cx) (f:bn) (r:List V->Hp->VK->Prop):Prop:=
 ∀(Z:List (ce×Obj)) (s:ci) (σ:St) (H:Hp) (xs:List V) (us:List bn) (Q:VK),Inv X Z σ H s->Vals xs us->r xs H Q->
  db (dL X.prog X.w) X.A (call f us) (EP X Z σ Q) X.xe s
def adO (X:Cx) (r:V->Hp->(Bool->Hp->Prop)->Prop):Prop:=
 ∀(Z:List (ce×Obj)) (s:ci) (σ:St) (H:Hp) (x:V) (v:bn) (Q:Bool->Hp->Prop),Inv X Z σ H s->RelV x v->r x H Q->
  db (dL X.prog X.w) X.A (truthy v) (TP X Z σ Q) X.xe s
def WB (r:R2) (ta tb:TE):TE:=λσ H Q=>ta σ H λx H1=>tb σ H1 λy H2=>r x y H2 Q
def tUn (r:V->Hp->VK->Prop) (ta:TE):TE:=λσ H Q=>ta σ H λx H1=>r x H1 Q
def rI (C:Int->Int->Prop) (g:Int->Int->V):R2:=λx y H Q=>∃i j,x=.int i/\y=.int j/\C i j/\Q (g i j) H
def P4 (g:Int->Int->V):R2:=λx y H Q=>∃i j,x=.int i/\y=.int j/\Q (g i j) H
def rU (g:Int->V):V->Hp->VK->Prop:=λx H Q=>∃i,x=.int i/\Q (g i) H
section
variable {b:gt}
def Wj (ha:PE X a ta) (hb:PE X b tb) (I:Inv X Z σ H s)
  (h:ta σ H λx H1=>tb σ H1 λy H2=>R x y H2) {f:bn->bn->Sem bn}
  (hf:∀v u s2 x y H2,Inv X Z σ H2 s2->RelV x v->RelV y u->R x y H2->db (dL X.prog X.w) X.A (f v u) Q X.xe s2) :
  db (dL X.prog X.w) X.A (ii a X.env) (λv s₁=>db (dL X.prog X.w) X.A (ii b X.env) (λu s₂=>db (dL X.prog X.w) X.A (f v u) Q X.xe s₂) X.xe s₁) X.xe s:=by
 refine bR (ha Z s σ H _ I h) λv s1 ⟨x,H1,I1,r1,q1⟩=>?_;refine bR (hb Z s1 σ H1 _ I1 q1) λu s2 ⟨y,H2,I2,r2,q2⟩=>?_;exact hf v u s2 x y H2 I2 r1 r2 q2
def IE {op:Operator}{r:R2} (ho:jG X (pr op) r) (ha:PE X a ta) (hb:PE X b tb):PE X (.BinOp a op b pos) (WB r ta tb):=by
 intro Z s σ H Q I h;exact wpAny_BinOp (Wj ha hb I h λv u s2 x y H2 I2 rx ry q=>ho Z s2 σ H2 x y v u Q I2 rx ry q)
def Yh {op:UnaryOp}{r:V->Hp->VK->Prop} (ho:UnR X (unaryOp op) r) (ha:PE X a ta):PE X (.UnaryOp op a pos) (tUn r ta):=by
 intro Z s σ H Q I h;exact UnaryOp_ (bR (ha Z s σ H _ I h) λv s1 ⟨x,H1,I1,r1,q1⟩=>ho Z s1 σ H1 x v Q I1 r1 q1)
def opI {f:bn->bn->Sem bn}{C:Int->Int->Prop}
  (rule:∀(i j:Int) (t u:Tok) (s:ci) (Q:bn->ci->Prop) (E:bn->ci->Prop),C i j->Q (.int (g i j) s.toks) {s with toks:=s.toks+1}->db (dL X.prog X.w) X.A (f (.int i t) (.int j u)) Q E s) :
  jG X f (rI C λi j=>.int (g i j)):=by
 intro Z s σ H x y v u Q I rx ry h;obtain⟨i,j,rfl,rfl,hc,q⟩:=h;obtain⟨t,rfl⟩:=rx;obtain⟨t',rfl⟩:=ry;exact rule i j t t' s _ _ hc ⟨.int (g i j),H,I.tok _,⟨_,rfl⟩,q⟩
def Yr {f:bn->bn->Sem bn}
  (rule:∀(i j:Int) (t u:Tok) (s:ci) (Q:bn->ci->Prop) (E:bn->ci->Prop),Q (.int (g i j) s.toks) {s with toks:=s.toks+1}->db (dL X.prog X.w) X.A (f (.int i t) (.int j u)) Q E s) :
  jG X f (P4 λi j=>.int (g i j)):=by
 intro Z s σ H x y v u Q I rx ry h;obtain⟨i,j,rfl,rfl,q⟩:=h;obtain⟨t,rfl⟩:=rx;obtain⟨t',rfl⟩:=ry;exact rule i j t t' s _ _ ⟨.int (g i j),H,I.tok _,⟨_,rfl⟩,q⟩
def QA {f:bn->bn->Sem bn}{g:Int->Int->Bool}
  (rule:∀(i j:Int) (t u:Tok) (s:ci) (Q:bn->ci->Prop) (E:bn->ci->Prop),Q (.bool (g i j)) s->db (dL X.prog X.w) X.A (f (.int i t) (.int j u)) Q E s) :
  jG X f (P4 λi j=>.bl (g i j)):=by
 intro Z s σ H x y v u Q I rx ry h;obtain⟨i,j,rfl,rfl,q⟩:=h;obtain⟨t,rfl⟩:=rx;obtain⟨t',rfl⟩:=ry;exact rule i j t t' s _ _ ⟨.bl (g i j),H,I,rfl,q⟩
def Lh (i j:Int):Prop:=0 < j/\j < 1073741824
def O2 (i j:Int):Prop:=0<=j/\j<=1000000/\i.natAbs < 2 ^ 64
def Sl (i j:Int):Prop:=(-(2 ^ 64) < i/\i < 2 ^ 64)\/(-(2 ^ 64) < j/\j < 2 ^ 64)
def Sl.ok {j:Int} (h:Sl i j):wS i j:=by
 rcases h with⟨h1,h2⟩ | ⟨h1,h2⟩
 ·exact .of_left (intBits_le_64 h1 h2)
 ·exact .of_right (intBits_le_64 h1 h2)
def UX:jG X (pr .Add) (P4 λi j=>.int (i+j)):=Yr λ_ _ _ _ _ _ _ q=>add_int q
def UO:jG X (pr .Sub) (P4 λi j=>.int (i-j)):=Yr λ_ _ _ _ _ _ _ q=>sub_int q
theorem Qv:jG X (pr .FloorDiv) (rI Lh λi j=>.int (i / j)):=opI λi j _ _ _ _ _ hc q=>by
 have h1:(0:Int) < j:=hc.1;have h2:j < 1073741824:=hc.2;exact floordiv_int ∅ (by rw [Int.fdiv_eq_ediv_of_nonneg i ∅];exact q) (.inl (PyProof.noPylong_small ∅))
theorem US:jG X (pr .Mod) (rI (λ_ j=>0 < j) λi j=>.int (i % j)):=opI λi j _ _ _ _ _ hc q=>by
 have h1:(0:Int) < j:=hc;exact mod_int' ∅ (by rw [Int.fmod_eq_emod_of_nonneg i ∅];exact q)
def UQ:jG X (pr .Pow) (rI O2 λi j=>.int (i ^ j.toNat)):=opI λ_ _ _ _ _ _ _ hc q=>pow_int_small hc.1 hc.2.1 hc.2.2 q
def unI {f:bn->Sem bn}{g:Int->Int}
  (rule:∀(i:Int) (t:Tok) (s:ci) (Q:bn->ci->Prop) (E:bn->ci->Prop),Q (.int (g i) s.toks) {s with toks:=s.toks+1}->db (dL X.prog X.w) X.A (f (.int i t)) Q E s) :
  UnR X f (rU λi=>.int (g i)):=by
 intro Z s σ H x v Q I rx h;obtain⟨i,rfl,q⟩:=h;obtain⟨t,rfl⟩:=rx;exact rule i t s _ _ ⟨.int (g i),H,I.tok _,⟨_,rfl⟩,q⟩
def T3:UnR X (unaryOp .USub) (rU λi=>.int (-i)):=unI λ_ _ _ _ _ q=>neg_int q
end
section
variable {b c:gt}
def N3 {Q:VK}{k k':Bool} (I:Inv X Z σ H s) (q:Q (.bl k) H) (e:k=k'):EP X Z σ Q (.bool k') s:=by
 subst e;exact⟨.bl k,H,I,rfl,q⟩
def Yn:jG X (o0 .Lt) (P4 λi j=>.bl (decide (i < j))):=QA λ_ _ _ _ _ _ _ q=>lt_int q
def Yo:jG X (o0 .LtE) (P4 λi j=>.bl (decide (i<=j))):=QA λ_ _ _ _ _ _ _ q=>le_int q
def Yp:jG X (o0 .Gt) (P4 λi j=>.bl (decide (j < i))):=QA λ_ _ _ _ _ _ _ q=>gt_int q
def Yq:jG X (o0 .GtE) (P4 λi j=>.bl (decide (j<=i))):=QA λ_ _ _ _ _ _ _ q=>ge_int q
def UT:jG X (o0 .Is) (λx y H Q=>y=.aD/\Q (.bl (decide (x=.aD))) H):=by
 intro Z s σ H x y v u Q I rx ry h;obtain⟨rfl,q⟩:=h;cases ry;refine is_none_gen (N3 I q ?_);cases x <;> first
  | (cases rx;rfl)
  | (obtain⟨t,rfl⟩:=rx;rfl)
def Qs:jG X (o0 .IsNot) (λx y H Q=>y=.aD/\Q (.bl (!decide (x=.aD))) H):=by
 intro Z s σ H x y v u Q I rx ry h;obtain⟨rfl,q⟩:=h;cases ry;refine isnot_none_gen (N3 I q ?_);cases x <;> first
  | (cases rx;rfl)
  | (obtain⟨t,rfl⟩:=rx;rfl)
def jG.or {f:bn->bn->Sem bn}{r r':R2} (h:jG X f r) (h':jG X f r'):jG X f (λx y H Q=>r x y H Q\/r' x y H Q):=by
 intro Z s σ H x y v u Q I rx ry q;rcases q with q | q
 ·exact h Z s σ H x y v u Q I rx ry q
 ·exact h' Z s σ H x y v u Q I rx ry q
def ka (b:gt) {op:CmpOp} (h:op≠.In:=by decide) (h2:op≠.NotIn:=by decide):t0 op b=false:=by
 have e1:(op==CmpOp.In)=false:=by cases op <;> first | rfl | exact absurd rfl h
 have e2:(op==CmpOp.NotIn)=false:=by cases op <;> first | rfl | exact absurd rfl h2
 cases b <;> simp [t0,e1,e2]
def Qm {op:CmpOp}{r:R2} (ho:jG X (o0 op) r) (ha:PE X a ta) (hb:PE X b tb) (hm:t0 op b=false):PE X (.Compare a [op] [b] pos) (WB r ta tb):=by
 intro Z s σ H Q I h;exact wpAny_Compare1 (Wj ha hb I h λv u s2 x y H2 I2 rx ry q=>ho Z s2 σ H2 x y v u Q I2 rx ry q) hm
def Xz (t:TE):TT:=λσ H Q=>t σ H λx H'=>∃k,x=.bl k/\Q k H'
def qp {op:CmpOp}{r:R2} (ho:jG X (o0 op) r) (ha:PE X a ta) (hb:PE X b tb) (hm:t0 op b=false):PT X (.Compare a [op] [b] pos) (Xz (WB r ta tb)):=by
 intro Z s σ H Q I h;refine wpAny_isTrue_Compare1 (bR (ha Z s σ H _ I h) λv s1 ⟨x,H1,I1,r1,q1⟩=>bR (hb Z s1 σ H1 _ I1 q1) λu s2 ⟨y,H2,I2,r2,q2⟩=>
  bR (ho Z s2 σ H2 x y v u _ I2 r1 r2 q2) λc s3 ⟨z,H3,I3,r3,k,e,q3⟩=>?_) hm
 subst e;cases r3;exact CY ⟨H3,I3,q3⟩
def Wt (K:Ab) (x:V) (H:Hp) (k:Bool):Prop:=
 match x with
 | .aD=>k=false
 | .bl b=>k=b
 | .int i=>k=(i != 0)
 | .str y=>y.length<=sizeLine/\k=((y.length:Int) != 0)
 | .Wi y=>y.size<=sizeLine/\k=((y.size:Int) != 0)
 | .ref p=>(∃xs,dP K H p xs/\k=!xs.isEmpty)\/(∃xs,dG K H p xs/\k=!xs.isEmpty)\/∃kvs,H p=am (.dK kvs)/\k=!kvs.isEmpty
 | _=>False
def GZ {kvs:List (κ×V)}{vs:List (κ×bn)} (r:KV kvs vs):(!vs.isEmpty)=!kvs.isEmpty:=by
 cases r <;> rfl
def rY (r:Vals xs ak):(!ak.toArray.isEmpty)=!xs.isEmpty:=by
 cases r <;> simp
def wB:(sizeLine:Nat) < 2 ^ 63:=by rw [sizeLine_eq];decide
theorem T6:adO X (λx H Q=>∃k,Wt X.K x H k/\Q k H):=by
 intro Z s σ H x v Q I rx h;obtain⟨k,e,q⟩:=h;have hs:=sizeLine_eq;cases x with
 | aD=>
  cases rx;have e':=e;subst e';exact truthy_none ⟨H,I,q⟩
 | bl b=>
  cases rx;have e':=e;subst e';exact CY ⟨H,I,q⟩
 | int i=>
  obtain⟨t,rfl⟩:=rx;have e':=e;subst e';exact PySem.P.truthy_int ⟨H,I,q⟩
 | str y=>
  obtain⟨t,rfl⟩:=rx;obtain⟨hy,e'⟩:y.length<=sizeLine/\k=((y.length:Int) != 0):=e;subst e';exact PySem.P.truthy_str ∅ ⟨H,I.tok _,q⟩
 | Wi y=>
  obtain⟨t,rfl⟩:=rx;obtain⟨hy,e'⟩:y.size<=sizeLine/\k=((y.size:Int) != 0):=e;subst e';exact PySem.W.truthy_bytes ∅ ⟨H,I.tok _,q⟩
 | ref p=>
  cases rx;have e':=e;rcases e' with⟨xs,hx,e'⟩ | ⟨xs,hx,e'⟩ | ⟨kvs,hx,e'⟩
  ·subst e';obtain⟨ak,r,pl,hz⟩:=I.list hx;have Á:=r.length;exact wpAny_truthy_list pl.isList (by simp only [Ah];omega) ⟨H,I.tok _,by rw [rY r];exact q⟩
  ·subst e';obtain⟨ak,r,pl,hz⟩:=I.tuple hx;have Á:=r.length;exact truthy_tuple pl (by simp only [Ah];omega) ⟨H,I.tok _,by rw [rY r];exact q⟩
  ·subst e';obtain⟨hz,hS,vs,r,m⟩:kvs.length<=sizeLine/\(p==Ch)=false/\∃vs,KV kvs vs/\s.heap.DictOf (cu X.prog X.w) p vs:=I.bu p _ hx;have Á:=Paired.length r;exact wpAny_truthy_dict hS m ∅ ⟨H,I.tok _,by rw [GZ r];exact q⟩
 | _=>exact (show False from e).elim
def Ml (ha:PE X a ta) (he:∀Å,isTrue a X.env Å=(do let v <- Å;standAt a.pos;Da [v] (truthy v))) :
  PT X a (λσ H Q=>ta σ H λx H'=>∃k,Wt X.K x H' k/\Q k H'):=by
 intro Z s σ H Q I h;exact isTrue_plain (bR (ha Z s σ H _ I h) λv s1 ⟨x,H1,I1,r1,q1⟩=>T6 Z s1 σ H1 x v Q I1 r1 q1) (he _)
def Gq:jG X (pr .Add) (λx y H Q=>∃i j,x=.str i/\y=.str j/\i.length+j.length<=sizeLine/\Q (.str (i++j)) H):=by
 intro Z s σ H x y v u Q I rx ry h;obtain⟨i,j,rfl,rfl,hz,q⟩:=h;obtain⟨t,rfl⟩:=rx;obtain⟨t',rfl⟩:=ry;exact add_str (λt' tk=>⟨.str (i++j),H,I.tok _,⟨_,rfl⟩,q⟩) hz
def vals1 {x:V} (r:Vals [x] us):∃u,us=[u]/\RelV x u:=by
 cases r with
 | cons r1 r2=>cases r2;exact⟨_,rfl,r1⟩
def vals2 {x:V} (r:Vals [x,y] us):∃u w',us=[u,w']/\RelV x u/\RelV y w':=by
 cases r with
 | cons r1 r2=>
  cases r2 with
  | cons r3 r4=>cases r4;exact⟨_,_,rfl,r1,r3⟩
def OJ:bN X (.builtin "abs") (λxs H Q=>∃i,xs=[.int i]/\Q (.int (if i < 0 then -i else i)) H):=by
 intro Z s σ H xs us Q I r h;obtain⟨i,rfl,q⟩:=h;obtain⟨u,rfl,t,rfl⟩:=vals1 r;exact call_abs_int λu tk=>⟨.int (if i < 0 then -i else i),H,I.tok _,⟨_,rfl⟩,q⟩
def K3 (hc:X.calm=true):bN X (.builtin "max") (λxs H Q=>∃i j,xs=[.int i,.int j]/\Q (.int (if j > i then j else i)) H):=by
 intro Z s σ H xs us Q I r h;obtain⟨i,j,rfl,q⟩:=h;obtain⟨u,w',rfl,⟨t,rfl⟩,⟨t',rfl⟩⟩:=vals2 r;refine max_two_ints (I.ok.hd hc) λh' tk k=>⟨_,H,I.kept k,?_,q⟩;by_cases hj:j > i
 ·rw [if_pos hj,if_pos hj];exact⟨_,rfl⟩
 ·rw [if_neg hj,if_neg hj];exact⟨_,rfl⟩
def K2 (hc:X.calm=true):bN X (.builtin "min") (λxs H Q=>∃i j,xs=[.int i,.int j]/\Q (.int (if j < i then j else i)) H):=by
 intro Z s σ H xs us Q I r h;obtain⟨i,j,rfl,q⟩:=h;obtain⟨u,w',rfl,⟨t,rfl⟩,⟨t',rfl⟩⟩:=vals2 r;refine min_two_ints (I.ok.hd hc) λh' tk k=>⟨_,H,I.kept k,?_,q⟩;by_cases hj:j < i
 ·rw [if_pos hj,if_pos hj];exact⟨_,rfl⟩
 ·rw [if_neg hj,if_neg hj];exact⟨_,rfl⟩
def K6:bN X (.type "int") (λxs H Q=>(∃i,xs=[.int i]/\Q (.int i) H)\/∃k,xs=[.bl k]/\Q (.int (if k then 1 else 0)) H):=by
 intro Z s σ H xs us Q I r h;rcases h with⟨i,rfl,q⟩ | ⟨k,rfl,q⟩
 ·obtain⟨u,rfl,t,rfl⟩:=vals1 r;exact call_int_int ⟨.int i,H,I,⟨_,rfl⟩,q⟩
 ·obtain⟨u,rfl,r1⟩:=vals1 r;cases r1;exact call_int_bool ⟨.int (if k then 1 else 0),H,I.tok _,⟨_,rfl⟩,q⟩
def Z5 (K:Ab) (x:V) (H:Hp) (n:Nat):Prop:=
 match x with
 | .str y=>y.length<=sizeLine/\n=y.length
 | .Wi y=>y.size<=sizeLine/\n=y.size
 | .ref p=>(∃xs,dP K H p xs/\n=xs.length)\/∃xs,dG K H p xs/\n=xs.length
 | _=>False
theorem OH:bN X (.builtin "len") (λxs H Q=>∃x n,xs=[x]/\Z5 X.K x H n/\Q (.int n) H):=by
 intro Z s σ H xs us Q I r h;obtain⟨x,n,rfl,e,q⟩:=h;obtain⟨u,rfl,rx⟩:=vals1 r;have hs:=sizeLine_eq;cases x with
 | str y=>
  obtain⟨t,rfl⟩:=rx;obtain⟨hy,e'⟩:y.length<=sizeLine/\n=y.length:=e;subst e';exact len_str ∅ ⟨.int _,H,I.tok _,⟨_,rfl⟩,q⟩
 | Wi y=>
  obtain⟨t,rfl⟩:=rx;obtain⟨hy,e'⟩:y.size<=sizeLine/\n=y.size:=e;subst e';exact PySem.W.len_bytes ∅ ⟨.int _,H,I.tok _,⟨_,rfl⟩,q⟩
 | ref p=>
  cases rx;have e':=e;rcases e' with⟨xs,hx,e'⟩ | ⟨xs,hx,e'⟩
  ·subst e';obtain⟨ak,r',pl,hz⟩:=I.list hx;have Á:=r'.length;exact Calls.call_len_list pl.isList (by simp only [Ah];omega) ⟨.int xs.length,H,I.tok _,⟨_,by simp only [Ah];rw [Á]⟩,q⟩
  ·subst e';obtain⟨ak,r',pl,hz⟩:=I.tuple hx;have Á:=r'.length;exact len_tuple pl (by simp only [Ah];omega) ⟨.int xs.length,H,I.tok _,⟨_,by simp only [Ah];rw [Á]⟩,q⟩
 | _=>exact (show False from e).elim
end
end L2
variable {a:BG}{mA:BB->Option A4}
namespace L2
open PySem PySem.Spec PyProof.Rows
structure Ww (h:kw) (x dx C:ce) (mA:Str->Option bn):Prop where
 obj:h.get? x=am (EA C dx)
 ns:h.Ns1 dx mA
 ne:dx≠x
def Kl {dx:ce} (n:h.Ns1 dx mA):∃od,h.get? dx=am od/\∀name,EO name od=am (mA name):=by
 obtain⟨o,es,ep,ho,hd,hk,_,hm⟩:=n;refine⟨o,ho,λname=>?_⟩;have e:=hm name;unfold nsFind findBy at e;rw [<- Array.find?_toList] at e;unfold EO;rw [hd];dsimp only
 split
 ·rename_i y q;rw [q] at e;exact congrArg am e
 ·rename_i q;rw [q] at e;have a:es.toList.any (·.refKey)=false:=by
   rw [List.any_eq_false];intro y hy;obtain⟨z,t,ac3⟩:=hk y (Array.mem_toList_iff.mp hy);simp [DictEntry.refKey,ac3]
  have a':¬es.toList.any (·.refKey)=true:=by rw [a];exact A5
  rw [if_neg a'];exact congrArg am e
def Ww.look {x dx C:ce} (I:Ww h x dx C mA):∃od,PySem.W.InstAt h x (EA C dx) C (am od)/\∀name,EO name od=am (mA name):=
 let ⟨od,ho,hl⟩:=Kl I.ns
 ⟨od,⟨I.obj,rfl,rfl,ho⟩,hl⟩
def yf.some_of {o:Option bn} (r:yf (am v) o):∃u,o=am u/\RelV v u:=by
 cases o with
 | none=>exact (show False from r).elim
 | some u=>exact⟨u,rfl,r⟩
section
variable {C dx:ce}{fs:List (Str×V)}
def Rg (bu:lY P w H h) (e:H a=am (.ins C dx fs)):∃mA,Ww h a dx C mA/\(∀f,yf (fs.lookup f) (mA f))/\PySem.Within mA (fs.map (·.1))/\fs.length<=1000/\H dx=am (.own a):=by
 obtain⟨d,z,ne,ob,mA,n,r,q⟩:=(show bb P w H h a (.ins C dx fs) from bu a _ e);exact⟨mA,⟨ob,n,ne⟩,r,q,z,d⟩
end
structure Cls (K:Ab) (C:ce):Prop where
 pg:Fh K C Str.empty=true
 hd:PySem.W.hasDictIn K C=true
 po:PySem.W.plainOver K C=true
 sa:PySem.W.findIn K (.ref C) "__setattr__"=am (am (.builtin "object.__setattr__"))
def Cls.get {K:Ab}{C:ce} (c:Cls K C) (f:Str):Fh K C f=true:=c.pg
section
variable {c:bn}{b:Bool}
inductive lE (K:Ab) (H:Hp):V->bn->Prop where
 | aD:lE K H .aD (.type "NoneType")
 | bl (x:Bool):lE K H (.bl x) (.type "bool")
 | int (i:Int):lE K H (.int i) (.type "int")
 | str (x:Str):lE K H (.str x) (.type "str")
 | W3 (x:UInt64):lE K H (.W3 x) (.type "float")
 | lst {a:ce}{xs:List V} (e:H a=am (.lst xs)):lE K H (.ref a) (.type "list")
 | cI {a:ce}{o:Obj}{xs:List V} (e:H a=am (.cI o (.lst xs))):lE K H (.ref a) (.type "list")
 | tup {a:ce}{xs:List V} (e:H a=am (.tup xs)):lE K H (.ref a) (.type "tuple")
 | dK {a:ce}{kvs:List (Key×V)} (e:H a=am (.dK kvs)):lE K H (.ref a) (.type "dict")
 | dT {a:ce}{kvs:List (List Key×V)} (e:H a=am (.dT kvs)):lE K H (.ref a) (.type "dict")
 | ins {a C dx:ce}{fs:List (Str×V)} (e:H a=am (.ins C dx fs)) (cl:Cls K C) (ha:PySem.W.findIn K (.ref C) "__class__"=am (am (.builtin "object.__class__")))
   (hn:PySem.W.specialIn K (.builtin "object.__class__") "__get__"=am (am (.builtin "getset_descriptor.__get__"))) (htk:PySem.W.takesIn K (.builtin "object.__class__")=am true)
   (hm:PySem.W.mroIn K C (.type "object")=am true):lE K H (.ref a) (.ref C)
def Ku {x:V}{t:bn} (I:Inv X Z σ H s) (rx:RelV x u) (ty:lE X.K H x t) (e:Br X.K t c=am b) (h:∀tk,Q (.bool b) {s with toks:=tk}) :
  db (dL X.prog X.w) A (call (.builtin "isinstance") [u,c]) Q E s:=by
 cases ty with
 | aD=>cases (show u=AO from rx);exact A7 PySem.W.kitx_none I.uT Cu e (λz=>nomatch z) h
 | bl y=>cases (show u=Fb y from rx);exact A7 PySem.W.kitx_bool I.uT Cu e (λz=>nomatch z) h
 | int i=>obtain⟨t,q⟩:=(show ∃t,u=DL i t from rx);cases q;exact A7 PySem.W.kitx_int I.uT Cu e (λz=>nomatch z) h
 | str y=>obtain⟨t,q⟩:=(show ∃t,u=Bd y t from rx);cases q;exact A7 PySem.W.kitx_str I.uT Cu e (λz=>nomatch z) h
 | W3 y=>obtain⟨t,q⟩:=(show ∃t,u=Value.float y t from rx);cases q;exact A7 PySem.W.kitx_float I.uT Cu e (λz=>nomatch z) h
 | @lst a xs ea=>
  cases (show u=Az a from rx);obtain⟨_,_,n,_,h1⟩:=(show bb X.prog X.w H s.heap a (.lst xs) from I.bu a _ ea);exact A7 D6 I.uT ⟨_,h1,rfl⟩ e (λz=>nomatch z) h
 | @cI a ob xs ea=>
  cases (show u=Az a from rx);obtain⟨_,_,_,n,_,h1⟩:=(show bb X.prog X.w H s.heap a (.cI ob (.lst xs)) from I.bu a _ ea);exact A7 D6 I.uT ⟨_,h1,rfl⟩ e (λz=>nomatch z) h
 | @tup a xs ea=>
  cases (show u=Az a from rx);obtain⟨_,_,_,p⟩:=(show bb X.prog X.w H s.heap a (.tup xs) from I.bu a _ ea);obtain⟨o,h1,h2,_⟩:=p;exact A7 E9 I.uT ⟨o,h1,h2⟩ e (λz=>nomatch z) h
 | @dK a kvs ea=>
  cases (show u=Az a from rx);obtain⟨_,_,vs,_,p⟩:=(show bb X.prog X.w H s.heap a (.dK kvs) from I.bu a _ ea);obtain⟨o,es,ep,h1,h2,_⟩:=p;exact A7 D7 I.uT ⟨o,h1,h2.1⟩ e (λz=>nomatch z) h
 | @dT a kvs ea=>
  cases (show u=Az a from rx);obtain⟨_,_,xs,_,o,es,ep,h1,h2,_⟩:=(show bb X.prog X.w H s.heap a (.dT kvs) from I.bu a _ ea);exact A7 D7 I.uT ⟨o,h1,h2.1⟩ e (λz=>nomatch z) h
 | @ins a C dx fs ea cl ha hn htk hm=>
  cases (show u=Az a from rx);obtain⟨mA,O,_⟩:=Rg I.bu ea;obtain⟨od,J,_⟩:=O.look;exact A7 (PySem.W.kitx_own (cl.get _) cl.hd ha hn htk hm) I.uT J e (λz=>nomatch z) h
end
end L2
variable {o:B7}{v È pm bO ct oc:A4}{vs:List L2.V}{mg:BB->Option A4}{base:Fd}{fd:PySem.FuncData}{ps:List BB}{Ã:B9}{sc scope:PySem.Scope}{qual:BB}{an od:Option BG}{O5:Array (Option A4)}
namespace L2
open PySem PySem.Spec PyProof.Rows
structure cB (k:Nat) (A:nn):Prop where
 hd:A.handled=bm
 dp:A.depth+3*k+5 < recursionLimit
 un:A.units+16*k+200 < ss
 gd:A.guards=am []
theorem cB.mono (r:cB k A) (h:j<=k):cB j A:=⟨r.hd,by have:=r.dp;omega,by have:=r.un;omega,r.gd⟩
theorem cB.deeper (r:cB (k+1) A) (env:Env):cB k (A.deeper env):=
 ⟨r.hd,by have:=r.dp;show A.depth+1+3*k+5 < _;omega,by have:=r.un;show A.units+3+16*k+200 < _;omega,r.gd⟩
theorem cB.depth (r:cB k A):A.depth < recursionLimit:=by have:=r.dp;omega
def XC:TA:=λ_ H Q=>Q [] H
def Sr (ta:TE) (tr:TA):TA:=λσ H Q=>ta σ H λx H1=>tr σ H1 λxs H2=>Q (x::xs) H2
section
variable {t:TA}
def bP:PA X [] XC:=λ_ _ _ _ H Q I h=>CD ⟨[],H,I,.nil,h⟩
def aU (ha:PE X e te) (hr:PA X es t) (hs:gs X e es:=by rfl):PA X (e::es) (Sr te t):=by
 intro pos Z s σ H Q I h;rw [hs];refine Cc (bR (ha Z s σ H _ I h) λu s1 ⟨x,H1,I1,r1,q1⟩=>?_);exact bR (hr pos Z s1 σ H1 _ I1 q1) λus s2 ⟨xs,H2,I2,r2,q2⟩=>⟨x::xs,H2,I2,.cons r1 r2,q2⟩
end
abbrev Sp:=List V->Hp->VK->XK->Prop
abbrev O1:=List Env->Hp->ci->XK->bn->ci->Prop
structure Sf (P:sK) (w:ut) (K:Ab) (mg:Str->Option bn) (base:kw) (A:nn) (outer:List Env) (s:ci) (H:Hp):Prop where
 frames:A.frames=am outer
 mod:Mod K mg base
 bs:∀b o,base.get? b=am o->s.heap.get? b=am o/\H b=bm
 Tv:base.objs.size<=s.heap.objs.size
 so:s.heap.FunFrames base outer
 WZ:∀b∈Lo outer,H b=bm
 bu:lY P w H s.heap
 bare:FS s.gens
def CE (outer:List Env) (P:sK) (w:ut) (H:Hp) (s:ci) (Q:VK) (u:bn) (s':ci):Prop:=
 ∃v H',s'.os=s.os/\FS s'.gens/\Un (Lo outer) [] H H' s.heap s'.heap/\lY P w H' s'.heap/\RelV v u/\Q v H'
def CR (CX:O1) (outer:List Env) (P:sK) (w:ut) (H:Hp) (s:ci) (Q:VK) (E:XK) (r:Result) (s':ci):Prop:=
 match r with
 | .ok (.ret u)=>CE outer P w H s Q u s'
 | .ok _=>False
 | .error e=>CX outer H s E e s'
structure gG (P:sK) (w:ut) (K:Ab) (mg:Str->Option bn) (base:kw) (CX:O1) (k:Nat) (f:ce) (fd:FB) (ps:List Str) (sp:Sp):Prop where
 len:∀vs H Q E,sp vs H Q E->vs.length=ps.length
 run:∀(A:nn) (outer:List Env) (s:ci) (H:Hp) (args:Args) (us:List bn) (vs:List V) (Q:VK) (E:XK),cB k A->Sf P w K mg base A outer s H->BindsTo s fd args (ps.zip us)->Vals vs us->sp vs H Q E->
  Ev (dL P w) A (.call (.ref f) args) (CR CX outer P w H s Q E) s
def gG.imp {K:Ab}{CX:O1}{f:ce}{sp sp':Sp} (F:gG P w K mg base CX k f fd ps sp)
  (h:∀vs H Q E,sp' vs H Q E->sp vs H Q E):gG P w K mg base CX k f fd ps sp':=
 ⟨λvs H Q E q=>F.len vs H Q E (h _ _ _ _ q),λA outer s H args us vs Q E hr he hb hv hs=>F.run A outer s H args us vs Q E hr he hb hv (h _ _ _ _ hs)⟩
section
def Inv.adH (I:Inv X Z σ H s):Sf X.prog X.w X.K X.mg X.base X.A X.stack s H:=
 ⟨I.ok.frames,I.ok.mod,I.bs,Bw I.ok.Tv I.sz,I.stack,I.Im,I.bu,I.bare⟩
def Inv.after {Q:VK} (I:Inv X Z σ H s) (h:CE X.stack X.prog X.w H s Q u s'):EP X Z σ Q u s':=by
 obtain⟨v,H',os,bare,un,bu,r,q⟩:=h;obtain⟨hh,g,d,t,os'⟩:=s';obtain rfl:os'=s.os:=os;exact⟨v,H',I.call (h':=hh) (g':=g) (d':=d) (t':=t) (ch:=[]) un bu bare (λb z=>absurd z (by simp)),r,q⟩
end
def Binds (K:Ab) (fd:FB) (ps:List Str) (ds:List bn):Prop:=
 ∀(s:ci) (us:List bn),K.In s.heap->(us++ds).length=ps.length->BindsTo s fd ⟨us,[]⟩ (ps.zip (us++ds))
def Binds.all {K:Ab} (h:∀us:List bn,us.length=ps.length->bindArgs fd ⟨us,[]⟩=pure (ps.zip us)):Binds K fd ps []:=λs us _ hl=>by
 rw [DA] at hl ⊢;exact .of_eq (h us hl)
def Passes (CX:O1) (X:Cx) (E:XK):Prop:=∀(Z:List (ce×Obj)) (σ:St) (H:Hp) (s:ci) (e:bn) (s':ci),Inv X Z σ H s->CX X.stack H s E e s'->X.xe e s'
section
variable {CX:O1}{f:ce}{sp:Sp}{dvs:List V}{ds:List bn}{E:XK}
def Uo {Q:VK} (F:gG X.prog X.w X.K X.mg X.base CX k f fd ps sp) (hr:cB k X.A) (hb:Binds X.K fd ps ds) (hd:Vals dvs ds) (hx:Passes CX X E)
  (I:Inv X Z σ H s) (r:Vals vs us) (h:sp (vs++dvs) H Q E):db (dL X.prog X.w) X.A (call (.ref f) us) (EP X Z σ Q) X.xe s:=by
 have r2:Vals (vs++dvs) (us++ds):=r.append hd;have hl:(us++ds).length=ps.length:=by rw [<- r2.length];exact F.len _ _ _ _ h
 refine wpAny_call (codeAny_mono (F.run X.A X.stack s H ⟨us,[]⟩ (us++ds) (vs++dvs) Q E hr I.adH (hb s us I.uT hl) r2 h) λr s' hq=>?_);cases r with
 | error e=>exact hx Z σ H s e s' I hq
 | ok fl=>
  cases fl with
  | ret u=>exact I.after hq
  | next=>exact Bo hq
  | brk=>exact Bo hq
  | cont=>exact Bo hq
end
structure aq (N P:List Str) (sc:r9):Prop where
 kind:sc.kind=.function
 co:sc.isCoroutine=false
 gen:sc.isGenerator=false
 nd:N.Nodup
 pre:N.take P.length=P
 par:∀x∈P,sc.names.lookup x=am .local\/sc.names.lookup x=am .cell
 UZ:∀y∈sc.names,y.2≠.free
theorem vg {kindOf:Str->Option wP}:∀{binds:List (Str×bn)}{m:Str->Option bn},(∀v,(x,v)∉binds)->bindL kindOf binds m x=m x
 | [],_,_=>rfl
 | (n,v)::r,m,h=>by
  unfold bindL;rw [vg λw hw=>h w (AU _ hw)]
  split
  ·have:x≠n:=by rintro rfl;exact h v Bu
   simp [this]
  ·rfl
theorem vi {kindOf:Str->Option wP}:∀{binds:List (Str×bn)}{m:Str->Option bn},(∀v,(x,v)∉binds)->bindC kindOf binds m x=m x
 | [],_,_=>rfl
 | (n,v)::r,m,h=>by
  unfold bindC;rw [vi λw hw=>h w (AU _ hw)]
  split
  ·rfl
  ·have:x≠n:=by rintro rfl;exact h v Bu
   simp [this]
theorem vh {kindOf:Str->Option wP}:∀{P:List Str}{vs:List bn}{i:Nat}{m:Str->Option bn},P.Nodup->P[i]?=am x->vs[i]?=am v->kindOf x=am .local->
  bindL kindOf (P.zip vs) m x=am v
 | [],_,_,_,_,h,_,_=>by simp at h
 | _::_,[],_,_,_,_,h,_=>by simp at h
 | p::P,w::vs,0,m,nd,h1,h2,hk=>by
  simp at h1 h2;subst h1;subst h2;show bindL kindOf ((p,w)::P.zip vs) m p=_;unfold bindL;rw [vg λv hv=>(Dz.mp nd).1 (EE hv).1,if_pos hk];simp
 | p::P,w::vs,i+1,m,nd,h1,h2,hk=>by
  show bindL kindOf ((p,w)::P.zip vs) m x=_;unfold bindL;exact vh (i:=i) (Dz.mp nd).2 (by simpa using h1) (by simpa using h2) hk
theorem vj {kindOf:Str->Option wP}:∀{P:List Str}{vs:List bn}{i:Nat}{m:Str->Option bn},P.Nodup->P[i]?=am x->vs[i]?=am v->kindOf x≠am .local->
  bindC kindOf (P.zip vs) m x=am v
 | [],_,_,_,_,h,_,_=>by simp at h
 | _::_,[],_,_,_,_,h,_=>by simp at h
 | p::P,w::vs,0,m,nd,h1,h2,hk=>by
  simp at h1 h2;subst h1;subst h2;show bindC kindOf ((p,w)::P.zip vs) m p=_;unfold bindC;rw [vi λv hv=>(Dz.mp nd).1 (EE hv).1,if_neg hk];simp
 | p::P,w::vs,i+1,m,nd,h1,h2,hk=>by
  show bindC kindOf ((p,w)::P.zip vs) m x=_;unfold bindC;exact vj (i:=i) (Dz.mp nd).2 (by simpa using h1) (by simpa using h2) hk
def start (N:List Str) (vs:List V):St:=vs.map am++Am (N.length-vs.length) bm
def gD (CX:O1) (P:sK) (w:ut) (K:Ab) (mg:Str->Option bn) (base:kw) (N:List Str) (qual:Str) (scope:r9) (f:ce) (cd:bn) (A:nn) (outer:List Env) (s:ci) (H:Hp) (E:XK):Cx where
 prog:=P
 w:=w
 K:=K
 mg:=mg
 base:=base
 A:=A.deeper (pc qual scope s.heap.objs.size f cd)
 N:=N
 s₀:=s
 H₀:=H
 env:=pc qual scope s.heap.objs.size f cd
 outer:=outer
 stack:=pc qual scope s.heap.objs.size f cd::outer
 ex:=[]
 calm:=true
 fn:=λ_=>true
 pn:=[]
 xe:=λe s'=>db (dL P w) (A.deeper (pc qual scope s.heap.objs.size f cd)) (leaving (pc qual scope s.heap.objs.size f cd) e) (λ_ XW=>CX outer H s E e XW) (λe' XW=>CX outer H s E e' XW) s'
def Fy (h:sc.names.lookup x=am .cell):∃c,(cellsFrom n sc.names []).lookup x=am c:=by
 have q:=El sc.names n [] (.inl h);exact Option.isSome_iff_exists.mp q
theorem Kv {CX:O1}{K:Ab}{N:List Str}{f:ce}{cd:bn}{outer:List Env}{s1:ci}{E:XK}
  (S:aq N ps scope) (hd:A.handled=bm) (e0:Sf P w K mg base A outer s H) (hl:vs.length=ps.length) (r:Vals vs us)
  (x:InCallC s s.heap.objs.size (bindL (pc qual scope s.heap.objs.size f cd).kindOf (ps.zip us) λ_=>bm) (cellsFrom (s.heap.objs.size+1) scope.names []) (bindC (pc qual scope s.heap.objs.size f cd).kindOf (ps.zip us) λ_=>bm) s1) :
  Inv (gD CX P w K mg base N qual scope f cd A outer s H E) [] (start N vs) H s1:=by
 have dW:ps.length<=N.length:=by have:=congrArg Cj S.pre;rw [Dj] at this;omega
 obtain⟨h1,tk,rfl,hk⟩:=x.done;have Yx:∀b:ce,b∉(gD CX P w K mg base N qual scope f cd A outer s H E).ex:=λb z=>absurd (show b∈([]:List ce) from z) (by simp);refine⟨⟨e0.mod,S.kind,rfl,rfl,An _,λy z c h1 h2=>?_,λy hy=>?_,λy c _ h=>?_,λ_=>hd,Around.frames_deeper e0.frames,.inr ⟨rfl,rfl⟩,λb z=>absurd z (Yx b),e0.bs,e0.Tv,λb _ _=>Yx b,λb z=>absurd z (Yx b),e0.so,e0.WZ⟩,
  rfl,e0.bare,Un.kept hk,⟨_,x.toInCall.ns,λi y v h1 h2 h3=>?_⟩,λy c h=>⟨_,x.cell y c h⟩,e0.bu.fresh (An _),λy c h=>?_,λp hp=>absurd (show p∈([]:List (ce×Obj)) from hp) (by simp),e0.bu.kept hk,?_⟩
 ·exact name_of_addr x.apart (BO h1) (BO h2)
 ·rcases hy with hy | hy
  ·exact Fy hy
  ·exact absurd rfl (S.UZ _ (BO hy))
 ·exact DK (x.above y c (BO h))
 ·have hi:i < vs.length:=by
   unfold start at h2;by_cases hi:i < vs.length
   ·exact hi
   ·rw [AQ (by simpa using hi)] at h2;rw [Bq] at h2
    split at h2 <;> cases h2
  have ha:vs[i]?=am v:=by
   unfold start at h2;rw [AM (by simpa using hi),Aj] at h2;cases e:vs[i]? with
   | none=>rw [e] at h2;cases h2
   | some a=>rw [e] at h2;cases h2;rfl
  obtain⟨u,hu,rv⟩:=r.get ha;have hp:ps[i]?=am y:=by
   rw [<- S.pre,List.getElem?_take_of_lt ∅];exact h1
  have ndP:ps.Nodup:=by rw [<- S.pre];exact S.nd.sublist (List.take_sublist _ _)
  refine⟨u,rv,?_⟩;rcases S.par y (Bt hp) with k | k
  ·exact .inl ⟨k,vh ndP hp hu k⟩
  ·obtain⟨c,e⟩:=Fy (n:=s.heap.objs.size+1) k;refine .inr ⟨.inl k,c,e,?_⟩;have q:=x.cell y c e;rw [vj ndP hp hu (by show scope.names.lookup y≠_;rw [k];decide)] at q;exact q
 ·exact e0.bu.fresh (DK (x.above y c (BO h)))
 ·unfold start;show _=N.length;rw [Ak,Ai,Bn];omega
def ZC {CX:O1}{K:Ab}{f:ce}{name:Str}{params:Arguments}{dV kV:bn}{N:List Str}{sp:Sp} (lk:K.lookup f=am ⟨oc,od,.func (B1 name qual params body scope dV kV È pm an bO ct),O5⟩) (kr:DN K bO qual=true) (S:aq N ps scope)
  (len:∀vs H Q E,sp vs H Q E->vs.length=ps.length)
  (NN:∀(A:nn) (outer:List Env) (s:ci) (H:Hp) (vs:List V) (Q:VK) (E:XK),cB k (A.deeper (pc qual scope s.heap.objs.size f bO))->sp vs H Q E->
   ∃t,qN (gD CX P w K mg base N qual scope f bO A outer s H E) body t/\t {nx:=λ_ H'=>Q .aD H',rt:=Q} (start N vs) H) :
  gG P w K mg base CX (k+1) f (B1 name qual params body scope dV kV È pm an bO ct) ps sp:=by
 refine⟨len,λA outer s H args us vs Q E hr e0 hb r Rn=>?_⟩;have hl:=len _ _ _ _ Rn;have KX:K.In s.heap:=e0.mod.kin.keeps λb o e=>(e0.bs b o e).1;have lim:s.heap.NoLimit:=e0.mod.nolimit.keeps λb o e=>(e0.bs b o e).1;have Y9:∀y∈ps.zip us,scope.names.lookup y.1=am .local\/(scope.names.lookup y.1=am .cell/\((cellsFrom (s.heap.objs.size+1) scope.names []).lookup y.1).isSome=true):=λ⟨n,v⟩ hy=>by
  rcases S.par n (EE hy).1 with q | q
  ·exact .inl q
  ·exact .inr ⟨q,El _ _ _ (.inl q)⟩
 refine codeAny_call_function hr.depth (KX _ _ lk) rfl S.co S.gen rfl (PySem.W.codeRec_of KX kr) (hb _ _ _ _ ?_);refine wpAny_newFunctionEnv_cells S.kind Y9 λenv he s1 x=>?_;subst he;refine⟨lim.keeps x.toInCall.keep,codeAny_func ?_⟩;obtain⟨t,ht,hq⟩:=NN A outer s H vs Q E (hr.deeper _) Rn;have I:Inv (gD CX P w K mg base N qual scope f bO A outer s H E) [] (start N vs) H s1:=Kv S hr.hd e0 hl r x;refine BN (ht [] s1 (start N vs) H _ I hq) (λfl s' hs=>?_) λe s' hs=>hs;have fin:∀{σ':St}{H':Hp}{v:V}{u:bn},Inv (gD CX P w K mg base N qual scope f bO A outer s H E) [] σ' H' s'->RelV v u->Q v H'->CE outer P w H s Q u s':=
  λ{σ' H' v u} J rv q=>⟨v,H',J.os,J.bare,J.base,J.bu,rv,q⟩
 cases fl with
 | ret u=>
  obtain⟨v,σ',H',J,rv,q⟩:=hs;exact fin J rv q
 | next=>
  obtain⟨σ',H',J,q⟩:=hs;exact fin (v:=V.aD) (u:=AO) J rfl q
 | brk=>
  obtain⟨_,_,_,q⟩:=hs;exact Bo q
 | cont=>
  obtain⟨_,_,_,q⟩:=hs;exact Bo q
end L2
variable {T:String}
namespace L2
open PySem PySem.Spec PyProof.Rows
section
variable {t:TA}{id:String}{r:List V->Hp->VK->Prop}
def tCB (r:List V->Hp->VK->Prop) (t:TA):TE:=λσ H Q=>t σ H λvs H1=>r vs H1 Q
def eT (hc:bN X (.builtin id) r) (hg:Gl X x) (hm:X.mg x=bm) (hv:im x=am (.builtin id)) (ha:PA X (e::es) t) (hn:x≠"__name__":=by decide) (nM:jS x:=by decide)
  (he:gs X e es:=by rfl) (dW:lq X pos es:=by rfl):PE X (.Call (.Name x p) (e::es) [] pos) (tCB r t):=by
 intro Z s σ H Q I h;refine BH (gX I hg hm hv ?_ hn nM);exact PyProof.Rows.callWith_builtin1 (bR (ha pos Z s σ H _ I h) λus s1 ⟨vs,H1,I1,r1,q1⟩=>hc Z s1 σ H1 vs us Q I1 r1 q1) he dW
def kL (hc:bN X (.type T) r) (hg:Gl X x) (hm:X.mg x=bm) (hv:im x=am (.type T)) (ha:PA X (e::es) t) (hn:x≠"__name__":=by decide) (nM:jS x:=by decide)
  (he:gs X e es:=by rfl) (dW:lq X pos es:=by rfl):PE X (.Call (.Name x p) (e::es) [] pos) (tCB r t):=by
 intro Z s σ H Q I h;refine BH (gX I hg hm hv ?_ hn nM);exact Be (bR (ha pos Z s σ H _ I h) λus s1 ⟨vs,H1,I1,r1,q1⟩=>hc Z s1 σ H1 vs us Q I1 r1 q1) he dW
end
end L2
variable {l:BG}{hi:Option Int}{prog:PySem.Program}{items:Array A4}{ns ms:List Int}{vl vu:A4}
namespace HT
open PySem PyProof.Rows
def lexLt:List Int->List Int->Bool
 | [],[]=>false
 | [],_::_=>true
 | _::_,[]=>false
 | x::xs,y::ys=>if x=y then lexLt xs ys else decide (x < y)
theorem GK (x y:Int) (xs ys:List Int):lexLt (x::xs) (y::ys)=if x=y then lexLt xs ys else decide (x < y):=rfl
def Og (A:nn) (s:ci) (a:Int) (t:Tok) (c:Int) (u:Tok):∃e,Dc A s (.int a t) (.int c u) e/\(e=true↔a=c):=
 ⟨(a==c),DP a t c u,by simp⟩
def Ma (A:nn) (s:ci) (a:Int) (t:Tok) (c:Int) (u:Tok) (prog:sK) (w:ut) (E:bn->ci->Prop) (Q:bn->ci->Prop) (h:Q (.bool (decide (a < c))) s) :
  db (dL prog w) A (richCompare .Lt (.int a t) (.int c u)) Q E s:=
 (PyProof.Rows.lt_int h:db (dL prog w) A (o0 .Lt (.int a t) (.int c u)) Q E s)
section
open PySem.SeqAt
open PySem.AutoSeq1 (wpAny_loadPart')
open PySem.MeetsSeq PySem.MeetsSeq2 PySem.MeetsSeq3
theorem tE (l b:ce) (items bG:Array bn) (n n2:Nat) (dd RS:Option ce) (sl O4:Array (Option bn)) (ns ms:List Int) (hi:tt items.toList ns) (hj:tt bG.toList ms) :
  Meets (wn.«tuple.__lt__» ⟨[.ref l,.ref b],[]⟩)
   (λ_ R s=>s.heap.get? l=am {cls:=.type "tuple",dict:=dd,data:=.seq items n,slots:=sl}/\s.heap.get? b=am {cls:=.type "tuple",dict:=RS,data:=.seq bG n2,slots:=O4}/\
    R (.ok (.ret (.bool (lexLt ns ms)))) s):=
 .of_wp λprog w A R s h=>by
  obtain⟨hp,g,d,tk,os⟩:=s;obtain⟨hl,hb,h⟩:=h;have f2:=AutoSeq1.sub_tuple_tuple;have z1:items.size=ns.length:=by rw [<- hi.length];simp
  have z2:bG.size=ms.length:=by rw [<- hj.length];simp
  wp_walk using wpAny_loadPart' hl,wpAny_loadPart' hb,wpAny_forIn_list _ (λrest b s'=>b.1=bm/\s'=⟨hp,g,d,tk,os⟩/\∃(vs ws:List bn) (zb WI:List Int),rest=vs.zip ws/\
   tt vs zb/\tt ws WI/\zb.length+bG.size=WI.length+items.size/\R (.ok (.ret (.bool (lexLt zb WI)))) ⟨hp,g,d,tk,os⟩) _
  case turn=>
   rintro⟨y,x⟩ rest b s' ⟨ù,rfl,vs,ws,zb,WI,hz,hvi,hwi,Á,hR⟩;cases hvi with
   | nil=>rw [List.zip_nil_left] at hz;cases hz
   | cons a t acF=>
    cases hwi with
    | nil=>rw [List.zip_nil_right] at hz;cases hz
    | cons c u acE=>
     rw [List.zip_cons_cons] at hz;injection hz with hyx Y2;injection hyx with hy hx;subst hy hx;rw [GK] at hR;simp only [Ar] at Á;obtain⟨e,he,Zd⟩:=Og A.in1 ⟨hp,g,d,tk,os⟩ a t c u;refine Aa (he prog w _ _ ?_);cases e with
     | true=>
      rw [if_pos (Zd.mp rfl)] at hR
      wp_walk
      exact⟨rfl,rfl,_,_,_,_,Y2,acF,acE,by omega,hR⟩
     | false=>
      rw [if_neg (λq=>absurd (Zd.mpr q) A5)] at hR;have hri:=Ma A.in1 ⟨hp,g,d,tk,os⟩ a t c u prog w
      wp_walk using hri
      exact⟨_,rfl,by simpa using hR⟩
  case fin=>
   rintro⟨b1,b2⟩ s' ⟨ù,rfl,vs,ws,zb,WI,hz,hvi,hwi,Á,hR⟩;simp only at ù;subst ù;have hv:lexLt zb WI=decide (items.size < bG.size):=by
    cases hvi with
    | nil=>
     cases hwi with
     | nil=>
      exact (decide_eq_false ∅).symm
     | cons c u hw=>
      simp only [Bv,Ar] at Á;exact (decide_eq_true ∅).symm
    | cons a t hv=>
     cases hwi with
     | nil=>
      simp only [Bv,Ar] at Á;exact (decide_eq_false ∅).symm
     | cons c u hw=>
      rw [List.zip_cons_cons] at hz;cases hz
   rw [hv] at hR
   wp_walk
   exact⟨_,rfl,by simpa [Builtin.Tuple.tupleCompareSizes] using hR⟩
  case h=>
   exact⟨rfl,rfl,items.toList,bG.toList,ns,ms,rfl,hi,hj,by omega,h⟩
end
section
def GB {bG:Array bn} (hl:IsTup s.heap l items) (hb:IsTup s.heap b bG) (hi:tt items.toList ns) (hj:tt bG.toList ms)
  (hu:A.units < ss) (h:Q (.bool (lexLt ns ms)) s):db (dL prog w) A (o0 .Lt (.ref l) (.ref b)) Q E s:=by
 obtain⟨⟨cls,dd,data,sl⟩,ho,hc,n,hd⟩:=id hl;obtain⟨⟨Wh,RS,data2,O4⟩,Kz,NM,n2,Ó⟩:=id hb;simp only at hc hd NM Ó;subst hc hd NM Ó;exact richCompare_meets_room (op:=.Lt) ⟨_,ho,rfl⟩ ⟨_,Kz,rfl⟩ PySem.F.slot_tuple_lt PySem.F.entry_tuple_lt (PySem.F.args_tuple_lt_2 _ _) (tE l b items bG n n2 dd RS sl O4 ns ms hi hj)
  ⟨ho,Kz,show Fb (lexLt ns ms)≠Value.notImplemented/\Q (.bool (lexLt ns ms)) s from⟨(λx=>nomatch x),h⟩⟩ hu
def RU {t:ce}{vs ws:List bn} (ht:IsTup s.heap t vs.toArray) (hb:IsTup s.heap b ws.toArray) (hv:vs≠[])
  (h1:ws=[]->Q (.ref t) s) (h2:ws≠[]->Q (.ref s.heap.objs.size) {s with heap:=s.heap.push {cls:=.type "tuple",data:=.seq (vs++ws).toArray}})
  (hsz:vs.length+ws.length<=sizeLine):db (dL prog w) A (pr .Add (.ref t) (.ref b)) Q E s:=by
 obtain⟨⟨cls,dd,data,sl⟩,ho,hc,n,hd⟩:=id ht;obtain⟨⟨Wh,RS,data2,O4⟩,Kz,NM,n2,Ó⟩:=id hb;simp only at hc hd NM Ó;subst hc hd NM Ó;have e:vs.toArray++ws.toArray=(vs++ws).toArray:=by simp
 by_cases hw:ws=[]
 ·exact concat_meets ⟨_,ho,rfl⟩ ⟨_,Kz,rfl⟩ noFill_tuple_add seq_tuple_add CW CV (CO _ _)
   (tuple_addW1 t b vs.toArray ws.toArray n n2 dd RS sl O4 (by simpa using hv) (by simp [hw])) ⟨ho,Kz,h1 hw⟩
 ·refine concat_meets ⟨_,ho,rfl⟩ ⟨_,Kz,rfl⟩ noFill_tuple_add seq_tuple_add CW CV (CO _ _)
   (tuple_addW2 t b vs.toArray ws.toArray n n2 dd RS sl O4 (by simpa using hv) (by simpa using hw) (by rw [Ah,Ah];exact hsz)) ⟨ho,Kz,?_⟩
  rw [e];exact h2 hw
def dR (n d:Nat):Option Int->Nat
 | none=>d
 | some v=>if v < 0 then (v+(n:Int)).toNat else min v.toNat n
theorem L4 (n d:Nat):dR n d bm=d:=rfl
theorem PX (n d k:Nat):dR n d (am (k:Int))=min k n:=by
 show (if (k:Int) < 0 then ((k:Int)+(n:Int)).toNat else min (k:Int).toNat n)=min k n;rw [if_neg ∅,Bp]
theorem JD (v:Int) (n d:Nat):(if v < 0 then max (v+(n:Int)) 0 else min v (n:Int))=((dR n d (am v):Nat):Int):=by
 show (if v < 0 then max (v+(n:Int)) 0 else min v (n:Int))=(((if v < 0 then (v+(n:Int)).toNat else min v.toNat n):Nat):Int);by_cases hv:v < 0
 ·simp only [if_pos hv];omega
 ·simp only [if_neg hv];omega
theorem HJ (lo hi:Option Int) (n:Nat):Builtin.Slice.sliceAdjust lo hi 1 (n:Int)=(((dR n 0 lo:Nat):Int),((dR n n hi:Nat):Int)):=by
 have h1:¬((1:Int) < 0):=by omega
 unfold Builtin.Slice.sliceAdjust;refine Prod.ext ?_ ?_
 ·cases lo with
  | none=>rfl
  | some v=>exact JD v n 0
 ·cases hi with
  | none=>rfl
  | some v=>exact JD v n n
theorem Gm (i j:Nat):Builtin.Slice.slicePlaces (i:Int) (j:Int) 1=j-i:=by
 unfold Builtin.Slice.slicePlaces;have h1:(1:Int) > 0:=by omega
 split <;> omega
def fW {o:Option Int}{Q:Option Int->ci->Prop} (p:IsPart v o) (h:Q o s):db (dL prog w) A (Builtin.Slice.slicePartIndex v) Q E s:=by
 cases p with
 | none=>exact slicePart_none h
 | int i t=>exact slicePart_int h
def iy {sl:ce}{lo:Option Int}{Q:Int×Int×Nat->ci->Prop} (hs:s.heap.IsSliceOf sl vl vu .none) (pl:IsPart vl lo) (pu:IsPart vu hi)
  (h:Q (((dR n 0 lo:Nat):Int),1,dR n n hi-dR n 0 lo) s):db (dL prog w) A (Builtin.Slice.sliceApplied (.ref sl) (pure (n:Int))) Q E s:=by
 obtain⟨os,Lk,WW,Ru⟩:=id hs;refine Aa (Aa (AY Lk Ru (x:=vl) rfl (Aa (AY Lk Ru (x:=vu) rfl (Aa (AY Lk Ru (x:=.none) rfl (Ae ?_)))))));refine Aa (slicePart_none ?_);refine Aa (fW pl (Aa (fW pu (Aa (Ae ?_)))));show db _ _ (match Builtin.Slice.sliceAdjust lo hi 1 (n:Int) with | (lo,hi)=>pure (lo,(1:Int),Builtin.Slice.slicePlaces lo hi 1)) _ _ s;rw [HJ lo hi n];show db _ _ (pure (((dR n 0 lo:Nat):Int),(1:Int),Builtin.Slice.slicePlaces ((dR n 0 lo:Nat):Int) ((dR n n hi:Nat):Int) 1)) _ _ s;rw [Gm];exact Ae h
theorem Ms (xs:Array bn) (i k:Nat):((AG k).filterMap λ(m:Nat)=>xs[((i:Int)+(m:Int)*1).toNat]?).toArray=((xs.toList.drop i).take k).toArray:=by
 have e:(λ(m:Nat)=>xs[((i:Int)+(m:Int)*1).toNat]?)=λm=>xs[i+m]?:=by
  funext m;have:((i:Int)+(m:Int)*1).toNat=i+m:=by omega
  rw [this]
 rw [e];have:=pick_run xs i k;rw [List.filterMap_map] at this;have e2:((λx=>xs[x]?)∘λx=>i+x)=λm=>xs[i+m]?:=rfl;rw [e2] at this;rw [this]
theorem nN {t sl:ce}{lo:Option Int} (ht:IsTup s.heap t items) (hs:s.heap.IsSliceOf sl vl vu .none) (pl:IsPart vl lo) (pu:IsPart vu hi)
  (hw:¬(dR items.size 0 lo=0/\dR items.size items.size hi=items.size))
  (h:Q (.ref s.heap.objs.size) {s with heap:=s.heap.push {cls:=.type "tuple",data:=.seq ((items.toList.drop (dR items.size 0 lo)).take (dR items.size items.size hi-dR items.size 0 lo)).toArray}})
  (hsz:items.size<=sizeLine):db (dL prog w) A (Db (.ref t) (.ref sl)) Q E s:=by
 have Jj:sizeOk (.seq ((items.toList.drop (dR items.size 0 lo)).take (dR items.size items.size hi-dR items.size 0 lo)).toArray):=by
  show ((items.toList.drop (dR items.size 0 lo)).take (dR items.size items.size hi-dR items.size 0 lo)).toArray.size<=sizeLine;rw [Ah,Dj,Ek,BQ];omega
 obtain⟨os,Lk,WW,Ru⟩:=id hs;have Zn:s.TypeIs (.ref sl) "slice":=⟨os,Lk,WW⟩;unfold Db
 try with_reducible refine Bb ?_
 first | refine Aa (Ae ?_) | skip
 refine Aa (D8 ht.typeIs ⋯ ?_);refine Aa (AV (name:=BL "__getitem__") ht.typeIs AH
  (A8 AH ht.typeIs entry_tuple_getitem ?_ (args_tuple_getitem _ _)))
 show db _ _ (Builtin.Tuple.tupleItemsOf (.ref t) >>= _) _ _ s;refine Aa (tupleItemsOf_ ht ?_);refine Aa (Cv Zn ?_);refine Aa (iy hs pl pu ?_);have hno:¬((((dR items.size 0 lo:Nat):Int)==0&&(1:Int)==1&&(dR items.size items.size hi-dR items.size 0 lo)==items.size)=true):=by
  intro q;rw [AE,AE] at q;have q1:=eq_of_beq q.1.1;have q2:=eq_of_beq q.2;exact hw ⟨by omega,by omega⟩
 show db _ _ (if (((dR items.size 0 lo:Nat):Int)==0&&(1:Int)==1&&(dR items.size items.size hi-dR items.size 0 lo)==items.size)=true then _ else _) _ _ s;rw [if_neg hno,Ms]
 first
  | exact Aa (m:=Builtin.Tuple.tupleExact _) (AJ (Ae ⟨_,rfl,Ae h⟩) Jj)
  | exact Aa (m:=Builtin.Tuple.tupleExact _) (AJ (Aa (Ae (Ae ⟨_,rfl,Ae h⟩))) Jj)
  | exact Aa (Aa (m:=Builtin.Tuple.tupleExact _) (AJ (Ae (Ae ⟨_,rfl,Ae h⟩)) Jj))
  | exact Aa (Aa (m:=Builtin.Tuple.tupleExact _) (AJ (Ae ⟨_,rfl,Ae h⟩) Jj))
end
end HT
variable {p2:B9}
namespace L2
open PySem PySem.Spec PyProof.Rows
abbrev TO:=St->Hp->(Option Int->Hp->Prop)->Prop
def PO (X:Cx) (e:Option gt) (t:TO):Prop:=
 ∀(Z:List (ce×Obj)) (s:ci) (σ:St) (H:Hp) (Q:Option Int->Hp->Prop),Inv X Z σ H s->t σ H Q->
  db (dL X.prog X.w) X.A (evalPart e X.env) (λu s'=>∃o H',Inv X Z σ H' s'/\IsPart u o/\Q o H') X.xe s
def Pu:TO:=λ_ H Q=>Q bm H
def XB (t:TE):TO:=λσ H Q=>t σ H λx H1=>∃i,x=.int i/\Q (am i) H1
def intsAre_of:∀{us:List bn},Vals (ns.map V.int) us->tt us ns:=by
 induction ns with
 | nil=>intro us r;rw [Es] at r;cases r;exact .nil
 | cons n ns ih=>
  intro us r;rw [Au] at r;cases r with
  | cons r1 r2=>
   obtain⟨t,e⟩:=r1;subst e;exact .cons n t (ih r2)
section
variable {lo hi:Option gt}{tl th:TO}
def Qb:PO X bm Pu:=by
 intro Z s σ H Q I h;exact Ae ⟨bm,H,I,.none,h⟩
def Qa (h:PE X e te):PO X (am e) (XB te):=by
 intro Z s σ H Q I hw;refine bR (h Z s σ H _ I hw) λu s1 ⟨x,H1,I1,r1,q1⟩=>?_;obtain⟨i,rfl,q⟩:=q1;obtain⟨t,rfl⟩:=r1;exact⟨am i,H1,I1,.int i t,q⟩
def SlR (X:Cx) (r:V->Option Int->Option Int->Hp->VK->Prop):Prop:=
 ∀(Z:List (ce×Obj)) (s:ci) (σ:St) (H:Hp) (x:V) (v vl vu:bn) (lo hi:Option Int) (sl:ce) (Q:VK),Inv X Z σ H s->RelV x v->s.heap.IsSliceOf sl vl vu .none->IsPart vl lo->IsPart vu hi->r x lo hi H Q->
  ∃T id,FM (.type T) "__getitem__"=pure (am (.builtin id))/\s.TypeIs v T/\db (dL X.prog X.w) X.A (Db v (.ref sl)) (EP X Z σ Q) X.xe s
def tSl (r:V->Option Int->Option Int->Hp->VK->Prop) (te:TE) (tl th:TO):TE:=λσ H Q=>te σ H λx H1=>tl σ H1 λl H2=>th σ H2 λu H3=>r x l u H3 Q
def Mz {r:V->Option Int->Option Int->Hp->VK->Prop} (hr:SlR X r) (he:PE X e te) (hl:PO X lo tl) (hu:PO X hi th):PE X (.Subscript e (.Slice lo hi bm p2) pos) (tSl r te tl th):=by
 intro Z s σ H Q I h;refine Subscript_ (bR (he Z s σ H _ I h) λv s1 ⟨x,H1,I1,r1,q1⟩=>?_);refine wpAny_Slice (bR (hl Z s1 σ H1 _ I1 q1) λvl s2 ⟨l,H2,I2,pl,q2⟩=>bR (hu Z s2 σ H2 _ I2 q2) λvu s3 ⟨u,H3,I3,pu,q3⟩=>?_);rw [evalPart_none];refine Ae ?_;have I4:Inv X Z σ H3 {s3 with heap:=s3.heap.push {cls:=.type "slice",data:=.fields #[vl,vu,.none]}}:=I3.kept (t':=s3.toks) λb ob q=>Ag _ q;obtain⟨T,id,hT,ht,hg⟩:=hr Z {s3 with heap:=s3.heap.push {cls:=.type "slice",data:=.fields #[vl,vu,.none]}} σ H3 x v vl vu l u s3.heap.objs.size Q I4 r1 (ER.new ..) pl pu q3;show db (dL X.prog X.w) X.A (subscriptTail e (.Slice lo hi bm p2) v (.ref s3.heap.objs.size)) (EP X Z σ Q) X.xe {s3 with heap:=s3.heap.push {cls:=.type "slice",data:=.fields #[vl,vu,.none]}};exact tail_any (ops:=[.ref s3.heap.objs.size,v]) ht hT hg (by with_unfolding_all rfl)
def xQ (xs:List V) (lo hi:Option Int):List V:=(xs.drop (HT.dR xs.length 0 lo)).take (HT.dR xs.length xs.length hi-HT.dR xs.length 0 lo)
theorem pV (xs:List V) (lo hi:Option Int):(xQ xs lo hi).length<=xs.length:=by
 unfold xQ;rw [Dj,Ek];omega
def abY (K:Ab):V->Option Int->Option Int->Hp->VK->Prop:=λx lo hi H Q=>∃a xs,x=.ref a/\dG K H a xs/\
 ¬(HT.dR xs.length 0 lo=0/\HT.dR xs.length xs.length hi=xs.length)/\∀p,H p=bm->Q (.ref p) (upd H p (.tup (xQ xs lo hi)))
def Uh:SlR X (abY X.K):=by
 intro Z s σ H x v vl vu lo hi sl Q I rx hs pl pu h;obtain⟨a,xs,rfl,hx,hw,q⟩:=h;cases rx;obtain⟨ak,r,ht,hz⟩:=I.tuple hx;have Á:ak.toArray.size=xs.length:=by rw [Ah];exact r.length.symm
 refine⟨"tuple",_,AH.lookup,ht.typeIs,?_⟩;refine HT.nN ht hs pl pu (by rw [Á];exact hw) ?_ (by rw [Á];exact hz);rw [Á];refine⟨.ref s.heap.objs.size,_,I.laid (t':=s.toks) (o:=.tup (xQ xs lo hi)) (λb ob q=>Ag _ q) (An _) ?_,rfl,q _ (I.bu.fresh (An _))⟩;exact⟨Bw (pV xs lo hi) hz,_,(r.drop (HT.dR xs.length 0 lo)).take (HT.dR xs.length xs.length hi-HT.dR xs.length 0 lo),E4 _ _⟩
def SH (K:Ab):R2:=λx y H Q=>∃a b xs ys,x=.ref a/\y=.ref b/\dG K H a xs/\dG K H b ys/\xs≠[]/\xs.length+ys.length<=sizeLine/\
 (ys=[]->Q (.ref a) H)/\(ys≠[]->∀p,H p=bm->Q (.ref p) (upd H p (.tup (xs++ys))))
def Vals.i9 (r:Vals xs us):us=[]↔xs=[]:=by
 cases r with
 | nil=>simp
 | cons _ _=>simp
def IK:jG X (pr .Add) (SH X.K):=by
 intro Z s σ H x y v u Q I rx ry h;obtain⟨a,b,xs,ys,rfl,rfl,ha,hb,hx,hz,q1,q2⟩:=h;cases rx;cases ry;obtain⟨ak,r1,p1,_⟩:=I.tuple ha;obtain⟨cT,r2,p2,_⟩:=I.tuple hb;refine HT.RU p1 p2 (λz=>hx (r1.i9.mp z)) (λz=>⟨.ref a,H,I,rfl,q1 (r2.i9.mp z)⟩) (λz=>?_) (by rw [<- r1.length,<- r2.length];exact hz);refine⟨.ref s.heap.objs.size,_,I.laid (t':=s.toks) (o:=.tup (xs++ys)) (λb ob q=>Ag _ q) (An _) ?_,rfl,q2 (λw=>z (r2.i9.mpr w)) _ (I.bu.fresh (An _))⟩;exact⟨by rw [Ak];exact hz,_,r1.append r2,E4 _ _⟩
end
end L2
variable {its':List A4}
namespace L2
open PySem PySem.Spec PyProof.Rows
def tq (n:Nat) (i:Int):Option Nat:=if 0<=i then (if i < n then am i.toNat else bm) else if -(n:Int)<=i then am (i+n).toNat else bm
def dD (xs:List α) (i:Int):Option α:=(tq xs.length i).bind λj=>xs[j]?
theorem wQ (h:tq n i=am j):seqIndex? i n=am j/\j < n/\-(n:Int)<=i/\i < n:=by
 unfold tq at h;by_cases h0:0<=i
 ·rw [if_pos h0] at h;by_cases h1:i < n
  ·rw [if_pos h1] at h;have e:=Option.some.inj h;exact⟨by rw [seqIndex_of h0 h1,e],by omega,by omega,h1⟩
  ·rw [if_neg h1] at h;cases h
 ·rw [if_neg h0] at h;by_cases h1:-(n:Int)<=i
  ·rw [if_pos h1] at h;have e:=Option.some.inj h;exact⟨by rw [seqIndex_neg ∅ h1,e],by omega,h1,by omega⟩
  ·rw [if_neg h1] at h;cases h
def xT {xs:List α}{v:α} (h:dD xs i=am v):∃j,seqIndex? i xs.length=am j/\xs[j]?=am v/\j < xs.length/\-(xs.length:Int)<=i/\i < xs.length:=by
 unfold dD at h;cases e:tq xs.length i with
 | none=>rw [e] at h;cases h
 | some j=>
  rw [e] at h;obtain⟨h1,h2,h3,h4⟩:=wQ e;exact⟨j,h1,h,h2,h3,h4⟩
theorem eg {xs:List α}{v:α} (h:xs[j]?=am v):dD xs (j:Int)=am v:=by
 have hj:=(Al.mp h).1;have e:tq xs.length (j:Int)=am j:=by
  unfold tq;rw [if_pos ∅,if_pos ∅];simp
 unfold dD;rw [e];exact h
def yh (b:gt):Prop:=∀o i,subscripted b false o i=operate [o,i] (Db o i)
def Pb (X:Cx) (r:R2):Prop:=
 ∀(value Æ:gt) (Z:List (ce×Obj)) (s:ci) (σ:St) (H:Hp) (x y:V) (v u:bn) (Q:VK),Inv X Z σ H s->RelV x v->RelV y u->r x y H Q->
  subscripted Æ false v u=operate [v,u] (Db v u)->db (dL X.prog X.w) X.A (subscriptTail value Æ v u) (EP X Z σ Q) X.xe s
def MtR (X:Cx) (id:String) (r:V->List V->Hp->VK->Prop):Prop:=
 ∀(Z:List (ce×Obj)) (s:ci) (σ:St) (H:Hp) (x:V) (xs:List V) (v:bn) (us:List bn) (Q:VK),Inv X Z σ H s->RelV x v->Vals xs us->r x xs H Q->
  db (dL X.prog X.w) X.A (call (.builtin id) (v::us)) (EP X Z σ Q) X.xe s
section
variable {X:Cx}{a b:gt}{ta tb:TE}{pos:Pos}
def Pb.or {r r':R2} (h:Pb X r) (h':Pb X r'):Pb X (λx y H Q=>r x y H Q\/r' x y H Q):=by
 intro value Æ Z s σ H x y v u Q I rx ry q hs;rcases q with q | q
 ·exact h value Æ Z s σ H x y v u Q I rx ry q hs
 ·exact h' value Æ Z s σ H x y v u Q I rx ry q hs
def SI {r:R2} (hr:Pb X r) (ha:PE X a ta) (hb:PE X b tb) (hs:yh b):PE X (.Subscript a b pos) (WB r ta tb):=by
 intro Z s σ H Q I h;exact Subscript_ (Wj ha hb I h λv u s2 x y H2 I2 rx ry q=>hr a b Z s2 σ H2 x y v u Q I2 rx ry q (hs _ _))
def X8 (K:Ab):R2:=λx y H Q=>∃p xs i v,x=.ref p/\y=.int i/\dP K H p xs/\dD xs i=am v/\Q v H
def X7 (K:Ab):R2:=λx y H Q=>∃p xs i v,x=.ref p/\y=.int i/\dG K H p xs/\dD xs i=am v/\Q v H
def Uw:R2:=λx y H Q=>∃z i c,x=.str z/\y=.int i/\z.length<=sizeLine/\dD z.cps.toList i=am c/\Q (.str ⟨#[c]⟩) H
theorem Ra:Pb X (X8 X.K):=by
 intro value Æ Z s σ H x y v u Q I rx ry h hs;obtain⟨p,xs,i,z,rfl,rfl,hq,he,q⟩:=h;cases rx;obtain⟨t,rfl⟩:=ry;obtain⟨ak,r,pl,hz⟩:=I.list hq;obtain⟨j,h1,h2,h3,h4,h5⟩:=xT he;obtain⟨w,ew,vP⟩:=r.get h2;have hl:=r.length;have hn:=wB;have fin:EP X Z σ Q w s:=⟨z,H,I,vP,q⟩;by_cases h0:0<=i
 ·have hj:i.toNat=j:=by
   rw [seqIndex_of h0 h5] at h1;exact Option.some.inj h1
  exact item_listR pl.isList h0 ∅ (by rw [hj];simpa using ew) fin hs
 ·have hj:(i+(ak.toArray.size:Int)).toNat=j:=by
   rw [seqIndex_neg ∅ h4] at h1;rw [Ah,<- hl];exact Option.some.inj h1
  exact subscriptTail_builtinR (x:=w) pl.isList.typeIs slot_list_getitem.lookup
   (wpAny_getItem_list_neg (Q:=λr s'=>r=w/\EP X Z σ Q r s') pl.isList ∅ (by rw [Ah] <;> omega) ∅ (by rw [hj];simpa using ew) ⟨rfl,fin⟩) hs
theorem Vs:Pb X (X7 X.K):=by
 intro value Æ Z s σ H x y v u Q I rx ry h hs;obtain⟨p,xs,i,z,rfl,rfl,hq,he,q⟩:=h;cases rx;obtain⟨t,rfl⟩:=ry;obtain⟨ak,r,pl,hz⟩:=I.tuple hq;obtain⟨j,h1,h2,h3,h4,h5⟩:=xT he;obtain⟨w,ew,vP⟩:=r.get h2;have hl:=r.length;have hn:=wB;have fin:EP X Z σ Q w s:=⟨z,H,I,vP,q⟩;exact subscriptTail_builtinR (x:=w) pl.typeIs slot_tuple_getitem.lookup
  (getItem_tuple (j:=j) (Q:=λr s'=>r=w/\EP X Z σ Q r s') pl ∅ ∅ (by rw [Ah,<- hl];exact h1) (by simpa using ew) ⟨rfl,fin⟩) hs
theorem Nt:Pb X Uw:=by
 intro value Æ Z s σ H x y v u Q I rx ry h hs;obtain⟨z,i,c,rfl,rfl,hz,he,q⟩:=h;obtain⟨t,rfl⟩:=rx;obtain⟨t',rfl⟩:=ry;obtain⟨j,h1,h2,h3,h4,h5⟩:=xT he;have hl:z.cps.toList.length=z.length:=by simp [Str.length]
 rw [hl] at h1 h4 h5;have hn:=wB;exact tail_any (typeIs_str s z t) slot_str_getitem.lookup (getItem_str (c:=c) (by
  have e1:decide (i < -(2 ^ 63:Int))=false:=decide_eq_false ∅;have e2:decide (i≥2 ^ 63)=false:=decide_eq_false ∅;rw [e1,e2,Bool.or_false]) (by rw [h1];simpa using h2) ⟨.str ⟨#[c]⟩,H,I.tok _,⟨_,rfl⟩,q⟩) hs
def rIx (K:Ab):R2:=λx y H Q=>X8 K x y H Q\/X7 K x y H Q\/Uw x y H Q
def Vt:Pb X (rIx X.K):=Ra.or (Vs.or Nt)
def GA (ak:List bn) (n j:Nat) (u:bn):Bj (·.setIfInBounds j u) {cls:=.type "list",data:=.seq ak.toArray n}={cls:=.type "list",data:=.seq (ak.set j u).toArray n}:=by
 simp [Bj]
def Inv.lst {Z:List (ce×Obj)}{σ:St}{H:Hp}{s:ci}{p:ce}{xs:List V} (I:Inv X Z σ H s) (h:H p=am (.lst xs)) :
  ∃(ak:List bn) (n:Nat),Vals xs ak/\s.heap.get? p=am {cls:=.type "list",data:=.seq ak.toArray n}/\xs.length<=sizeLine:=by
 obtain⟨z,ak,n,r,e⟩:=I.bu p _ h;exact⟨ak,n,r,e,z⟩
def Inv.U8 {p:ce}{n':Nat}{f:Obj->Obj} (I:Inv X Z σ H s) (h:H p=am (.lst xs))
  (ho:s.heap.get? p=am {cls:=.type "list",data:=.seq ak.toArray n}) (hf:f {cls:=.type "list",data:=.seq ak.toArray n}={cls:=.type "list",data:=.seq its'.toArray n'}) (r:Vals ys its') (hz:ys.length<=sizeLine) (t:Nat) :
  Inv X Z σ (upd H p (.lst ys)) {s with heap:=s.heap.update p f,toks:=t}:=by
 have e:(s.heap.update p f).get? p=am {cls:=.type "list",data:=.seq its'.toArray n'}:=by
  rw [BW f ho (by rw [hf] <;> rfl),hf]
 refine I.write (x:=p) (e:=p) (by rw [h];trivial) (.inl rfl) (λb u hb q=>(BM _ _ (BE hb)).trans q) ⟨_,e⟩ ?_;exact⟨hz,its',n',r,e⟩
def X4:V->V->V->Hp->(Hp->Prop)->Prop:=λo i v H Q=>∃p xs k j,o=.ref p/\i=.int k/\H p=am (.lst xs)/\tq xs.length k=am j/\Q (upd H p (.lst (xs.set j v)))
theorem set_list:Lg X X4:=by
 intro Z s σ H o i v ov iv u Q I ro ri rv h;obtain⟨p,xs,k,j,rfl,rfl,hp,hj,q⟩:=h;cases ro;obtain⟨t,rfl⟩:=ri;obtain⟨ak,n,r,ho,hz⟩:=I.lst hp;obtain⟨h1,h2,h3,h4⟩:=wQ hj;have hl:=r.length;have hn:=wB;have I':Inv X Z σ (upd H p (.lst (xs.set j v))) {s with heap:=s.heap.update p (Bj (·.setIfInBounds j u))}:=
  I.U8 hp ho (GA ak n j u) (r.set rv j) (by rw [BR];exact hz) s.toks
 by_cases h0:0<=k
 ·have hk:k.toNat=j:=by
   rw [seqIndex_of h0 h4] at h1;exact Option.some.inj h1
  exact PySem.W.ki_setAt ho h0 ∅ (by rw [Ah,<- hl];exact h4) (by rw [hk];exact⟨_,I',q⟩)
 ·have hk:(k+(ak.toArray.size:Int)).toNat=j:=by
   rw [seqIndex_neg ∅ h3] at h1;rw [Ah,<- hl];exact Option.some.inj h1
  exact PySem.W.ki_setBack ho ∅ (by rw [Ah,<- hl];exact h3) ∅ (by rw [hk];exact⟨_,I',q⟩)
theorem vL (lo hi:Option Int) (n:Nat):(zn lo hi bm n).1=((HT.dR n 0 lo:Nat):Int)/\(zn lo hi bm n).2.1=((HT.dR n n hi:Nat):Int)/\(zn lo hi bm n).2.2=1:=by
 refine⟨?_,?_,rfl⟩
 ·cases lo with
  | none=>simp [zn,HT.dR]
  | some i=>
   simp only [zn,HT.dR,Option.getD_none,show (1:Int) > 0 by decide,if_true];by_cases h:i < 0
   ·simp only [h,if_true] <;> omega
   ·simp only [h,if_false] <;> omega
 ·cases hi with
  | none=>simp [zn,HT.dR]
  | some i=>
   simp only [zn,HT.dR,Option.getD_none,show (1:Int) > 0 by decide,if_true];by_cases h:i < 0
   ·simp only [h,if_true] <;> omega
   ·simp only [h,if_false] <;> omega
def tG (ak:List bn) (lo hi:Option Int):slicePick ak.toArray lo hi bm=((ak.drop (HT.dR ak.length 0 lo)).take (HT.dR ak.length ak.length hi-HT.dR ak.length 0 lo)).toArray:=by
 obtain⟨h1,h2,h3⟩:=vL lo hi ak.toArray.size;unfold slicePick;rw [h1,h2,h3];simp only [sliceRange_one,pick_run,Ah] <;> rfl
def abZ (K:Ab):V->Option Int->Option Int->Hp->VK->Prop:=λx lo hi H Q=>∃a xs,x=.ref a/\dP K H a xs/\∀p,H p=bm->Q (.ref p) (upd H p (.lst (xQ xs lo hi)))
theorem aah:SlR X (abZ X.K):=by
 intro Z s σ H x v vl vu lo hi sl Q I rx hs pl pu h;obtain⟨a,xs,rfl,hx,q⟩:=h;cases rx;obtain⟨ak,r,ht,hz⟩:=I.list hx;have Á:=r.length;refine⟨"list",_,slot_list_getitem.lookup,ht.isList.typeIs,?_⟩;refine wpAny_getItem_list_slice ht.isList hs pl pu .none (by simp) ?_ (by rw [Ah] <;> omega);rw [tG,<- Á];refine⟨.ref s.heap.objs.size,_,I.laid (t':=s.toks) (o:=.lst (xQ xs lo hi)) (λb ob q=>Ag _ q) (An _) ?_,rfl,q _ (I.bu.fresh (An _))⟩;exact⟨Bw (pV xs lo hi) hz,_,0,(r.drop (HT.dR xs.length 0 lo)).take (HT.dR xs.length xs.length hi-HT.dR xs.length 0 lo),Ap _ rfl⟩
theorem xS:bN X (.type "list") (λxs H Q=>∃p ys,xs=[.ref p]/\(dP X.K H p ys\/dG X.K H p ys)/\∀l,H l=bm->Q (.ref l) (upd H l (.lst ys))):=by
 intro Z s σ H xs us Q I r h;obtain⟨p,ys,rfl,hq,q⟩:=h;obtain⟨u,rfl,rx⟩:=vals1 r;cases rx;have fin:∀(ak:List bn),Vals ys ak->ys.length<=sizeLine->∀(h':kw) (c':Nat),(∀b o',s.heap.get? b=am o'->h'.get? b=am o')->
   h'.get? s.heap.objs.size=am {cls:=.type "list",dict:=bm,data:=.seq ak.toArray c',slots:=#[]}->EP X Z σ Q (.ref s.heap.objs.size) {s with heap:=h'}:=λak r' hz h' c' kp e=>
  ⟨.ref s.heap.objs.size,_,I.laid (t':=s.toks) kp (An _) (show bb X.prog X.w _ h' _ (.lst ys) from⟨hz,ak,c',r',e⟩),rfl,q _ (I.bu.fresh (An _))⟩
 rcases hq with hq | hq
 ·obtain⟨ak,r',pl,hz⟩:=I.list hq;have Á:=r'.length;obtain⟨o,ho,hc,n,hd⟩:=pl.isList;exact call_list_seq p (.inl rfl) ho hc hd (λh' c' kp e=>fin ak r' hz h' c' kp e) (by simp only [Ah] <;> omega)
 ·obtain⟨ak,r',pl,hz⟩:=I.tuple hq;have Á:=r'.length;obtain⟨o,ho,hc,n,hd⟩:=pl;exact call_list_seq p (.inr rfl) ho hc hd (λh' c' kp e=>fin ak r' hz h' c' kp e) (by simp only [Ah] <;> omega)
theorem ui:bN X (.type "tuple") (λxs H Q=>∃p ys,xs=[.ref p]/\((dP X.K H p ys/\∀l,H l=bm->Q (.ref l) (upd H l (.tup ys)))\/(dG X.K H p ys/\Q (.ref p) H))):=by
 intro Z s σ H xs us Q I r h;obtain⟨p,ys,rfl,h⟩:=h;obtain⟨u,rfl,rx⟩:=vals1 r;cases rx;rcases h with⟨hq,q⟩ | ⟨hq,q⟩
 ·obtain⟨ak,r',pl,hz⟩:=I.list hq;have Á:=r'.length;refine call_tuple_list pl.isList (λh' kp=>?_) (by simp only [Ah] <;> omega);have I1:Inv X Z σ H {s with heap:=h'}:=I.kept (t':=s.toks) kp;have I2:Inv X Z σ (upd H h'.objs.size (.tup ys)) {s with heap:=h'.push {cls:=.type "tuple",data:=.seq ak.toArray}}:=
   I1.laid (t':=s.toks) (λb o e=>Ag _ e) (An _) (show bb X.prog X.w _ _ _ (.tup ys) from⟨hz,ak,r',E4 _ _⟩)
  exact⟨.ref h'.objs.size,_,I2,rfl,q _ (I1.bu.fresh (An _))⟩
 ·obtain⟨ak,r',pl,hz⟩:=I.tuple hq;exact call_tuple_same pl ⟨.ref p,H,I,rfl,q⟩
def tyV (K:Ab) (T:String) (x:V) (H:Hp):Prop:=match x with
 | .str _=>T="str"
 | .int _=>T="int"
 | .ref p=>(T="list"/\∃xs,dP K H p xs)\/(T="tuple"/\∃o,K.lookup p=am o/\o.cls=.type "tuple"/\o.dict=bm)\/
   (T="dict"/\((∃kvs,H p=am (.dK kvs))\/∃kvs,H p=am (.dT kvs)))\/(T="set"/\∃S n,H p=am (.set S n))
 | _=>False
def LA {x:V} (I:Inv X Z σ H s) (r:RelV x v) (ty:tyV X.K T x H) :
  s.TypeIs v T/\∀a,v=.ref a->∃ob,s.heap.get? a=am ob/\ob.dict=bm:=by
 cases x with
 | str z=>
  obtain⟨t,rfl⟩:=r;cases (show T="str" from ty);exact⟨typeIs_str s z t,λ_ e=>nomatch e⟩
 | int i=>
  obtain⟨t,rfl⟩:=r;cases (show T="int" from ty);exact⟨typeIs_int s i t,λ_ e=>nomatch e⟩
 | ref p=>
  cases r;rcases ty with⟨rfl,xs,hq⟩ | ⟨rfl,o,hk,hc,hd⟩ | ⟨rfl,hk⟩ | ⟨rfl,S,n,hk⟩
  ·obtain⟨ak,_,pl,_⟩:=I.list hq;refine⟨pl.isList.typeIs,λa e=>?_⟩;cases e;obtain⟨o,n,e,c,hd,_⟩:=pl;exact⟨o,e,hd⟩
  ·refine⟨⟨o,I.uT p o hk,hc⟩,λa e=>?_⟩;cases e;exact⟨o,I.uT _ o hk,hd⟩
  ·have z:∃o,s.heap.get? p=am o/\o.ExactDict:=by
    rcases hk with⟨kvs,hk⟩ | ⟨kvs,hk⟩
    ·obtain⟨_,_,_,_,o,_,_,e,ex,_⟩:=I.bu p _ hk;exact⟨o,e,ex⟩
    ·obtain⟨_,_,_,_,o,_,_,e,ex,_⟩:=I.bu p _ hk;exact⟨o,e,ex⟩
   obtain⟨o,e,ex⟩:=z;refine⟨⟨o,e,ex.1⟩,λa e2=>?_⟩;cases e2;exact⟨o,e,ex.2.1⟩
  ·obtain⟨o,_,_,_,e,ex,_⟩:=I.bu p _ hk;refine⟨⟨o,e,ex.1⟩,λa e2=>?_⟩;cases e2;exact⟨o,e,ex.2.1⟩
 | _=>exact Bo ty
def XJ (K:Ab) (T:String) (r:V->List V->Hp->VK->Prop) (to:TE):TE:=λσ H Q=>to σ H λx H1=>tyV K T x H1/\r x [] H1 Q
def tBM (K:Ab) (T:String) (r:V->List V->Hp->VK->Prop) (to:TE) (t:TA):TE:=λσ H Q=>to σ H λx H1=>tyV K T x H1/\t σ H1 λxs H2=>r x xs H2 Q
variable {o e:gt}{es:List gt}{to:TE}{t:TA}{name:Str}{Ã bo:Pos}{T id:String}{r:V->List V->Hp->VK->Prop}
def UL (pa:PlainAttrs T) (slot:Slot T name id) (VC:typeOf (.builtin id)=pure (.type "method_descriptor")) (hm:MtR X id r) (ho:PE X o to)
  (dw:lc o name X.env (ii o X.env)=ii o X.env:=by rfl) (du:O3 Ã bo:=by rfl):PE X (.Call (.Attribute o name Ã) [] [] bo) (XJ X.K T r to):=by
 intro Z s σ H Q I h;refine wpAny_Call_method0_late dw du (bR (ho Z s σ H _ I h) λv s1 ⟨x,H1,I1,r1,ty,q1⟩=>?_);obtain⟨h1,h2⟩:=LA I1 r1 ty;exact⟨T,id,pa,slot,VC,h1,h2,En rfl (PySem.evalArgs_none (hm Z s1 σ H1 x [] v [] Q I1 r1 .nil q1))⟩
def Yj (pa:PlainAttrs T) (slot:Slot T name id) (VC:typeOf (.builtin id)=pure (.type "method_descriptor")) (hm:MtR X id r) (ho:PE X o to) (ha:PA X (e::es) t)
  (dw:lc o name X.env (ii o X.env)=ii o X.env:=by rfl)
  (mj:Tw X bo (e::es):=by rfl)
  (du:O3 Ã bo:=by rfl) (hs:gs X e es:=by rfl) (dM:lq X bo es:=by rfl) :
  PE X (.Call (.Attribute o name Ã) (e::es) [] bo) (tBM X.K T r to t):=by
 intro Z s σ H Q I h;refine wpAny_Call_method_late dw mj du rfl (bR (ho Z s σ H _ I h) λv s1 ⟨x,H1,I1,r1,ty,q1⟩=>?_);obtain⟨h1,h2⟩:=LA I1 r1 ty;refine⟨T,id,pa,slot,VC,h1,h2,?_⟩;have hA:=ha bo Z s1 σ H1 _ I1 q1;rw [hs] at hA ⊢;refine En (by show (false||(wv bo (f8 es X.env)).any (·.1))=false;rw [dM] <;> rfl) (Calls.evalArgs_plain ?_);exact bR hA λus s2 ⟨vs,H2,I2,r2,q2⟩=>hm Z s2 σ H2 x vs v us Q I2 r1 r2 q2
end
def HU (X:Cx) (id:String) (r:V->List V->Hp->VK->Prop):Prop:=
 ∀(Z:List (ce×Obj)) (s:ci) (σ:St) (H:Hp) (x:V) (xs:List V) (v:bn) (us:List bn) (Q:VK),Inv X Z σ H s->RelV x v->Vals xs us->r x xs H Q->
  db (dL X.prog X.w) X.A (call (.builtin id) (v::us)) (EP X Z σ Q) X.xe s
def Vals.one:∀{x:V}{us:List bn},Vals [x] us->∃u,us=[u]/\RelV x u
 | _,_,.cons r .nil=>⟨_,rfl,r⟩
def Vals.zero:∀{us:List bn},Vals [] us->us=[]
 | _,.nil=>rfl
def Vals.dropLast (h:Vals xs us):Vals xs.dropLast us.dropLast:=by
 induction h with
 | nil=>exact .nil
 | cons r t ih=>
  cases t with
  | nil=>exact .nil
  | cons q t'=>exact .cons r ih
theorem Vals.eraseIdx:∀{xs:List V}{us:List bn} (i:Nat),Vals xs us->Vals (xs.eraseIdx i) (us.eraseIdx i)
 | _,_,_,.nil=>.nil
 | _,_,0,.cons _ t=>t
 | _,_,i+1,.cons r t=>.cons r (Vals.eraseIdx i t)
theorem Vals.rep (h:Vals xs us):∀k:Nat,Vals (Am k xs).flatten (Am k us).flatten
 | 0=>.nil
 | k+1=>by
  rw [Bz,Bz,B6,B6];exact Vals.append h (Vals.rep h k)
theorem Hh (l:List α):l.eraseIdx (l.length-1)=l.dropLast:=by
 induction l with
 | nil=>rfl
 | cons a r ih=>
  cases r with
  | nil=>rfl
  | cons b r=>
   have e:(a::b::r).length-1=((b::r).length-1)+1:=by
    have h1:(a::b::r).length=r.length+2:=rfl;have h2:(b::r).length=r.length+1:=rfl;omega
   rw [e,Cr,ih]
   all_goals rfl
theorem uP:∀(l:List α) (i:Nat),(l.eraseIdx i).length<=l.length
 | [],_=>An _
 | _::_,0=>Ds _
 | _::r,i+1=>Nat.succ_le_succ (uP r i)
theorem foldl_rep (ak:List bn):∀(k:Nat) (Ä:List bn),
  List.foldl (λx1 x2=>x1++x2) Ä.toArray (Am k ak.toArray)=(Ä++(Am k ak).flatten).toArray
 | 0,Ä=>by simp
 | k+1,Ä=>by
  have e:Ä.toArray++ak.toArray=(Ä++ak).toArray:=by simp
  have e2:(Ä++ak)++(Am k ak).flatten=Ä++(Am (k+1) ak).flatten:=by
   rw [Bz,B6,AL]
  rw [<- e2,<- foldl_rep ak k (Ä++ak),<- e,Bz,CT]
section
def Inv.GI {f:Array bn->Array bn}{t':Nat} (I:Inv X Z σ H s) (hH:H l=am (.lst xs))
  (e:s.heap.get? l=am {cls:=.type "list",data:=.seq ak.toArray n}) (hf:f ak.toArray=its'.toArray) (hv:Vals ys its') (hz:ys.length<=sizeLine) :
  Inv X Z σ (upd H l (.lst ys)) {s with heap:=s.heap.update l (Bj f),toks:=t'}:=by
 have q:=PySem.IsL.update e f;rw [hf] at q;refine I.write (x:=l) (e:=l) (by rw [hH];exact trivial) (.inl rfl) (λb' u hb hu=>(BM s.heap (Bj f) (BE hb)).trans hu) ⟨_,q⟩ ?_;exact⟨hz,its',_,hv,q⟩
def Inv.U9 {t':Nat} (I:Inv X Z σ H s) (hv:Vals ys ak) (hz:ys.length<=sizeLine) :
  Inv X Z σ (upd H s.heap.objs.size (.lst ys)) {s with heap:=s.heap.push {cls:=.type "list",data:=.seq ak.toArray},toks:=t'}:=
 I.laid (λ_ _ q=>Ag _ q) (An _) ⟨hz,ak,0,hv,Ap _ rfl⟩
def Inv.fresh (I:Inv X Z σ H s):H s.heap.objs.size=bm:=I.bu.fresh (An _)
def Inv.qb (I:Inv X Z σ H s) (hH:H l=am (.lst xs)):xs.length<=sizeLine/\∃(ak:List bn) (n:Nat),Vals xs ak/\xs.length=ak.length/\s.heap.get? l=am {cls:=.type "list",data:=.seq ak.toArray n}:=by
 obtain⟨z,ak,n,r,e⟩:=I.bu l _ hH;exact⟨z,ak,n,r,r.length,e⟩
theorem m8 (h:n<=sizeLine):Builtin.List.listTooLong n=false:=by
 exact decide_eq_false ∅
end
section
def P7:V->List V->Hp->VK->Prop:=λx vs H Q=>∃l xs y,x=.ref l/\vs=[y]/\H l=am (.lst xs)/\xs.length < sizeLine/\Q .aD (upd H l (.lst (xs++[y])))
theorem Kc:HU X "list.append" P7:=by
 intro Z s σ H x vs v us Q I rx rv h;obtain⟨l,xs,y,rfl,rfl,hH,hz,q⟩:=h;cases rx;obtain⟨u,rfl,ru⟩:=rv.one;obtain⟨z,ak,n,r,hl,e⟩:=I.qb hH;refine re F.slot_list_append ⟨_,e,rfl⟩ F.entry_list_append (F.args_list_append_2 _ _) (PySem.list_append l ak.toArray n u (by rw [Ah];omega)) ⟨e,?_⟩;refine⟨.aD,_,I.GI (its':=ak++[u]) hH e (by simp) (r.append (.cons ru .nil)) ?_,rfl,q⟩;rw [Ak,EM];omega
def P5:V->List V->Hp->VK->Prop:=λx vs H Q=>∃l b xs zs,x=.ref l/\vs=[.ref b]/\H l=am (.lst xs)/\H b=am (.lst zs)/\xs.length+zs.length<=sizeLine/\Q .aD (upd H l (.lst (xs++zs)))
theorem WH:HU X "list.extend" P5:=by
 intro Z s σ H x vs v us Q I rx rv h;obtain⟨l,b,xs,zs,rfl,rfl,hH,hB,hz,q⟩:=h;cases rx;obtain⟨u,rfl,ru⟩:=rv.one;cases ru;obtain⟨z,ak,n,r,hl,e⟩:=I.qb hH;obtain⟨z2,cT,n2,r2,O9,e2⟩:=I.qb hB;have hsz:ak.toArray.size+cT.toArray.size<=sizeLine:=by rw [Ah,Ah];omega
 have se:¬(!ak.toArray.isEmpty&&Builtin.List.listTooLong (ak.toArray.size+cT.toArray.size))=true:=by
  rw [m8 hsz,D3];exact A5
 refine re DQ ⟨_,e,rfl⟩ DB (Dn _ _)
  (AutoSeq1.list_extend_list_list_0 l ak.toArray n b cT.toArray n2 se (by rw [Ah];omega) ∅) ⟨e,e2,?_⟩
 refine⟨.aD,_,I.GI (its':=ak++cT) hH e (by simp) (r.append r2) ?_,rfl,q⟩;rw [Ak];omega
def ab1:V->List V->Hp->VK->Prop:=λx vs H Q=>∃l xs y,x=.ref l/\vs=[]/\H l=am (.lst xs)/\xs[xs.length-1]?=am y/\Q y (upd H l (.lst xs.dropLast))
theorem U5:HU X "list.pop" ab1:=by
 intro Z s σ H x vs v us Q I rx rv h;obtain⟨l,xs,y,rfl,rfl,hH,hy,q⟩:=h;cases rx;have hus:=rv.zero;subst hus;obtain⟨z,ak,n,r,hl,e⟩:=I.qb hH;obtain⟨u,hu,ru⟩:=r.get hy;have Vy:ak.toArray[ak.toArray.size-1]?=am u:=by
  show ak.toArray[ak.length-1]?=am u;rw [<- C9,<- hl];exact hu
 refine re F.slot_list_pop ⟨_,e,rfl⟩ F.entry_list_pop (F.args_list_pop_1 _) (MeetsSeq.list_pop_last l ak.toArray n u Vy (by rw [Ah];omega)) ⟨e,?_⟩;refine⟨y,_,I.GI (its':=ak.dropLast) hH e ?_ r.dropLast ?_,ru,q⟩
 ·rw [Ah,C8,Hh]
 ·rw [List.length_dropLast];omega
def Uu:V->List V->Hp->VK->Prop:=λx vs H Q=>∃l xs i k y,x=.ref l/\vs=[.int i]/\H l=am (.lst xs)/\-(2 ^ 63)<=i/\i < 2 ^ 63/\seqIndex? i xs.length=am k/\xs[k]?=am y/\Q y (upd H l (.lst (xs.eraseIdx k)))
theorem MZ:HU X "list.pop" Uu:=by
 intro Z s σ H x vs v us Q I rx rv h;obtain⟨l,xs,i,k,y,rfl,rfl,hH,h1,h2,hk,hy,q⟩:=h;cases rx;obtain⟨u,rfl,ru⟩:=rv.one;obtain⟨t,rfl⟩:=ru;obtain⟨z,ak,n,r,hl,e⟩:=I.qb hH;obtain⟨w,hw,vP⟩:=r.get hy;refine re F.slot_list_pop ⟨_,e,rfl⟩ F.entry_list_pop (F.args_list_pop_2 _ _)
  (MeetsSeq.list_pop_at l ak.toArray n i t k w (fitsIndex_both h1 h2) (by rw [Ah,<- hl];exact hk) (by rw [<- C9];exact hw) (by rw [Ah];omega)) ⟨e,?_⟩
 refine⟨y,_,I.GI (its':=ak.eraseIdx k) hH e ?_ (r.eraseIdx k) ?_,vP,q⟩
 ·show ak.toArray.eraseIdxIfInBounds k=(ak.eraseIdx k).toArray;rw [C8]
 ·have:=uP xs k;omega
def ab2:R2:=λx y H Q=>∃l b xs zs,x=.ref l/\y=.ref b/\H l=am (.lst xs)/\H b=am (.lst zs)/\xs.length+zs.length<=sizeLine/\∀p,H p=bm->Q (.ref p) (upd H p (.lst (xs++zs)))
theorem UW:jG X (pr .Add) ab2:=by
 intro Z s σ H x y v u Q I rx ry h;obtain⟨l,b,xs,zs,rfl,rfl,hH,hB,hz,q⟩:=h;cases rx;cases ry;obtain⟨z,ak,n,r,hl,e⟩:=I.qb hH;obtain⟨z2,cT,n2,r2,O9,e2⟩:=I.qb hB;refine PySem.P.add_list e e2 ?_ (by rw [Ah,Ah];omega);have ea:ak.toArray++cT.toArray=(ak++cT).toArray:=by simp
 rw [ea];exact⟨.ref _,_,I.U9 (t':=s.toks) (r.append r2) (by rw [Ak];omega),rfl,q _ I.fresh⟩
def ab0:R2:=λx y H Q=>∃l k xs,x=.ref l/\y=.int k/\H l=am (.lst xs)/\-(2 ^ 63)<=k/\k < 2 ^ 63/\xs.length*k.toNat<=sizeLine/\
 ∀p,H p=bm->Q (.ref p) (upd H p (.lst (Am k.toNat xs).flatten))
def len_rep (xs:List α) (k:Nat):(Am k xs).flatten.length=k*xs.length:=by
 induction k with
 | zero=>simp
 | succ k ih=>rw [Bz,B6,Ak,ih,Ff,Nat.add_comm]
theorem UP:jG X (pr .Mult) ab0:=by
 intro Z s σ H x y v u Q I rx ry h;obtain⟨l,k,xs,rfl,rfl,hH,h1,h2,hz,q⟩:=h;cases rx;obtain⟨t,rfl⟩:=ry;obtain⟨z,ak,n,r,hl,e⟩:=I.qb hH;have Á:ak.toArray.size*k.toNat<=sizeLine:=by rw [Ah,<- hl];exact hz
 have adf:¬ak.toArray.size*k.toNat > (2 ^ 63-1) / 8:=by
  have:(sizeLine:Nat)<=(2 ^ 63-1) / 8:=by decide
  omega
 have ac8:¬(!Builtin.List.listFitsIndex k)=true:=by
  rw [fitsIndex_both h1 h2];exact A5
 have se:¬Builtin.List.listTooLong (ak.toArray.size*k.toNat)=true:=by
  rw [m8 Á];exact A5
 have Rr:List.foldl (λx1 x2=>x1++x2) #[] (Am (if ak.toArray.isEmpty=true then 0 else k.toNat) ak.toArray)=(Am k.toNat ak).flatten.toArray:=by
  have f0:∀m:Nat,List.foldl (λx1 x2=>x1++x2) #[] (Am m ak.toArray)=(Am m ak).flatten.toArray:=λm=>by
   have:=foldl_rep ak m [];exact this
  rw [f0];cases ak with
  | nil=>simp
  | cons a r'=>rw [if_neg (by simp)]
 refine wpAny_binaryOp_repeat_ref (T:="list") (U:="int") ⋯ ⟨_,e,rfl⟩ (λs'=>typeIs_int s' k t) noFill_list_mul F.fills_int_mul F.slot_int_rmul repeat_list F.slot_int_index.lookup
  (re F.slot_int_rmul (typeIs_int s k t) F.entry_int_rmul (F.args_int_rmul_2 _ _) (int___rmul___int_list k t l ak.toArray n)
   ⟨e,rfl,⟨_,e,rfl⟩,re F.slot_list_mul ⟨_,e,rfl⟩ F.entry_list_mul (F.args_list_mul_2 _ _) (AutoListH.list___mul___list_int_3 l ak.toArray n k t ac8 adf se) ⟨e,?_⟩⟩)
 rw [Rr];exact⟨.ref _,_,I.U9 (t':=s.toks) (r.rep k.toNat) (by rw [len_rep,Nat.mul_comm];exact hz),rfl,q _ I.fresh⟩
end
end L2
variable {xs:List (List L2.Key×BG×A4)}{v:L2.V}{kvs:List (List L2.Key×L2.V)}{env:PySem.Env}{value:B7}{F7:B9}
namespace L2
open PySem PySem.Spec PyProof.Rows
section
variable {κ:Type} [DecidableEq κ]
def ir (kvs:List (κ×V)) (k:κ):Option V:=(kvs.find? λkv=>decide (kv.1=k)).map (·.2)
def jV {p:κ×V}{r:List (κ×V)}{k:κ} (e:p.1=k):ir (p::r) k=am p.2:=by simp [ir,BF,e]
def jW {p:κ×V}{r:List (κ×V)}{k:κ} (e:¬p.1=k):ir (p::r) k=ir r k:=by simp [ir,BF,e]
theorem yw (k:κ):∀kvs:List (κ×V),(kvs.any λkv=>decide (kv.1=k))=(ir kvs k).isSome
 | []=>rfl
 | p::r=>by
  rw [Cn];by_cases e:p.1=k
  ·simp only [jV e,decide_eq_true e,Bool.true_or,Option.isSome_some]
  ·rw [jW e,decide_eq_false e,Bool.false_or];exact yw k r
def KV.val {kvs:List (κ×V)}{vs:List (κ×bn)} (r:KV kvs vs) (k:κ):yf (ir kvs k) (valueAt vs k):=by
 unfold KV at r
 induction r with
 | nil=>exact Cu
 | @cons p q ps qs h t ih=>
  obtain⟨h1,h2⟩:=h;by_cases e:p.1=k
  ·have e':q.1=k:=h1.symm.trans e;have b:valueAt (q::qs) k=am q.2:=by simp [valueAt,BF,e']
   rw [jV e,b];exact h2
  ·have e':¬q.1=k:=λz=>e (h1.trans z);have b:valueAt (q::qs) k=valueAt qs k:=by simp [valueAt,BF,e']
   rw [jW e,b];exact ih
end
def SX {k:Key} (r:RelV (kV k) u):(cu P w).is k u=true:=by
 cases k with
 | inl i=>obtain⟨t,e⟩:=(show ∃t,u=DL i t from r);subst e;exact zi P w i t
 | inr x=>obtain⟨t,e⟩:=(show ∃t,u=Bd x t from r);subst e;exact zh P w x t
theorem uU:∀{ks:List Key}{us:List bn},Vals (ks.map kV) us->ItemsAre (cu P w) ks us
 | [],_,r=>by rw [Es] at r;cases r;exact .nil
 | k::ks,_,r=>by
  rw [Au] at r;cases r with
  | cons h t=>exact .cons (SX h) (uU t)
abbrev KT (H:Hp):List (List Key×V)->List (List Key×ce×bn)->Prop:=Paired λp q=>p.1=q.1/\H q.2.1=am (.tup (p.1.map kV))/\RelV p.2 q.2.2
def KT.val (r:KT H kvs xs) (k:List Key):yf (ir kvs k) ((atKey xs k).map (·.2)):=by
 induction r with
 | nil=>exact Cu
 | @cons p q ps qs h t ih=>
  obtain⟨h1,_,h2⟩:=h;by_cases e:p.1=k
  ·have e':q.1=k:=h1.symm.trans e;have b:atKey (q::qs) k=am q.2:=by simp [atKey,BF,e']
   rw [jV e,b];exact h2
  ·have e':¬q.1=k:=λz=>e (h1.trans z);have b:atKey (q::qs) k=atKey qs k:=by simp [atKey,BF,e']
   rw [jW e,b];exact ih
def KT.keeps (r:KT H kvs xs) (ht:∀b ys,H b=am (.tup ys)->H' b=am (.tup ys)):KT H' kvs xs:=
 Paired.U7 r λ_ _ z=>⟨z.1,ht _ _ z.2.1,z.2.2⟩
section
def SA {u:HO} (ok:lY P w H h) (e:Rd H a u):bb P w H h a u:=e.ok ok
def Fl {kvs:List (Key×V)} (ok:lY P w H h) (e:Rd H a (.dK kvs)):kvs.length<=sizeLine/\(a==Ch)=false/\∃vs,KV kvs vs/\h.DictOf (cu P w) a vs:=
 show bb P w H h a (.dK kvs) from SA ok e
def GO {ks:List Key} (ok:lY P w H h) (e:H a=am (.tup (ks.map kV))):(lw (cu P w)).is h ks a:=by
 obtain⟨_,ak,r,o,h1,h2,n,h3⟩:=(show bb P w H h a (.tup (ks.map kV)) from ok a _ e);exact⟨o,ak.toArray,n,h1,h2,h3,by simpa using uU r⟩
def z9 (ok:lY P w H h) (e:Rd H a (.dT kvs)):kvs.length<=sizeLine/\(a==Ch)=false/\
  ∃xs,KT H kvs xs/\h.DictOfH (lw (cu P w)) a xs:=by
 obtain⟨z,y,xs,r,o,es,ep,h1,h2,h3,h4,h5⟩:=(show bb P w H h a (.dT kvs) from SA ok e);refine⟨z,y,xs,r,o,es,ep,h1,h2,h3,h4,λx hx=>?_,h5⟩;have all:∀{l:List (List Key×V)}{m:List (List Key×ce×bn)},KT H l m->∀x∈m,(lw (cu P w)).is h x.1 x.2.1:=by
  intro l m q
  induction q with
  | nil=>intro x hx;exact nomatch hx
  | @cons p q ps qs hq t ih=>
   intro x hx;rcases Aw.mp hx with e | hx
   ·subst e;exact GO ok (by rw [<- hq.1];exact hq.2.1)
   ·exact ih x hx
 exact all r x hx
end
def Sj (H:Hp) (a:ce) (y:V) (r:Option V):Prop:=
 (∃kvs k,Rd H a (.dK kvs)/\y=kV k/\r=ir kvs k)\/∃kvs k b,Rd H a (.dT kvs)/\y=.ref b/\H b=am (.tup (k.map kV))/\r=ir kvs k
section
variable {o:Option V}
def Inv.big (I:Inv X Z σ H s):Ch < s.heap.objs.size:=by
 have h:=(I.mod.glob.keeps I.bk).lt;exact Nat.lt_trans ⋯ h
def KW (hu:A.units+1 < ss) (I:Inv X Z σ H s) (g:Sj H a y (am v)) (ry:RelV y u) (h:∀w' s',Inv X Z σ H s'->RelV v w'->Q w' s') :
  db (dL X.prog X.w) A (Db (.ref a) u) Q E s:=by
 rcases g with⟨kvs,k,e,ey,l⟩ | ⟨kvs,k,b,e,ey,eb,l⟩
 ·subst ey;obtain⟨z,hd,vs,ă,dd⟩:=Fl I.bu e;obtain⟨w',hw,vP⟩:=yf.some_of (v:=v) (o:=valueAt vs k) (by rw [l];exact ă.val k);exact wpAny_getItem_of (SX ry) dd.mapOf hw (h w' _ (I.tok _) vP)
 ·subst ey;cases (show u=Az b from ry);obtain⟨z,hd,xs,ă,dd⟩:=z9 I.bu e;obtain⟨w',hw,vP⟩:=yf.some_of (v:=v) (o:=(atKey xs k).map (·.2)) (by rw [l];exact ă.val k);obtain⟨p,hp,w4⟩:=Option.map_eq_some_iff.mp hw;refine wpAny_getItem_heap (tupleKind_room_in1 hu) (GO I.bu eb) dd hp ?_;rw [w4];exact h w' _ (I.tok _) vP
end
def Wx (i:gt):Prop:=∀ov iv,subscripted i false ov iv=operate [ov,iv] (Db ov iv)
def PB {Æ:gt}{id:String}
  (hl:FM (.type T) "__getitem__"=pure (am (.builtin id))) (hs:Wx Æ)
  (h:db (dL prog w) A (ii value env) (λo s₁=>db (dL prog w) A (ii Æ env) (λi s₂=>s₂.TypeIs o T/\db (dL prog w) A (Db o i) Q E s₂) E s₁) E s) :
  db (dL prog w) A (ii (.Subscript value Æ pos) env) Q E s:=by
 refine Subscript_ (BN h (λo s₁ h₁=>BN h₁ (λi s₂ h₂=>?_) λ_ _ x=>x) λ_ _ x=>x);obtain⟨hT,h₂⟩:=h₂;refine Aa ?_;refine Aa (EC hT hl ?_);have fin:db (dL prog w) A (subscripted Æ false o i) (λr s₃=>db (dL prog w) A (letTemporaryGo value o r >>= λ_=>pure r) Q E s₃) E s₂:=by
  rw [hs o i];exact wpAny_operating (BN h₂ (λr s₃ h₃=>Aa (wpAny_letTemporaryGo (Ae h₃))) λ_ _ x=>x)
 first
  | exact Ae (Aa fin)
  | exact Aa (Ae (Aa fin))
  | exact Aa fin
def Fv {o:Option V} (I:Inv X Z σ H s) (g:Sj H a y o):s.TypeIs (.ref a) "dict":=by
 rcases g with⟨kvs,k,e,_,_⟩ | ⟨kvs,k,b,e,_,_,_⟩
 ·obtain⟨_,_,vs,_,dd⟩:=Fl I.bu e;exact dd.typeIs
 ·obtain⟨_,_,xs,_,dd⟩:=z9 I.bu e;exact dd.typeIs
def XG (td ty:TE):TE:=λσ H Q=>td σ H λx H1=>ty σ H1 λy H2=>∃a v,x=.ref a/\Sj H2 a y (am v)/\Q v H2
section
variable {i:gt}{td ty:TE}
def Ql (hu:X.A.units+1 < ss) (ho:PE X o td) (hi:PE X i ty) (hs:Wx i):PE X (.Subscript o i pos) (XG td ty):=by
 intro Z s σ H Q I h;refine PB PySem.F.slot_dict_getitem.lookup hs (bR (ho Z s σ H _ I h) λu s1 ⟨x,H1,I1,rx,q1⟩=>bR (hi Z s1 σ H1 _ I1 q1) λiv s2 ⟨y,H2,I2,ry,a,v,ex,g,q2⟩=>?_);subst ex;obtain rfl:u=Az a:=rx;exact⟨Fv I2 g,KW hu I2 g ry λw' s3 I3 vP=>⟨v,H2,I3,vP,q2⟩⟩
end
structure M2 (X:Cx) (o:gt) (m:Str) (Ã:Pos) (e f:gt) (bo:Pos):Prop where
 base:lc o m X.env (ii o X.env)=ii o X.env
 few:((wv bo (f8 [e,f] X.env)).all (λx=>!x.1)&&(backToKw bo (keywordEach [] X.env)).all (λx=>x.1.isSome)
  && decide (([e,f]:List gt).length+([]:List Keyword).length+(if ([]:List Keyword).isEmpty then 0 else 1) < 30))=true
 line:(Ã.endLine==bo.line)=true
 trees:wv bo (f8 [e,f] X.env)=[(false,ii e X.env),(false,ii f X.env)]
def IsD (H:Hp) (a:ce):Prop:=(∃kvs,Rd H a (.dK kvs))\/∃kvs,Rd H a (.dT kvs)
end L2
variable {Ñ:List BB}{XP:(BB->Option A4)->Fd->Prop}{YP:PySem.World->Fd->Prop}{d:PySem.DefRec}
namespace Att
open PySem PySem.W PySem.Calls PyProof.Rows
def qf {P:Params}:∀(ns:List Int) (vs:List bn),WellAll P h vs (ns.map WData.int)->tt vs ns:=by
 intro ns
 induction ns with
 | nil=>
  intro vs w;cases w;exact .nil
 | cons n ns ih=>
  intro vs w;cases w with
  | cons a b=>
   cases a;exact .cons _ _ (ih _ b)
theorem J0 {l:OpenLaw} (hn:l.most=am n) {P:Params}{args:List WData}{Ü:List bn}
  (Ro:l.row.toRowW.claim.pre args=true) (Č:WellAll P h Ü args) :
  ∃a vs ns,Ü=[Az a]/\args=[WData.list (ns.map WData.int)]/\h.get? a=am {cls:=.type "list",data:=.seq vs.toArray}/\tt vs ns/\ns.length<=n:=by
 have hsh:=(pre_splitW Ro).1;have hc:l.pre.holds [] {args:=args}=true:=(pre_splitW Ro).2;obtain⟨d,r,rfl,h1,h2⟩:=hasAllW_cons hsh;obtain rfl:=hasAllW_nil h2;obtain⟨xs,rfl,h3⟩:=hasW_list h1;obtain⟨ns,rfl⟩:=items_int h3;have Á:ns.length<=n:=by
  unfold OpenLaw.pre at hc;have h4:(WTm.not (.lt (.lit (.int (n:Int))) (.len (.arg 0)))).holds [] {args:=[.list (ns.map .int)]}=true:=by
   have h4:=(holds_andW hc).1;rw [hn] at h4;exact h4
  have h5:=condW_of h4 (w_not (w_lt w_lit (w_len_list (w_arg rfl))));refine Nat.le_of_not_lt λq=>?_
  first
   | (rw [decide_eq_true q'] at h5;exact absurd h5 ⋯)
   | (simp at h5;omega)
 cases Č with
 | cons w1 w2=>
  cases w2;cases w1 with
  | list ho adi=>exact⟨_,_,ns,rfl,rfl,ho,qf ns _ adi,Á⟩
def J8 (l:OpenLaw) (args:List WData):l.row.toRowW.claim.post args (.bool true) args=true:=
 postW_of (r:=l.row.toRowW) (X:=(true==true))
  (show WShape.has [] (.bool true) .bool=true by first | rfl | decide | simp [WShape.has,WShape.arms,WShape.armsAll])
  (show (WTm.eq .res (.lit (.bool true))).value [] {args:=args,res:=am (.bool true),after:=args}=am (.bool (true==true)) from w_eq_bool (w_res rfl) w_lit) rfl
def FA {l:OpenLaw}{q:sK}
  (hn:l.most=am n) (Zg:d.params.defaults=[])
  (call:∀(w:ut) (s₀ s₁:ci) (mg mb:Str->Option bn) (fa:ce) (o:Obj) (pm cd È:bn) (a:ce) (vs:List bn) (ns:List Int),
   Ground q Ñ [] XP w s₀ mg mb s₁.heap->YP w s₁.heap->
   s₁.heap.get? fa=am o->o.data=.func (docDef d.name d.params d.body d.scope pm cd È)->s₁.heap.CodeRec cd d.name->mg d.name=am (.ref fa)->
   s₁.heap.get? a=am {cls:=.type "list",data:=.seq vs.toArray}->tt vs ns->ns.length<=n->s₁.gens=#[]->
   Ev (dL l.prog w) callerA (.call (.ref fa) ⟨[.ref a],[]⟩) (λr s'=>r=.ok (.ret (.bool true))/\OldK s₁.heap s'.heap/\s'.os=s₁.os/\FS s'.gens) s₁) :
  WalkO q Ñ XP YP l.row.toRowW d [] (λf vs=>Fs f vs):=by
 intro w s₀ s₁ mg mb G Y fa o pm cd È dV kV ho hd kr hD hmg hg args Ü as Ro aho hrd Č hlo;obtain rfl:dV=.none:=Dflts.none hD Zg;obtain rfl:kV=.none:=Dflts.noKw hD;obtain⟨a,vs,ns,rfl,rfl,VD,Õ,Á⟩:=J0 hn Ro Č;refine enter_call (codeAny_mono (call w s₀ s₁ mg mb fa o pm cd È a vs ns G Y ho (fd_plain hd) kr hmg VD Õ Á hg) λr s' hq=>?_);obtain⟨rfl,h2,h3,h4⟩:=hq;exact⟨.inl ⟨.bool true,.bool true,[],rfl,λ_=>rfl,.bool true,J8 l _,λ_=>⟨List.Pairwise.nil,λ_ hm=>(nomatch hm)⟩⟩,h2,h3,h4⟩
end Att
variable {sp:L2.Sp}
namespace L2
open PySem PySem.Spec PyProof.Rows
theorem oD:∀{vs:List bn}{ns:List Int},tt vs ns->Vals (ns.map V.int) vs
 | _,_,.nil=>.nil
 | _,_,.cons n t h=>.cons ⟨t,rfl⟩ (oD h)
def Sb (H:Hp):Prop:=∀b,H b=bm\/∃o xs,H b=am (.cI o (.lst xs))
def Nb {K:Ab}{mb:Str->Option bn}{CX:O1}{fa:ce}{s₁:ci}{vs:List bn}
  (KX:K.In s₁.heap) (FW:s₁.heap.Ns ev mg) (hb:s₁.heap.Ns builtinsNs mb) (hbb:∀x:Str,x≠"__name__"->mb x=im x) (ac0:s₁.heap.NoLimit) (hg:s₁.gens=#[])
  (ha:s₁.heap.get? a=am {cls:=.type "list",data:=.seq vs.toArray}) (hi:tt vs ns) (hl:ns.length<=sizeLine) (hr:cB k callerA)
  (F:∀base:kw,K.In base->base.Ns ev mg->gG P w K mg base CX k fa fd [x] sp) (Zj:∀(s:ci) (u:bn),BindsTo s fd ⟨[u],[]⟩ [(x,u)])
  (Rn:∀H:Hp,Sb H->dP K H a (ns.map V.int)->sp [.ref a] H (λv _=>v=.bl true) λ_ _ _=>False)
  (ġ:∀H e s',CX [] H s₁ (λ_ _ _=>False) e s'->False) :
  Ev (dL P w) callerA (.call (.ref fa) ⟨[.ref a],[]⟩) (λr s'=>r=.ok (.ret (.bool true))/\OldK s₁.heap s'.heap/\s'.os=s₁.os/\FS s'.gens) s₁:=by
 have rv:=oD hi;have ach:=hi.length;have Ø:∀H:Hp,Sb H->dP K H a (ns.map V.int)->lY P w H s₁.heap->(∀b,H b≠bm->b=a)->(H a≠bm->K.lookup a=bm)->
   Ev (dL P w) callerA (.call (.ref fa) ⟨[.ref a],[]⟩) (λr s'=>r=.ok (.ret (.bool true))/\OldK s₁.heap s'.heap/\s'.os=s₁.os/\FS s'.gens) s₁:=by
  intro H hO hS bu hA hK;have JE:∀{b:ce}{o:Obj},s₁.heap.get? b=am o->H b=bm->(w6 s₁.heap H).get? b=am o:=λe n=>NJ e n;have Yx:∀{b:ce}{o:Obj}{es:Array DictEntry}{ep:Nat},s₁.heap.get? b=am o->o.data=.dict es ep->H b=bm:=λ{b o es ep} e d=>by
   cases q:H b with
   | none=>rfl
   | some u=>
    have e':b=a:=hA b (by rw [q];simp);subst e';rw [ha] at e;cases e;have d':ET vs.toArray _=Data.dict es ep:=d;cases d'
  have ë:∀{b:ce}{m:Str->Option bn},s₁.heap.Ns b m->(w6 s₁.heap H).Ns b m:=λ{b m} ⟨o,es,ep,e,d,r⟩=>⟨o,es,ep,JE e (Yx e d),d,r⟩;have hKb:K.In (w6 s₁.heap H):=λb o e=>JE (KX b o e) (by
   cases q:H b with
   | none=>rfl
   | some u=>
    have e':b=a:=hA b (by rw [q];simp);subst e';rw [hK (by rw [q];simp)] at e;cases e)
  have hM:Mod K mg (w6 s₁.heap H):=⟨hKb,ë FW,⟨mb,ë hb,hbb⟩,let ⟨mc,h1,h2⟩:=ac0;⟨mc,ë h1,h2⟩⟩;have e0:Sf P w K mg (w6 s₁.heap H) callerA [] s₁ H:=⟨rfl,hM,λb o e=>QB e,Nat.le_of_eq (KA _ _),trivial,λb hb=>absurd (show b∈([]:List ce) from hb) (by simp),bu,.of_eq hg⟩;refine codeAny_mono ((F _ hKb (ë FW)).run callerA [] s₁ H ⟨[.ref a],[]⟩ [.ref a] [.ref a] _ _ hr e0 (Zj s₁ (.ref a)) (.cons rfl .nil) (Rn H hO hS)) λr s' h=>?_;cases r with
  | error e=>exact (ġ H e s' h).elim
  | ok fl=>
   cases fl with
   | next=>exact Bo h
   | brk=>exact Bo h
   | cont=>exact Bo h
   | ret u=>
    obtain⟨v,H',os,bare,un,acX,r',q⟩:=h;have q':v=.bl true:=q;subst q';obtain rfl:u=Fb true:=r';refine⟨rfl,OldK.of_keep λb o e=>?_,os,bare⟩;cases q:H b with
    | none=>exact un.keep b o e q (by intro z;exact absurd (show b∈([]:List ce) from z) (by simp)) (by simp)
    | some u=>
     rcases hO b with z | ⟨ob,xs,z⟩
     ·rw [q] at z;cases z
     ·have z2:=un.su b ob _ z;obtain⟨e1,_⟩:=bu b _ z;obtain⟨e2,_⟩:=acX b _ z2;rw [e] at e1;cases e1;exact e2
 cases hk:K.lookup a with
 | some o=>
  have e:=KX a o hk;rw [ha] at e;cases e;refine Ø (λ_=>bm) (λ_=>.inl rfl) (.inr ⟨_,vs.toArray,_,hk,rfl,rfl,rfl,by rw [Ah,ach];exact hl,by simpa using rv⟩) (λb u z=>by have z':(bm:Option HO)=am u:=z;cases z') (λb z=>absurd rfl z) λz=>absurd rfl z
 | none=>
  refine Ø (λb=>if b=a then am (.cI {cls:=.type "list",data:=.seq vs.toArray} (.lst (ns.map V.int))) else bm) (λb=>?_) (.inl (.inr ⟨{cls:=.type "list",data:=.seq vs.toArray},if_pos rfl⟩)) (λb u z=>?_) (λb z=>?_) λ_=>hk
  ·by_cases hb:b=a
   ·exact .inr ⟨_,_,if_pos hb⟩
   ·exact .inl (if_neg hb)
  ·by_cases hb:b=a
   ·have z':=(if_pos hb).symm.trans z;cases z';subst hb;exact⟨ha,by rw [Ai];exact hl,vs,_,rv,ha⟩
   ·have z':=(if_neg hb).symm.trans z;cases z'
  ·by_cases hb:b=a
   ·exact hb
   ·exact absurd (if_neg hb) z
def Pj {l:EB}{q:sK}{K:Params->Ab}{CX:ut->O1}{sp:ut->Sp}
  (hn:l.most=am n) (hn2:n<=sizeLine) (Zg:d.params.defaults=[]) (hr:cB k callerA)
  (hY:∀(w:ut) (h:kw),YP w h->(K w.params).In h)
  (F:∀(w:ut) (mg:Str->Option bn) (fa:ce) (h:kw),(K w.params).In h->h.Ns ev mg->mg d.name=am (.ref fa)->
   ∃fd:FB,(∀(s:ci) (u:bn),BindsTo s fd ⟨[u],[]⟩ [(x,u)])/\
    ∀base:kw,(K w.params).In base->base.Ns ev mg->gG l.prog w (K w.params) mg base (CX w) k fa fd [x] (sp w))
  (Rn:∀(w:ut) (H:Hp) (a:ce) (ns:List Int),ns.length<=n->Sb H->dP (K w.params) H a (ns.map V.int)->sp w [.ref a] H (λv _=>v=.bl true) λ_ _ _=>False)
  (ġ:∀(w:ut) (H:Hp) (s:ci) (e:bn) (s':ci),CX w [] H s (λ_ _ _=>False) e s'->False) :
  PySem.W.WalkO q Ñ XP YP l.row.toRowW d [] (λf vs=>Fs f vs):=by
 refine Att.FA hn Zg λw s₀ s₁ mg mb fa o pm cd È a vs ns G Y ho hd kr hmg VD Õ Á hg=>?_;have KX:=hY w _ Y;obtain⟨fd,hb,hF⟩:=F w mg fa _ KX G.T.g hmg;exact Nb KX G.T.g G.T.b G.T.builtins G.T.nolimit hg VD Õ (Bw Á hn2) hr hF hb (λH hO hS=>Rn w H a ns Á hO hS) λH e s'=>ġ w H s₁ e s'
end L2
variable {B:Prop}
namespace L2
open PySem PySem.Spec PyProof.Rows
def fB (s:ul):Arguments:=match s with
 | .FunctionDef _ a _ _ _ _ _ _ _ _=>a
 | _=>{posonlyargs:=[],args:=[],vararg:=bm,kwonlyargs:=[],kw_defaults:=[],kwarg:=bm,defaults:=[]}
def aV (s:ul):List ul:=match s with
 | .FunctionDef _ _ b _ _ _ _ _ _ _=>b
 | _=>[]
def af (s:ul):r9:=match s with
 | .FunctionDef _ _ _ _ _ _ sc _ _ _=>sc
 | _=>{kind:=.function,names:=[],isGenerator:=false,isCoroutine:=false}
abbrev lj:O1:=λ_ _ _ _ _ _=>False
abbrev E0:XK:=λ_ _ _=>False
def Yl:Passes lj X E0:=λ_ _ _ _ _ _ _ h=>h.elim
structure Pc (K:Ab) (x qual:Str) (st:ul) (f:ce) (fd:FB):Prop where
 ex:∃(oc:bn) (od:Option ce) (kV È pm:bn) (an:Option ce) (bO ct:bn) (O5:Array (Option bn)),
  fd=B1 x qual (fB st) (aV st) (af st) .none kV È pm an bO ct/\K.lookup f=am ⟨oc,od,.func fd,O5⟩/\DN K bO qual=true
 kp:DM K (.ref f)=true
section
variable {K:Ab}
def Pc.ok {st:ul}{f:ce}{N:List Str} (F:Pc K x qual st f fd) (S:aq N ps (af st)) (len:∀vs H Q E,sp vs H Q E->vs.length=ps.length)
  (NN:∀(bO:bn) (A:nn) (outer:List Env) (s:ci) (H:Hp) (vs:List V) (Q:VK) (E:XK),cB k (A.deeper (pc qual (af st) s.heap.objs.size f bO))->sp vs H Q E->
   ∃t,qN (gD lj P w K mg base N qual (af st) f bO A outer s H E).uJ (aV st) t/\t {nx:=λ_ H'=>Q .aD H',rt:=Q} (start N vs) H):gG P w K mg base lj (k+1) f fd ps sp:=by
 obtain⟨oc,od,kV,È,pm,an,bO,ct,O5,rfl,lk,kr⟩:=F.ex;refine ZC lk kr S len λA outer s H vs Q E hr Rn=>?_;obtain⟨t,h,q⟩:=NN bO A outer s H vs Q E hr Rn;exact⟨t,h.uJ,q⟩
def Pc.binds {st:ul}{f:ce} (F:Pc K x qual st f fd)
  (h:∀(kV È pm:bn) (an:Option ce) (bO ct:bn) (us:List bn),us.length=ps.length->bindArgs (B1 x qual (fB st) (aV st) (af st) .none kV È pm an bO ct) ⟨us,[]⟩=pure (ps.zip us)):Binds K fd ps []:=by
 obtain⟨oc,od,kV,È,pm,an,bO,ct,O5,rfl,lk,kr⟩:=F.ex;exact .all (h kV È pm an bO ct)
def VQ {st:ul}{f:ce}{kV:bn} (l:K.lookup f=am ⟨oc,od,.func (B1 x qual (fB st) (aV st) (af st) .none kV È pm an bO ct),O5⟩)
  (c:DN K bO qual=true) (k:DM K (.ref f)=true):Pc K x qual st f (B1 x qual (fB st) (aV st) (af st) .none kV È pm an bO ct):=⟨⟨oc,od,kV,È,pm,an,bO,ct,O5,rfl,l,c⟩,k⟩
end
def JY (h:n<=1000):n < sizeLine:=Nat.lt_of_le_of_lt h ⋯
def wV {A:Prop} (h:B):if false=true then A else B:=by
 exact h
def wU {A:Prop} (h:A):if true=true then A else B:=by
 exact h
def kG (H H':Hp):Prop:=∀b o,H b=am o->H' b=am o
def kG.refl (H:Hp):kG H H:=λ_ _ h=>h
end L2
variable {a b:Nat}{H2:L2.Hp}{R:PySem.Result->DH->Prop}{Xs:PySem.Scope}{N':List BB}{ix:List (Option Nat)}{Ç:B7}{Ë:List B7}{tF:B9}
namespace L2
open PySem PySem.Spec PyProof.Rows
def lsz {o:Obj} (e:h.get? b=am o):b < h.objs.size:=Ao e
def neN (h:a≠b):a≠b:=h
def ltN (h:a < b):a < b:=h
def Tu {c:Nat}{v:Option bn} (q:h.IsCell c v):c < h.objs.size:=q.lt
structure aA (Xs:r9) (N:List Str) (sc:r9) (N':List Str) (ix:List (Option Nat)):Prop where
 kind:sc.kind=.function
 nc:∀y∈sc.names,y.2≠.cell
 loc:∀y∈sc.names,y.2=.local->sc.names.lookup y.1=am .local
 fr:∀y∈sc.names,y.2=.free->(Xs.names.lookup y.1=am .cell\/Xs.names.lookup y.1=am .free)
 nd:N'.Nodup
 len:ix.length=N'.length
 map:((ix.zip N').all λp=>match p.1 with | none=>true | some j=>decide (N[j]?=am p.2)&&decide (sc.names.lookup p.2=am .free))=true
def aA.at {N:List Str} (S:aA Xs N sc N' ix) {i:Nat} (h1:ix[i]?=am (am j)) (h2:N'[i]?=am x) :
  N[j]?=am x/\sc.names.lookup x=am .free:=by
 have hm:((am j,x):Option Nat×Str)∈ix.zip N':=by
  refine Bt (i:=i) ?_;rw [List.getElem?_zip_eq_some];exact⟨h1,h2⟩
 have q:=CJ.mp S.map _ hm;simp only [AE,decide_eq_true_eq] at q;exact q
def n6 (ix:List (Option Nat)) (σ:St):St:=ix.map λo=>match o with | some j=>(σ[j]?).getD bm | none=>bm
def gU (X:Cx) (sc:r9) (N':List Str) (cl:List (Str×ce)) (C:ce) (s2:ci) (H2:Hp) (fp:List ce):Cx where
 prog:=X.prog
 w:=X.w
 K:=X.K
 mg:=X.mg
 base:=X.base
 A:=X.A
 N:=N'
 s₀:=s2
 H₀:=H2
 env:=compEnvC sc cl C X.env
 outer:=X.stack
 stack:=X.stack
 ex:=fp
 calm:=X.calm
 fn:=λ_=>false
 pn:=[]
 xe:=λ_ _=>False
theorem mC:∀(names:List (Str×wP)) (cs:List (Str×ce)),(∀y∈names,y.2=.free->∃c,env.cells.lookup y.1=am c)->
  ∃cl,(forIn names cs λ(x:Str×wP) (c:List (Str×ce))=>(match x with | (name,kind)=>do
    let c <- if (kind==Ba)=true then do let a <- cellOf env name;pure ((name,a)::c) else pure c
    pure (Cg c):Sem (ForInStep (List (Str×ce)))))=pure cl/\(∀x c,cl.lookup x=am c->cs.lookup x=am c\/(env.cells.lookup x=am c/\(x,Ba)∈names))/\(∀x,((x,Ba)∈names\/(∃c,cs.lookup x=am c))->∃c,cl.lookup x=am c)
 | [],cs,_=>⟨cs,rfl,λ_ _ h=>.inl h,λx h=>h.elim (λz=>nomatch z) λz=>z⟩
 | (n,k)::r,cs,h=>by
  by_cases hk:k=.free
  ·subst hk;obtain⟨c,hc⟩:=h (n,.free) Bu rfl;obtain⟨cl,e,h1,h2⟩:=mC r ((n,c)::cs) λy hy=>h y (AU _ hy);refine⟨cl,?_,λx d hd=>?_,λx hx=>?_⟩
   ·rw [BS,<- e];simp only [beq_self_eq_true,if_true,cellOf,hc,pure_bind]
   ·rcases h1 x d hd with z | ⟨z1,z2⟩
    ·rw [Bh] at z;by_cases hx:(x==n)=true
     ·rw [hx] at z;have uX:x=n:=eq_of_beq hx;subst uX;cases z;exact .inr ⟨hc,Bu⟩
     ·have uX:(x==n)=false:=by simpa using hx
      rw [uX] at z;exact .inl z
    ·exact .inr ⟨z1,AU _ z2⟩
   ·refine h2 x ?_;rcases hx with hx | ⟨d,hd⟩
    ·rcases Aw.mp hx with z | z
     ·injection z with z1 _;subst z1;exact .inr ⟨c,by rw [Bh];simp⟩
     ·exact .inl z
    ·by_cases hx:(x==n)=true
     ·exact .inr ⟨c,by rw [Bh,hx]⟩
     ·have uX:(x==n)=false:=by simpa using hx
      exact .inr ⟨d,by rw [Bh,uX];exact hd⟩
  ·obtain⟨cl,e,h1,h2⟩:=mC r cs λy hy=>h y (AU _ hy);refine⟨cl,?_,λx d hd=>?_,λx hx=>?_⟩
   ·have hb:(k==Ba)=false:=by simpa using hk
    rw [BS,<- e];simp only [hb,Aq,if_false,pure_bind]
   ·rcases h1 x d hd with z | ⟨z1,z2⟩
    ·exact .inl z
    ·exact .inr ⟨z1,AU _ z2⟩
   ·refine h2 x ?_;rcases hx with hx | hx
    ·rcases Aw.mp hx with z | z
     ·injection z with _ z2;exact absurd z2.symm hk
     ·exact .inl z
    ·exact .inr hx
def lT (h:∀y∈sc.names,y.2=.free->∃c,env.cells.lookup y.1=am c) :
  ∃cl,closureFor sc env=pure cl/\(∀x c,cl.lookup x=am c->env.cells.lookup x=am c/\(x,Ba)∈sc.names)/\(∀x,(x,Ba)∈sc.names->∃c,cl.lookup x=am c):=by
 obtain⟨cl,e,h1,h2⟩:=mC (env:=env) sc.names [] h;refine⟨cl,?_,λx c hc=>(h1 x c hc).resolve_left (λz=>nomatch z),λx hx=>h2 x (.inl hx)⟩;unfold closureFor;have e':(forIn sc.names ([]:List (Str×ce)) λx r=>(match x with | (name,kind)=>if (kind==Ba)=true then do let a <- cellOf env name;pure (Cg ((name,a)::r)) else pure (Cg r):Sem (ForInStep (List (Str×ce)))))=pure cl:=by
  rw [<- e]
  first
   | rfl
   | (
     congr 1;funext x r;obtain⟨n,k⟩:=x;by_cases hk:(k==Ba)=true
     ·simp only [hk,if_true,pure_bind]
     ·simp only [hk,if_false,pure_bind,Aq])
   | simp only [pure_bind]
 simpa using e'
theorem gj {env:Env}:∀{names:List (Str×wP)}{x:Str},
  (names.map λ(n,k)=>if (k==Ba&&env.scope.kind==.function&&env.kindOf n==am .cell) then (n,E7) else (n,k)).lookup x =
   (names.lookup x).map λk=>if (k==Ba&&env.scope.kind==.function&&env.kindOf x==am .cell) then E7 else k
 | [],_=>rfl
 | (n,k)::r,x=>by
  have ih:=@gj env r x;show List.lookup x ((if (k==Ba&&env.scope.kind==.function&&env.kindOf n==am .cell)=true then (n,E7) else (n,k))::_)=_;cases hx:x==n with
  | true=>
   have e:=eq_of_beq hx;subst e;by_cases hc:(k==Ba&&env.scope.kind==.function&&env.kindOf x==am .cell)=true
   ·rw [if_pos hc,Bh,Bh,hx];simp only [Cf,hc,if_true]
   ·rw [if_neg hc,Bh,Bh,hx];simp only [Cf,hc,if_false];simp
  | false=>
   by_cases hc:(k==Ba&&env.scope.kind==.function&&env.kindOf n==am .cell)=true
   ·rw [if_pos hc,Bh,Bh,hx];exact ih
   ·rw [if_neg hc,Bh,Bh,hx];exact ih
def Xb (X:Cx) (Ë:List gt) (t:TT):Prop:=
 ∀(Z:List (ce×Obj)) (s:ci) (σ:St) (H:Hp) (Q:Bool->Hp->Prop),Inv X Z σ H s->t σ H Q->
  db (dL X.prog X.w) X.A (forIn Ë true λc r=>if r=true then do let ok <- isTrue c X.env (ii c X.env);pure (Cg ok) else pure (Cg r)) (TP X Z σ Q) X.xe s
def abP:TT:=λ_ H Q=>Q true H
def Qg:Xb X [] abP:=λZ s σ H Q I h=>by
 exact Ae ⟨H,I,h⟩
def Qf {c:gt}{t:TT} (hc:PT X c t):Xb X [c] t:=λZ s σ H Q I h=>by
 rw [BS];simp only [if_true,bind_assoc,pure_bind];refine Aa (bR (hc Z s σ H Q I h) λb s1 q=>?_);exact Ae q
def tLc (ix:List (Option Nat)) (wi:TI) (g:TG) (tf:TT) (te:TE):TE:=λσ H Q=>wi σ H λJ H1=>∀D,H1 D=bm->∃W:Nat->Nat->St->List V->Hp->Prop,
 (∃m,W 0 m (n6 ix σ) [] (upd H1 D (.lst [])))/\∀i m σ' ys H,W i m σ' ys H->H D=am (.lst ys)/\
  ((J.stop i H/\Q (.ref D) H)\/(J.go i H/\∀x H',J.Sm i H x H'->g x σ' H' λσ2 H2=>tf σ2 H2 λb H3=>
   if b=true then te σ2 H3 λy H4=>H4 D=am (.lst ys)/\ys.length+1<=sizeLine/\∃m',m' < m/\W (i+1) m' σ2 (ys++[y]) (upd H4 D (.lst (ys++[y]))) else ∃m',m' < m/\W (i+1) m' σ2 ys H3))
def lB {É:gt}{it Ä:bn} (I:Nat->ci->Prop)
  (turn:∀n s,I n s->db (dL prog w) A (pyNext it) (λr s₁=>match r with
   | none=>R (.ok .next) s₁
   | some v=>db (dL prog w) A (Gc É it v) (λ_ Ss=>db (dL prog w) A (Fk É env v) (λ_ s₂=>
     db (dL prog w) A (forIn Ë true λc r=>if r=true then do let ok <- isTrue c env (ii c env);pure (Cg ok) else pure (Cg r)) (λok s₃=>
      if ok=true then db (dL prog w) A (ii Ç env) (λx s₄=>
       db (dL prog w) A (call (.builtin "list.append") [Ä,x]) (λ_ s₅=>∃m,m < n/\I m s₅) (λ_ _=>False) s₄) (λ_ _=>False) s₃
      else ∃m,m < n/\I m s₃) (λ_ _=>False) s₂) (λ_ _=>False) Ss) (λ_ _=>False) s₁) (λ_ _=>False) s)
  (n:Nat) (h:I n s) :
  Ev (dL prog w) A (.compLoop (.ListComp Ç [⟨É,iter,Ë,0⟩] scope pos) 0 it Ä env) R s:=by
 refine codeAny_loop rfl I (λn s hI=>?_) n h;refine wpAny_noted ?_;rw [compTurn_list];refine Aa (Eb (Aa (BN (turn n s hI) (λr s₁ h₁=>?_) λ_ _ h'=>h'.elim)));cases r with
 | none=>exact Ae h₁
 | some v=>
  refine Aa (BN h₁ (λ_ Ss YX=>?_) λ_ _ h'=>h'.elim);refine Aa (BN YX (λ_ s₂ h₂=>Aa (BN h₂ (λok s₃ h₃=>?_) λ_ _ h'=>h'.elim)) λ_ _ h'=>h'.elim);cases ok with
  | false=>exact Ae ⟨rfl,h₃⟩
  | true=>
   have YW:db (dL prog w) A (ii Ç env) (λx s₄=>
       db (dL prog w) A (call (.builtin "list.append") [Ä,x]) (λ_ s₅=>∃m,m < n/\I m s₅) (λ_ _=>False) s₄) (λ_ _=>False) s₃:=h₃
   exact Aa (Aa (BN YW (λx s₄ h₄=>Aa (BN h₄ (λ_ s₅ h₅=>Ae (Ae ⟨rfl,h₅⟩)) λ_ _ h'=>h'.elim)) λ_ _ h'=>h'.elim))
section
variable {wi:TI}{g:TG}{tf:TT}
structure aaa (X:Cx) (Z:List (ce×Obj)) (H:Hp) (C:ce):Prop where
 hn:H C=bm
 hL:C≠X.env.locals
 ab:X.s₀.heap.objs.size<=C
 cl:∀x c,X.env.cells.lookup x=am c->c≠C
 pn:∀p∈X.pn++Z,p.1≠C
theorem Ja (hc:X.calm=true) (S:aA X.env.scope X.N sc N' ix)
  (hg:∀cl C s2 H2 fp,PG (gU X sc N' cl C s2 H2 fp) tg g) (hf:∀cl C s2 H2 fp,Xb (gU X sc N' cl C s2 H2 fp) Ë tf) (he:∀cl C s2 H2 fp,PE (gU X sc N' cl C s2 H2 fp) Ç te) {s2:ci}{cl:List (Str×ce)} (sf:∀x c,cl.lookup x=am c->X.env.cells.lookup x=am c/\(x,Ba)∈sc.names) (KC:∀x,(x,Ba)∈sc.names->∃c,cl.lookup x=am c) {tn:Nat->kw->Prop}{J:It}{Q:VK} (I2:Inv X Z σ H2 s2) (T:Turn X.prog X.w X.K tg J fp it tn) (JW:tn 0 s2.heap) (f2:∀b∈fp,ux X Z H2 b)
  (hW:∀D,H2 D=bm->∃W:Nat->Nat->St->List V->Hp->Prop,
   (∃m,W 0 m (n6 ix σ) [] (upd H2 D (.lst [])))/\∀i m σ' ys H,W i m σ' ys H->H D=am (.lst ys)/\
    ((J.stop i H/\Q (.ref D) H)\/(J.go i H/\∀x H',J.Sm i H x H'->g x σ' H' λσ2 H2=>tf σ2 H2 λb H3=>
     if b=true then te σ2 H3 λy H4=>H4 D=am (.lst ys)/\ys.length+1<=sizeLine/\∃m',m' < m/\W (i+1) m' σ2 (ys++[y]) (upd H4 D (.lst (ys++[y]))) else ∃m',m' < m/\W (i+1) m' σ2 ys H3)))
  {RR:bn->ce->Result->ci->Prop}{E:bn->ci->Prop}
  (hRR:∀D C m s' H',Inv X Z σ H' s'->Q (.ref D) H'->s'.heap.Ns C m->aaa X Z H' C->RR (.ref D) C (.ok .next) s') :
  db (dL X.prog X.w) X.A (newList []) (λÄ s₃=>db (dL X.prog X.w) X.A (newFunctionEnv sc X.env.globals cl [] X.env.qual bm .none (am X.env)) (λZY s₄=>
   Ev (dL X.prog X.w) X.A (.compStart (.ListComp Ç [⟨tg,iter,Ë,0⟩] sc pos) 0 (.ref it) Ä {ZY with scope:=relabel sc X.env}) (RR Ä ZY.locals) s₄) E s₃) E s2:=by
 refine AJ (wpAny_newFunctionEnv S.nc (by intro y hy;simp at hy) (λh₁ G5 wZ=>?_) S.kind);generalize hH2:s2.heap.push {cls:=.type "list",dict:=bm,data:=.seq ([]:List bn).toArray}=G2 at G5 wZ ⊢;have hC:G2.objs.size=s2.heap.objs.size+1:=by rw [<- hH2,Cp]
 obtain⟨D,hD⟩:∃D:Nat,s2.heap.objs.size=D:=⟨_,rfl⟩;obtain⟨C,hCC⟩:∃C:Nat,G2.objs.size=C:=⟨_,rfl⟩;simp only [hD,hCC] at G5 wZ hC ⊢;have hDC:D≠C:=by omega
 have Ê:∀b o,s2.heap.get? b=am o->h₁.get? b=am o:=λb o e=>by
  have hb:=lsz e;exact wZ.extBut b o (neN ∅) (Ag _ (hH2▸Ag _ e))
 have Zl:h₁.get? D=am {cls:=.type "list",data:=.seq ([]:List bn).toArray}:=by
  refine wZ.extBut D _ hDC (Ag _ ?_);rw [<- hH2,<- hD];exact Ap _ rfl
 have hD2:H2 D=bm:=I2.bu.fresh ∅;have hC2:H2 C=bm:=I2.bu.fresh ∅;obtain⟨W,⟨m0,w0⟩,turn⟩:=hW D hD2;have Tt:∀x c,cl.lookup x=am c->∃v,s2.heap.IsCell c v:=λx c e=>I2.cell x c (sf x c e).1;have adK:∀x c,cl.lookup x=am c->c < D:=λx c e=>by
  obtain⟨v,q⟩:=Tt x c e;have:=Tu q;exact ltN ∅
 have ĥ:∀b∈fp,b < D:=λb hb=>by
  obtain⟨o,e,_⟩:=T.obj 0 _ JW b hb;have:=lsz e;exact ltN ∅
 have Yok:(gU X sc N' cl C s2 H2 fp).Ok:=by
  refine⟨I2.ok.mod,S.kind,I2.ok.glob,I2.ok.blt,?_,?_,?_,?_,I2.ok.hd,I2.ok.frames,.inl rfl,?_,I2.bs,?_,?_,?_,I2.stack,I2.Im⟩
  ·show s2.heap.objs.size<=C;omega
  ·intro x y c e1 e2;exact I2.ok.inj x y c (sf x c e1).1 (sf y c e2).1
  ·intro x hx;have uX:(relabel sc X.env).names.lookup x=am .cell\/(relabel sc X.env).names.lookup x=am .free:=hx;unfold relabel at uX;rw [gj] at uX;cases q:sc.names.lookup x with
   | none=>rw [q] at uX;simp at uX
   | some k=>
    have hm:=BO q;by_cases hk:k=.free
    ·subst hk;exact KC x hm
    ·have VF:k≠.cell:=S.nc _ hm;rw [q] at uX;have hb:(k==Ba)=false:=by simpa using hk
     simp only [Cf,hb,E1,Aq,if_false] at uX;rcases uX with z | z
     ·exact absurd (Option.some.inj z) VF
     ·exact absurd (Option.some.inj z) hk
  ·intro x c Zf;exact absurd Zf A5
  ·intro b hb;refine⟨?_,λx c e z=>(f2 b hb).2.2.2.2.1 x c (sf x c e).1 z⟩;show b≠C;have:=ltN (ĥ b hb);exact neN ∅
  ·exact Bw I2.ok.Tv I2.sz
  ·intro b o e hb;rcases (f2 b hb).2.2.2.1 with z | z
   ·exact I2.ok.MR b o e z
   ·have h1:=lsz (h:=X.base) e;have h2:=I2.ok.Tv;omega
  ·intro b hb z;rcases Aw.mp (I2.F9 b z) with q | q
   ·exact (f2 b hb).2.1 q
   ·exact (f2 b hb).2.2.1 q
 have un0:Un (Lo X.stack) fp H2 (upd H2 D (.lst [])) s2.heap h₁:=Un.laid Ê ∅ hD2;have acW:lY X.prog X.w (upd H2 D (.lst [])) h₁:=I2.bu.laid Ê ∅ ⟨Bg _,[],0,.nil,Zl⟩;have IY:∀tk,Inv (gU X sc N' cl C s2 H2 fp) [] (n6 ix σ) (upd H2 D (.lst [])) {s2 with heap:=h₁,toks:=tk}:=λtk=>by
  refine⟨Yok,rfl,I2.bare,un0,⟨_,G5,λi x v e1 e2 e3=>?_⟩,λx c e=>?_,?_,λx c e=>?_,λp hp=>absurd (show p∈([]:List (ce×Obj)) from hp) (by simp),acW,?_⟩
  ·have xJ:N'[i]?=am x:=e1;unfold n6 at e2;rw [Aj] at e2;cases q:ix[i]? with
   | none=>rw [q] at e2;cases e2
   | some o=>
    cases o with
    | none=>rw [q] at e2;cases e2
    | some j=>
     rw [q] at e2;have ü:(σ[j]?).getD bm=am v:=Option.some.inj e2;have e4:σ[j]?=am (am v):=by
      cases z:σ[j]? with
      | none=>rw [z] at ü;cases ü
      | some y=>rw [z] at ü;exact congrArg am ü
     obtain⟨a1,a2⟩:=S.at q xJ;have Y6:=BO a2;have hk:=S.fr _ Y6 rfl;obtain⟨m,_,hl⟩:=I2.loc;obtain⟨u,r,l⟩:=hl j x v a1 e4 (.inr hk);refine⟨u,r,.inr ⟨?_,?_⟩⟩
     ·show (relabel sc X.env).names.lookup x=am .cell\/(relabel sc X.env).names.lookup x=am .free;unfold relabel;rw [gj,a2];by_cases hb:(X.env.scope.kind==.function&&X.env.kindOf x==am .cell)=true
      ·left
       simp only [Cf,beq_self_eq_true,E8,hb,if_true]
      ·right
       simp only [Cf,beq_self_eq_true,E8,hb,if_false,Aq]
     ·obtain⟨c,hcx⟩:=KC x Y6;have hcX:=(sf x c hcx).1;refine⟨c,hcx,?_⟩;rcases l with⟨k,_⟩ | ⟨k,c',e',z⟩
      ·have k':X.env.scope.names.lookup x=am .local:=k;rcases hk with y | y <;> rw [k'] at y <;> cases y
      ·rw [hcX] at e';cases e';obtain⟨o,ho,hd⟩:=z;exact⟨o,Ê _ _ ho,hd⟩
  ·obtain⟨v,o,ho,hd⟩:=Tt x c e;exact⟨v,o,Ê _ _ ho,hd⟩
  ·show upd H2 D (.lst []) C=bm;rw [aw (BE hDC)];exact hC2
  ·have ig:=ltN (adK x c e);show upd H2 D (.lst []) c=bm;rw [aw (neN ∅)];exact I2.jP x c (sf x c e).1
  ·unfold n6;rw [Ai];exact S.len
 have Ĥ:∀{yV:List (ce×Obj)}{H':Hp},(∀b∈fp,H' b=bm)->(∀p∈yV,p.1∉fp)->∀b∈fp,ux (gU X sc N' cl C s2 H2 fp) yV H' b:=λhn hp b hb=>by
  refine⟨hn b hb,?_,?_,.inl hb,λx c e z=>(f2 b hb).2.2.2.2.1 x c (sf x c e).1 z,λp Ĕ z=>?_⟩
  ·show b≠C;have:=ltN (ĥ b hb);exact neN ∅
  ·exact Yok.N9 b hb
  ·have acO:p∈([]:List (ce×Obj))++_:=Ĕ;exact hp p acO (z▸hb)
 have ã:∀s₃:ci,s₃={s2 with heap:=h₁,toks:=s2.toks+([]:List (Str×bn)).length}->
   Ev (dL X.prog X.w) X.A (.compLoop (.ListComp Ç [⟨tg,iter,Ë,0⟩] sc pos) 0 (.ref it) (.ref D) (compEnvC sc cl C X.env)) (RR (.ref D) C) s₃:=by
  rintro s₃ rfl;refine lB (λn s'=>∃i σ' ys H',Inv (gU X sc N' cl C s2 H2 fp) [] σ' H' s'/\tn i s'.heap/\(∀b∈fp,H' b=bm)/\W i n σ' ys H') ?_ m0
   ⟨0,_,[],_,IY _,T.keep _ _ _ JW (λb _ o e=>Ê b o e),λb hb=>by rw [aw (AB (ĥ b hb))];exact (f2 b hb).1,w0⟩
  rintro n s3 ⟨i,σ3,ys,H3,I3,XR,Zx,w3⟩;obtain⟨hDl,w3⟩:=turn i n σ3 ys H3 w3;rcases w3 with⟨stop,qn⟩ | ⟨go,step⟩
  ·refine bR (T.done (gU X sc N' cl C s2 H2 fp) rfl rfl rfl hc i [] s3 σ3 H3 _ I3 (Ĥ Zx (by simp)) XR stop) λr s4 ⟨hr,I4⟩=>?_;subst hr;obtain⟨m,hn,_⟩:=I4.loc;refine hRR D C m s4 H3 (I2.ZZ (ch:=fp) I4.os I4.base I4.bu I4.bare λb hb=>?_) qn hn ?_
   ·obtain⟨a0,a1,a2,a3,a4,a5⟩:=f2 b hb;exact⟨a3,a1,a4,a5⟩
   ·refine⟨I4.free,?_,?_,λx c e z=>?_,λp hp z=>?_⟩
    ·have:=ltN I2.lt;exact neN ∅
    ·have:=I2.sz;omega
    ·obtain⟨v,q⟩:=I2.cell x c e;have:=Tu q;exact neN (a:=c) (b:=C) ∅ z
    ·have:=lsz (I2.pin p hp).1;exact neN (a:=p.1) (b:=C) ∅ z
  ·refine bR (T.item (gU X sc N' cl C s2 H2 fp) rfl rfl rfl hc i [] s3 σ3 H3 (λ_ _=>False) I3 (Ĥ Zx (by simp)) XR go) λr s4 ⟨u,hr,h4⟩=>?_;subst hr;refine bR h4 λ_ s5 ⟨x,H5,I5,r5,y5,Ug,ģ⟩=>?_;have Ħ:=I5.pinned (Ĥ ģ (by simp)) (T.obj _ _ Ug);refine bR (hg _ _ _ _ _ _ s5 σ3 H5 x u _ Ħ r5 (step x H5 y5)) λ_ s6 ⟨σ6,H6,I6,q6⟩=>?_;refine bR (hf _ _ _ _ _ _ s6 σ6 H6 _ I6 q6) λb s7 ⟨H7,I7,q7⟩=>?_;have Ng:∀{s8:ci}{σ8:St}{H8:Hp},Inv (gU X sc N' cl C s2 H2 fp) ([]++oU fp s5.heap) σ8 H8 s8->tn (i+1) s8.heap/\∀b∈fp,H8 b=bm:=λ{s8 σ8 H8} I8=>by
    refine⟨T.keep _ _ _ Ug λb hb o e=>(I8.pin (b,o) (Ay _ (Ay _ (jc hb e)))).1,λb hb=>?_⟩;obtain⟨o,e,d⟩:=T.obj _ _ Ug b hb;exact (I8.pin (b,o) (Ay _ (Ay _ (jc hb e)))).2.1
   cases b with
   | false=>
    have q7':=q7;obtain⟨m',hm,w7⟩:=q7';obtain⟨t7,fr7⟩:=Ng I7;exact⟨m',hm,i+1,σ6,ys,H7,I7.jY,t7,fr7,w7⟩
   | true=>
    refine bR (he _ _ _ _ _ _ s7 σ6 H7 _ I7 q7) λyv s8 ⟨y,H8,I8,r8,hD8,hz8,m',hm,w8⟩=>?_;obtain⟨z,ak,k,rv,hl8,e8⟩:=I8.qb hD8;obtain⟨t8,fr8⟩:=Ng I8;refine wpAny_list_append_plain (s:=s8) (items:=ak.toArray) (hsz:=by rw [Ah];omega) ⟨_,e8⟩ λh9 hl9 hs9=>?_;obtain⟨k9,e9⟩:=hl9;have hv9:=Vals.append rv (.cons r8 .nil);have I9:Inv (gU X sc N' cl C s2 H2 fp) ([]++oU fp s5.heap) σ6 (upd H8 D (.lst (ys++[y]))) {s8 with heap:=h9,toks:=s8.toks}:=by
     refine I8.write (x:=D) (e:=D) (by rw [hD8];exact trivial) (.inl rfl) (λb u hb hu=>(hs9.2 b hb).trans hu) ⟨_,e9⟩ ?_;refine⟨by rw [Ak,EM];exact hz8,ak++[yv],k9,hv9,?_⟩;rw [e9];simp
    obtain⟨t9,fr9⟩:=Ng I9;exact⟨m',hm,i+1,σ6,_,_,I9.jY,t9,fr9,w8⟩
 exact codeAny_compStart_list (ã _ rfl) (T.self _ 0 _ _ _ (T.keep _ _ _ JW λb _ o e=>Ê b o e) (ã _ rfl))
def Yi (hc:X.calm=true) (S:aA X.env.scope X.N sc N' ix) (hi:PI X tg iter wi)
  (hg:∀cl C s2 H2 fp,PG (gU X sc N' cl C s2 H2 fp) tg g) (hf:∀cl C s2 H2 fp,Xb (gU X sc N' cl C s2 H2 fp) Ë tf) (he:∀cl C s2 H2 fp,PE (gU X sc N' cl C s2 H2 fp) Ç te)
  (hs:yr X iter:=by intro _;rfl):PE X (.ListComp Ç [⟨tg,iter,Ë,0⟩] sc pos) (tLc ix wi g tf te):=by
 intro Z s σ H Q I h;have G6:∀y∈sc.names,y.2=.free->∃c,X.env.cells.lookup y.1=am c:=λy hy hk=>I.ok.has y.1 (S.fr y hy hk);obtain⟨cl,NL,sf,KC⟩:=lT G6;refine Ed (use:=bm) rfl hs NL S.kind S.loc (bR (hi Z s σ H _ I h) λv s1 h1=>bR h1 λï s2 h2=>?_);obtain⟨it,fp,tn,J,H2,rfl,I2,T,JW,f2,hW⟩:=h2;refine Ja (RR:=λÄ C=>compPost (dL X.prog X.w) X.A X.xe bm (EP X Z σ Q) Ä C) hc S hg hf he sf KC I2 T JW f2 hW λD C m s' H' I' q hn F=>?_;refine⟨m,hn,λh' ē=>⟨.ref D,H',?_,rfl,q⟩⟩;exact I'.turned (it:=C) (t':=s'.toks) (λb o hb e=>(ē.2 b hb).trans e) F.hn F.hL (.inr F.ab) F.cl F.pn
def Mn {i:Nat} (hc:X.calm=true) (hN:X.N.Nodup) (NK:X.N[i]?=am x) (hx:X.env.scope.names.lookup x=am .local) (S:aA X.env.scope X.N sc N' ix) (hi:PI X tg iter wi)
  (hg:∀cl C s2 H2 fp,PG (gU X sc N' cl C s2 H2 fp) tg g) (hf:∀cl C s2 H2 fp,Xb (gU X sc N' cl C s2 H2 fp) Ë tf) (he:∀cl C s2 H2 fp,PE (gU X sc N' cl C s2 H2 fp) Ç te)
  (wY:mo (.ListComp Ç [⟨tg,iter,Ë,0⟩] sc pos) (am (.Name x px)) tF.line X.env=pure true:=by rfl)
  (hs:yr X iter:=by intro _;rfl):PS X (.Assign [.Name x px] (.ListComp Ç [⟨tg,iter,Ë,0⟩] sc pos) tF) (Ua (tLc ix wi g tf te) (gN i)):=by
 intro Z s σ H D0 I h;rw [exec_Assign_Name_used _ _ _ _ wY];refine Aa (Eb (Aa ?_));show db _ X.A (do let _ <- comprehension (.ListComp Ç [⟨tg,iter,Ë,0⟩] sc pos) sc X.env _ (newList []) false (ii iter X.env) (am (Fk (.Name x px) X.env))) _ _ s;have G6:∀y∈sc.names,y.2=.free->∃c,X.env.cells.lookup y.1=am c:=λy hy hk=>I.ok.has y.1 (S.fr y hy hk);obtain⟨cl,NL,sf,KC⟩:=lT G6;refine Aa (BN (Ed (use:=am (Fk (.Name x px) X.env)) (Q:=λ_ s'=>SP X Z D0 .next s') rfl hs NL S.kind S.loc (bR (hi Z s σ H _ I h) λv s1 h1=>bR h1 λï s2 h2=>?_)) (λ_ s' hq=>Ae (Ae hq)) λ_ _ e=>e);obtain⟨it,fp,tn,J,H2,rfl,I2,T,JW,f2,hW⟩:=h2;refine Ja (RR:=λÄ C=>compPost (dL X.prog X.w) X.A X.xe (am (Fk (.Name x px) X.env)) (λ_ s'=>SP X Z D0 .next s') Ä C) (Q:=λx H1=>gN i x σ H1 D0.nx) hc S hg hf he sf KC I2 T JW f2 hW λD C m s' H' I' q hn F=>?_;show db _ X.A (Fk (.Name x px) X.env (.ref D)) _ _ _;refine wpAny_assign_Name (uB (v:=.ref D) I' hN NK (.inl hx) rfl (λXW I'' Ē=>?_) (.inr hx));obtain⟨a,Ē,ha⟩:=Ē;have haC:C≠a:=by
  rcases ha with z | z
  ·rw [z];exact F.hL
  ·exact BE (F.cl _ _ z)
 refine⟨m,hn.sameBut Ē haC,λh' ē=>⟨_,H',?_,q⟩⟩;exact I''.turned (it:=C) (t':=XW.toks) (λb o hb e=>(ē.2 b hb).trans e) F.hn F.hL (.inr F.ab) F.cl F.pn
end
end L2
variable {a b:B7}
namespace L2
open PySem PySem.Spec PyProof.Rows
section
def pW:bN X (.builtin "isinstance") (λxs H Q=>∃x c t b,xs=[x,.ty c]/\lE X.K H x t/\Br X.K t (.type c)=am b/\Q (.bl b) H):=by
 intro Z s σ H xs us Q I r h;obtain⟨x,c,t,b,rfl,ty,hk,q⟩:=h;obtain⟨u,w',rfl,ru,vP⟩:=vals2 r;cases (show w'=BX c from vP);exact Ku I ru ty hk λtk=>⟨.bl b,H,I.tok _,rfl,q⟩
def qd (l:ce) (items:Array bn) (n:Nat) (b:ce) (bG:Array bn) (n2:Nat) (dd:Option ce) (sl:Array (Option bn)) (hs0:¬(!items.isEmpty&&Builtin.List.listTooLong (items.size+bG.size))=true) (FV:items.size<=sizeLine) (qC:items.size+bG.size<=sizeLine+1) :
  Meets (wn.«list.extend» ⟨[.ref l,.ref b],[]⟩) (λ_ R s=>s.heap.get? l=am {cls:=.type "list",dict:=bm,data:=.seq items n,slots:=#[]}/\s.heap.get? b=am {cls:=.type "tuple",dict:=dd,data:=.seq bG n2,slots:=sl}/\R (.ok (.ret AO)) {s with heap:=s.heap.update l (Bj λx=>x++bG),toks:=s.toks}):=
 .of_wp λprog w A R s h=>by
  obtain⟨hp,g,d,tk,os⟩:=s;obtain⟨hl,hb,h⟩:=h;have f1:=Eo;have f2:=Df;have f3:=Dx;have f4:=Dp;have f5:=Dq;have Kx:(items++bG).size<=sizeLine+1:=by rw [Array.size_append];exact qC
  wp_walk using (Cy hl rfl (hz:=FV) (_hz':=Kx)),BZ hl,BZ hb;exact⟨_,rfl,h⟩
def Mg (K:Ab):V->List V->Hp->VK->Prop:=λx vs H Q=>∃l b xs zs,x=.ref l/\vs=[.ref b]/\H l=am (.lst xs)/\dG K H b zs/\xs.length+zs.length<=sizeLine/\Q .aD (upd H l (.lst (xs++zs)))
theorem Gw:HU X "list.extend" (Mg X.K):=by
 intro Z s σ H x vs v us Q I rx rv h;obtain⟨l,b,xs,zs,rfl,rfl,hH,hB,hz,q⟩:=h;cases rx;obtain⟨u,rfl,ru⟩:=rv.one;cases ru;obtain⟨z,ak,n,r,hl,e⟩:=I.qb hH;obtain⟨cT,r2,⟨⟨cls,dd,data,sl⟩,e2,hc,n2,hd⟩,z2⟩:=I.tuple hB;simp only at hc hd;subst hc hd;have O9:=r2.length;have hsz:ak.toArray.size+cT.toArray.size<=sizeLine:=by rw [Ah,Ah];omega
 have se:¬(!ak.toArray.isEmpty&&Builtin.List.listTooLong (ak.toArray.size+cT.toArray.size))=true:=by
  rw [m8 hsz,D3];exact A5
 refine re DQ ⟨_,e,rfl⟩ DB (Dn _ _)
  (qd l ak.toArray n b cT.toArray n2 dd sl se (by rw [Ah];omega) ∅) ⟨e,e2,?_⟩
 refine⟨.aD,_,I.GI (its':=ak++cT) hH e (by simp) (r.append r2) ?_,rfl,q⟩;rw [Ak];omega
end
end L2
variable {k':Nat}{bo:B9}
namespace L2
open PySem PySem.Spec PyProof.Rows
def pX (l:ce) (H H':Hp):Prop:=∀b u,b≠l->H b=am u->H' b=am u
def j6 {p:ce} (h:H p=bm) (o:HO):kG H (upd H p o):=λb u q=>by rw [aw (bj q h)];exact q
def J3 {p:ce} (o:HO):pX p H (upd H p o):=λb u n q=>by rw [aw n];exact q
def ke (H:Hp) (o:HO) (Q:VK):Prop:=∀p H',kG H H'->H' p=am o->H p=bm->Q (.ref p) H'
def ke.at {o:HO}{Q:VK} (h:ke H o Q) (p:ce) (hp:H p=bm):Q (.ref p) (upd H p o):=h p _ (j6 hp o) aN hp
def yz (H:Hp) (l:ce) (o:HO) (Q:Hp->Prop):Prop:=∀H',pX l H H'->H' l=am o->Q H'
def yz.at {o:HO}{Q:Hp->Prop} (h:yz H l o Q):Q (upd H l o):=h _ (J3 o) aN
def jG.mono {f:bn->bn->Sem bn}{r r':R2} (h:jG X f r) (hr:∀x y H Q,r' x y H Q->r x y H Q):jG X f r':=λZ s σ H x y v u Q I rx ry q=>h Z s σ H x y v u Q I rx ry (hr _ _ _ _ q)
def bN.mono {f:bn}{r r':List V->Hp->VK->Prop} (h:bN X f r) (hr:∀xs H Q,r' xs H Q->r xs H Q):bN X f r':=λZ s σ H xs us Q I rx q=>h Z s σ H xs us Q I rx (hr _ _ _ q)
def HU.mono {id:String}{r r':V->List V->Hp->VK->Prop} (h:HU X id r) (hr:∀x xs H Q,r' x xs H Q->r x xs H Q):HU X id r':=λZ s σ H x xs v us Q I rx rv q=>h Z s σ H x xs v us Q I rx rv (hr _ _ _ _ q)
def Lg.mono {r r':OZ} (h:Lg X r) (hr:∀o i v H Q,r' o i v H Q->r o i v H Q):Lg X r':=λZ s σ H o i v ov iv u Q I ro ri rv q=>h Z s σ H o i v ov iv u Q I ro ri rv (hr _ _ _ _ _ q)
section
variable {t:TA}
def Xy (t:TA):TE:=λσ H Q=>t σ H λxs H1=>xs.length<=sizeLine/\ke H1 (.tup xs) Q
def XE (t:TA):TE:=λσ H Q=>t σ H λxs H1=>xs.length<=sizeLine/\ke H1 (.lst xs) Q
def Qh {x1} (h:PA X es t):PE X (.Tuple es x1 pos) (Xy t):=by
 intro Z s σ H Q I hq;refine wpAny_Tuple_spliced (bR (h pos Z s σ H _ I hq) λus s1 ⟨xs,H1,I1,r,z,q⟩=>⟨by rw [<- r.length];exact z,?_⟩);have hf:=I1.bu.fresh (An _);refine⟨.ref s1.heap.objs.size,upd H1 s1.heap.objs.size (.tup xs),I1.laid (t':=s1.toks) (λb u e=>Ag _ e) (An _) ?_,rfl,q.at _ hf⟩;exact⟨z,us,r,⟨_,Ap _ rfl,rfl,_,rfl⟩⟩
def Qk (h:PA X es t):PE X (.List es pos) (XE t):=by
 intro Z s σ H Q I hq;refine wpAny_List_spliced (bR (h pos Z s σ H _ I hq) λus s1 ⟨xs,H1,I1,r,z,q⟩=>⟨by rw [<- r.length];exact z,?_⟩);have hf:=I1.bu.fresh (An _);refine⟨.ref s1.heap.objs.size,upd H1 s1.heap.objs.size (.lst xs),I1.laid (t':=s1.toks) (λb u e=>Ag _ e) (An _) ?_,rfl,q.at _ hf⟩;exact⟨z,us,0,r,Ap _ rfl⟩
def SD (K:Ab):R2:=λx y H Q=>match x with
 | .int i=>∃j,y=.int j/\Q (.int (i+j)) H
 | .str i=>∃j,y=.str j/\i.length+j.length<=sizeLine/\Q (.str (i++j)) H
 | .ref a=>(∃b xs zs,y=.ref b/\H a=am (.lst xs)/\H b=am (.lst zs)/\xs.length+zs.length<=sizeLine/\ke H (.lst (xs++zs)) Q)\/SH K x y H Q
 | _=>False
def Qz:jG X (pr .Add) (SD X.K):=by
 refine ((UX.or Gq).or (UW.or IK)).mono λx y H Q h=>?_;cases x with
 | int i=>obtain⟨j,rfl,q⟩:=h;exact .inl (.inl ⟨i,j,rfl,rfl,q⟩)
 | str i=>obtain⟨j,rfl,hl,q⟩:=h;exact .inl (.inr ⟨i,j,rfl,rfl,hl,q⟩)
 | ref a=>
  rcases h with⟨b,xs,zs,rfl,h1,h2,hz,q⟩ | h
  ·exact .inr (.inl ⟨a,b,xs,zs,rfl,rfl,h1,h2,hz,λp hp=>q.at p hp⟩)
  ·exact .inr (.inr h)
 | _=>exact h.elim
def Qu:jG X (pr .Mult) (rI wS λi j=>.int (i*j)):=opI λ_ _ _ _ _ _ _ hc q=>mul_int q hc
def HD:bN X (.type "list") (λxs H Q=>∃p ys,xs=[.ref p]/\(dP X.K H p ys\/dG X.K H p ys)/\ke H (.lst ys) Q):=xS.mono λxs H Q ⟨p,ys,e,h,q⟩=>⟨p,ys,e,h,λl hl=>q.at l hl⟩
def Mh:V->List V->Hp->VK->Prop:=λx vs H Q=>∃l xs y,x=.ref l/\vs=[y]/\H l=am (.lst xs)/\xs.length < sizeLine/\yz H l (.lst (xs++[y])) (Q .aD)
def Gx:HU X "list.append" Mh:=Kc.mono λx xs H Q ⟨l,ys,y,e1,e2,h,hz,q⟩=>⟨l,ys,y,e1,e2,h,hz,q.at⟩
def J6 (K:Ab):V->List V->Hp->VK->Prop:=λx vs H Q=>∃l b xs zs,x=.ref l/\vs=[.ref b]/\H l=am (.lst xs)/\dG K H b zs/\xs.length+zs.length<=sizeLine/\yz H l (.lst (xs++zs)) (Q .aD)
def zf:HU X "list.extend" (J6 X.K):=Gw.mono λx xs H Q ⟨l,b,ys,zs,e1,e2,h1,h2,hz,q⟩=>⟨l,b,ys,zs,e1,e2,h1,h2,hz,q.at⟩
def X5:V->List V->Hp->VK->Prop:=λx vs H Q=>∃l xs y,x=.ref l/\vs=[]/\H l=am (.lst (xs++[y]))/\yz H l (.lst xs) (Q y)
def QJ:HU X "list.pop" X5:=U5.mono λx xs H Q ⟨l,ys,y,e1,e2,h,q⟩=>⟨l,ys++[y],y,e1,e2,h,by simp,by rw [List.dropLast_concat];exact q.at⟩
def Ut:OZ:=λo i v H Q=>∃p xs k j,o=.ref p/\i=.int k/\H p=am (.lst xs)/\tq xs.length k=am j/\yz H p (.lst (xs.set j v)) Q
def JZ:Lg X Ut:=set_list.mono λo i v H Q ⟨p,xs,k,j,e1,e2,h,hj,q⟩=>⟨p,xs,k,j,e1,e2,h,hj,q.at⟩
end
section
variable (K:Ab) (hK:X.K=K) {to:TE}{t:TA}{name:Str}{WN:String}{r:V->List V->Hp->VK->Prop}{l:gt}
include hK
def Q9:Pb X (rIx K):=hK▸Vt
def Qy:jG X (pr .Add) (SD K):=hK▸Qz
def Uv (K:Ab):List V->Hp->VK->Prop:=λxs H Q=>∃x n,xs=[x]/\Z5 K x H n/\Q (.int n) H
def ve:bN X (.builtin "len") (Uv K):=hK▸OH
def Me (K:Ab):List V->Hp->VK->Prop:=λxs H Q=>∃p ys,xs=[.ref p]/\(dP K H p ys\/dG K H p ys)/\ke H (.lst ys) Q
def HC:bN X (.type "list") (Me K):=hK▸HD
def abF (K:Ab) (ta:TE):TT:=λσ H Q=>ta σ H λx H'=>∃k,Wt K x H' k/\Q k H'
def uG (ha:PE X a ta) (he:∀Å,isTrue a X.env Å=(do let v <- Å;standAt a.pos;Da [v] (truthy v))):PT X a (abF K ta):=hK▸Ml ha he
def Mt (hl:PE X l tl):PI X tg l (S3 K tl):=hK▸Qd hl
def Qn (pa:PlainAttrs T) (slot:Slot T name WN) (VC:typeOf (.builtin WN)=pure (.type "method_descriptor")) (hm:MtR X WN r) (ho:PE X o to)
  (dw:lc o name X.env (ii o X.env)=ii o X.env:=by rfl) (du:O3 Ã bo:=by rfl):PE X (.Call (.Attribute o name Ã) [] [] bo) (XJ K T r to):=hK▸UL pa slot VC hm ho dw du
def oV (pa:PlainAttrs T) (slot:Slot T name WN) (VC:typeOf (.builtin WN)=pure (.type "method_descriptor")) (hm:MtR X WN r) (ho:PE X o to) (ha:PA X (e::es) t)
  (dw:lc o name X.env (ii o X.env)=ii o X.env:=by rfl)
  (mj:Tw X bo (e::es):=by rfl)
  (du:O3 Ã bo:=by rfl) (hs:gs X e es:=by rfl) (dM:lq X bo es:=by rfl) :
  PE X (.Call (.Attribute o name Ã) (e::es) [] bo) (tBM K T r to t):=hK▸Yj pa slot VC hm ho ha dw mj du hs dM
omit hK
end
structure Sk (P:sK) (w:ut) (K:Ab) (mg:Str->Option bn) (base:kw) (x:Str) (k:Nat) (ps:List Str) (sp:Sp) where
 f:ce
 fd:FB
 ok:gG P w K mg base lj k f fd ps sp
 bi:Binds K fd ps []
 kp:DM K (.ref f)=true
 at':mg x=am (.ref f)
section
variable {t:TA}
def XI (sp:Sp) (t:TA):TE:=λσ H Q=>t σ H λvs H1=>sp vs H1 Q E0
def MC (G:Sk X.prog X.w X.K X.mg X.base x k ps sp) (hr:cB k' X.A) (hk:k<=k') (hg:Gl X x) (ha:PA X (e::es) t) (nM:jS x:=by decide)
  (he:gs X e es:=by rfl) (dW:lq X pos es:=by rfl) :
  PE X (.Call (.Name x p) (e::es) [] pos) (XI sp t):=by
 intro Z s σ H Q I h;refine BH (I0 I hg G.at' ?_ nM);refine PySem.W.callWith_K (h₀:=X.base) I.ok.mod.kin G.kp (bR (ha pos Z s σ H _ I h) λus s1 ⟨vs,H1,I1,r,q⟩=>⟨I1.uT,?_⟩) he dW;refine Uo (dvs:=[]) (ds:=[]) G.ok (hr.mono hk) G.bi .nil Yl I1 r ?_;rw [DA];exact q
end
section
theorem OQ {xs:List α} (h0:0<=i) (h1:i < xs.length):∃v,dD xs i=am v/\xs[i.toNat]?=am v:=by
 have hk:i.toNat < xs.length:=by omega
 have q:=eg (by rw [Ad hk]);have e:((i.toNat:Nat):Int)=i:=by omega
 rw [e] at q;exact⟨_,q,by rw [Ad hk]⟩
def SN {j:Int} (h1:-18446744073709551616 < i) (h2:i < 18446744073709551616):wS i j:=Sl.ok (.inl ⟨h1,h2⟩)
def mul_r {j:Int} (h1:-18446744073709551616 < j) (h2:j < 18446744073709551616):wS i j:=Sl.ok (.inr ⟨h1,h2⟩)
end
def bS (h:n<=1000):n<=sizeLine:=DK (JY h)
end L2
variable {p1:B9}
namespace L2
open PySem PySem.Spec PyProof.Rows
theorem Vals.rk:∀{xs:List V}{us:List bn},Vals xs us->Vals xs.reverse us.reverse
 | _,_,.nil=>.nil
 | _,_,.cons h t=>by rw [CF,CF];exact (Vals.rk t).append (.cons h .nil)
def Va:FM (.type "list_reverseiterator") (BL "__len__")=pure bm:=by kernel_rfl
def QQ:FM (.type "list_reverseiterator") (BL "__length_hint__")=pure (am (.builtin "list_reverseiterator.__length_hint__")):=by kernel_rfl
def PK:splitId "list_reverseiterator.__length_hint__"=am ("list_reverseiterator","__length_hint__"):=by kernel_rfl
def Py:isSubtype (.type "list_reverseiterator") (.type "list_reverseiterator")=pure true:=by kernel_rfl
def NI {r:ce}{Q:Bool->ci->Prop} (h:s.heap.IsRevIter r l i) (q:Q false s):db (dL prog w) A (Builtin.List.listLengthHint (Az r)) Q E s:=by
 refine Aa (EC h.typeIs Va ?_);refine Aa (EC h.typeIs QQ ?_);dsimp only;rw [PK];dsimp only;refine Aa (Dg h.typeIs Py ?_);rw [if_neg ⋯];exact Ae q
def tN {r S:ce} (hA:A.handled=bm) (h:s.heap.IsRevIter r l (items.size-1)) (hl:s.heap.IsList l items) (Rt:l≠r) (ğ:S≠r) (hSl:S≠l) (hz:items.size<=sizeLine)
  (hS:s.heap.get? S=am {cls:=BX "list",data:=ET #[]})
  (q:∀(h':kw) (tk:Nat) (Ä:Array bn) (c:Nat),(∀b o,b≠S->b≠r->s.heap.get? b=am o->h'.get? b=am o)->h'.get? S=am {cls:=BX "list",data:=ET Ä c}->ItemsOf (λi v=>items[items.size-1-i]?=am v) Ä items.size->R (.ok (.ret .none)) {s with heap:=h',toks:=tk}) :
  db (dL prog w) A.in1 (wn.«list.__init__» {pos:=[Az S,Az r]})
   (λfin s'=>match fin with | ES f=>R (Except.ok f) s' | Fin.again c'=>c'.quiet=true/\Ev (dL prog w) A c' R s') (λe s'=>R (Except.error e) s') s:=by
 unfold wn.«list.__init__»;refine Aa (wpAny_listItems hS rfl ?_);refine Aa ?_;refine Cy hS rfl ?_ (by simp) (by simp);refine Aa (Ct ?_);have k1:∀b o,b≠S->s.heap.get? b=am o->(s.heap.update S (Bj λ_=>#[])).get? b=am o:=λb o hb e=>by rw [BM _ _ (BE hb)];exact e
 have hS1:=BW (Bj λ_=>#[]) hS rfl;generalize s.heap.update S (Bj λ_=>#[])=h1 at k1 hS1 ⊢;have ó:h1.IsRevIter r l (items.size-1):=let ⟨o,e,p⟩:=h;⟨o,k1 _ _ (BE ğ) e,p⟩;have Ę:h1.IsList l items:=let ⟨o,e,p⟩:=hl;⟨o,k1 _ _ (BE hSl) e,p⟩;unfold Builtin.List.listExtendWith;refine Aa (Cv (T:="list_reverseiterator") ó.typeIs ?_);rw [if_neg (by
  have e1:Builtin.List.listSameRef (Az S) (Az r)=false:=by
   unfold Builtin.List.listSameRef;simpa using ğ
  rw [e1];decide)]
 refine Aa (wpAny_pyIter_revIter ó ?_);refine Aa (Bb (NI ó ?_));rw [if_neg ⋯];refine Ae ⟨v4 F.plain_extend_loop _,?_⟩;refine codeAny_extend_loopS (Walks.toS (Walks.listRev (A:=A.in1) hA r l Rt items)) hz S (by simp [ğ,hSl]) .none items.size 0 _ #[] _ (C2 _) (Bg _) ⟨Bg _,by simpa using ó,Ę⟩ hS1 (ItemsOf.nil _) ?_;intro s' Ä c mv e io;rw [mv.eq_with];exact q s'.heap s'.toks Ä c (λb o n1 n2 e'=>mv.heap b o (by simp [n1,n2]) (k1 b o n1 e')) e io
def uj {r:ce} (hA:A.handled=bm) (h:s.heap.IsRevIter r l (items.size-1)) (hl:s.heap.IsList l items) (Rt:l≠r) (hz:items.size<=sizeLine)
  (q:∀(h':kw) (tk:Nat) (Ä:Array bn) (c:Nat),(∀b o,b≠r->s.heap.get? b=am o->h'.get? b=am o)->h'.get? s.heap.objs.size=am {cls:=BX "list",data:=ET Ä c}->ItemsOf (λi v=>items[items.size-1-i]?=am v) Ä items.size->Q (.ref s.heap.objs.size) {s with heap:=h',toks:=tk}) :
  db (dL prog w) A (call (BX "list") [Az r]) Q E s:=by
 have lr:=let ⟨_,e,_⟩:=h;Ao e;have ll:=let ⟨_,e,_⟩:=hl;Ao e;refine callType_codes F.called_list (F.typeCall_list_1 _) F.entry_list_init (code_list_new (Q₁:=λv s₁=>v=.ref s.heap.objs.size/\s₁={s with heap:=s.heap.push {cls:=BX "list",data:=ET #[]}}) _ ⟨rfl,rfl⟩) ?_;rintro obj s₁ ⟨rfl,rfl⟩;refine⟨⟨_,Ap _ rfl,rfl⟩,F.args_list_init_2 _ _,?_⟩;have kp:∀b o,s.heap.get? b=am o->(s.heap.push {cls:=BX "list",data:=ET #[]}).get? b=am o:=λb o e=>Ag _ e;refine tN (A:=A.in1) (items:=items) (l:=l) hA (let ⟨o,e,p⟩:=h;⟨o,kp _ _ e,p⟩) (let ⟨o,e,p⟩:=hl;⟨o,kp _ _ e,p⟩) Rt (λz=>by rw [z] at lr;exact AX _ lr) (λz=>by rw [z] at ll;exact AX _ ll) hz (Ap _ rfl) ?_;intro h' tk Ä c k e io;exact⟨rfl,q h' tk Ä c (λb o n e'=>k b o (λz=>by rw [z] at e';exact AX _ (Ao e')) n (kp b o e')) e io⟩
def tLR (K:Ab) (te:TE):TE:=λσ H Q=>te σ H λx H1=>∃p ys,x=.ref p/\dP K H1 p ys/\ke H1 (.lst ys.reverse) Q
section
variable (K:Ab) (hK:X.K=K) {q1 q2:Pos}
include hK
theorem Gn (hc:X.calm=true) (ě:Gl X "list") (ė:X.mg "list"=bm) (Ě:Gl X "reversed") (Ll:X.mg "reversed"=bm) (he:PE X e te)
  (FV:f8 [.Call (.Name "reversed" q1) [e] [] q2] X.env=(false,ii (.Call (.Name "reversed" q1) [e] [] q2) X.env)::f8 [] X.env:=by rfl) (qC:gs X e []:=by rfl) :
  PE X (.Call (.Name "list" p1) [.Call (.Name "reversed" q1) [e] [] q2] [] p2) (tLR K te):=by
 intro Z s σ H Q I h;subst hK;refine BH (gX I ě ė boot_list ?_ ⋯ ⋯);refine Be ?_ FV rfl;refine Cc ?_;refine BH (gX I Ě Ll boot_reversed ?_ ⋯ ⋯);refine Be ?_ qC rfl;rw [qC];refine Cc (bR (he Z s σ H _ I h) λu s1 ⟨x,H1,I1,r1,pa,ys,ex,hS,q⟩=>CD ?_);subst ex;cases r1;obtain⟨ak,rv,pl,hz⟩:=I1.list hS;have Á:=rv.length;have lp:=let ⟨_,e,_⟩:=pl.isList;Ao e;refine call_reversed_list pl.isList ?_;refine CD ?_;have kp:∀b o,s1.heap.get? b=am o->(s1.heap.push (revObj pa (ak.toArray.size-1))).get? b=am o:=λb o e=>Ag _ e;refine uj (items:=ak.toArray) (l:=pa) (r:=s1.heap.objs.size) (I1.ok.hd hc) ⟨_,Ap _ rfl,rfl,rfl⟩ (let ⟨o,e,p⟩:=pl.isList;⟨o,kp _ _ e,p⟩) (λz=>by rw [z] at lp;exact AX _ lp) (by rw [Ah];omega) ?_;intro h' tk Ä c k e io;have kk:∀b o,s1.heap.get? b=am o->h'.get? b=am o:=λb o eb=>k b o (λz=>by rw [z] at eb;exact AX _ (Ao eb)) (kp b o eb);have ea:Ä=ak.reverse.toArray:=by
  obtain⟨z1,z2⟩:=io;apply Array.ext
  ·rw [z1,Ah,Ah,BP]
  ·intro j h1 h2;have:=z2 j Ä[j] (CM h1);rw [Ah] at this;have hj:j < ak.length:=by rw [z1,Ah] at h1;exact h1
   rw [EN] at this;have e3:ak.reverse[j]?=am Ä[j]:=by rw [List.getElem?_reverse hj];exact this
   rw [Du];exact (Option.some.inj (((Ad (by rw [BP];exact hj)).symm.trans e3))).symm
 subst ea;have qC:s1.heap.objs.size<=(s1.heap.push (revObj pa (ak.toArray.size-1))).objs.size:=by simp [Heap.push]
 refine⟨.ref _,upd H1 _ (.lst ys.reverse),I1.laid (t':=tk) kk qC ?_,rfl,q.at _ (I1.bu.fresh qC)⟩;exact⟨by rw [BP];exact hz,ak.reverse,c,rv.rk,e⟩
end
end L2
namespace My
open PySem PySem.Spec PyProof.Rows L2
def Wd (x:Str):Prop:=1<=x.length/\x.length<=8/\∀c∈x.cps.toList,97<=c/\c < 123
def Part (x:Str) (n:Nat):Prop:=x.length<=n/\∀c∈x.cps.toList,97<=c/\c < 123
theorem tP {d st:Int} (h:st=1\/st=3\/st=5\/st=7\/st=9\/st=11) (hn:n<=26):((AG n).map λk:Nat=>am (97+((d+st*(0+(k:Int))) % 26).toNat)).Nodup:=by
 unfold List.Nodup;rw [Ea];refine List.Pairwise.imp_of_mem ?_ C4;intro a b ha hb Zm hz;have ù:=AW.mp hb;have Kx:=Option.some.inj hz;rcases h with rfl | rfl | rfl | rfl | rfl | rfl <;> omega
def wg {g:α->β}{l:List α} (h:(l.map g).Nodup):l.Nodup:=(Ea.mp h).imp λh e=>h (congrArg g e)
def GL:∀k:_root_.Fin 26,dD ("abcdefghijklmnopqrstuvwxyz":Str).cps.toList (k.val:Int)=am (97+k.val):=by decide +kernel
theorem Km {n:Int} (h0:0<=n) (h1:n < 26):dD ("abcdefghijklmnopqrstuvwxyz":Str).cps.toList n=am (97+n.toNat):=by
 have e:=GL ⟨n.toNat,by omega⟩;have e2:((n.toNat:Nat):Int)=n:=by omega
 rw [e2] at e;exact e
inductive Tr where
 | leaf (x:Str)
 | node (l r:Tr)
def Tr.av:Tr->List Str
 | .leaf x=>[x]
 | .node l r=>l.av++r.av
def Tr.size:Tr->Nat
 | .leaf _=>1
 | .node l r=>l.size+r.size+1
def Tr.depth:Tr->Nat
 | .leaf _=>0
 | .node l r=>max l.depth r.depth+1
def Tr.Ws (t:Tr):Prop:=∀x∈t.av,Wd x
theorem Tr.gk:∀t:Tr,1<=t.av.length
 | .leaf _=>An _
 | .node l r=>by have:=l.gk;show 1<=(l.av++r.av).length;rw [Ak];omega
theorem Tr.nU:∀t:Tr,t.depth < t.av.length
 | .leaf _=>Eh 0
 | .node l r=>by
  have h1:=l.nU;have h2:=r.nU;have h3:=l.gk;have h4:=r.gk;show max l.depth r.depth+1 < (l.av++r.av).length;rw [Ak];omega
theorem Tr.size_eq:∀t:Tr,t.size+1=2*t.av.length
 | .leaf _=>rfl
 | .node l r=>by
  have h1:=l.size_eq;have h2:=r.size_eq;show l.size+r.size+1+1=2*(l.av++r.av).length;rw [Ak];omega
def eB (ts:List Tr):Nat:=(ts.map Tr.size).sum
def fi (a b:List Tr):eB (a++b)=eB a+eB b:=by unfold eB;rw [A3,List.sum_append]
def oK (t:Tr):eB [t]=t.size:=by simp [eB]
theorem Tr.size_pos:∀t:Tr,1<=t.size
 | .leaf _=>An _
 | .node l r=>by show 1<=l.size+r.size+1;omega
theorem uO:∀ts:List Tr,ts.length<=eB ts
 | []=>An _
 | t::r=>by have:=uO r;have:=t.size_pos;show r.length+1<=t.size+eB r;omega
def Tr.post:Tr->List Tr
 | .leaf x=>[.leaf x]
 | .node l r=>l.post++r.post++[.node l r]
def Tr.j7:∀t:Tr,t.post.length=t.size
 | .leaf _=>rfl
 | .node l r=>by show (l.post++r.post++[_]).length=l.size+r.size+1;rw [Ak,Ak,l.j7,r.j7];rfl
def iA (ts:List Tr):List Tr:=(ts.map Tr.post).flatten
def i5 (a b:List Tr):iA (a++b)=iA a++iA b:=by unfold iA;rw [A3,List.flatten_append]
def oT (t:Tr):iA [t]=t.post:=by simp [iA]
def J7 (t u:Tr):iA [t,u]=t.post++u.post:=by simp [iA]
inductive Ent where
 | word (x:Str)
 | pair (a b:Nat)
def Tr.nd:Tr->Nat->List Ent
 | .leaf x,_=>[.word x]
 | .node l r,o=>l.nd o++r.nd (o+l.size)++[.pair (o+l.size-1) (o+l.size+r.size-1)]
def Tr.a9:∀(t:Tr) (o:Nat),(t.nd o).length=t.size
 | .leaf _,_=>rfl
 | .node l r,o=>by show (l.nd o++r.nd (o+l.size)++[_]).length=l.size+r.size+1;rw [Ak,Ak,l.a9,r.a9];rfl
def run:List Tr->List Ent->List Nat->Option (List Ent×List Nat)
 | [],À,ls=>am (À,ls)
 | .leaf x::k,À,ls=>run k (À++[.word x]) (À.length::ls)
 | .node _ _::k,À,b::a::ls=>run k (À++[.pair a b]) (À.length::ls)
 | .node _ _::_,_,_=>bm
theorem rh:∀(t:Tr) (k:List Tr) (À:List Ent) (ls:List Nat),run (t.post++k) À ls=run k (À++t.nd À.length) ((À.length+t.size-1)::ls)
 | .leaf x,k,À,ls=>rfl
 | .node l r,k,À,ls=>by
  have e1:(Tr.node l r).post++k=l.post++(r.post++(Tr.node l r::k)):=by show l.post++r.post++[_]++k=_;simp
  rw [e1,rh l,rh r];have e2:(À++l.nd À.length).length=À.length+l.size:=by rw [Ak,l.a9]
  rw [e2];show run k _ _=run k _ _;have e3:(À++l.nd À.length++r.nd (À.length+l.size)).length=À.length+(Tr.node l r).size-1:=by
   rw [Ak,Ak,l.a9,r.a9];show _=À.length+(l.size+r.size+1)-1;omega
  rw [e3];have e4:À++(Tr.node l r).nd À.length=À++l.nd À.length++r.nd (À.length+l.size)++[.pair (À.length+l.size-1) (À.length+l.size+r.size-1)]:=by
   show À++(l.nd À.length++r.nd (À.length+l.size)++[_])=_;simp
  rw [e4]
def J4 (t:Tr):run t.post [] []=am (t.nd 0,[t.size-1]):=by
 have:=rh t [] [] [];rw [DA] at this;rw [this];show am ([]++t.nd 0,[0+t.size-1])=_;simp
end My
variable {xs:List L2.V}{x:A4}{i:Nat}{σ:L2.St}
namespace L2
open PySem PySem.Spec PyProof.Rows
def gK {t:ce} (h:s.heap.IsTupleIter it t i) (ht:s.heap.IsTuple t items) (hx:items[i]?=am x)
  (q:∀h':kw,h'.IsTupleIter it t (i+1)->Ci it s.heap h'->Q x {s with heap:=h'}):db (dL prog w) A (Builtin.SmallTypes.nextOf (.ref it)) Q E s:=by
 unfold Builtin.SmallTypes.nextOf;refine Aa (AV h.typeIs Cb (A8 Cb h.typeIs DG ?_ (Dw _)));obtain⟨o,ho,hc,hd⟩:=id h;obtain⟨ot,Ė,htc,n,Đ⟩:=id ht;show db _ _ (field (.ref it) 0 >>= λseq=>_) _ _ s;refine Aa (AY ho hd rfl ?_);refine Aa (AY ho hd rfl ?_);refine Aa (Bs Ė Đ ?_);show db _ _ (match items[i]? with | some x=>(do wE (.ref it) 1 (u8 ((i:Int)+1));ret x) | none=>_) _ _ s;rw [hx];refine Aa (DT ho hd (show 1 < 2 by decide) ?_);refine Ae ⟨x,rfl,Ae (q _ ⟨_,BW _ ho (by rw [EI (CU hd _)]),by rw [Obj.cls_mapFields];exact hc,by rw [CU hd];rfl⟩ (Ci.update ..))⟩
def PC {Q:α->ci->Prop} (hA:A.handled=bm)
  (q:∀(h':kw) (e:ce),(∀b o,s.heap.get? b=am o->h'.get? b=am o)->(∃o,h'.get? e=am o/\o.cls=.type "StopIteration")->E (.ref e) {s with heap:=h'}):db (dL prog w) A (Builtin.SmallTypes.stopIteration (α:=α)) Q E s:=by
 refine Aa ?_;refine Aa (CH ?_ (by show 0<=sizeLine;decide));refine Aa (Cs (a:=AO) rfl ?_);refine AJ ?_ (sizeOk_excFields ..);unfold raiseNew;refine Aa (wpAny_handled ?_);rw [hA];refine wpAny_throw (q _ _ (λb o e=>Ag _ (Ag _ e)) ⟨_,Ap _ rfl,rfl⟩)
def iC {t:ce} (hA:A.handled=bm) (h:s.heap.IsTupleIter it t i) (ht:s.heap.IsTuple t items) (hx:items[i]?=bm)
  (q:∀(h':kw) (e:ce),Fo it s.heap h'->(∃o,h'.get? e=am o/\o.cls=.type "StopIteration")->E (.ref e) {s with heap:=h'}):db (dL prog w) A (Builtin.SmallTypes.nextOf (.ref it)) Q E s:=by
 unfold Builtin.SmallTypes.nextOf;refine Aa (AV h.typeIs Cb (A8 Cb h.typeIs DG ?_ (Dw _)));obtain⟨o,ho,hc,hd⟩:=id h;obtain⟨ot,Ė,htc,n,Đ⟩:=id ht;show db _ _ (field (.ref it) 0 >>= λseq=>_) _ _ s;refine Aa (AY ho hd rfl ?_);refine Aa (AY ho hd rfl ?_);refine Aa (Bs Ė Đ ?_);show db _ _ (match items[i]? with | some x=>(do wE (.ref it) 1 (u8 ((i:Int)+1));ret x) | none=>(do rule _;wE (.ref it) 0 .none;Builtin.SmallTypes.stopIteration)) _ _ s;rw [hx];refine Aa (CG ?_);refine Aa (DT ho hd (show 0 < 2 by decide) ?_);refine PC (A:=A.in1) hA λh' e k ex=>q h' e (λb o n eb=>k b o ?_) ex;rw [(Ci.update _ _ _).2 b n];exact eb
def Inv.qU {t':Nat}{a:ce}{o:HO} (I:Inv X Z σ H s) (hf:∀b∈ch,ux X Z H b) (k:∀b u,b∉ch->s.heap.get? b=am u->h'.get? b=am u)
  (hp:s.heap.objs.size<=a) (new:bb X.prog X.w (upd H a o) h' a o):Inv X Z σ (upd H a o) {s with heap:=h',toks:=t'}:=by
 have hn:=I.bu.fresh hp;have SM:∀b u,H b=am u->b∉ch:=λb u e z=>by rw [(hf b z).1] at e;cases e
 have nL:X.env.locals∉ch:=λz=>(hf _ z).2.1 rfl;refine I.step (g':=s.gens) (d':=s.drawn) (ch:=ch) (λb hb=>⟨(hf b hb).2.2.2.1,(hf b hb).2.1,(hf b hb).2.2.2.2.1,(hf b hb).2.2.2.2.2⟩) (λb u _ _ hc e _=>k b u hc e) (λb u _ _ hc e _=>⟨u.slots,k b u hc e⟩)
  (λb u _ e n=>by rw [aw (AB (AA (Ao e) hp))];exact n) (λb u hc e=>⟨u,k b u hc e⟩) (λb xs e=>by rw [aw (bj e hn)];exact e) (λb u xs e=>by rw [aw (bj e hn)];exact e)
  (λb ps e=>⟨#[],by rw [aw (bj e hn),e];simp⟩) (λm hm=>?_) (λb u e=>?_) I.bare
 ·obtain⟨o',es,ep,ho,r⟩:=hm;exact⟨o',es,ep,k _ o' nL ho,r⟩
 ·by_cases hb:b=a
  ·subst hb;rw [aN] at e;cases e;exact new
  ·rw [aw hb] at e;refine (I.bu b u e).vI (λc v hc q=>k c v ?_ q) (λc q=>by rw [aw (bj q hn)];exact q) λc xs q=>by rw [aw (bj q hn)];exact q
   rcases hc with z | z
   ·rw [z];exact SM b u e
   ·exact SM c _ z
def Inv.vC {t':Nat} (I:Inv X Z σ H s) (hf:∀b∈ch,ux X Z H b) (k:∀b u,b∉ch->s.heap.get? b=am u->h'.get? b=am u) :
  Inv X Z σ H {s with heap:=h',toks:=t'}:=by
 have SM:∀b u,H b=am u->b∉ch:=λb u e z=>by rw [(hf b z).1] at e;cases e
 have nL:X.env.locals∉ch:=λz=>(hf _ z).2.1 rfl;refine I.step (g':=s.gens) (d':=s.drawn) (ch:=ch) (λb hb=>⟨(hf b hb).2.2.2.1,(hf b hb).2.1,(hf b hb).2.2.2.2.1,(hf b hb).2.2.2.2.2⟩) (λb u _ _ hc e _=>k b u hc e) (λb u _ _ hc e _=>⟨u.slots,k b u hc e⟩)
  (λ_ _ _ _ n=>n) (λb u hc e=>⟨u,k b u hc e⟩) (λ_ _ e=>e) (λ_ _ _ e=>e) (λb ps e=>⟨#[],by rw [e];simp⟩) (λm hm=>?_) (λb u e=>?_) I.bare
 ·obtain⟨o',es,ep,ho,r⟩:=hm;exact⟨o',es,ep,k _ o' nL ho,r⟩
 ·refine (I.bu b u e).vI (λc v hc q=>k c v ?_ q) (λ_ q=>q) λ_ _ q=>q;rcases hc with z | z
  ·rw [z];exact SM b u e
  ·exact SM c _ z
def mL (h:Vals xs us):∀{i:Nat}{x:V},xs[i]?=am x->∃u,us[i]?=am u/\RelV x u:=by
 induction h with
 | nil=>intro i x e;simp at e
 | cons r t ih=>
  intro i x e;cases i with
  | zero=>simp at e;subst e;exact⟨_,rfl,r⟩
  | succ i=>exact ih (by simpa using e)
end L2
variable {e:BG}{Ê:A4}{Î:List B7}
namespace L2
open PySem PySem.Spec PyProof.Rows
def qi {E:bn->ci->Prop}{t:ce} (Lm:e≠it) (ò:t≠e) (Rm:t≠it)
  (hz:IsEnum s.heap e it i Ê) (hi:s.heap.IsTupleIter it t i) (ht:s.heap.IsTuple t items) (hx:items[i]?=am x)
  (q:∀(h':kw) (tk:Nat),IsEnumOut h' e it (i+1:Nat) x s.heap.objs.size->h'.IsTupleIter it t (i+1)->IsPair h' s.heap.objs.size (.int i s.toks) x->(∀c o,c≠e->c≠it->s.heap.get? c=am o->h'.get? c=am o)->Q (.ref s.heap.objs.size) {s with heap:=h',toks:=tk}) :
  db (dL prog w) A (wn.«enumerate.__next__» {pos:=[.ref e]}) (λfin s'=>∃v,fin=ES (Fq v)/\Q v s') E s:=by
 show db _ _ (field (.ref e) 2 >>= λr=>_) _ _ s;refine Aa (AY hz rfl rfl ?_);refine Aa (gK hi ht hx λh1 j1 b1=>?_);have z1:=(b1.2 _ Lm).trans hz;refine Aa (AY z1 rfl rfl ?_);refine Aa (AY z1 rfl rfl ?_);refine Aa (wpAny_mkInt ?_);refine Aa (A2 z1 (show 3 < 6 by decide) λh2 z2 b2=>?_);refine Aa (A2 z2 (show 4 < 6 by decide) λh3 z3 b3=>?_);have sz3:=b3.1.trans (b2.1.trans b1.1);have Ì:∀b,b≠e->b≠it->h3.get? b=s.heap.get? b:=λb n1 n2=>(b3.2 b n1).trans ((b2.2 b n1).trans (b1.2 b n2));refine Aa (CH ?_ (by show 2<=sizeLine;decide));have kp:∀b o,h3.get? b=am o->(h3.push {cls:=.type "tuple",data:=.seq [DL i s.toks,x].toArray}).get? b=am o:=λb o e=>Ag _ e;have U2:(h3.push {cls:=.type "tuple",data:=.seq [DL i s.toks,x].toArray}).get? h3.objs.size=am {cls:=.type "tuple",data:=.seq #[.int i s.toks,x]}:=Ap _ rfl;generalize h3.push {cls:=.type "tuple",data:=.seq [DL i s.toks,x].toArray}=h4 at kp U2 ⊢;have z4:h4.get? e=am {cls:=.type "enumerate",data:=.fields #[.none,.bool false,.ref it,u8 (i+1),.none,Ê]}:=kp _ _ z3;refine Aa ?_;refine Aa (AY z4 rfl rfl ?_);refine Ae ?_;refine Aa (CG ?_);refine Aa (AY z4 rfl rfl ?_);refine Aa (A2 z4 (show 5 < 6 by decide) λh5 z5 b5=>?_);refine Aa ?_;refine Aa (A2 z5 (show 0 < 6 by decide) λh6 z6 b6=>?_);refine A2 z6 (show 1 < 6 by decide) λh7 z7 b7=>?_;refine Aa (Ct ?_);have VO:∀b,b≠e->h7.get? b=h4.get? b:=λb n=>(b7.2 b n).trans ((b6.2 b n).trans (b5.2 b n));have ne:s.heap.objs.size≠e:=λz=>by have:=Ao hz;rw [<- z] at this;exact AX _ this
 refine Ae ⟨.ref h3.objs.size,rfl,?_⟩;rw [sz3] at z7 U2 ⊢;refine q h7 _ ?_ ?_ ?_ ?_
 ·exact z7
 ·obtain⟨o,eo,p⟩:=j1;refine⟨o,?_,p⟩;rw [VO _ (BE Lm)];exact kp _ _ ((b3.2 _ (BE Lm)).trans ((b2.2 _ (BE Lm)).trans eo))
 ·rw [IsPair,VO _ ne];exact U2
 ·intro c o n1 n2 ec;rw [VO _ n1];exact kp _ _ ((Ì _ n1 n2).trans ec)
def sF {t:ce}{Q:PySem.Fin->ci->Prop} (hA:A.handled=bm)
  (hz:IsEnum s.heap e it i Ê) (hi:s.heap.IsTupleIter it t i) (ht:s.heap.IsTuple t items) (hx:items[i]?=bm)
  (q:∀(h':kw) (x:ce),(∀c o,c≠it->s.heap.get? c=am o->h'.get? c=am o)->(∃o,h'.get? x=am o/\o.cls=.type "StopIteration")->E (.ref x) {s with heap:=h'}) :
  db (dL prog w) A (wn.«enumerate.__next__» {pos:=[.ref e]}) Q E s:=by
 show db _ _ (field (.ref e) 2 >>= λr=>_) _ _ s;refine Aa (AY hz rfl rfl ?_);exact Aa (iC hA hi ht hx λh' x k ex=>q h' x (λc o n e'=>k c o n e') ex)
def mY {t:ce}{Q:Option bn->ci->Prop} (Lm:e≠it) (ò:t≠e) (Rm:t≠it)
  (hz:IsEnum s.heap e it i Ê) (hi:s.heap.IsTupleIter it t i) (ht:s.heap.IsTuple t items) (hx:items[i]?=am x)
  (q:∀(h':kw) (tk:Nat),IsEnumOut h' e it (i+1:Nat) x s.heap.objs.size->h'.IsTupleIter it t (i+1)->IsPair h' s.heap.objs.size (.int i s.toks) x->(∀c o,c≠e->c≠it->s.heap.get? c=am o->h'.get? c=am o)->Q (am (.ref s.heap.objs.size)) {s with heap:=h',toks:=tk}) :
  db (dL prog w) A (pyNext (.ref e)) Q E s:=by
 have ty:s.TypeIs (.ref e) "enumerate":=⟨_,hz,rfl⟩;refine Aa (CS (AV ty CB (A8 CB ty Em ?_ (Eg _))));exact qi Lm ò Rm hz hi ht hx λh' tk a b c d=>Ae (q h' tk a b c d)
def oS {t:ce}{Q:Option bn->ci->Prop} (hA:A.handled=bm)
  (hz:IsEnum s.heap e it i Ê) (hi:s.heap.IsTupleIter it t i) (ht:s.heap.IsTuple t items) (hx:items[i]?=bm)
  (q:∀h':kw,(∀c o,c≠it->s.heap.get? c=am o->h'.get? c=am o)->Q bm {s with heap:=h'}) :
  db (dL prog w) A (pyNext (.ref e)) Q E s:=by
 have ty:s.TypeIs (.ref e) "enumerate":=⟨_,hz,rfl⟩;refine Aa (CS (AV ty CB (A8 CB ty Em ?_ (Eg _))));refine sF (A:=A.in1) hA hz hi ht hx λh' x k ex=>?_;obtain⟨o,eo,hc⟩:=ex;refine Aa (Dg (T:="StopIteration") ⟨o,eo,hc⟩ isSubtype_stop ?_);exact Ae (q h' k)
def qa (t:ce) (items:Array bn):Meets (wn.«enumerate.__new__» {pos:=[.type "enumerate",.ref t]}) (λ_ R s=>s.heap.IsTuple t items/\
  ∀h':kw,IsEnum h' (s.heap.objs.size+1) s.heap.objs.size (0:Nat) .none->h'.IsTupleIter s.heap.objs.size t 0->(∀b o,s.heap.get? b=am o->h'.get? b=am o)->R (.ok (.ret (.ref (s.heap.objs.size+1)))) {s with heap:=h'}):=
 .of_wp λprog w A R s h=>by
  obtain⟨h1,q⟩:=h;refine Aa ?_;refine Aa (Cs (a:=true) rfl ?_);refine Aa (Cs sub_enumerate ?_);refine Ae ?_;refine Aa ?_;refine Aa (wpAny_stack_any λst=>Ae ?_);have fin:db (dL prog w) A.in1 (pyIter (.ref t) >>= λit=>(Builtin.SmallTypes.newRecord (.type "enumerate") (Builtin.SmallTypes.ownedTupleFields++[it,u8 0,.none,.none]) >>= λr=>ret r)) (λfin s'=>∃v,fin=ES (Fq v)/\R (Except.ok (Fq v)) s') (λe s'=>R (Except.error e) s') s:=by
   refine Aa (DU h1 ?_);have k1:∀b o,s.heap.get? b=am o->(s.heap.push {cls:=.type "tuple_iterator",data:=.fields #[.ref t,.int 0 0]}).get? b=am o:=λb o e=>Ag _ e;have g1:(s.heap.push {cls:=.type "tuple_iterator",data:=.fields #[.ref t,.int 0 0]}).get? s.heap.objs.size=am {cls:=.type "tuple_iterator",data:=.fields #[.ref t,.int 0 0]}:=Ap _ rfl;have z1:(s.heap.push {cls:=.type "tuple_iterator",data:=.fields #[.ref t,.int 0 0]}).objs.size=s.heap.objs.size+1:=Cp ..;generalize s.heap.push {cls:=.type "tuple_iterator",data:=.fields #[.ref t,.int 0 0]}=w5 at k1 g1 z1 ⊢;show db _ _ (newObj (.type "enumerate") (.fields #[.none,.bool false,.ref s.heap.objs.size,u8 0,.none,.none]) >>= λr=>ret r) _ _ _;refine Aa (AJ ?_ (by simp [sizeOk];decide));have g2:(w5.push {cls:=.type "enumerate",data:=.fields #[.none,.bool false,.ref s.heap.objs.size,u8 0,.none,.none]}).get? w5.objs.size=am {cls:=.type "enumerate",data:=.fields #[.none,.bool false,.ref s.heap.objs.size,u8 0,.none,.none]}:=Ap _ rfl;refine Ae ⟨.ref w5.objs.size,rfl,?_⟩;rw [z1] at g2 ⊢;exact q _ g2 ⟨_,Ag _ g1,rfl,rfl⟩ λb o e=>Ag _ (k1 _ _ e)
  refine wpAny_ite_split (λ_=>?_) (λ_=>?_)
  ·exact Aa (Cs (a:=(Az t,bm)) rfl fin)
  ·exact Aa (Cs (a:=(Az t,bm)) rfl fin)
def HE {t:ce} (h1:s.heap.IsTuple t items)
  (q:∀h':kw,IsEnum h' (s.heap.objs.size+1) s.heap.objs.size (0:Nat) .none->h'.IsTupleIter s.heap.objs.size t 0->(∀b o,s.heap.get? b=am o->h'.get? b=am o)->Q (.ref (s.heap.objs.size+1)) {s with heap:=h'}) :
  db (dL prog w) A (call (.type "enumerate") [.ref t]) Q E s:=
 callType_new F.called_enumerate ⋯ (F.typeCall_enumerate_1 _) (F.newCall_enumerate_1 _) (λo=>F.args_object_init_2 o _) F.entry_enumerate_new (qa t items) ⟨h1,λh' z i k=>⟨⟨_,z,rfl⟩,q h' z i k⟩⟩
def Ite (K:Ab) (a:ce):It where
 go:=λi H=>∃xs x,dG K H a xs/\xs[i]?=am x
 Sm:=λi H v H'=>∃p x,v=.ref p/\H p=bm/\H'=upd H p (.tup [.int i,x])/\∀xs,dG K H a xs->xs[i]?=am x
 stop:=λi H=>∃xs,dG K H a xs/\xs.length<=i
theorem JQ {K:Ab}{kk:Nat}{t:ce} (Lm:e≠it) (ò:t≠e) (Rm:t≠it):Turn P w K (.Tuple Î kk pos) (Ite K t) [e,it] e (λi h=>(∃Ê,IsEnum h e it (i:Nat) Ê)/\h.IsTupleIter it t i) where
 mem:=by simp
 obj:=λi h st b hb=>by
  simp only [Aw,Bx,or_false] at hb;rcases hb with rfl | rfl
  ·obtain⟨⟨_,e⟩,_⟩:=st;exact⟨_,e,λv z=>by cases z⟩
  ·obtain⟨_,⟨o,e,_,d⟩⟩:=st;exact⟨o,e,λv z=>by rw [d] at z;cases z⟩
 keep:=λi h h' st k=>⟨let ⟨o,e'⟩:=st.1;⟨o,k e (by simp) _ e'⟩,let ⟨o,e',p⟩:=st.2;⟨o,k it (by simp) _ e',p⟩⟩
 item:=by
  intro X hP hw hK hc i Z s σ H E I hf st hg;subst hP hw hK;obtain⟨xs,x,hx,gx⟩:=hg;obtain⟨ak,rx,tx,_⟩:=I.tuple hx;obtain⟨u,gu,ru⟩:=mL rx gx;obtain⟨⟨Ê,hz⟩,hi⟩:=st;refine mY Lm ò Rm hz hi tx (by simpa using gu) λh' tk zo j np k=>?_;refine⟨_,rfl,?_⟩;refine DV zo λh2 z2 b2=>?_;have le:=Ao hz;have li:=let ⟨_,e',_⟩:=hi;Ao e';have lt:∀b∈[e,it],b < s.heap.objs.size:=λb hb=>by
   simp only [Aw,Bx,or_false] at hb;rcases hb with rfl | rfl
   ·exact le
   ·exact li
  have nz:s.heap.objs.size≠e:=λz=>AX _ (by have:=le;rw [<- z] at this;exact this);have YM:∀b o,b∉[e,it]->s.heap.get? b=am o->h2.get? b=am o:=λb o hb e'=>by
   have Kx:b≠e:=λq=>hb (by simp [q]);rw [b2.2 b Kx];exact k b o Kx (λq=>hb (by simp [q])) e'
  have Yv:h2.get? s.heap.objs.size=am {cls:=.type "tuple",data:=.seq #[.int i s.toks,u]}:=(b2.2 _ nz).trans np;have Ze:=I.bu.fresh (An s.heap.objs.size);refine⟨.ref s.heap.objs.size,upd H s.heap.objs.size (.tup [.int i,x]),I.qU (t':=tk) hf YM (An _) ⟨by show 2<=sizeLine;decide,[.int i s.toks,u],.cons ⟨_,rfl⟩ (.cons ru .nil),⟨_,Yv,rfl,_,rfl⟩⟩,rfl,⟨_,x,rfl,Ze,rfl,λxs' h'=>by rw [I.kI h' hx];exact gx⟩,⟨⟨_,z2⟩,let ⟨o,e',p⟩:=j;⟨o,(b2.2 _ (BE Lm)).trans e',p⟩⟩,λb hb=>?_⟩;rw [aw (AB (lt b hb))];exact (hf b hb).1
 done:=by
  intro X hP hw hK hc i Z s σ H E I hf st hg;subst hP hw hK;obtain⟨xs,hx,hl⟩:=hg;obtain⟨ak,rx,tx,_⟩:=I.tuple hx;have el:=rx.length;obtain⟨⟨Ê,hz⟩,hi⟩:=st;refine oS (I.ok.hd hc) hz hi tx (by simp;omega) λh' k=>⟨rfl,I.vC (t':=s.toks) hf λb o hb e'=>k b o (λz=>hb (by simp [z])) e'⟩
 self:=λA i s Q E st h=>let ⟨_,e'⟩:=st.1;C0 e' h
end L2
namespace My
open PySem PySem.Spec PyProof.Rows L2
def OU (l:List V) (i:Nat):Ent->List V
 | .word _=>l
 | .pair a b=>(l.set a (.int i)).set b (.int i)
def ah:List Ent->Nat->List V->List V
 | [],_,l=>l
 | e::es,i,l=>ah es (i+1) (OU l i e)
theorem xW:∀(es:List Ent) (e:Ent) (i:Nat) (l:List V),ah (es++[e]) i l=OU (ah es i l) (i+es.length) e
 | [],e,i,l=>rfl
 | x::es,e,i,l=>by
  show ah (es++[e]) (i+1) (OU l i x)=OU (ah es (i+1) (OU l i x)) (i+(es.length+1)) e;rw [xW es e];congr 1;omega
def R6 (l:List V) (i:Nat) (e:Ent):(OU l i e).length=l.length:=by cases e with
 | word=>rfl
 | pair=>show ((l.set _ _).set _ _).length=_;rw [BR,BR]
theorem HH:∀(es:List Ent) (i:Nat) (l:List V),(ah es i l).length=l.length
 | [],_,_=>rfl
 | e::es,i,l=>by show (ah es (i+1) (OU l i e)).length=_;rw [HH es,R6]
end My
namespace L2
open PySem PySem.Spec PyProof.Rows
def Itd (lo:Int) (n:Nat):It:=⟨λi _=>i < n,λi H x H'=>H'=H/\x=.int (lo-i),λi _=>n<=i⟩
theorem yC {K:Ab} (it:ce) (lo:Int) (n:Nat):Turn P w K tg (Itd lo n) [it] it (λi h=>IsRangeIter h it (lo+(i:Nat)*(-1)) ((n:Int)-(i:Nat)) (-1)) where
 mem:=by simp
 obj:=λi h st b hb=>by
  have e:b=it:=by simpa using hb
  subst e;exact⟨_,st,λv z=>by
   have z':=z;cases z'⟩
 keep:=λi h h' st k=>k it (by simp) _ st
 item:=by
  intro X hP hw hK hc i Z s σ H E I hf st hg;subst hP hw hK;obtain⟨f0,f1,f2,f3,f4,f5⟩:=hf it (by simp);have W:=Walks.range (prog:=X.prog) (w:=X.w) (I.ok.hd hc) it lo (-1) n;refine W.item i s _ _ hg st λv h' tk hv qo kk=>?_;obtain⟨t,rfl⟩:=hv;have I1:Inv X Z σ H {s with heap:=h',toks:=tk}:=I.turned (λb o hb e=>kk b o (by simpa using hb) e) f0 f1 f3 f4 f5;refine⟨_,rfl,zH (s:={s with heap:=h',toks:=tk}) (n:="range_iterator") qo rfl rfl ⋯ ⟨.int (lo-i),H,I1,⟨t,?_⟩,⟨rfl,rfl⟩,qo,λb hb=>(hf b hb).1⟩⟩;rw [show lo+(i:Int)*(-1)=lo-i by omega]
 done:=by
  intro X hP hw hK hc i Z s σ H E I hf st hg;obtain⟨f0,f1,f2,f3,f4,f5⟩:=hf it (by simp);exact wpAny_pyNext_range_end (I.ok.hd hc) st (by have:n<=i:=hg;omega) λh' eb=>⟨rfl,I.turned (t':=s.toks) (λb o hb e=>eb b o hb e) f0 f1 f3 f4 f5⟩
 self:=λ_ _ _ _ _ st h=>wpAny_pyIter_rangeiter st h
section
theorem J5 {σ:St}{R:It->Hp->Prop}{lo hi:Int}{t u v:Tok}{tk:Nat} (I:Inv X Z σ H s) (h1:-(2 ^ 62)<=lo) (h2:lo < 2 ^ 62) (h3:-(2 ^ 62)<=hi) (h4:hi < 2 ^ 62)
  (q:R (Itd lo (lo-hi).toNat) H):db (dL X.prog X.w) X.A (pyIter (.ref s.heap.objs.size)) (PIE X Z σ tg R) E {s with heap:=s.heap.push {cls:=.type "range",data:=.fields #[.int lo t,.int hi u,.int (-1) v]},toks:=tk}:=by
 refine wpAny_pyIter_range (IsRange.new ..) (PySem.W.small_down h1 h2 h3 h4) ?_;have I1:Inv X Z σ H {s with heap:=s.heap.push {cls:=.type "range",data:=.fields #[.int lo t,.int hi u,.int (-1) v]},toks:=tk}:=I.kept λb o e=>Ag _ e;refine⟨(s.heap.push {cls:=.type "range",data:=.fields #[.int lo t,.int hi u,.int (-1) v]}).objs.size,[(s.heap.push {cls:=.type "range",data:=.fields #[.int lo t,.int hi u,.int (-1) v]}).objs.size],_,_,H,rfl,
  I1.kept (t':=tk) λb o e=>Ag _ e,yC _ lo (lo-hi).toNat,?_,λb hb=>?_,q⟩
 ·have e1:lo+((0:Nat):Int)*(-1)=lo:=by simp
  have e2:(((lo-hi).toNat:Nat):Int)-((0:Nat):Int)=Builtin.Range.rangeSize lo hi (-1):=by rw [PySem.W.rangeSize_down];split <;> omega
  show IsRangeIter _ _ (lo+((0:Nat):Int)*(-1)) ((((lo-hi).toNat:Nat):Int)-((0:Nat):Int)) (-1);rw [e1,e2];exact Ap _ rfl
 ·have e:b=(s.heap.push {cls:=.type "range",data:=.fields #[.int lo t,.int hi u,.int (-1) v]}).objs.size:=by simpa using hb
  subst e;exact I1.xj (An _) (I1.bu.fresh (An _))
def YT (ta:TA):TI:=λσ H R=>ta σ H λvs H1=>∃i j:Int,vs=[.int i,.int j,.int (-1)]/\(-(2 ^ 62)<=i/\i < 2 ^ 62/\-(2 ^ 62)<=j/\j < 2 ^ 62)/\R (Itd i (i-j).toNat) H1
def J9 {c:gt}{ta:TA} (hg:Gl X "range") (hm:X.mg "range"=bm) (ha:PA X [a,b,c] ta) (hs:f8 [a,b,c] X.env=[(false,ii a X.env),(false,ii b X.env),(false,ii c X.env)]:=by rfl) (qC:f8 [b,c] X.env=[(false,ii b X.env),(false,ii c X.env)]:=by rfl) :
  PI X tg (.Call (.Name "range" p) [a,b,c] [] pos) (YT ta):=by
 intro Z s σ H R I h;refine Call_ (gX I hg hm boot_range (Be (bR (ha pos Z s σ H _ I h) λus s1 ⟨vs,H1,I1,r1,q1⟩=>?_) (by show f8 _ _=_;rw [hs,qC]) (by rw [qC];rfl)));obtain⟨i,j,e,⟨q1,q2,q3,q4⟩,q⟩:=q1;subst e;cases r1 with
 | cons r rr=>
  cases rr with
  | cons r' rr=>
   cases rr with
   | cons r'' rr=>
    cases rr;obtain⟨t,rfl⟩:=r;obtain⟨t',rfl⟩:=r';obtain⟨t'',rfl⟩:=r'';refine call_range_3 ⋯ (J5 I1 q1 q2 q3 q4 q) (.inl ?_);unfold Builtin.divisionGoesByPylong;have e1:decide ((if ((-1:Int)==0)=true then 0 else (-1:Int).natAbs.log2 / 30+1) > 300)=false:=by decide
    simp only [e1,E1]
end
def Z7 (K:Ab) (a:ce):It where
 go:=λi H=>∃xs x,dP K H a xs/\xs[i]?=am x
 Sm:=λi H v H'=>∃p x,v=.ref p/\H p=bm/\H'=upd H p (.tup [.int i,x])/\∀xs,dP K H a xs->xs[i]?=am x
 stop:=λi H=>∃xs,dP K H a xs/\xs.length<=i
theorem F6 {K:Ab}{kk:Nat}{t:ce} (Lm:e≠it):Turn P w K (.Tuple Î kk pos) (Z7 K t) [e,it] e (λi h=>(∃Ê,IsEnum h e it (i:Nat) Ê)/\h.IsListIter it t i) where
 mem:=by simp
 obj:=λi h st b hb=>by
  simp only [Aw,Bx,or_false] at hb;rcases hb with rfl | rfl
  ·obtain⟨⟨_,e⟩,_⟩:=st;exact⟨_,e,λv z=>by cases z⟩
  ·obtain⟨_,⟨o,e,_,d⟩⟩:=st;exact⟨o,e,λv z=>by rw [d] at z;cases z⟩
 keep:=λi h h' st k=>⟨let ⟨o,e'⟩:=st.1;⟨o,k e (by simp) _ e'⟩,let ⟨o,e',p⟩:=st.2;⟨o,k it (by simp) _ e',p⟩⟩
 item:=by
  intro X hP hw hK hc i Z s σ H E I hf st hg;subst hP hw hK;obtain⟨xs,x,hx,gx⟩:=hg;obtain⟨ak,rx,tx,_⟩:=I.list hx;obtain⟨u,gu,ru⟩:=mL rx gx;obtain⟨⟨Ê,hz⟩,hi⟩:=st;refine wpAny_pyNext_enum_item hz hi tx.isList (by simpa using gu) Lm λh' zo j np _ k=>?_;refine⟨_,rfl,?_⟩;refine DV zo λh2 z2 b2=>?_;have le:=Ao hz;have li:=let ⟨_,e',_⟩:=hi;Ao e';have lt:∀b∈[e,it],b < s.heap.objs.size:=λb hb=>by
   simp only [Aw,Bx,or_false] at hb;rcases hb with rfl | rfl
   ·exact le
   ·exact li
  have nz:s.heap.objs.size≠e:=λz=>AX _ (by have:=le;rw [<- z] at this;exact this);have YM:∀b o,b∉[e,it]->s.heap.get? b=am o->h2.get? b=am o:=λb o hb e'=>by
   have Kx:b≠e:=λq=>hb (by simp [q]);rw [b2.2 b Kx];exact k b o Kx (λq=>hb (by simp [q])) e'
  have Yv:h2.get? s.heap.objs.size=am {cls:=.type "tuple",data:=.seq #[.int i s.toks,u]}:=(b2.2 _ nz).trans np;have Ze:=I.bu.fresh (An s.heap.objs.size);refine⟨.ref s.heap.objs.size,upd H s.heap.objs.size (.tup [.int i,x]),I.qU (t':=s.toks+1) hf YM (An _) ⟨by show 2<=sizeLine;decide,[.int i s.toks,u],.cons ⟨_,rfl⟩ (.cons ru .nil),⟨_,Yv,rfl,_,rfl⟩⟩,rfl,⟨_,x,rfl,Ze,rfl,λxs' h'=>by rw [I.zp h' hx];exact gx⟩,⟨⟨_,z2⟩,let ⟨o,e',p⟩:=j;⟨o,(b2.2 _ (BE Lm)).trans e',p⟩⟩,λb hb=>?_⟩;rw [aw (AB (lt b hb))];exact (hf b hb).1
 done:=by
  intro X hP hw hK hc i Z s σ H E I hf st hg;subst hP hw hK;obtain⟨xs,hx,hl⟩:=hg;obtain⟨ak,rx,tx,_⟩:=I.list hx;have el:=rx.length;obtain⟨⟨Ê,hz⟩,hi⟩:=st;refine wpAny_pyNext_enum_end (I.ok.hd hc) hz hi tx.isList (by simp;omega) λh' k=>⟨rfl,I.vC (t':=s.toks) hf λb o hb e'=>k b o (λz=>hb (by simp [z])) e'⟩
 self:=λA i s Q E st h=>let ⟨_,e'⟩:=st.1;C0 e' h
end L2
namespace My
open PySem PySem.Spec PyProof.Rows L2
def en:Tr->Nat->Nat->Ent
 | .leaf x,_,_=>.word x
 | .node l r,o,j=>if j < l.size then en l o j else if j < l.size+r.size then en r (o+l.size) (j-l.size) else .pair (o+l.size-1) (o+l.size+r.size-1)
def up:Tr->Nat->Nat->List Nat->List Nat
 | .leaf _,o,_,ab=>o::ab
 | .node l r,o,j,ab=>if j < l.size then up l o j ((o+l.size+r.size)::ab) else if j < l.size+r.size then up r (o+l.size) (j-l.size) ((o+l.size+r.size)::ab) else (o+l.size+r.size)::ab
def ip:Tr->Nat->Nat->V->V
 | .leaf _,_,_,p=>p
 | .node l r,o,j,p=>if j < l.size then ip l o j (.int (o+l.size+r.size:Nat)) else if j < l.size+r.size then ip r (o+l.size) (j-l.size) (.int (o+l.size+r.size:Nat)) else p
def be:Tr->Nat->Nat->List Nat
 | .leaf _,o,_=>[o]
 | .node l r,o,j=>if j < l.size then be l o j else if j < l.size+r.size then be r (o+l.size) (j-l.size) else be l o (l.size-1)++be r (o+l.size) (r.size-1)
theorem iD:∀(t:Tr) (o j:Nat),j < t.size->(t.nd o)[j]?=am (en t o j)
 | .leaf x,o,j,h=>by
  have:j=0:=by have:j < 1:=h;omega
  subst this;rfl
 | .node l r,o,j,h=>by
  have es:(Tr.node l r).size=l.size+r.size+1:=rfl;have hn:(Tr.node l r).nd o=l.nd o++r.nd (o+l.size)++[.pair (o+l.size-1) (o+l.size+r.size-1)]:=rfl;have ln:=l.a9 o;have rn:=r.a9 (o+l.size);unfold en;by_cases c1:j < l.size
  ·rw [if_pos c1,hn,AL,AM ∅];exact iD l o j c1
  ·rw [if_neg c1];by_cases c2:j < l.size+r.size
   ·rw [if_pos c2,hn,AL,AQ ∅,AM ∅,ln];exact iD r _ _ ∅
   ·rw [if_neg c2,hn,AQ (by rw [Ak];omega),Ak,ln,rn];have:j-(l.size+r.size)=0:=by omega
    rw [this];rfl
theorem Lz:∀(t:Tr) (o j:Nat) (ab:List Nat),∀x∈up t o j ab,(o<=x/\x < o+t.size)\/x∈ab
 | .leaf _,o,j,ab,x,h=>by
  have es:(Tr.leaf ‹_›).size=1:=rfl;rcases Aw.mp h with z | z
  ·left;omega
  ·exact .inr z
 | .node l r,o,j,ab,x,h=>by
  have es:(Tr.node l r).size=l.size+r.size+1:=rfl;unfold up at h
  split at h
  ·rcases Lz l _ _ _ _ h with z | z
   ·left;omega
   ·rcases Aw.mp z with z | z
    ·left;omega
    ·exact .inr z
  ·split at h
   ·rcases Lz r _ _ _ _ h with z | z
    ·left;omega
    ·rcases Aw.mp z with z | z
     ·left;omega
     ·exact .inr z
   ·rcases Aw.mp h with z | z
    ·left;omega
    ·exact .inr z
theorem OM:∀(t:Tr) (o j:Nat),j < t.size->(∃x,en t o j=.word x/\be t o j=[o+j])\/∃a b,en t o j=.pair (o+a) (o+b)/\a < j/\b < j/\be t o j=be t o a++be t o b
 | .leaf x,o,j,h=>by
  have:j=0:=by have:j < 1:=h;omega
  subst this;exact .inl ⟨x,rfl,rfl⟩
 | .node l r,o,j,h=>by
  have es:(Tr.node l r).size=l.size+r.size+1:=rfl;have lp:=l.size_pos;have rp:=r.size_pos;by_cases c1:j < l.size
  ·have e1:en (.node l r) o j=en l o j:=by rw [en,if_pos c1]
   have e2:∀k,k < l.size->be (.node l r) o k=be l o k:=λk hk=>by rw [be,if_pos hk]
   rw [e1];rcases OM l o j c1 with⟨x,q1,q2⟩ | ⟨a,b,q1,q2,q3,q4⟩
   ·exact .inl ⟨x,q1,by rw [e2 j c1];exact q2⟩
   ·exact .inr ⟨a,b,q1,q2,q3,by rw [e2 j c1,e2 a ∅,e2 b ∅];exact q4⟩
  ·by_cases c2:j < l.size+r.size
   ·have e1:en (.node l r) o j=en r (o+l.size) (j-l.size):=by rw [en,if_neg c1,if_pos c2]
    have e2:∀k,k < r.size->be (.node l r) o (l.size+k)=be r (o+l.size) k:=λk hk=>by
     rw [be,if_neg ∅,if_pos ∅];congr 1;omega
    have ej:j=l.size+(j-l.size):=by omega
    rw [e1];rcases OM r (o+l.size) (j-l.size) ∅ with⟨x,q1,q2⟩ | ⟨a,b,q1,q2,q3,q4⟩
    ·refine .inl ⟨x,q1,?_⟩;rw [ej,e2 _ ∅,q2];congr 1;omega
    ·refine .inr ⟨l.size+a,l.size+b,?_,by omega,by omega,?_⟩
     ·rw [q1,Bc,Bc]
     ·rw [e2 a ∅,e2 b ∅,ej,e2 _ ∅,q4]
   ·have ej:j=l.size+r.size:=by omega
    refine .inr ⟨l.size-1,l.size+r.size-1,?_,by omega,by omega,?_⟩
    ·rw [en,if_neg c1,if_neg c2];congr 1 <;> omega
    ·rw [be,if_neg c1,if_neg c2,be,if_pos ∅,be,if_neg ∅,if_pos ∅];congr 2;omega
theorem fN:∀(t:Tr) (o j:Nat) (p:V) (ab:List Nat),j < t.size->(j=t.size-1/\ip t o j p=p/\up t o j ab=(o+j)::ab)\/∃a,j < a/\a < t.size/\ip t o j p=.int (o+a:Nat)/\up t o j ab=(o+j)::up t o a ab
 | .leaf x,o,j,p,ab,h=>by
  have:j=0:=by have:j < 1:=h;omega
  subst this;exact .inl ⟨rfl,rfl,rfl⟩
 | .node l r,o,j,p,ab,h=>by
  have es:(Tr.node l r).size=l.size+r.size+1:=rfl;have lp:=l.size_pos;have rp:=r.size_pos;have er:up (.node l r) o (l.size+r.size) ab=(o+l.size+r.size)::ab:=by rw [up,if_neg ∅,if_neg ∅]
  by_cases c1:j < l.size
  ·have e1:ip (.node l r) o j p=ip l o j (.int (o+l.size+r.size:Nat)):=by rw [ip,if_pos c1]
   have e2:∀k,k < l.size->up (.node l r) o k ab=up l o k ((o+l.size+r.size)::ab):=λk hk=>by rw [up,if_pos hk]
   rw [e1,e2 j c1];rcases fN l o j (.int (o+l.size+r.size:Nat)) ((o+l.size+r.size)::ab) c1 with⟨q1,q2,q3⟩ | ⟨a,q1,q2,q3,q4⟩
   ·refine .inr ⟨l.size+r.size,by omega,by omega,by rw [q2,Bc],by rw [q3,er]⟩
   ·exact .inr ⟨a,q1,by omega,q3,by rw [q4,e2 a q2]⟩
  ·by_cases c2:j < l.size+r.size
   ·have e1:ip (.node l r) o j p=ip r (o+l.size) (j-l.size) (.int (o+l.size+r.size:Nat)):=by rw [ip,if_neg c1,if_pos c2]
    have e2:∀k,k < r.size->up (.node l r) o (l.size+k) ab=up r (o+l.size) k ((o+l.size+r.size)::ab):=λk hk=>by
     rw [up,if_neg ∅,if_pos ∅];congr 1;omega
    obtain⟨i,rfl⟩:∃i,j=l.size+i:=⟨j-l.size,by omega⟩;have ei:l.size+i-l.size=i:=by omega
    rw [e1,e2 i ∅,ei];rcases fN r (o+l.size) i (.int (o+l.size+r.size:Nat)) ((o+l.size+r.size)::ab) ∅ with⟨q1,q2,q3⟩ | ⟨a,q1,q2,q3,q4⟩
    ·refine .inr ⟨l.size+r.size,by omega,by omega,by rw [q2,Bc],by rw [q3,er,Bc]⟩
    ·exact .inr ⟨l.size+a,by omega,by omega,by rw [q3,Bc],by rw [q4,e2 a q2,Bc]⟩
   ·have ej:j=l.size+r.size:=by omega
    refine .inl ⟨by omega,by rw [ip,if_neg c1,if_neg c2],?_⟩;rw [ej,er,Bc]
def lU:Tr->Nat->V->List V
 | .leaf _,_,p=>[p]
 | .node l r,o,p=>lU l o (.int (o+l.size+r.size:Nat))++lU r (o+l.size) (.int (o+l.size+r.size:Nat))++[p]
theorem jD:∀(t:Tr) (o:Nat) (p:V),(lU t o p).length=t.size
 | .leaf _,_,_=>rfl
 | .node l r,o,p=>by
  unfold lU;rw [Ak,Ak,jD l,jD r];rfl
theorem JH (t:Tr) (o:Nat) (p q:V) (A B:List V):(A++lU t o p++B).set (A.length+t.size-1) q=A++lU t o q++B:=by
 have key:∃I,lU t o p=I++[p]/\lU t o q=I++[q]:=by
  cases t with
  | leaf _=>exact⟨[],rfl,rfl⟩
  | node l r=>exact⟨_,rfl,rfl⟩
 obtain⟨I,e1,e2⟩:=key;have h1:=jD t o p;rw [e1,Ak] at h1;have gY:I.length+1=t.size:=h1;rw [e1,e2];have ei:A.length+t.size-1=(A++I).length:=by rw [Ak];omega
 rw [ei,show A++(I++[p])++B=(A++I)++p::B by simp,List.set_append_right _ _ (An _),DJ];simp
theorem OT:∀(es fs:List Ent) (i:Nat) (l:List V),ah (es++fs) i l=ah fs (i+es.length) (ah es i l)
 | [],fs,i,l=>rfl
 | e::es,fs,i,l=>by
  show ah (es++fs) (i+1) (OU l i e)=ah fs (i+(es.length+1)) (ah es (i+1) (OU l i e));rw [OT es fs];congr 1;omega
theorem HI:∀(t:Tr) (A B:List V),ah (t.nd A.length) A.length (A++Am t.size .aD++B)=A++lU t A.length .aD++B
 | .leaf x,A,B=>rfl
 | .node l r,A,B=>by
  have es:(Tr.node l r).size=l.size+r.size+1:=rfl;have hn:(Tr.node l r).nd A.length=l.nd A.length++r.nd (A.length+l.size)++[.pair (A.length+l.size-1) (A.length+l.size+r.size-1)]:=rfl;have ln:=l.a9 A.length;have rn:=r.a9 (A.length+l.size);have h1:=HI l A (Am r.size .aD++([V.aD]++B));have e0:A++Am (Tr.node l r).size V.aD++B=A++Am l.size .aD++(Am r.size .aD++([V.aD]++B)):=by
   rw [es,<- C7,<- C7];simp only [AL];rfl
  rw [hn,xW,OT,e0,h1,ln];have la:(A++lU l A.length V.aD).length=A.length+l.size:=by rw [Ak,jD]
  have h2:=HI r (A++lU l A.length V.aD) ([V.aD]++B);rw [la] at h2;have e1:A++lU l A.length V.aD++(Am r.size V.aD++([V.aD]++B))=A++lU l A.length V.aD++Am r.size V.aD++([V.aD]++B):=by simp [AL]
  rw [e1,h2,Ak,ln,rn];show ((_:List V).set (A.length+l.size-1) _).set (A.length+l.size+r.size-1) _=_;have s1:=JH l A.length .aD (.int (A.length+(l.size+r.size):Nat)) A (lU r (A.length+l.size) V.aD++([V.aD]++B));have e2:A++lU l A.length V.aD++lU r (A.length+l.size) V.aD++([V.aD]++B)=A++lU l A.length V.aD++(lU r (A.length+l.size) V.aD++([V.aD]++B)):=by simp [AL]
  rw [e2,s1];have lb:(A++lU l A.length (V.int (A.length+(l.size+r.size):Nat))).length=A.length+l.size:=by rw [Ak,jD]
  have s2:=JH r (A.length+l.size) .aD (.int (A.length+(l.size+r.size):Nat)) (A++lU l A.length (V.int (A.length+(l.size+r.size):Nat))) ([V.aD]++B);rw [lb] at s2;have e3:A++lU l A.length (V.int (A.length+(l.size+r.size):Nat))++(lU r (A.length+l.size) V.aD++([V.aD]++B))=A++lU l A.length (V.int (A.length+(l.size+r.size):Nat))++lU r (A.length+l.size) V.aD++([V.aD]++B):=by simp [AL]
  rw [e3,s2];have e4:lU (.node l r) A.length .aD=lU l A.length (.int (A.length+l.size+r.size:Nat))++lU r (A.length+l.size) (.int (A.length+l.size+r.size:Nat))++[.aD]:=rfl;rw [e4,Bc A.length l.size r.size];simp [AL]
theorem xU:∀(t:Tr) (o j:Nat) (p:V),j < t.size->(lU t o p)[j]?=am (ip t o j p)
 | .leaf x,o,j,p,h=>by
  have:j=0:=by have:j < 1:=h;omega
  subst this;rfl
 | .node l r,o,j,p,h=>by
  have es:(Tr.node l r).size=l.size+r.size+1:=rfl;have ln:=jD l o (.int (o+l.size+r.size:Nat));have rn:=jD r (o+l.size) (.int (o+l.size+r.size:Nat));unfold lU ip;by_cases c1:j < l.size
  ·rw [if_pos c1,AL,AM ∅];exact xU l _ _ _ c1
  ·rw [if_neg c1];by_cases c2:j < l.size+r.size
   ·rw [if_pos c2,AL,AQ ∅,AM ∅,ln];exact xU r _ _ _ ∅
   ·rw [if_neg c2,AQ (by rw [Ak];omega),Ak,ln,rn];have:j-(l.size+r.size)=0:=by omega
    rw [this];rfl
def Wn (t:Tr) (h:j < t.size):(ah (t.nd 0) 0 (Am t.size .aD))[j]?=am (ip t 0 j .aD):=by
 have q:=HI t [] [];have e:([]:List V)++Am t.size .aD++[]=Am t.size .aD:=by simp
 have e2:([]:List V)++lU t ([]:List V).length .aD++[]=lU t 0 .aD:=by simp
 rw [e,e2] at q;have q':ah (t.nd 0) 0 (Am t.size .aD)=lU t 0 .aD:=q;rw [q'];exact xU t 0 j .aD h
end My
variable {H1:L2.Hp}{ι:List BG}
namespace PL
section
open PySem PySem.Spec PyProof.Rows L2
variable {K:Ab}
def Tx (K:Ab) (H:Hp) (a:ce) (xs:List V):Prop:=(∃o,H a=am (.cI o (.lst xs)))\/
  ∃(o:Obj) (ak:Array bn) (n:Nat),K.lookup a=am o/\o.cls=.type "list"/\o.dict=bm/\o.data=.seq ak n/\ak.size<=sizeLine/\Vals xs ak.toList
def Tx.sq {a:ce} (h:Tx K H a xs):dP K H a xs:=h.elim (λh=>.inl (.inr h)) .inr
structure bc (K:Ab) (H H':Hp):Prop where
 t:∀p vs,H p=am (.tup vs)->H' p=am (.tup vs)
 z:∀p o u,H p=am (.cI o u)->H' p=am (.cI o u)
def bc.f {H H':Hp} (t:bc K H H') (p:ce) (vs:List V) (h:Tx K H p vs):Tx K H' p vs:=h.elim (λ⟨o,h⟩=>.inl ⟨o,t.z _ _ _ h⟩) .inr
def bc.refl (H:Hp):bc K H H:=⟨λ_ _ h=>h,λ_ _ _ h=>h⟩
def bc.trans (a:bc K H H1) (b:bc K H1 H2):bc K H H2:=⟨λp vs h=>b.t p vs (a.t p vs h),λp o w h=>b.z p o w (a.z p o w h)⟩
def _root_.L2.kG.dY (s:kG H H'):bc K H H':=⟨λp vs h=>s _ _ h,λp o u h=>s _ _ h⟩
inductive PV where
 | aD | bl (b:Bool) | int (i:Int) | str (x:Str) | tup (l:List PV) | ref (n:Nat) | ty (n:String) | cl (l:List PV) | dv (ks vs:List PV)
def kP:Key->PV
 | .inl i=>.int i
 | .inr x=>.str x
inductive PO where
 | lst (xs:List PV) | dk (kvs:List (Key×PV)) | dt (kvs:List (List Key×PV)) | opq (φ:List V->Prop)
abbrev PH:=List PO
abbrev yp:=List (Option PV)
mutual
inductive VR (K:Ab) (ι:List ce) (H:Hp):V->PV->Prop
 | aD:VR K ι H .aD .aD
 | bl (b:Bool):VR K ι H (.bl b) (.bl b)
 | int (i:Int):VR K ι H (.int i) (.int i)
 | str (x:Str):VR K ι H (.str x) (.str x)
 | ty (n:String):VR K ι H (.ty n) (.ty n)
 | tup {p:ce}{vs:List V}{l:List PV} (h:H p=am (.tup vs)) (r:aB K ι H vs l):VR K ι H (.ref p) (.tup l)
 | ref {n:Nat}{a:ce} (h:ι[n]?=am a):VR K ι H (.ref a) (.ref n)
 | cl {a:ce}{vs:List V}{l:List PV} (h:Tx K H a vs) (r:aB K ι H vs l):VR K ι H (.ref a) (.cl l)
 | dk {a:ce}{o:Obj}{kvs:List (Key×V)}{ks l:List PV} (h:H a=am (.cI o (.dK kvs))) (e:ks=kvs.map λkv=>kP kv.1) (r:aB K ι H (kvs.map (·.2)) l):VR K ι H (.ref a) (.dv ks l)
 | dt {a:ce}{o:Obj}{kvs:List (List Key×V)}{ks l:List PV} (h:H a=am (.cI o (.dT kvs))) (e:ks=kvs.map λkv=>.tup (kv.1.map kP)) (r:aB K ι H (kvs.map (·.2)) l):VR K ι H (.ref a) (.dv ks l)
inductive aB (K:Ab) (ι:List ce) (H:Hp):List V->List PV->Prop
 | nil:aB K ι H [] []
 | cons {v:V}{p:PV}{vs:List V}{ps:List PV} (r:VR K ι H v p) (t:aB K ι H vs ps):aB K ι H (v::vs) (p::ps)
end
section
variable {ι':List ce}
mutual
theorem VR.mono (ht:bc K H H') (hi:∀(n:Nat) (a:ce),ι[n]?=am a->ι'[n]?=am a):∀{v:V}{p:PV},VR K ι H v p->VR K ι' H' v p
 | _,_,.aD=>.aD
 | _,_,.bl b=>.bl b
 | _,_,.int i=>.int i
 | _,_,.str x=>.str x
 | _,_,.ty n=>.ty n
 | _,_,.tup h r=>.tup (ht.t _ _ h) (aB.mono ht hi r)
 | _,_,.cl h r=>.cl (ht.f _ _ h) (aB.mono ht hi r)
 | _,_,.dk h e r=>.dk (ht.z _ _ _ h) e (aB.mono ht hi r)
 | _,_,.dt h e r=>.dt (ht.z _ _ _ h) e (aB.mono ht hi r)
 | _,_,.ref h=>.ref (hi _ _ h)
theorem aB.mono (ht:bc K H H') (hi:∀(n:Nat) (a:ce),ι[n]?=am a->ι'[n]?=am a):∀{vs:List V}{ps:List PV},aB K ι H vs ps->aB K ι' H' vs ps
 | _,_,.nil=>.nil
 | _,_,.cons r t=>.cons (VR.mono ht hi r) (aB.mono ht hi t)
end
theorem aB.length:∀{vs:List V}{ps:List PV},aB K ι H vs ps->vs.length=ps.length
 | _,_,.nil=>rfl
 | _,_,.cons _ t=>by rw [Ar,Ar,aB.length t]
theorem aB.get:∀{vs:List V}{ps:List PV}{i:Nat}{p:PV},aB K ι H vs ps->ps[i]?=am p->∃v,vs[i]?=am v/\VR K ι H v p
 | _,_,_,_,.nil,e=>by simp at e
 | _,_,0,_,.cons r _,e=>by simp at e;subst e;exact⟨_,rfl,r⟩
 | _,_,i+1,p,.cons _ t,e=>by
  obtain⟨v,h1,h2⟩:=aB.get (i:=i) (p:=p) t (by simpa using e);exact⟨v,by simpa using h1,h2⟩
theorem aB.Zq:∀{vs:List V}{ps:List PV}{i:Nat}{v:V},aB K ι H vs ps->vs[i]?=am v->∃p,ps[i]?=am p/\VR K ι H v p
 | _,_,_,_,.nil,e=>by simp at e
 | _,_,0,_,.cons r _,e=>by simp at e;subst e;exact⟨_,rfl,r⟩
 | _,_,i+1,p,.cons _ t,e=>by
  obtain⟨v,h1,h2⟩:=aB.Zq (i:=i) (v:=p) t (by simpa using e);exact⟨v,by simpa using h1,h2⟩
theorem aB.set {p:PV} (r:VR K ι H v p):∀{vs:List V}{ps:List PV} (i:Nat),aB K ι H vs ps->aB K ι H (vs.set i v) (ps.set i p)
 | _,_,_,.nil=>.nil
 | _,_,0,.cons _ t=>.cons r t
 | _,_,i+1,.cons q t=>.cons q (aB.set r i t)
theorem aB.append:∀{xs ys:List V}{us ws:List PV},aB K ι H xs us->aB K ι H ys ws->aB K ι H (xs++ys) (us++ws)
 | _,_,_,_,.nil,s=>s
 | _,_,_,_,.cons r t,s=>.cons r (aB.append t s)
theorem aB.take:∀{xs:List V}{us:List PV} (n:Nat),aB K ι H xs us->aB K ι H (xs.take n) (us.take n)
 | _,_,0,_=>.nil
 | _,_,_+1,.nil=>.nil
 | _,_,n+1,.cons r t=>.cons r (aB.take n t)
theorem aB.drop:∀{xs:List V}{us:List PV} (n:Nat),aB K ι H xs us->aB K ι H (xs.drop n) (us.drop n)
 | _,_,0,r=>r
 | _,_,_+1,.nil=>.nil
 | _,_,n+1,.cons _ t=>aB.drop n t
theorem aB.reverse:∀{xs:List V}{us:List PV},aB K ι H xs us->aB K ι H xs.reverse us.reverse
 | _,_,.nil=>.nil
 | _,_,.cons r t=>by rw [CF,CF];exact (aB.reverse t).append (.cons r .nil)
def aB.one {p:PV} (r:VR K ι H v p):aB K ι H [v] [p]:=.cons r .nil
end
structure Go (ι ι':List ce) (H H':Hp):Prop where
 ext:∃m,ι'=ι++m
 new:∀a,a∈ι'->a∉ι->H a=bm
 keep:∀a o,a∉ι->H a=am o->H' a=am o
def Go.refl (ι:List ce) (H:Hp):Go ι ι H H:=⟨⟨[],by simp⟩,λa h n=>absurd h n,λ_ _ _ h=>h⟩
def OR (K:Ab) (ι:List ce) (H:Hp) (a:ce):PO->Prop
 | .lst xs=>∃vs,H a=am (.lst vs)/\aB K ι H vs xs
 | .dk kvs=>∃vs:List (Key×V),H a=am (.dK vs)/\vs.map (·.1)=kvs.map (·.1)/\aB K ι H (vs.map (·.2)) (kvs.map (·.2))
 | .dt kvs=>∃vs:List (List Key×V),H a=am (.dT vs)/\vs.map (·.1)=kvs.map (·.1)/\aB K ι H (vs.map (·.2)) (kvs.map (·.2))
 | .opq φ=>∃vs,H a=am (.lst vs)/\φ vs
structure HR (K:Ab) (ι:List ce) (H:Hp) (h:PH):Prop where
 nd:ι.Nodup
 len:ι.length=h.length
 obj:∀(n:Nat) (a:ce) (o:PO),ι[n]?=am a->h[n]?=am o->OR K ι H a o
end
end PL
variable {e:B7}
namespace PL
section
open PySem PySem.Spec PyProof.Rows L2
variable {K:Ab}
abbrev QV:=PV->PH->Prop
structure ME where
 run:yp->PH->QV->Prop
 mono:∀{ps h}{Q Q':QV},(∀v h',Q v h'->Q' v h')->run ps h Q->run ps h Q'
structure MT where
 run:yp->PH->(Bool->PH->Prop)->Prop
 mono:∀{ps h}{Q Q':Bool->PH->Prop},(∀v h',Q v h'->Q' v h')->run ps h Q->run ps h Q'
structure MA where
 run:yp->PH->(List PV->PH->Prop)->Prop
 mono:∀{ps h}{Q Q':List PV->PH->Prop},(∀v h',Q v h'->Q' v h')->run ps h Q->run ps h Q'
structure ML where
 run:yp->PH->(List PV->PH->Prop)->Prop
 mono:∀{ps h}{Q Q':List PV->PH->Prop},(∀v h',Q v h'->Q' v h')->run ps h Q->run ps h Q'
structure Src where
 items:List PV
 ok:PH->Prop
 fz:Bool
structure MI where
 run:yp->PH->(Src->PH->Prop)->Prop
 mono:∀{ps h}{Q Q':Src->PH->Prop},(∀v h',Q v h'->Q' v h')->run ps h Q->run ps h Q'
structure PD where
 nx:yp->PH->Prop
 rt:QV
 bk:yp->PH->Prop
 ct:yp->PH->Prop
structure PD.Le (D D':PD):Prop where
 nx:∀ps h,D.nx ps h->D'.nx ps h
 rt:∀v h,D.rt v h->D'.rt v h
 bk:∀ps h,D.bk ps h->D'.bk ps h
 ct:∀ps h,D.ct ps h->D'.ct ps h
structure MS where
 run:PD->yp->PH->Prop
 mono:∀{D D' ps h},PD.Le D D'->run D ps h->run D' ps h
structure MG where
 run:PV->yp->PH->(yp->PH->Prop)->Prop
 mono:∀{v ps h}{Q Q':yp->PH->Prop},(∀ps h,Q ps h->Q' ps h)->run v ps h Q->run v ps h Q'
def pQ (K:Ab) (ι:List ce) (H:Hp) (Q:VK):QV:=λp h'=>∀ι' v H',Go ι ι' H H'->HR K ι' H' h'->VR K ι' H' v p->Q v H'
def PE.imp {t t':TE} (h:PE X e t) (f:∀σ H Q,t' σ H Q->t σ H Q):PE X e t':=λZ s σ H Q I q=>h Z s σ H Q I (f _ _ _ q)
def PT.imp {t t':TT} (h:PT X e t) (f:∀σ H Q,t' σ H Q->t σ H Q):PT X e t':=λZ s σ H Q I q=>h Z s σ H Q I (f _ _ _ q)
def PW.imp {t t':TT} (h:PW X e t) (f:∀σ H Q,t' σ H Q->t σ H Q):PW X e t':=λw Z s σ H Q I q=>h w Z s σ H Q I (f _ _ _ q)
def PA.imp {e:List gt}{t t':TA} (h:PA X e t) (f:∀σ H Q,t' σ H Q->t σ H Q):PA X e t':=λpos Z s σ H Q I q=>h pos Z s σ H Q I (f _ _ _ q)
def qN.imp {e:List ul}{t t':TS} (h:qN X e t) (f:∀D σ H,t' D σ H->t D σ H):qN X e t':=λZ s σ H D I q=>h Z s σ H D I (f _ _ _ q)
def PG.imp {t t':TG} (h:PG X e t) (f:∀v σ H Q,t' v σ H Q->t v σ H Q):PG X e t':=λZ s σ H v u Q I r q=>h Z s σ H v u Q I r (f _ _ _ _ q)
def PI.imp {t t':TI} (h:PI X tg e t) (f:∀σ H Q,t' σ H Q->t σ H Q):PI X tg e t':=λZ s σ H R I q=>h Z s σ H R I (f _ _ _ q)
section
abbrev P2:=PV->PV->PH->QV->Prop
structure M2 where
 f:P2
 mono:∀{x y h}{Q Q':QV},(∀v h',Q v h'->Q' v h')->f x y h Q->f x y h Q'
def M2.Ok (K:Ab) (r:R2) (m:M2):Prop:=∀{ι H h u v x y Q},HR K ι H h->VR K ι H u x->VR K ι H v y->m.f x y h (pQ K ι H Q)->r u v H Q
end
end
section
open PySem PySem.Spec PyProof.Rows L2
variable {K:Ab}
section
def km:∀{vs:List V}{l:List PV},aB K ι H vs l->(!l.isEmpty)=!vs.isEmpty
 | _,_,.nil=>rfl
 | _,_,.cons _ _=>rfl
structure MQ where
 run:yp->PH->(Src->PH->Prop)->Prop
 mono:∀{ps h}{Q Q':Src->PH->Prop},(∀v h',Q v h'->Q' v h')->run ps h Q->run ps h Q'
end
end
open PySem PySem.Spec PyProof.Rows L2
section
structure MGs where
 run:List PV->yp->PH->(yp->PH->Prop)->Prop
 mono:∀{v ps h}{Q Q':yp->PH->Prop},(∀ps h,Q ps h->Q' ps h)->run v ps h Q->run v ps h Q'
end
section
variable {K:Ab}
section
structure yq where
 f:List PV->PH->QV->Prop
 mono:∀{l h}{Q Q':QV},(∀v h',Q v h'->Q' v h')->f l h Q->f l h Q'
def yq.Ok (K:Ab) (r:List V->Hp->VK->Prop) (m:yq):Prop:=∀{ι H h vs l Q},HR K ι H h->aB K ι H vs l->m.f l h (pQ K ι H Q)->r vs H Q
end
end
end PL
variable {g':Int->Int->L2.V}{g:Int->Int->PL.PV}
namespace PL
section
open PySem PySem.Spec PyProof.Rows L2
variable {K:Ab}
def aI (g:Int->Int->PV):M2:=⟨λx y h Q=>match x,y with | .int i,.int j=>Q (g i j) h | _,_=>False,λf q=>by
 revert q
 split
 ·exact f _ _
 ·exact λz=>z⟩
def Wr (C:Int->Int->Prop) (g:Int->Int->PV):M2:=⟨λx y h Q=>match x,y with | .int i,.int j=>C i j/\Q (g i j) h | _,_=>False,λf q=>by
 revert q
 split
 ·exact λq=>⟨q.1,f _ _ q.2⟩
 ·exact λz=>z⟩
def FG (hg:∀ι H i j,VR K ι H (g' i j) (g i j)):M2.Ok K (P4 g') (aI g):=by
 intro ι H h u v x y Q hr hu hv q;unfold aI at q;dsimp only at q;revert q
 split
 ·intro q;cases hu;cases hv;exact⟨_,_,rfl,rfl,q ι _ H (Go.refl _ _) hr (hg _ _ _ _)⟩
 ·exact Bo
def xX {C:Int->Int->Prop} (hg:∀ι H i j,VR K ι H (g' i j) (g i j)):M2.Ok K (rI C g') (Wr C g):=by
 intro ι H h u v x y Q hr hu hv q;unfold Wr at q;dsimp only at q;revert q
 split
 ·intro q;cases hu;cases hv;exact⟨_,_,rfl,rfl,q.1,q.2 ι _ H (Go.refl _ _) hr (hg _ _ _ _)⟩
 ·exact Bo
def y9:=aI λi j=>.int (i-j)
def oW:=Wr wS λi j=>.int (i*j)
def oDiv:=Wr Lh λi j=>.int (i / j)
def oMod:=Wr (λ_ j=>0 < j) λi j=>.int (i % j)
def MK:=Wr O2 λi j=>.int (i ^ j.toNat)
def oLt:=aI λi j=>.bl (decide (i < j))
def oLe:=aI λi j=>.bl (decide (i<=j))
def WE:=aI λi j=>.bl (decide (j < i))
def oGe:=aI λi j=>.bl (decide (j<=i))
section
def aB.i9:∀{vs:List V}{l:List PV},aB K ι H vs l->(vs=[]↔l=[])
 | _,_,.nil=>by simp
 | _,_,.cons _ _=>by simp
end
mutual
def PV.dat:PV->Bool
 | .tup l=>ug l
 | .ref _=>false
 | .ty _=>false
 | .cl _=>false
 | .dv _ _=>false
 | _=>true
def ug:List PV->Bool
 | []=>true
 | x::l=>x.dat&&ug l
end
end
section
open PySem PySem.Spec PyProof.Rows L2
variable {K:Ab}
section
def PV.kl:PV->Bool
 | .aD=>true
 | _=>false
def MP:M2:=⟨λx y h Q=>match y with | .aD=>Q (.bl x.kl) h | _=>False,λf q=>by
 revert q
 split
 ·exact f _ _
 ·exact λz=>z⟩
def uI:M2:=⟨λx y h Q=>match y with | .aD=>Q (.bl (!x.kl)) h | _=>False,λf q=>by
 revert q
 split
 ·exact f _ _
 ·exact λz=>z⟩
def uV {x:PV} (h:VR K ι H v x):decide (v=.aD)=x.kl:=by cases h <;> simp [PV.kl]
def QE:M2.Ok K (λx y H Q=>y=.aD/\Q (.bl (decide (x=.aD))) H) MP:=by
 intro ι H h u v x y Q hr hu hv q;cases hv with
 | aD=>exact⟨rfl,q ι _ H (Go.refl _ _) hr (by rw [uV hu];exact .bl _)⟩
 | _=>exact q.elim
def MM:M2.Ok K (λx y H Q=>y=.aD/\Q (.bl (!decide (x=.aD))) H) uI:=by
 intro ι H h u v x y Q hr hu hv q;cases hv with
 | aD=>exact⟨rfl,q ι _ H (Go.refl _ _) hr (by rw [uV hu];exact .bl _)⟩
 | _=>exact q.elim
end
end
end PL
variable {l:List PL.PV}
namespace PL
section
open PySem PySem.Spec PyProof.Rows L2
variable {K:Ab}
section
def L9 {v':V}{w:bn} (h:RelV v w) (h':RelV v' w):v=v':=Option.some.inj (h.abs.symm.trans h'.abs)
end
section
variable {c:gt}
def mIx (a:MQ) (b:ME):ME:=⟨λps h Q=>a.run ps h λS h1=>b.run ps h1 λy h2=>match y with
 | .int k=>S.ok h2/\match dD S.items k with | some v=>Q v h2 | none=>False
 | _=>False,λf q=>a.mono (λ_ _ q=>b.mono (λ_ _ q=>by
  revert q
  split
  ·rintro⟨q0,q⟩;refine⟨q0,?_⟩;revert q
   split
   ·exact f _ _
   ·exact λz=>z
  ·exact λz=>z) q) q⟩
def aB.dD (r:aB K ι H vs l) {k:Int}{p:PV} (e:L2.dD l k=am p):∃v,L2.dD vs k=am v/\VR K ι H v p:=by
 unfold L2.dD at e ⊢;rw [r.length];cases z:tq l.length k with
 | none=>rw [z] at e;cases e
 | some j=>
  rw [z] at e;exact r.get e
def MN:M2:=⟨λx y h Q=>match x,y with
 | .str z,.int k=>z.length<=sizeLine/\match L2.dD z.cps.toList k with | some c=>Q (.str ⟨#[c]⟩) h | none=>False
 | _,_=>False,λf q=>by
  revert q
  split
  ·rintro⟨q0,q⟩;refine⟨q0,?_⟩;revert q
   split
   ·exact f _ _
   ·exact λz=>z
  ·exact λz=>z⟩
def QD:M2.Ok K Uw MN:=by
 intro ι H h u v x y Q hr hu hv q;unfold MN at q;dsimp only at q;revert q
 split
 ·rename_i z k;rintro⟨q0,q⟩;cases hu;cases hv;cases e:L2.dD z.cps.toList k with
  | none=>rw [e] at q;exact q.elim
  | some c=>rw [e] at q;exact⟨z,k,c,rfl,rfl,q0,e,q ι _ H (Go.refl _ _) hr (.str _)⟩
 ·exact Bo
def fD:yq:=⟨λl h Q=>match l with
 | [.str y]=>y.length<=sizeLine/\Q (.int y.length) h
 | [.tup l]=>Q (.int l.length) h
 | [.cl l]=>Q (.int l.length) h
 | [.ref n]=>match h[n]? with
  | some (.lst xs)=>Q (.int xs.length) h
  | _=>False
 | _=>False,λf q=>by
  revert q
  split
  ·exact λq=>⟨q.1,f _ _ q.2⟩
  ·exact f _ _
  ·exact f _ _
  ·split
   ·exact f _ _
   ·exact λz=>z
  ·exact λz=>z⟩
def RZ (K:Ab):yq.Ok K (Uv K) fD:=by
 intro ι H h vs l Q hr hv q;unfold fD at q;dsimp only at q;revert q
 split
 ·intro q;cases hv with
  | cons x t=>cases t;cases x;exact⟨_,_,rfl,⟨q.1,rfl⟩,q.2 ι _ H (Go.refl _ _) hr (.int _)⟩
 ·intro q;cases hv with
  | cons x t=>
   cases t;cases x with
   | tup e r=>exact⟨_,_,rfl,.inr ⟨_,dG.of e,r.length.symm⟩,q ι _ H (Go.refl _ _) hr (.int _)⟩
 ·intro q;cases hv with
  | cons x t=>
   cases t;cases x with
   | cl e r=>exact⟨_,_,rfl,.inl ⟨_,e.sq,r.length.symm⟩,q ι _ H (Go.refl _ _) hr (.int _)⟩
 ·rename_i n;cases hv with
  | cons x t=>
   cases t;cases x with
   | @ref _ a e=>
   split
   ·rename_i xs hn;intro q;obtain⟨ws,e1,e2⟩:=hr.obj n a _ e hn;exact⟨_,_,rfl,.inl ⟨ws,dP.of e1,e2.length.symm⟩,q ι _ H (Go.refl _ _) hr (.int _)⟩
   ·exact Bo
 ·exact Bo
inductive Kd where
 | str | tup | int | bool
def Kd.name:Kd->String
 | .str=>"str" | .tup=>"tuple" | .int=>"int" | .bool=>"bool"
def Kd.is:Kd->PV->Bool
 | .str,.str _=>true
 | .tup,.tup _=>true
 | .int,.int _=>true
 | .int,.bl _=>true
 | .bool,.bl _=>true
 | _,_=>false
def X9 (K:Ab):List V->Hp->VK->Prop:=λxs H Q=>∃x c t b,xs=[x,.ty c]/\(lE K H x t\/(t=.type "tuple"/\∃a vs,x=.ref a/\dG K H a vs))/\Br K t (.type c)=am b/\Q (.bl b) H
def K4 (K:Ab) (hK:X.K=K):bN X (.builtin "isinstance") (X9 K):=by
 subst hK;intro Z s σ H xs us Q I r h;obtain⟨x,c,t,b,rfl,ty | ⟨rfl,a,vs,rfl,hT⟩,e,q⟩:=h
 ·exact pW Z s σ H _ us Q I r ⟨x,c,t,b,rfl,ty,e,q⟩
 ·obtain⟨u,w,rfl,r1,r2⟩:=vals2 r;cases r1;cases r2;obtain⟨ak,_,⟨o,h1,h2,_⟩,_⟩:=I.tuple hT;exact A7 E9 I.uT ⟨o,h1,h2⟩ e (λz=>nomatch z) λtk=>⟨.bl b,H,I.tok _,rfl,q⟩
def qA (K:Ab):(∀k:Kd,Br K (.type "NoneType") (.type k.name)=am false)/\(∀k:Kd,Br K (.type "list") (.type k.name)=am false)/\(∀k:Kd,Br K (.type "dict") (.type k.name)=am false):=
 ⟨λk=>by cases k <;> kernel_rfl,λk=>by cases k <;> kernel_rfl,λk=>by cases k <;> kernel_rfl⟩
def Vl (K:Ab) (b:Bool) (k:Kd):Br K (.type "bool") (.type k.name)=am (k.is (.bl b)):=by cases k <;> kernel_rfl
def Q2 (K:Ab) (b:Int) (k:Kd):Br K (.type "int") (.type k.name)=am (k.is (.int b)):=by cases k <;> kernel_rfl
def Q1 (K:Ab) (b:Str) (k:Kd):Br K (.type "str") (.type k.name)=am (k.is (.str b)):=by cases k <;> kernel_rfl
def Q0 (K:Ab) (b:List PV) (k:Kd):Br K (.type "tuple") (.type k.name)=am (k.is (.tup b)):=by cases k <;> kernel_rfl
def Fz:yq:=⟨λl h Q=>match l with | [.int i]=>Q (.int (if i < 0 then -i else i)) h | _=>False,λf q=>by
 revert q
 split
 ·exact f _ _
 ·exact λz=>z⟩
def R1:yq.Ok K (λxs H Q=>∃i,xs=[.int i]/\Q (.int (if i < 0 then -i else i)) H) Fz:=by
 intro ι H h vs l Q hr hv q;unfold Fz at q;dsimp only at q;revert q
 split
 ·intro q;cases hv with
  | cons x t=>cases t;cases x;exact⟨_,rfl,q ι _ H (Go.refl _ _) hr (.int _)⟩
 ·exact Bo
def HG:yq:=⟨λl h Q=>match l with | [.int i]=>Q (.int i) h | [.bl k]=>Q (.int (if k then 1 else 0)) h | _=>False,λf q=>by
 revert q
 split
 ·exact f _ _
 ·exact f _ _
 ·exact λz=>z⟩
def R0:yq.Ok K (λxs H Q=>(∃i,xs=[.int i]/\Q (.int i) H)\/∃k,xs=[.bl k]/\Q (.int (if k then 1 else 0)) H) HG:=by
 intro ι H h vs l Q hr hv q;unfold HG at q;dsimp only at q;revert q
 split
 ·intro q;cases hv with
  | cons x t=>cases t;cases x;exact .inl ⟨_,rfl,q ι _ H (Go.refl _ _) hr (.int _)⟩
 ·intro q;cases hv with
  | cons x t=>cases t;cases x;exact .inr ⟨_,rfl,q ι _ H (Go.refl _ _) hr (.int _)⟩
 ·exact Bo
def K9:yq:=⟨λl h Q=>match l with | [.int i,.int j]=>Q (.int (if j > i then j else i)) h | _=>False,λf q=>by
 revert q
 split
 ·exact f _ _
 ·exact λz=>z⟩
def K8:yq:=⟨λl h Q=>match l with | [.int i,.int j]=>Q (.int (if j < i then j else i)) h | _=>False,λf q=>by
 revert q
 split
 ·exact f _ _
 ·exact λz=>z⟩
def RY:yq.Ok K (λxs H Q=>∃i j,xs=[.int i,.int j]/\Q (.int (if j > i then j else i)) H) K9:=by
 intro ι H h vs l Q hr hv q;unfold K9 at q;dsimp only at q;revert q
 split
 ·intro q;cases hv with
  | cons x t=>cases t with
   | cons y t=>cases t;cases x;cases y;exact⟨_,_,rfl,q ι _ H (Go.refl _ _) hr (.int _)⟩
 ·exact Bo
def RX:yq.Ok K (λxs H Q=>∃i j,xs=[.int i,.int j]/\Q (.int (if j < i then j else i)) H) K8:=by
 intro ι H h vs l Q hr hv q;unfold K8 at q;dsimp only at q;revert q
 split
 ·intro q;cases hv with
  | cons x t=>cases t with
   | cons y t=>cases t;cases x;cases y;exact⟨_,_,rfl,q ι _ H (Go.refl _ _) hr (.int _)⟩
 ·exact Bo
end
end
section
open PySem PySem.Spec PyProof.Rows L2
variable {K:Ab}
section
def Mc (K:Ab):List V->Hp->VK->Prop:=λxs H Q=>∃p ys,xs=[.ref p]/\((dP K H p ys/\ke H (.tup ys) Q)\/(dG K H p ys/\Q (.ref p) H))
def K1 (K:Ab) (hK:X.K=K):bN X (.type "tuple") (Mc K):=by
 subst hK;exact ui.mono λxs H Q ⟨p,ys,e,h⟩=>⟨p,ys,e,h.imp (λ⟨h1,h2⟩=>⟨h1,λl hl=>h2.at l hl⟩) λz=>z⟩
structure MQL where
 run:yp->PH->(Src->PH->Prop)->Prop
 mono:∀{ps h}{Q Q':Src->PH->Prop},(∀v h',Q v h'->Q' v h')->run ps h Q->run ps h Q'
structure MO where
 run:yp->PH->(Option Int->PH->Prop)->Prop
 mono:∀{ps h}{Q Q':Option Int->PH->Prop},(∀v h',Q v h'->Q' v h')->run ps h Q->run ps h Q'
def PO.imp {e:Option gt}{t t':TO} (h:L2.PO X e t) (f:∀σ H Q,t' σ H Q->t σ H Q):L2.PO X e t':=λZ s σ H Q I q=>h Z s σ H Q I (f _ _ _ q)
def uh (xs:List PV) (lo hi:Option Int):List PV:=(xs.drop (HT.dR xs.length 0 lo)).take (HT.dR xs.length xs.length hi-HT.dR xs.length 0 lo)
def aB.cut (r:aB K ι H vs l) (lo hi:Option Int):aB K ι H (xQ vs lo hi) (uh l lo hi):=by
 unfold xQ uh;rw [r.length];exact (r.drop _).take _
end
end
end PL
variable {t1:L2.TE}{tp:B9}
namespace PL
section
open PySem PySem.Spec PyProof.Rows L2
variable {K:Ab}
section
variable {c:gt}
def iK (lo:Int) (n:Nat):List PV:=(AG n).map λ(i:Nat)=>.int (lo+(i:Int))
def iJ (lo:Int) (n:Nat):(iK lo n).length=n:=by unfold iK;simp
def ph {lo:Int}{p:PV} (h:(iK lo n)[i]?=am p):i < n/\p=.int (lo+i):=by
 unfold iK at h;rw [Aj] at h;cases z:(AG n)[i]? with
 | none=>rw [z] at h;cases h
 | some k=>
  rw [z] at h;obtain⟨h1,h2⟩:=Al.mp z;simp at h1 h2;subst h2;exact⟨h1,(Option.some.inj h).symm⟩
def pT (lo:Int) (n:Nat):List PV:=(AG n).map λ(i:Nat)=>.int (lo-(i:Int))
def va (lo:Int) (n:Nat):(pT lo n).length=n:=by unfold pT;simp
def vc {lo:Int}{p:PV} (h:(pT lo n)[i]?=am p):i < n/\p=.int (lo-i):=by
 unfold pT at h;rw [Aj] at h;cases z:(AG n)[i]? with
 | none=>rw [z] at h;cases h
 | some k=>
  rw [z] at h;obtain⟨h1,h2⟩:=Al.mp z;simp at h1 h2;subst h2;exact⟨h1,(Option.some.inj h).symm⟩
def PR (i:Int):Prop:=-(2 ^ 62)<=i/\i < 2 ^ 62
def aat (m:MA):MI:=⟨λps h Q=>m.run ps h λl h1=>match l with | [.int j]=>PR j/\Q ⟨iK 0 j.toNat,λ_=>True,false⟩ h1 | _=>False,λf q=>m.mono (λl h1 q=>by
 revert q
 split
 ·exact λq=>⟨q.1,f _ _ q.2⟩
 ·exact λz=>z) q⟩
def dC (k:Nat):List PV->List PV
 | []=>[]
 | x::l=>.tup [.int (k:Int),x]::dC (k+1) l
theorem bZ:∀(k:Nat) (l:List PV),(dC k l).length=l.length
 | _,[]=>rfl
 | k,x::l=>by rw [dC,Ar,Ar,bZ]
theorem fK:∀{k:Nat}{l:List PV}{i:Nat}{p:PV},(dC k l)[i]?=am p->∃x,l[i]?=am x/\p=.tup [.int ((k+i:Nat):Int),x]
 | _,[],_,_,h=>by simp [dC] at h
 | k,x::l,0,p,h=>by simp [dC] at h;subst h;exact⟨x,rfl,by simp⟩
 | k,x::l,i+1,p,h=>by
  obtain⟨y,h1,h2⟩:=fK (k:=k+1) (l:=l) (i:=i) (p:=p) (by simpa [dC] using h);exact⟨y,by simpa using h1,by rw [h2,show k+1+i=k+(i+1) by omega]⟩
def Vw (K:Ab) (t1:TE):TI:=λσ H R=>t1 σ H λx H1=>∃a,x=.ref a/\(((∃xs,dP K H1 a xs)/\R (Z7 K a) H1)\/((∃xs,dG K H1 a xs)/\R (Ite K a) H1))
def Mu {X:Cx} (K:Ab) (hK:X.K=K) {e1:gt}{kk:Nat} (hg:Gl X "enumerate") (hm:X.mg "enumerate"=bm) (h1:PE X e1 t1)
  (FV:gs X e1 []:=by rfl):PI X (.Tuple Î kk tp) (.Call (.Name "enumerate" p1) [e1] [] p2) (Vw K t1):=by
 subst hK;intro Z s σ H R I h;refine BH (gX I hg hm boot_enumerate ?_ ⋯ ⋯);refine Be ?_ FV rfl;rw [FV];refine Cc (bR (h1 Z s σ H _ I h) λu1 s1 ⟨x,H1,I1,r1,a,ex,hh⟩=>CD ?_);subst ex;cases r1;have d1:s1.heap.objs.size+1≠s1.heap.objs.size:=Nat.succ_ne_self _;rcases hh with⟨⟨xs,hx⟩,q⟩ | ⟨⟨xs,hx⟩,q⟩
 ·obtain⟨ak,rx,tx,_⟩:=I1.list hx;refine call_enumerate_list tx.isList λh' ze hi _ k=>?_;refine C0 ze ?_;refine⟨_,_,_,_,H1,rfl,I1.kept (t':=s1.toks) k,F6 d1,⟨⟨_,ze⟩,hi⟩,λc hc=>?_,q⟩;have Ö:s1.heap.objs.size<=c:=by
   simp only [Aw,Bx,or_false] at hc;rcases hc with rfl | rfl
   ·exact BJ _ _
   ·exact An _
  exact I1.xj Ö (I1.bu.fresh Ö)
 ·obtain⟨ak,rx,tx,_⟩:=I1.tuple hx;have l1:=let ⟨_,e,_⟩:=tx;Ao e;refine HE tx λh' ze hi k=>?_;refine C0 ze ?_;refine⟨_,_,_,_,H1,rfl,I1.kept (t':=s1.toks) k,JQ d1 (AB (AA l1 (BJ _ 1))) (AB l1),⟨⟨_,ze⟩,hi⟩,λc hc=>?_,q⟩;have Ö:s1.heap.objs.size<=c:=by
   simp only [Aw,Bx,or_false] at hc;rcases hc with rfl | rfl
   ·exact BJ _ _
   ·exact An _
  exact I1.xj Ö (I1.bu.fresh Ö)
def oA:List PV->List PV->List PV
 | x::l,y::m=>.tup [x,y]::oA l m
 | _,_=>[]
theorem qP:∀{l m:List PV}{i:Nat}{p:PV},(oA l m)[i]?=am p->∃x y,l[i]?=am x/\m[i]?=am y/\p=.tup [x,y]
 | [],m,i,p,h=>by simp [oA] at h
 | x::l,[],i,p,h=>by simp [oA] at h
 | x::l,y::m,0,p,h=>by simp [oA] at h;subst h;exact⟨x,y,rfl,rfl,rfl⟩
 | x::l,y::m,i+1,p,h=>by
  obtain⟨u,w,h1,h2,h3⟩:=qP (l:=l) (m:=m) (i:=i) (p:=p) (by simpa [oA] using h);exact⟨u,w,by simpa using h1,by simpa using h2,h3⟩
end
end
end PL
variable {op:PySem.CmpOp}{p3 p4:B9}
namespace PL
open PySem PySem.Spec PyProof.Rows L2
section
variable {K:Ab}
section
structure JC (X:Cx) (K:Ab) (op:CmpOp) (b:gt) (m:M2):Prop where
 p:∃r,jG X (o0 op) r/\M2.Ok K r m
 k:t0 op b=false
def Jf:JC X K .Lt b oLt:=⟨⟨_,Yn,FG λ_ _ _ _=>.bl _⟩,ka _⟩
def S0:JC X K .LtE b oLe:=⟨⟨_,Yo,FG λ_ _ _ _=>.bl _⟩,ka _⟩
def Nr:JC X K .Gt b WE:=⟨⟨_,Yp,FG λ_ _ _ _=>.bl _⟩,ka _⟩
def YO:JC X K .GtE b oGe:=⟨⟨_,Yq,FG λ_ _ _ _=>.bl _⟩,ka _⟩
def Nq:JC X K .Is b MP:=⟨⟨_,UT,QE⟩,ka _⟩
def Je:JC X K .IsNot b uI:=⟨⟨_,Qs,MM⟩,ka _⟩
end
end
theorem Fw:∀{l:List PV},ug l=true↔∀x∈l,x.dat=true
 | []=>by simp [ug]
 | x::l=>by rw [ug,AE,Fw];simp
section
variable {K:Ab}
section
variable {c:gt}
def aB.rep (h:aB K ι H vs l):∀k:Nat,aB K ι H (Am k vs).flatten (Am k l).flatten
 | 0=>.nil
 | k+1=>by
  rw [Bz,Bz,B6,B6];exact h.append (h.rep k)
def Md:V->List V->Hp->VK->Prop:=λx vs H Q=>∃(l:ce) (ns:List Int) (k:Int),x=.ref l/\vs=[.int k]/\H l=am (.lst (ns.map V.int))/\k∈ns/\yz H l (.lst ((ns.erase k).map V.int)) (Q .aD)
theorem ints_get:∀{us:List bn}{ns:List Int},tt us ns->∀(i:Nat) (hi:i < us.length),∃n t,ns[i]?=am n/\us[i]=.int n t
 | _,_,.nil,i,hi=>by simp at hi
 | _,_,.cons _ _ r,i,hi=>by
  cases i with
  | zero=>exact⟨_,_,rfl,rfl⟩
  | succ i=>exact ints_get r i (by simpa using hi)
theorem NA {k:Int}:∀{ns:List Int}{m:Nat},ns[m]?=am k->ns.idxOf k<=m
 | [],m,h=>by simp at h
 | a::ns,0,h=>by
  have:a=k:=by simpa using h
  subst this;simp
 | a::ns,m+1,h=>by
  have:=NA (ns:=ns) (m:=m) (by simpa using h);rw [EG];by_cases c:a=k
  ·have:(a==k)=true:=by simpa using c
   rw [this];exact Bg _
  ·have c2:(a==k)=false:=by simpa using c
   rw [c2];exact Nat.succ_le_succ this
theorem u4 (f:α->β):∀(l:List α) (j:Nat),(l.eraseIdx j).map f=(l.map f).eraseIdx j
 | [],_=>rfl
 | a::l,0=>rfl
 | a::l,j+1=>by
  show f a::(l.eraseIdx j).map f=f a::(l.map f).eraseIdx j;rw [u4 f l j]
def isK (k:Int):bn->Bool
 | .int a _=>a==k
 | _=>false
def tD (r:Vals vs us):∀j,Vals (vs.eraseIdx j) (us.eraseIdx j):=by
 induction r with
 | nil=>intro j;exact .nil
 | cons h r ih=>
  intro j;cases j with
  | zero=>exact r
  | succ j=>exact .cons h (ih j)
theorem Gv:HU X "list.remove" Md:=by
 intro Z s σ H x vs v us Q I rx rv h;obtain⟨l,ns,k,rfl,rfl,hH,hk,q⟩:=h;cases rx;obtain⟨u,rfl,ru⟩:=rv.one;obtain⟨t,rfl⟩:=ru;obtain⟨z,ak,n,r,hl,e⟩:=I.qb hH;have hi:=intsAre_of r;have Á:ns.length=ak.length:=by rw [Ai] at hl;omega
 have hj:=Bf hk;have hej:ns.erase k=ns.eraseIdx (ns.idxOf k):=by rw [List.erase_eq_eraseIdx_of_idxOf rfl]
 refine re F.slot_list_remove ⟨_,e,rfl⟩ F.entry_list_remove (F.args_list_remove_2 _ _) (MeetsSeq.list_remove l ak.toArray n (.int k t) (isK k) (λy hy=>?_) (ns.idxOf k) (by rw [Ah];omega) ?_ (λm hm ig=>?_) (by rw [Ah];omega)) ⟨e,?_⟩
 ·have Vy:y∈ak:=by simpa using hy
  obtain⟨i,WU⟩:=CI Vy;obtain⟨h1,h2⟩:=Al.mp WU;obtain⟨n',t',g1,g2⟩:=ints_get hi i h1;rw [<- h2,g2];exact MeetsSeq.EqGives.int _ _ _ _
 ·have h1:ns.idxOf k < ak.length:=by omega
  obtain⟨n',t',g1,g2⟩:=ints_get hi (ns.idxOf k) h1;have g3:ns[ns.idxOf k]?=am k:=by rw [Ad hj,List.getElem_idxOf hj]
  rw [g3] at g1;cases g1;rw [Du,g2];simp [isK]
 ·have h1:m < ak.length:=by rw [Ah] at hm;exact hm
  obtain⟨n',t',g1,g2⟩:=ints_get hi m h1;rw [Du,g2];have:n'≠k:=λz=>by
   subst z;have:=NA g1;omega
  simp [isK,this]
 ·refine⟨.aD,_,I.GI (its':=ak.eraseIdx (ns.idxOf k)) (ys:=(ns.erase k).map V.int) hH e (by simp [Array.toList_eraseIdxIfInBounds,<- Array.toList_inj]) ?_ ?_,rfl,q.at⟩
  ·rw [hej,u4];exact tD r _
  ·rw [hej,Ai,EZ]
   split <;> omega
theorem jh:∀{ns:List Int}{vs:List V},aB K ι H vs (ns.map PV.int)->vs=ns.map V.int
 | [],_,h=>by cases h;rfl
 | b::bs,_,h=>by
  cases h with
  | cons x t=>cases x;rw [jh t];rfl
theorem nJ (ι:List ce) (H:Hp):∀ns:List Int,aB K ι H (ns.map V.int) (ns.map PV.int)
 | []=>.nil
 | n::ns=>.cons (.int n) (nJ ι H ns)
def Us (K:Ab):List V->Hp->VK->Prop:=λxs H Q=>∃(p:ce) (ns:List Int),xs=[.ref p]/\dP K H p (ns.map V.int)/\ns.length < 64/\∀ms:List Int,ms.Perm ns->ms.Pairwise (·<=·)->ke H (.lst (ms.map V.int)) Q
theorem HB (K:Ab) (hK:X.K=K):bN X (.builtin "sorted") (Us K):=by
 subst hK;intro Z s σ H xs us Q I r h;obtain⟨p,ns,rfl,hq,Zp,q⟩:=h;obtain⟨u,rfl,rx⟩:=vals1 r;cases rx;obtain⟨ak,r',pl,hz⟩:=I.list hq;have hi:=intsAre_of r';have hl:=r'.length;rw [Ai] at hl hz;refine PyProof.Rows.sorted_ints pl.isList hi ∅ λout ms a1 a2 a3=>?_;obtain⟨e,he⟩:=sortedAll_at s.heap ak out;refine⟨.ref (s.heap.objs.size+1),_,I.laid (t':=s.toks) (λ_ _=>sortedAll_old) (Ds _) (show bb X.prog X.w _ _ _ (.lst (ms.map V.int)) from⟨?_,out.toList,e,oD a1,?_⟩),rfl,(q ms a2 a3).at _ (I.bu.fresh (Ds _))⟩
 ·rw [Ai,a2.length_eq];exact hz
 ·rw [Array.toArray_toList];exact he
end
end
end PL
variable {xs:Array A4}{a:BG}{o:Fm}
namespace L2
open PySem PySem.Spec PyProof.Rows
def ml {name:Str}{Q:Option bn->ci->Prop}
  (hx:s.heap.get? a=am o) (hc:o.cls=.type "list") (kq:o.data=.seq xs k) (hd:o.dict=bm) (Y5:FM (.type "list") name=pure bm) (Y4:(["__module__","__name__","__qualname__","__doc__","__annotations__"]:List Str).contains name=false) (hA:A.handled=bm)
  (h:∀h' tk e,Heap.NewExcOf s.heap h' e "AttributeError"->Q bm {s with heap:=h',toks:=tk}) (hsz:name.length+100<=sizeLine:=by size_fits) :
  db (dL prog w) A (getAttr? (.ref a) name) Q E s:=by
 obtain⟨c,dct,dat,sl⟩:=o;simp only at hc kq hd;subst hc kq hd;obtain⟨hp,g,d,tk,os⟩:=s;have hT:∀å,(⟨hp,g,d,å,os⟩:ci).TypeIs (.ref a) "list":=λ_=>⟨_,hx,rfl⟩;have f1:=sub_AttributeError;have f3:=CP.lookup;have f4:=CP.bind (.ref a);have f5:=am_list_getattr_none
 repeat (any_goals (first | assumption | exact hT _ | ((with_reducible show db _ _ (call (Value.builtin "list.__getattribute__") _ _) _ _ _);refine re CP (hT _) am_entry_list_getattribute (F.args_list_getattribute_2 _ _) (meets_getattribute_miss_list a xs k sl name _ Y5 Y4 hsz) ⟨hx,hA,λh' å e uX=>?_⟩) | wp_step))
 obtain⟨t',u',he⟩:=uX.there;unfold getattributeRaised
 repeat (any_goals (first | assumption | wp_step))
 exact h _ _ _ uX.of
end L2
variable {b d:BG}{v:A4}
namespace L2
open PySem PySem.Spec PyProof.Rows
def gT:entryFor table "dict.update.loop"=am wn.«dict.update.loop»:=entryFor_of_fast (by kernel_rfl)
def gJ:plainId "dict.update.loop"=true:=by decide +kernel
section
variable {K:Type} [DecidableEq K] {knd:KeyKind prog w K}
def yi (knd:KeyKind prog w K) (h:kw) (it d:ce) (v:bn) (x:List K×ce×bn):Prop:=
 ∃pa o n,v=.ref pa/\pa≠it/\pa≠d/\x.2.1≠it/\x.2.1≠d/\h.get? pa=am o/\o.cls=.type "tuple"/\o.data=.seq #[.ref x.2.1,x.2.2] n/\(lw knd).is h x.1 x.2.1
def vE {k:List K} (x:(lw knd).is h k b) (kp:∀o,h.get? b=am o->h'.get? b=am o):(lw knd).is h' k b:=by
 obtain⟨o,ak,n,h1,h2⟩:=x;exact⟨o,ak,n,kp _ h1,h2⟩
def yi.keep {x:List K×ce×bn} (p:yi knd h it d v x) (kp:∀b o,b≠it->b≠d->h.get? b=am o->h'.get? b=am o):yi knd h' it d v x:=by
 obtain⟨pa,o,n,e,n1,n2,n3,n4,h1,h2,h3,h4⟩:=p;exact⟨pa,o,n,e,n1,n2,n3,n4,kp _ _ n1 n2 h1,h2,h3,vE h4 λo q=>kp _ _ n3 n4 q⟩
def xM {xs:List (List K×ce×bn)} (m:h.DictOfH (lw knd) d xs) (hd:d≠it) (hx:∀x∈xs,x.2.1≠it) (kp:∀b o,b≠it->h.get? b=am o->h'.get? b=am o):h'.DictOfH (lw knd) d xs:=by
 obtain⟨o,es,ep,ho,hc,Zi,he,his,hn⟩:=m;exact⟨o,es,ep,kp _ _ hd ho,hc,Zi,he,λx q=>vE (his x q) λo z=>kp _ _ (hx x q) z,hn⟩
def yG {xs:List (List K×ce×bn)}{k:List K} (hx:∀x∈xs,x.2.1≠it) (hb:b≠it):∀x∈storedH xs k b v,x.2.1≠it:=by
 intro x q;unfold storedH at q
 split at q
 ·obtain⟨y,hy,rfl⟩:=Av.mp q;have e:(putAt k v y).2.1=y.2.1:=by unfold putAt;split <;> rfl
  rw [e];exact hx y hy
 ·rcases Bm.mp q with q | q
  ·exact hx x q
  ·rw [Bk.mp q];exact hb
def yH {xs:List (List K×ce×bn)}{k:List K}:(storedH xs k b v).length<=xs.length+1:=by
 unfold storedH
 split <;> simp
theorem yx (hA:A.handled=bm) (hu:A.units+1 < ss) {l:ce} (hz:items.size+items.size<=sizeLine) (Ğ:d≠it) (hli:l≠it) (hld:l≠d) :
  ∀(k i:Nat) (ys xs:List (List K×ce×bn)) (s:ci),items.size-i=k->i<=items.size->ys.length=items.size-i->xs.length<=i->s.heap.IsListIter it l i->s.heap.IsList l items->s.heap.DictOfH (lw knd) d xs->(∀x∈xs,x.2.1≠it)->
   (∀j x,ys[j]?=am x->∃v,items[i+j]?=am v/\yi knd s.heap it d v x)->
   (∀h' tk,h'.DictOfH (lw knd) d (ys.foldl (λa y=>storedH a y.1 y.2.1 y.2.2) xs)->(∀b o,b≠it->b≠d->s.heap.get? b=am o->h'.get? b=am o)->R (.ok (.ret .none)) {s with heap:=h',toks:=tk})->
   Ev (dL prog w) A (.builtin "dict.update.loop" ⟨[.ref d,.ref it,u8 i,.none],[]⟩) R s:=by
 intro k
 induction k with
 | zero=>
  intro i ys xs s hk hi hy ċ Ò hl hd hx hp q;have e0:ys=[]:=B4 ∅;subst e0;refine GE gT ?_;refine Aa (wpAny_pyNext_list_end (A:=A.in1) hA Ò hl (by rw [Ey];omega) λh' ex=>?_);have kp:=ex;exact Aa (Ae (Ae (q h' s.toks (xM hd Ğ hx kp) λb o n1 _ e=>kp b o n1 e)))
 | succ k ih=>
  intro i ys xs s hk hi hy ċ Ò hl hd hx hp q
  match ys,hy,hp,q with
  | [],hy,_,_=>exact absurd hy (by simp only [Bv];omega)
  | y::ys,hy,hp,q=>
  obtain⟨v,hv,pa⟩:=hp 0 y rfl;refine GE gT ?_;refine Aa (wpAny_pyNext_list_item Ò hl (by simpa using hv) λh1 ac4 sb=>?_);have QZ:∀b o,b≠it->s.heap.get? b=am o->h1.get? b=am o:=λb o hb e=>(sb.2 b hb).trans e;have pa1:=pa.keep λb o n1 _ e=>QZ b o n1 e;have Zh:=xM hd Ğ hx QZ;have Ę:h1.IsList l items:=let ⟨o,e,p⟩:=hl;⟨o,QZ _ _ hli e,p⟩;obtain⟨p,o,n,rfl,n1,n2,n3,n4,g1,g2,g3,g4⟩:=pa1;refine Aa (Bb (Aa (DS ?_)));refine Aa (Cv (T:="tuple") ⟨_,g1,g2⟩ ?_);refine Aa (Bs g1 g3 (Ae ?_));refine Bb (wpAny_dictSet_heap (knd:=lw knd) (tupleKind_room_in1 hu) g4 Zh (λh2 Ó sb2=>?_) ∅);have ć:∀b o,b≠d->h1.get? b=am o->h2.get? b=am o:=λb o hb e=>(sb2.2 b hb).trans e;refine Ae ⟨v4 gJ _,?_⟩;have kp:∀b o,b≠it->b≠d->s.heap.get? b=am o->h2.get? b=am o:=λb o a1 a2 e=>ć _ _ a2 (QZ _ _ a1 e);refine ih (i+1) ys (storedH xs y.1 y.2.1 y.2.2) _ ∅ ∅ (by rw [Ar] at hy;omega) (Bw yH ∅) ?_ ?_ Ó (yG hx n3) (λj x hj=>?_) (λh' tk dd k3=>?_)
  ·obtain⟨o',e1,e2⟩:=ac4;exact⟨o',ć _ _ (BE Ğ) e1,e2⟩
  ·obtain⟨o',e1,e2⟩:=Ę;exact⟨o',ć _ _ hld e1,e2⟩
  ·obtain⟨v',h3,h4⟩:=hp (j+1) x hj;exact⟨v',by rw [show i+1+j=i+(j+1) by omega];exact h3,h4.keep kp⟩
  ·exact q h' tk dd λb o a1 a2 e=>k3 b o a1 a2 (kp b o a1 a2 e)
end
def wz:FM (.type "list") (BL "keys")=pure bm:=am_miss_of_fast (by decide +kernel)
section
variable {K:Type} [DecidableEq K] {knd:KeyKind prog w K}
theorem qj {l:ce}{ys:List (List K×ce×bn)} (hA:A.handled=bm) (hu:A.units+2 < ss) (ho:s.heap.get? l=am o) (hc:o.cls=.type "list") (kq:o.data=.seq items n) (hd:o.dict=bm)
  (hz:items.size+items.size<=sizeLine) (hy:ys.length=items.size)
  (hp:∀(j:Nat) (x:List K×ce×bn),ys[j]?=am x->∃(pa:ce) (op:Obj) (m:Nat),items[j]?=am (Az pa)/\s.heap.get? pa=am op/\op.cls=.type "tuple"/\op.data=.seq #[Az x.2.1,x.2.2] m/\(lw knd).is s.heap x.1 x.2.1)
  (q:∀h' tk,(∀b o,s.heap.get? b=am o->h'.get? b=am o)->h'.DictOfH (lw knd) s.heap.objs.size (ys.foldl (λa y=>storedH a y.1 y.2.1 y.2.2) [])->Q (.ref s.heap.objs.size) {s with heap:=h',toks:=tk}) :
  db (dL prog w) A (call (.type "dict") [.ref l]) Q E s:=by
 refine callType_codes (Q₁:=λobj s₁=>obj=.ref s.heap.objs.size/\s₁={s with heap:=s.heap.push {cls:=.type "dict",data:=.dict #[]}}) F.kt_called_dict (F.kt_typeCall_dict_1 _) F.entry_dict_init (kt_code_dict_new _ ⟨rfl,rfl⟩) ?_;rintro obj s₁ ⟨rfl,rfl⟩;have í:∀b o,s.heap.get? b=am o->(s.heap.push {cls:=.type "dict",data:=.dict #[]}).get? b=am o:=λb o e=>Ag _ e;have Rr:(s.heap.push {cls:=.type "dict",data:=.dict #[]}).DictOf knd s.heap.objs.size []:=Heap.DictOf.new s.heap;have Y3:(s.heap.push {cls:=.type "dict",data:=.dict #[]}).DictOfH (lw knd) s.heap.objs.size []:=⟨_,#[],0,Ap _ rfl,⟨rfl,rfl,rfl⟩,rfl,rfl,λx hx=>absurd hx (Bx),EY⟩;have ls:∀b o,s.heap.get? b=am o->b≠s.heap.objs.size:=λb o e z=>by subst z;exact AX _ (Ao e)
 refine⟨Rr.typeIs,F.args_dict_init_2 _ _,?_⟩;refine Aa ?_;refine Aa (wpAny_notOrdered_dict Rr.typeIs ?_);refine Ae ?_;refine Aa (Cv (T:="list") ⟨_,í _ _ ho,hc⟩ ?_);refine Aa (ml (í _ _ ho) hc kq hd wz (by decide +kernel) hA (λh1 tk e nx=>?_) ⋯);refine Aa (CG (Aa ?_));refine CZ (items:=items) ⟨_,nx.keeps _ _ (í _ _ ho),hc,n,kq⟩ ?_;have hsz:=Ao (nx.keeps _ _ (Ap s.heap rfl));have QZ:∀b o,s.heap.get? b=am o->(h1.push {cls:=.type "list_iterator",data:=.fields #[.ref l,.int 0 0]}).get? b=am o:=λb o e=>Ag _ (nx.keeps _ _ (í _ _ e));have ni:∀b o,s.heap.get? b=am o->b≠h1.objs.size:=λb o e z=>by
  have h3:=Ao e;subst z;exact AX _ (Nat.lt_trans h3 hsz)
 refine Ae ⟨v4 gJ _,?_⟩;refine yx (A:=A.in1) (knd:=knd) hA (by show A.units+1+1 < _;omega) (items:=items) (d:=s.heap.objs.size) (it:=h1.objs.size) (l:=l) hz (AB hsz) (ni _ _ ho) (ls _ _ ho) items.size 0 ys [] _ (C2 _) (Bg _) (by rw [hy];rfl) (An _)
  ⟨_,Ap _ rfl,rfl,rfl⟩ ⟨_,QZ _ _ ho,hc,n,kq⟩ ?_ (λx hx=>nomatch hx) (λj x hj=>?_) (λh' å dd kp=>?_)
 ·refine xM (it:=h1.objs.size) Y3 (AB hsz) (λx hx=>nomatch hx) λb o _ e=>Ag _ (nx.keeps _ _ e)
 ·obtain⟨pa,op,m,e1,e2,e3,e4,e5⟩:=hp j x hj;have kb:∃ob,s.heap.get? x.2.1=am ob:=let ⟨ob,_,_,z,_⟩:=e5;⟨ob,z⟩;obtain⟨ob,eb⟩:=kb;exact⟨.ref pa,by rw [Ax];exact e1,pa,op,m,rfl,ni _ _ e2,ls _ _ e2,ni _ _ eb,ls _ _ eb,QZ _ _ e2,e3,e4,vE e5 λo z=>QZ _ _ z⟩
 ·exact⟨rfl,q h' å (λb o e=>kp b o (ni _ _ e) (ls _ _ e) (QZ _ _ e)) dd⟩
end
structure Pz where
 pa:ce
 k:List Key
 b:ce
 v:V
def Pz.At (H:Hp) (z:Pz):Prop:=H z.pa=am (.tup [.ref z.b,z.v])/\H z.b=am (.tup (z.k.map kV))
def Uy (K:Ab):List V->Hp->VK->Prop:=λxs H Q=>∃(p:ce) (zs:List Pz),xs=[.ref p]/\dP K H p (zs.map λz=>.ref z.pa)/\(∀z∈zs,z.At H)/\(zs.map (·.k)).Nodup/\zs.length<=1000/\ke H (.dT (zs.map λz=>(z.k,z.v))) Q
theorem pP {K:Type} [DecidableEq K]:∀(ys xs:List (K×ce×bn)),((xs++ys).map (·.1)).Nodup->ys.foldl (λa y=>storedH a y.1 y.2.1 y.2.2) xs=xs++ys
 | [],xs,_=>by simp
 | y::ys,xs,h=>by
  have hn:atKey xs y.1=bm:=by
   cases e:atKey xs y.1 with
   | none=>rfl
   | some p=>
    exfalso;rw [A3,Au] at h;have h2:=(List.nodup_append.mp h).2.2;have hm:y.1∈xs.map (·.1):=by
     by_cases hc:y.1∈xs.map (·.1)
     ·exact hc
     ·rw [atKey_none_of_get (λj q hj=>?_)] at e
      ·cases e
      ·exact hc (Av.mpr ⟨_,Bt hj,rfl⟩)
    exact h2 _ hm _ Bu rfl
  rw [CT,storedH_new hn,pP ys (xs++[(y.1,y.2.1,y.2.2)]) (by simpa using h)];simp
section
theorem HF (K:Ab) (hK:X.K=K) (hc:X.calm=true) (hu:X.A.units+2 < ss):bN X (.type "dict") (Uy K):=by
 subst hK;intro Z s σ H xs us Q I r h;obtain⟨p,zs,rfl,hq,hz,hn,hl,q⟩:=h;obtain⟨u,rfl,rx⟩:=vals1 r;cases rx;obtain⟨ak,rv,pl,hsz⟩:=I.list hq;obtain⟨o,n,ho,WX,hd,kq⟩:=pl;have ä:∀(zs:List Pz) (ak:List bn),(∀z∈zs,z.At H)->Vals (zs.map λz=>V.ref z.pa) ak->∃ys:List (List Key×ce×bn),ys.map (·.1)=zs.map (·.k)/\KT H (zs.map λz=>(z.k,z.v)) ys/\
   ∀(j:Nat) (x:List Key×ce×bn),ys[j]?=am x->∃(pa:ce) (op:Obj) (m:Nat),ak[j]?=am (Az pa)/\s.heap.get? pa=am op/\op.cls=.type "tuple"/\op.data=.seq #[Az x.2.1,x.2.2] m/\(lw (cu X.prog X.w)).is s.heap x.1 x.2.1:=by
  intro zs
  induction zs with
  | nil=>intro ak _ _;exact⟨[],rfl,.nil,λj x h=>by simp at h⟩
  | cons z zs ih=>
   intro ak ha hv;cases hv with
   | @cons _ u _ us ru rus=>
   cases ru;obtain⟨ys,e1,e2,e3⟩:=ih us (λy hy=>ha y (AU _ hy)) rus;obtain⟨a1,a2⟩:=ha z Bu;obtain⟨_,its',r',op,h1,h2,m,h3⟩:=(show bb X.prog X.w H s.heap z.pa (.tup [.ref z.b,z.v]) from I.bu _ _ a1);obtain⟨w,rfl,vP⟩:∃w,its'=[Az z.b,w]/\RelV z.v w:=by
    cases r' with
    | cons q1 q2=>cases q1;cases q2 with
     | cons q3 q4=>cases q4;exact⟨_,rfl,q3⟩
   refine⟨(z.k,z.b,w)::ys,by rw [Au,Au,e1],.cons ⟨rfl,a2,vP⟩ e2,λj x hj=>?_⟩;cases j with
   | zero=>
    cases hj;exact⟨z.pa,op,m,rfl,h1,h2,h3,GO I.bu a2⟩
   | succ j=>exact e3 j x hj
 obtain⟨ys,e1,e2,e3⟩:=ä zs ak hz rv;have Á:=rv.length;rw [Ai] at Á;have ð:ys.length=zs.length:=by have:=congrArg Cj e1;simpa using this
 have hs:(1000:Nat)+1000<=sizeLine:=by decide
 refine qj (knd:=cu X.prog X.w) (items:=ak.toArray) (ys:=ys) (I.ok.hd hc) hu ho WX kq hd (by rw [Ah];omega) (by rw [Ah];omega) (λj x hj=>?_) (λh' tk kp dd=>?_)
 ·obtain⟨pa,op,m,g1,g2⟩:=e3 j x hj;exact⟨pa,op,m,by rw [EN];exact g1,g2⟩
 ·rw [pP ys [] (by rw [List.nil_append,e1];exact hn),List.nil_append] at dd;obtain⟨od,es,ep,ô,h2,h3,h4,_,h5⟩:=dd;have adg:=beq_eq_false_iff_ne.mpr (BE (AB I.big));have fr:=I.bu.fresh (An s.heap.objs.size);refine⟨.ref s.heap.objs.size,_,I.laid (t':=tk) kp (An _) (show bb X.prog X.w (upd H s.heap.objs.size (.dT (zs.map λz=>(z.k,z.v)))) h' _ (.dT _) from⟨?_,adg,ys,?_,od,es,ep,ô,h2,h3,h4,h5⟩),rfl,q.at _ fr⟩
  ·rw [Ai];exact Bw hl ⋯
  ·refine e2.keeps λc xs ec=>?_;rw [aw (λz=>by subst z;rw [fr] at ec;cases ec)];exact ec
end
end L2
variable {es:Array PySem.DictEntry}{ep:Nat}
namespace L2
open PySem PySem.Spec PyProof.Rows
section
def Sa (h:kw) (d:ce) (es:Array DictEntry) (ep:Nat):Prop:=∃o,h.get? d=am o/\o.ExactDict/\o.data=.dict es ep
theorem MV {Q:Option bn->ci->Prop} (Ò:s.heap.IsKeyIter it d i es.size ep) (hm:Sa s.heap d es ep) (hi:i < es.size)
  (q:∀h',h'.IsKeyIter it d (i+1) es.size ep->Ci it s.heap h'->Q (am es[i].key) {s with heap:=h'}):db (dL prog w) A (pyNext (.ref it)) Q E s:=by
 have ty:=Ò.typeIs;obtain⟨o,ho,hc,hd⟩:=id Ò;obtain⟨od,Rq,-,S8⟩:=hm;have Zb:(s.heap.update it (Obj.mapFields (·.setIfInBounds 1 (u8 ((i:Int)+1))))).IsKeyIter it d (i+1) es.size ep:=⟨_,BW _ ho (EI (CU hd _)),(Obj.cls_mapFields ..).trans hc,by rw [CU hd];simp [u8]⟩;refine Aa (CS (AV (name:=BL "__next__") ty BD (A8 BD ty Dm ?_ (De _))));refine Aa (Ae (Aa (Aa ?_)))
 first | refine Aa (B2 ty (Ae ?_)) | refine Aa (Cm ty (Ae ?_))
 refine Aa (wpAny_fieldsOf ho hd ?_);show db _ _ (if (Az d==AO)=true then _ else _) _ _ s;rw [if_neg (λz:(Az d==AO)=true=>A5 z)];refine Aa (Ae (Aa (D9 Rq S8 ?_)));rw [if_neg (by simp)];refine Aa (Ae (Aa (ED Rq S8 ?_)));rw [if_neg (by simp)];refine Ae ?_;have i0:¬((i:Int) < 0):=by omega
 simp only [i0,if_false,Bp,CM hi];refine Aa ?_
 first | refine Aa (B2 ty (Ae ?_)) | refine Aa (Cm ty (Ae ?_))
 refine Aa (wpAny_isOneOf_keyiter ty ?_);show db _ _ (wE (.ref it) 1 (u8 ((i:Int)+1)) >>= _) _ _ s;refine Aa (DT ho hd (by simp) (Aa (Bb (Aa (wpAny_isOneOf_keyiter (s:={s with heap:=s.heap.update it (Obj.mapFields (·.setIfInBounds 1 (u8 ((i:Int)+1))))}) Zb.typeIs ?_)))));exact Ae (Ae ⟨_,rfl,Ae (q _ Zb (Ci.update ..))⟩)
theorem RG {Q:Option bn->ci->Prop} (hh:A.handled=bm) (Ò:s.heap.IsKeyIter it d i es.size ep) (hm:Sa s.heap d es ep) (hi:es.size<=i)
  (q:∀h',Fo it s.heap h'->Q bm {s with heap:=h'}):db (dL prog w) A (pyNext (.ref it)) Q E s:=by
 have ty:=Ò.typeIs;obtain⟨o,ho,hc,hd⟩:=id Ò;obtain⟨od,Rq,-,S8⟩:=hm;refine Aa (CS (AV (name:=BL "__next__") ty BD (A8 BD ty Dm ?_ (De _))));refine Aa (Ae (Aa (Aa ?_)))
 first | refine Aa (B2 ty (Ae ?_)) | refine Aa (Cm ty (Ae ?_))
 refine Aa (wpAny_fieldsOf ho hd ?_);show db _ _ (if (Az d==AO)=true then _ else _) _ _ s;rw [if_neg (λz:(Az d==AO)=true=>A5 z)];refine Aa (Ae (Aa (D9 Rq S8 ?_)));rw [if_neg (by simp)];refine Aa (Ae (Aa (ED Rq S8 ?_)));rw [if_neg (by simp)];refine Ae ?_;have i0:¬((i:Int) < 0):=by omega
 simp only [i0,if_false,Bp,Ey hi];refine Aa ?_
 first | refine Aa (B2 ty (Ae ?_)) | refine Aa (Cm ty (Ae ?_))
 show db _ _ (wE (.ref it) 0 .none >>= _) _ _ s;refine Aa (DT ho hd (by simp) ?_);refine Aa ?_;refine Aa (AJ (Aa (m:=firstArgMember _ _) (Cs (a:=AO) (by first | rfl | (simp only [firstArgMember];rfl)) (AJ ?_ (by size_fits)))) (by size_fits));unfold raiseNew;refine Aa (wpAny_handled ?_);rw [show A.in1.handled=bm from hh];refine Aa (Ae (wpAny_throw ?_));refine Aa (Dg (T:="StopIteration") (b:=true) ⟨_,Ap _ rfl,rfl⟩ isSubtype_stop ?_);exact Ae (q _ (((Ci.update ..).extBut.push _).push _))
def Nu (hs:(d==Ch)=false) (hm:Sa s.heap d es ep)
  (q:Q (.ref s.heap.objs.size) {s with heap:=s.heap.push {cls:=.type "dict_keyiterator",data:=.fields #[.ref d,.int 0 0,.int es.size 0,.int ep 0]}}):db (dL prog w) A (pyIter (.ref d)) Q E s:=by
 obtain⟨od,Rq,hx,S8⟩:=hm;have ty:s.TypeIs (.ref d) "dict":=⟨_,Rq,hx.1⟩;refine wpAny_pyIter_slot ty F.slot_dict_iter (A8 F.slot_dict_iter ty F.entry_dict_iter ?_ (F.args_dict_iter_1 _));refine Aa ?_;refine Aa (wpAny_notOrdered_dict ty ?_);refine Ae ?_;show db _ _ (Builtin.Dict.showsAll d >>= _) _ _ s;unfold Builtin.Dict.showsAll;rw [if_neg (by rw [hs];exact A5)];refine Aa (Ae (Aa (D9 Rq S8 (Aa (ED Rq S8 ?_)))));exact Aa (AJ (Ae ⟨_,rfl,"dict_keyiterator",_,⟨_,Ap _ rfl,rfl⟩,BD.lookup,q⟩))
end
end L2
variable {u:L2.HO}
namespace L2
open PySem PySem.Spec PyProof.Rows
section
variable {σ:St}
def Inv.freeze (I:Inv X Z σ H s) (e:H a=am (.dT kvs)):∃o,Inv X Z σ (upd H a (.cI o (.dT kvs))) s:=by
 obtain⟨z,hs,xs,r,o,es,ep,h1,h2,h3,h4,h5⟩:=(show bb X.prog X.w H s.heap a (.dT kvs) from I.bu a _ e);refine⟨o,?_⟩;have q:=I.write (x:=a) (e:=a) (o:=.cI o (.dT kvs)) (h':=s.heap) (t':=s.toks) (by rw [e];exact Cu) (.inl rfl) (λb u _ z=>z) ⟨o,h1⟩
  ⟨h1,z,hs,xs,KT.keeps r λb ys eb=>by rw [aw (MX eb e (λz=>nomatch z))];exact eb,o,es,ep,h1,h2,h3,h4,h5⟩
 exact q
def Inv.abD (I:Inv X Z σ H s) (e:H a=am (.cI o u)) (h0:∀o u,X.H₀ a≠am (.cI o u)) (hu:bb X.prog X.w (upd H a u) s.heap a u) (bu:lY X.prog X.w (upd H a u) s.heap):Inv X Z σ (upd H a u) s:=by
 have ne:∀b v,H b=v->v≠am (.cI o u)->b≠a:=λb v q n z=>by subst z;exact n (q.symm.trans e)
 refine⟨I.ok,I.os,I.bare,⟨I.base.keep,I.base.slot,λb ob q n hx=>?_,I.base.there,λb xs q=>?_,λb ob xs q=>?_,λb ps q=>?_⟩,I.loc,I.cell,?_,λx c q=>?_,λp hp=>?_,bu,I.len⟩
 ·have:=I.base.free b ob q n hx;rw [aw (ne b _ this (by simp))];exact this
 ·have:=I.base.dZ b xs q;rw [aw (ne b _ this (by simp))];exact this
 ·have:=I.base.su b ob xs q;have hb:b≠a:=λz=>by subst z;exact h0 _ _ q
  rw [aw hb];exact this
 ·obtain⟨m,this⟩:=I.base.vF b ps q;exact⟨m,by rw [aw (ne b _ this (by simp))];exact this⟩
 ·rw [aw (ne _ _ I.free (by simp))];exact I.free
 ·rw [aw (ne _ _ (I.jP x c q) (by simp))];exact I.jP x c q
 ·obtain⟨p1,p2,p3⟩:=I.pin p hp;exact⟨p1,by rw [aw (ne _ _ p2 (by simp))];exact p2,p3⟩
def NG (ok:lY P w H h) (e:H a=am (.cI o u)):lY P w (upd H a u) h:=λb u' q=>by
 have ne:∀c v,H c=am v->v≠.cI o u->upd H a u c=am v:=λc v z n=>by
  rw [aw (λy=>by subst y;rw [e] at z;cases z;exact n rfl)];exact z
 by_cases hb:b=a
 ·subst hb;rw [aN] at q;cases q;exact bb.vI (ok b _ e).2 (λ_ _ _ z=>z) (λc z=>ne c _ z (by simp)) λc xs z=>ne c _ z (by simp)
 ·rw [aw hb] at q;exact bb.vI (ok b _ q) (λ_ _ _ z=>z) (λc z=>ne c _ z (by simp)) λc xs z=>ne c _ z (by simp)
end
def Z8 (a:ce) (o:Obj):It:=
 ⟨λi H=>∃kvs,H a=am (.cI o (.dT kvs))/\i < kvs.length,λi H x H'=>H'=H/\∀kvs,H a=am (.cI o (.dT kvs))->∃b k v,x=.ref b/\kvs[i]?=am (k,v)/\H b=am (.tup (k.map kV)),λi H=>∃kvs,H a=am (.cI o (.dT kvs))/\kvs.length<=i⟩
theorem NW (x:bb P w H h a (.cI o (.dT kvs))) (hd:o.data=.dict es ep) :
  Sa h a es ep/\es.size=kvs.length/\∀(i:Nat) (hi:i < es.size),∃b k v,es[i].key=.ref b/\kvs[i]?=am (k,v)/\H b=am (.tup (k.map kV)):=by
 obtain⟨e,z,hs,xs,r,o',ú,û,h1,h2,h3,h4,h5⟩:=x;rw [e] at h1;cases h1;rw [hd] at h3;cases h3;have hl:es.size=xs.length:=by have:=congrArg Cj h4;simpa using this
 refine⟨⟨o,e,h2,hd⟩,hl.trans (Paired.length r).symm,λi hi=>?_⟩;have hx:xs[i]?=am (xs[i]'∅):=Ad _;have pg:∀{l:List (List Key×V)}{m:List (List Key×ce×bn)}{i:Nat}{q:List Key×ce×bn},KT H l m->m[i]?=am q->∃v,l[i]?=am (q.1,v)/\H q.2.1=am (.tup (q.1.map kV)):=by
  intro l m i q t
  induction t generalizing i with
  | nil=>intro h;simp at h
  | @cons p q' ps qs hq t ih=>
   intro h;cases i with
   | zero=>
    cases h;obtain⟨p1,p2⟩:=p;have e1:=hq.1;subst e1;exact⟨p2,rfl,hq.2.1⟩
   | succ i=>exact ih (by simpa using h)
 obtain⟨v,g1,g2⟩:=pg r hx;refine⟨_,_,v,?_,g1,g2⟩;have:es[i]=entryOfKey (lw (cu P w)) (xs[i]'∅):=by
  have h6:es.toList[i]?=am (entryOfKey (lw (cu P w)) (xs[i]'∅)):=by rw [h4,Aj,hx];rfl
  rw [C9,CM hi] at h6;exact Option.some.inj h6
 rw [this];rfl
theorem JR {K:Ab} (a it:ce) (o:Obj) (hd:o.data=.dict es ep):Turn P w K tg (Z8 a o) [it] it (λi h=>h.IsKeyIter it a i es.size ep) where
 mem:=by simp
 obj:=λi h st b hb=>by
  have e:b=it:=by simpa using hb
  subst e;obtain⟨o,e,c,d⟩:=st;exact⟨o,e,λv z=>by rw [d] at z;cases z⟩
 keep:=λi h h' st k=>st.at λo e=>k it (by simp) o e
 item:=by
  intro X hP hw hK hc i Z s σ H E I hf st hg;subst hP hw hK;obtain⟨kvs,hq,hx⟩:=hg;obtain⟨Ą,hl,ky⟩:=NW (I.bu a _ hq) hd;obtain⟨b,k,v,k1,k2,k3⟩:=ky i ∅;obtain⟨f0,f1,f2,f3,f4,f5⟩:=hf it (by simp);refine MV st Ą ∅ λh' qo sb=>?_;have I1:Inv X Z σ H {s with heap:=h'}:=I.turned (t':=s.toks) (λb o hb e=>(sb.2 b hb).trans e) f0 f1 f3 f4 f5;obtain⟨oi,e,c,d⟩:=id qo;refine⟨_,rfl,zH (s:={s with heap:=h'}) e c d ⋯ ⟨.ref b,H,I1,k1,⟨rfl,λagI ô=>?_⟩,qo,λb hb=>(hf b hb).1⟩⟩;rw [hq] at ô;cases ô;exact⟨b,k,v,rfl,k2,k3⟩
 done:=by
  intro X hP hw hK hc i Z s σ H E I hf st hg;obtain⟨kvs,hq,hx⟩:=hg;obtain⟨Ą,hl,ky⟩:=NW (I.bu a _ hq) hd;obtain⟨f0,f1,f2,f3,f4,f5⟩:=hf it (by simp);exact RG (I.ok.hd hc) st Ą ∅ λh' eb=>⟨rfl,I.turned (t':=s.toks) (λb o hb e=>eb b o hb e) f0 f1 f3 f4 f5⟩
 self:=λ_ _ _ _ _ st h=>wpAny_pyIter_keyiter st h
def Vx (tl:TE):TI:=λσ H R=>tl σ H λx H1=>∃a o kvs,x=.ref a/\H1 a=am (.cI o (.dT kvs))/\R (Z8 a o) H1
def Mv {l:gt} (hl:PE X l tl):PI X tg l (Vx tl):=by
 intro Z s σ H R I h;refine bR (hl Z s σ H _ I h) λv s1 ⟨x,H1,I1,r1,q1⟩=>?_;obtain⟨a,o,kvs,e,hq,q⟩:=q1;subst e;cases r1;obtain⟨eo,z,hs,xs,r,o',es,ep,h1,h2,h3,h4,h5⟩:=(show bb X.prog X.w H1 s1.heap a (.cI o (.dT kvs)) from I1.bu a _ hq);rw [eo] at h1;cases h1;refine Nu hs ⟨o,eo,h2,h3⟩ ?_;refine⟨s1.heap.objs.size,[s1.heap.objs.size],_,_,H1,rfl,I1.kept (t':=s1.toks) λb o e=>Ag _ e,JR a _ o h3,⟨_,Ap _ rfl,rfl,rfl⟩,λb hb=>?_,q⟩;have e:b=s1.heap.objs.size:=by simpa using hb
 subst e;exact I1.xj (An _) (I1.bu.fresh (An _))
end L2
variable {v:PL.PV}{φ:List L2.V->Prop}
noncomputable section
namespace FL
section
open PySem PySem.Spec PyProof.Rows L2 PL
variable {K:Ab}
structure W (α:Type) where
 run:(α->Prop)->Prop
 mono:∀{Q Q':α->Prop},(∀a,Q a->Q' a)->run Q->run Q'
namespace W
variable {α β γ:Type}
def ext' {a b:W α} (h:∀Q,a.run Q↔b.run Q):a=b:=by
 cases a;cases b;congr;funext Q;exact propext (h Q)
noncomputable def ret (a:α):W α:=⟨λQ=>Q a,λh q=>h _ q⟩
noncomputable def bind (w:W α) (k:α->W β):W β:=⟨λQ=>w.run λa=>(k a).run Q,λh q=>w.mono (λa q=>(k a).mono h q) q⟩
def fail:W α:=⟨λ_=>False,λ_ q=>q⟩
def eQ (p:Prop) (w:W α):W α:=⟨λQ=>p/\w.run Q,λh q=>⟨q.1,w.mono h q.2⟩⟩
def any (p:α->Prop):W α:=⟨λQ=>∀a,p a->Q a,λh q a pa=>h a (q a pa)⟩
def O6:Option α->W α
 | some a=>ret a
 | none=>fail
@[simp] theorem ag (a:α) (k:α->W β):bind (ret a) k=k a:=(rfl)
@[simp] theorem bind_assoc (w:W α) (f:α->W β) (g:β->W γ):bind (bind w f) g=bind w λa=>bind (f a) g:=(rfl)
@[simp] theorem Z1 (w:W α):bind w ret=w:=(rfl)
@[simp] theorem W5 (k:α->W β):bind fail k=fail:=(rfl)
@[simp] theorem aj (a:α) (Q:α->Prop):(ret a).run Q=Q a:=(rfl)
@[simp] theorem run_bind (w:W α) (k:α->W β) (Q:β->Prop):(bind w k).run Q=w.run λa=>(k a).run Q:=(rfl)
@[simp] theorem XX (Q:α->Prop):(fail:W α).run Q=False:=(rfl)
@[simp] theorem aak (p Q:α->Prop):(any p).run Q=∀a,p a->Q a:=(rfl)
@[simp] theorem PY (p:Prop) (w:W α) (Q:α->Prop):(eQ p w).run Q=(p/\w.run Q):=(rfl)
@[simp] theorem OE (p:Prop) (w:W α) (k:α->W β):bind (eQ p w) k=eQ p (bind w k):=(rfl)
def au {p:Prop}{w:W α} (h:p):eQ p w=w:=ext' λQ=>⟨λq=>q.2,λq=>⟨h,q⟩⟩
@[simp] theorem ZX {w:W α}:eQ True w=w:=au trivial
@[simp] theorem aJ (a:α):O6 (am a)=ret a:=(rfl)
@[simp] theorem Yt:O6 (bm:Option α)=fail:=(rfl)
end W
inductive SL where
 | val (v:PV) | adr (b:ce) | ol (q:Option ce) (l:List PV) | oll (bs:List ce) (ls:List (List PV)) | od (kvs:List (Key×PV)) | ot (kvs:List (List Key×PV)) | lu (φ:List V->Prop)
abbrev bp:=List (Option SL)
def SL.own:SL->Bool
 | .val _=>false
 | .adr _=>false
 | _=>true
def SL.S2:SL->List ce
 | .oll bs _=>bs
 | _=>[]
def SL.has (s:SL) (x a:ce):Prop:=a=x\/a∈s.S2
def jR (K:Ab) (H:Hp) (a:ce):SL->Prop
 | .val _=>False
 | .adr b=>a=b
 | .oll bs ls=>H a=am (.lst (bs.map V.ref))/\a∉bs/\bs.Nodup/\bs.length=ls.length/\∀(j:Nat) (b:ce) (l:List PV),bs[j]?=am b->ls[j]?=am l->∃ws,H b=am (.lst ws)/\aB K [] H ws l
 | .ol q l=>(∀b,q=am b->a=b)/\∃vs,H a=am (.lst vs)/\aB K [] H vs l
 | .od kvs=>∃vs:List (Key×V),H a=am (.dK vs)/\vs.map (·.1)=kvs.map (·.1)/\aB K [] H (vs.map (·.2)) (kvs.map (·.2))
 | .ot kvs=>∃vs:List (List Key×V),H a=am (.dT vs)/\vs.map (·.1)=kvs.map (·.1)/\aB K [] H (vs.map (·.2)) (kvs.map (·.2))
 | .lu φ=>∃vs,H a=am (.lst vs)/\φ vs
def vn (K:Ab) (H:Hp) (u:V) (s:SL):Prop:=(∃v,s=.val v/\VR K [] H u v)\/∃a,u=.ref a/\jR K H a s
def dE (σ:L2.St) (fs:bp) (a:ce):Prop:=∃(i:Nat) (s:SL) (x:ce),fs[i]?=am (am s)/\s.own=true/\σ[i]?=am (am (.ref x))/\s.has x a
def gW (σ:L2.St) (fs:bp) (φ:List V->Prop) (a:ce):Prop:=∃i:Nat,fs[i]?=am (am (.lu φ))/\σ[i]?=am (am (.ref a))
structure aP (K:Ab) (H:Hp) (σ:L2.St) (fs:bp):Prop where
 len:σ.length=fs.length
 at':∀(i:Nat) (s:SL),fs[i]?=am (am s)->∃u,σ[i]?=am (am u)/\vn K H u s
 nd:∀(i j:Nat) (s t:SL) (x y a:ce),fs[i]?=am (am s)->fs[j]?=am (am t)->s.own=true->t.own=true->σ[i]?=am (am (.ref x))->σ[j]?=am (am (.ref y))->s.has x a->t.has y a->i=j
structure cX (σ:L2.St) (fs:bp) (H:Hp) (σ':L2.St) (bq:bp) (H':Hp):Prop where
 keep:∀a o,H a=am o->¬dE σ fs a->H' a=am o/\¬dE σ' bq a
 there:∀a,H' a=bm->H a=bm
 pk:∀a φ,gW σ fs φ a->gW σ' bq φ a\/(¬dE σ' bq a/\∃vs,H' a=am (.lst vs)/\φ vs)
structure cJ (σ:L2.St) (fs:bp) (H H':Hp):Prop where
 keep:∀a o,H a=am o->(∀φ,¬gW σ fs φ a)->H' a=am o
 there:∀a,H' a=bm->H a=bm
section
variable {σ σ' σ1 σ2:L2.St}{fs bq Rz cW:bp}{H H' H1 H2:Hp}
def gW.v9 (p:gW σ fs φ a):dE σ fs a:=let ⟨i,e1,e2⟩:=p;⟨i,_,_,e1,rfl,e2,.inl rfl⟩
def cJ.refl:cJ σ fs H H:=⟨λ_ _ h _=>h,λ_ h=>h⟩
def cJ.trans (a:cJ σ fs H H1) (b:cJ σ fs H1 H2):cJ σ fs H H2:=⟨λx o h n=>b.keep x o (a.keep x o h n) n,λx h=>a.there x (b.there x h)⟩
def cJ.f (g:cJ σ fs H H'):cX σ fs H σ fs H':=⟨λa o h n=>⟨g.keep a o h λφ p=>n p.v9,n⟩,g.there,λa φ p=>.inl p⟩
def cJ.uS (g:cJ σ fs H H') {o:HO} (h:H a=am o) (n:¬dE σ fs a):H' a=am o:=g.keep a o h λφ p=>n p.v9
def cJ.same (h:kG H H'):cJ σ fs H H':=⟨λa o e _=>h a o e,λa e=>(by
 cases z:H a with
 | none=>rfl
 | some o=>rw [h a o z] at e;cases e)⟩
def jR.ex {c:ce}{s:SL} (h:jR K H a s) (ho:s.own=true) (hc:s.has a c):∃o,H c=am o/\(∀vs,o≠.tup vs)/\∀ob u,o≠.cI ob u:=by
 cases s with
 | val _=>exact h.elim
 | adr _=>cases ho
 | ol q l=>obtain⟨_,vs,e,_⟩:=h;rcases hc with rfl | hc;exact⟨_,e,by simp,by simp⟩;cases hc
 | oll bs ls=>
  obtain⟨e,_,_,hl,hb⟩:=h;rcases hc with rfl | hc
  ·exact⟨_,e,by simp,by simp⟩
  ·obtain⟨j,hj⟩:=CI (show c∈bs from hc);have h1:=(Al.mp hj).1;obtain⟨ws,e,_⟩:=hb j c _ hj (Ad (by rw [<- hl];exact h1));exact⟨_,e,by simp,by simp⟩
 | od l=>obtain⟨vs,e,_⟩:=h;rcases hc with rfl | hc;exact⟨_,e,by simp,by simp⟩;cases hc
 | ot l=>obtain⟨vs,e,_⟩:=h;rcases hc with rfl | hc;exact⟨_,e,by simp,by simp⟩;cases hc
 | lu l=>obtain⟨vs,e,_⟩:=h;rcases hc with rfl | hc;exact⟨_,e,by simp,by simp⟩;cases hc
def aP.ownAt (s:aP K H σ fs) {t:SL} (h1:fs[i]?=am (am t)) (h2:t.own=true) (h3:σ[i]?=am (am (.ref a))):jR K H a t:=by
 obtain⟨u,e,r⟩:=s.at' i t h1;rw [h3] at e;cases e;rcases r with⟨v,rfl,_⟩ | ⟨b,e,r⟩
 ·cases h2
 ·cases e;exact r
def aP.v9 (s:aP K H σ fs) (h:dE σ fs a):∃o,H a=am o/\(∀vs,o≠.tup vs)/\∀ob u,o≠.cI ob u:=by
 obtain⟨i,t,x,h1,h2,h3,h4⟩:=h;exact (s.ownAt h1 h2 h3).ex h2 h4
def aP.noOwn (s:aP K H σ fs) (h:H a=bm):¬dE σ fs a:=λz=>by
 obtain⟨o,e,_⟩:=s.v9 z;rw [h] at e;cases e
def aP.U0 (s:aP K H σ fs) (h:H a=am (.tup vs)):¬dE σ fs a:=λz=>by
 obtain⟨o,e,n,_⟩:=s.v9 z;rw [h] at e;cases e;exact n vs rfl
def aP.U1 (s:aP K H σ fs) (h:H a=am (.cI ob u)):¬dE σ fs a:=λz=>by
 obtain⟨o,e,_,n⟩:=s.v9 z;rw [h] at e;cases e;exact n ob u rfl
def cX.refl:cX σ fs H σ fs H:=⟨λ_ _ h n=>⟨h,n⟩,λ_ h=>h,λ_ _ h=>.inl h⟩
def cX.trans (a:cX σ fs H σ1 Rz H1) (b:cX σ1 Rz H1 σ2 cW H2):cX σ fs H σ2 cW H2:=
 ⟨λx o h n=>let ⟨h1,n1⟩:=a.keep x o h n;b.keep x o h1 n1,λx h=>a.there x (b.there x h),λx φ h=>(a.pk x φ h).elim (b.pk x φ) λ⟨n,vs,e,p⟩=>.inr (let ⟨h1,n1⟩:=b.keep x _ e n;⟨n1,vs,h1,p⟩)⟩
def cX.dZ (g:cX σ fs H σ' bq H') (s:aP K H σ fs):bc K H H':=
 ⟨λa vs h=>(g.keep a _ h (s.U0 h)).1,λa o u h=>(g.keep a _ h (s.U1 h)).1⟩
def VR.tk {u:V} (t:bc K H H') (r:VR K [] H u v):VR K [] H' u v:=r.mono t λ_ _ e=>e
def aB.tk {u:List V}{v:List PV} (t:bc K H H') (r:aB K [] H u v):aB K [] H' u v:=r.mono t λ_ _ e=>e
def cX.vr (g:cX σ fs H σ' bq H') (s:aP K H σ fs) {u:V} (r:VR K [] H u v):VR K [] H' u v:=VR.tk (g.dZ s) r
def cJ.dZ (g:cJ σ fs H H') (s:aP K H σ fs):bc K H H':=g.f.dZ s
def cJ.vr (g:cJ σ fs H H') (s:aP K H σ fs) {u:V} (r:VR K [] H u v):VR K [] H' u v:=VR.tk (g.dZ s) r
def cJ.Lx (g:cJ σ fs H H') (s:aP K H σ fs) {u:List V}{v:List PV} (r:aB K [] H u v):aB K [] H' u v:=aB.tk (g.dZ s) r
def jR.mono {s:SL} (t:bc K H H') (e:∀c o,s.own=true->s.has a c->H c=am o->H' c=am o) (h:jR K H a s):jR K H' a s:=by
 cases s with
 | val _=>exact h
 | adr _=>exact h
 | ol _ l=>obtain⟨z,vs,q,r⟩:=h;exact⟨z,vs,e _ _ rfl (.inl rfl) q,aB.tk t r⟩
 | oll bs ls=>
  obtain⟨z,h1,h2,h3,h4⟩:=h;refine⟨e _ _ rfl (.inl rfl) z,h1,h2,h3,λj b l hb hl=>?_⟩;obtain⟨ws,q,r⟩:=h4 j b l hb hl;exact⟨ws,e _ _ rfl (.inr (Bt hb)) q,aB.tk t r⟩
 | od l=>obtain⟨vs,q,k,r⟩:=h;exact⟨vs,e _ _ rfl (.inl rfl) q,k,aB.tk t r⟩
 | ot l=>obtain⟨vs,q,k,r⟩:=h;exact⟨vs,e _ _ rfl (.inl rfl) q,k,aB.tk t r⟩
 | lu φ=>obtain⟨vs,q,k⟩:=h;exact⟨vs,e _ _ rfl (.inl rfl) q,k⟩
def vn.mono {u:V}{s:SL} (t:bc K H H') (e:∀x a o,u=.ref x->s.own=true->s.has x a->H a=am o->H' a=am o) (h:vn K H u s):vn K H' u s:=by
 rcases h with⟨v,q,r⟩ | ⟨a,q,r⟩
 ·exact .inl ⟨v,q,VR.tk t r⟩
 ·exact .inr ⟨a,q,r.mono t (λc o z y w=>e a c o q z y w)⟩
def aP.same (s:aP K H σ fs) (h:kG H H'):aP K H' σ fs:=⟨s.len,λi t e=>let ⟨u,h1,h2⟩:=s.at' i t e;⟨u,h1,h2.mono h.dY (λ_ a o _ _ _ z=>h a o z)⟩,s.nd⟩
def cX.same (h:kG H H') (s:aP K H σ fs):cX σ fs H σ fs H':=⟨λa o e n=>⟨h a o e,n⟩,λa e=>(by
 cases z:H a with
 | none=>rfl
 | some o=>rw [h a o z] at e;cases e),λa φ p=>.inl p⟩
inductive iq:bp->bp->Prop
 | nil:iq [] []
 | drop {s:Option SL}{a b:bp} (h:iq a b):iq (s::a) (bm::b)
 | keep {s:Option SL}{a b:bp} (h:iq a b):iq (s::a) (s::b)
theorem iq.at {a b:bp} (h:iq a b):∀(i:Nat) (s:SL),b[i]?=am (am s)->a[i]?=am (am s):=by
 induction h with
 | nil=>intro i s e;simp at e
 | drop h ih=>intro i s e;cases i with | zero=>simp at e | succ i=>simp at e ⊢;exact ih i s e
 | keep h ih=>intro i s e;cases i with | zero=>simpa using e | succ i=>simp at e ⊢;exact ih i s e
theorem iq.length {a b:bp} (h:iq a b):a.length=b.length:=by induction h <;> simp_all
theorem iq.refl:∀a:bp,iq a a
 | []=>.nil
 | _::a=>.keep (iq.refl a)
def aP.le (s:aP K H σ fs) (h:iq fs bq):aP K H σ bq:=⟨s.len.trans h.length,λi t e=>s.at' i t (h.at i t e),λi j t u x y a e1 e2=>s.nd i j t u x y a (h.at i t e1) (h.at j u e2)⟩
def dE.le (h:iq fs bq) (o:dE σ bq a):dE σ fs a:=let ⟨i,t,x,e1,e2,e3⟩:=o;⟨i,t,x,h.at i t e1,e2,e3⟩
def cX.le (s:aP K H σ fs) (h:iq fs bq):cX σ fs H σ bq H:=⟨λa o e n=>⟨e,λz=>n (z.le h)⟩,λ_ e=>e,λa φ p=>by
 obtain⟨i,e1,e2⟩:=p;by_cases c:dE σ bq a
 ·obtain⟨j,t,x,c1,c2,c3,c4⟩:=c;have ij:=s.nd i j _ t a x a e1 (h.at j t c1) rfl c2 e2 c3 (.inl rfl) c4;subst ij;have:=h.at i t c1;rw [e1] at this;cases this;exact .inl ⟨i,c1,e2⟩
 ·obtain⟨vs,q,r⟩:=s.ownAt e1 rfl e2;exact .inr ⟨c,vs,q,r⟩⟩
def cG {l:List (Option α)}{x y:α} (h:(l.set i (am x))[j]?=am (am y)):(j=i/\y=x)\/(j≠i/\l[j]?=am (am y)):=by
 by_cases c:j=i
 ·subst c;rw [List.getElem?_set] at h;simp at h;exact .inl ⟨rfl,h.2.symm⟩
 ·rw [B3 (λz=>c z.symm)] at h;exact .inr ⟨c,h⟩
def cx {l:List α}{x:α} (h:i < l.length):(l.set i x)[i]?=am x:=by rw [List.getElem?_set];simp [h]
def aK {l:List α}{x:α} (h:j≠i):(l.set i x)[j]?=l[j]?:=B3 (λz=>h z.symm)
def aP.put (s:aP K H σ fs) {u:V}{t:SL} (hr:vn K H u t) (hf:∀x a,u=.ref x->t.own=true->t.has x a->∀(j:Nat) (w:SL) (y:ce),j≠i->fs[j]?=am (am w)->w.own=true->σ[j]?=am (am (.ref y))->¬w.has y a):aP K H (σ.set i (am u)) (fs.set i (am t)):=by
 refine⟨by simp [s.len],λj w e=>?_,λj k w x b1 b2 a e1 e2 o1 o2 q1 q2 z1 z2=>?_⟩
 ·rcases cG e with⟨rfl,rfl⟩ | ⟨n,e⟩
  ·have hl:j < σ.length:=by
    have:=(Al.mp e).1;rw [BR] at this;rw [s.len];exact this
   exact⟨u,cx hl,hr⟩
  ·obtain⟨v,h1,h2⟩:=s.at' j w e;exact⟨v,by rw [aK n];exact h1,h2⟩
 ·rcases cG e1 with⟨y1,y2⟩ | ⟨n1,f1⟩ <;> rcases cG e2 with⟨y3,y4⟩ | ⟨n2,f2⟩
  ·exact y1.trans y3.symm
  ·subst y1;subst y2;rw [aK n2] at q2;have hl:j < σ.length:=by have:=(Al.mp q1).1;simpa using this
   rw [cx hl] at q1;cases q1;exact absurd z2 (hf _ a rfl o1 z1 k x b2 n2 f2 o2 q2)
  ·subst y3;subst y4;rw [aK n1] at q1;have hl:k < σ.length:=by have:=(Al.mp q2).1;simpa using this
   rw [cx hl] at q2;cases q2;exact absurd z1 (hf _ a rfl o2 z2 j w b1 n1 f1 o1 q1)
  ·rw [aK n1] at q1;rw [aK n2] at q2;exact s.nd j k w x b1 b2 a f1 f2 o1 o2 q1 q2 z1 z2
def aP.jU (s:aP K H σ fs) {u:V} (hr:VR K [] H u v) (i:Nat):aP K H (σ.set i (am u)) (fs.set i (am (.val v))):=s.put (.inl ⟨v,rfl,hr⟩) λ_ _ _ z=>by cases z
def y6 {u:V}{t:SL} (o:dE (σ.set i (am u)) (fs.set i (am t)) a) (hl:σ.length=fs.length):dE σ fs a\/∃x,u=.ref x/\t.own=true/\t.has x a:=by
 obtain⟨j,w,x,e1,e2,e3,e4⟩:=o;rcases cG e1 with⟨rfl,rfl⟩ | ⟨n,e1⟩
 ·have h2:j < σ.length:=by have:=(Al.mp e3).1;simpa using this
  rw [cx h2] at e3;cases e3;exact .inr ⟨x,rfl,e2,e4⟩
 ·rw [aK n] at e3;exact .inl ⟨j,w,x,e1,e2,e3,e4⟩
def IB (s:aP K H σ fs) {u:V}{t:SL} (p:gW σ fs φ a) (hu:∀x,u=.ref x->t.own=true->t.has x a->t=.lu φ):gW (σ.set i (am u)) (fs.set i (am t)) φ a\/¬dE (σ.set i (am u)) (fs.set i (am t)) a:=by
 obtain⟨j,e1,e2⟩:=p;by_cases c:j=i
 ·subst c;by_cases c2:∃x,u=.ref x/\t.own=true/\t.has x a
  ·obtain⟨x,c3,c4,c5⟩:=c2;have hl:=(Al.mp e2).1;have O9:=(Al.mp e1).1;have et:=hu x c3 c4 c5;subst et;rcases c5 with rfl | c5
   ·exact .inl ⟨j,by rw [cx O9],by rw [cx hl,c3]⟩
   ·cases c5
  ·refine .inr λo=>?_;obtain⟨k,w,y,q1,q2,q3,q4⟩:=o;rcases cG q1 with⟨rfl,rfl⟩ | ⟨n,q1⟩
   ·have hl:=(Al.mp e2).1;rw [cx hl] at q3;cases q3;exact c2 ⟨y,rfl,q2,q4⟩
   ·rw [aK n] at q3;exact n (s.nd k j w _ y a a q1 e1 q2 rfl q3 e2 q4 (.inl rfl))
 ·exact .inl ⟨j,by rw [aK c];exact e1,by rw [aK c];exact e2⟩
def cX.jU (s:aP K H σ fs) (u:V) (v:PV) (i:Nat):cX σ fs H (σ.set i (am u)) (fs.set i (am (.val v))) H:=
 ⟨λa o e n=>⟨e,λz=>(y6 z s.len).elim n λ⟨_,_,z,_⟩=>by cases z⟩,λ_ e=>e,λa φ p=>(IB s p (λ_ _ z=>by cases z)).imp id λn=>⟨n,by
  obtain⟨j,e1,e2⟩:=p;obtain⟨vs,q,r⟩:=s.ownAt e1 rfl e2;exact⟨vs,q,r⟩⟩⟩
def aP.Mj (s:aP K H σ fs) {t:SL} (hr:jR K H a t) (hn:∀c,t.has a c->¬dE σ fs c) (i:Nat):aP K H (σ.set i (am (.ref a))) (fs.set i (am t)):=s.put (.inr ⟨a,rfl,hr⟩) λx c e _ hc j w y n e1 e2 e3 z=>by
 cases e;exact hn c hc ⟨j,w,y,e1,e2,e3,z⟩
def w9 {t:SL} (hi:t.S2=[]) {c:ce} (h:t.has a c):c=a:=by
 rcases h with h | h
 ·exact h
 ·rw [hi] at h;cases h
def aP.Mk (s:aP K H σ fs) {t:SL} (hr:jR K H a t) (hn:¬dE σ fs a) (i:Nat) (hi:t.S2=[]:=by rfl):aP K H (σ.set i (am (.ref a))) (fs.set i (am t)):=s.Mj hr (λc hc=>by rw [w9 hi hc];exact hn) i
def cX.Mj (s:aP K H1 σ fs) (g:cX σ fs H σ fs H1) {t:SL} (hn:∀c,t.has a c->¬dE σ fs c) (h0:∀c,t.has a c->H c=bm) (i:Nat):cX σ fs H (σ.set i (am (.ref a))) (fs.set i (am t)) H1:=by
 refine⟨λb o e n=>⟨(g.keep b o e n).1,λz=>(y6 z s.len).elim n λ⟨x,z,_,y⟩=>?_⟩,g.there,λb φ p=>?_⟩
 ·cases z;rw [h0 b y] at e;cases e
 ·obtain⟨j,e1,e2⟩:=p;obtain⟨vs,q,r⟩:=s.ownAt e1 rfl e2;refine (IB (t:=t) s ⟨j,e1,e2⟩ (λx z o y=>?_)).imp id λn=>⟨n,vs,q,r⟩;cases z;exact absurd ⟨j,_,_,e1,rfl,e2,.inl rfl⟩ (hn b y)
def cX.Mk (s:aP K H1 σ fs) (g:cX σ fs H σ fs H1) {t:SL} (hn:¬dE σ fs a) (h0:H a=bm) (i:Nat) (hi:t.S2=[]:=by rfl):cX σ fs H (σ.set i (am (.ref a))) (fs.set i (am t)) H1:=cX.Mj s g (λc hc=>by rw [w9 hi hc];exact hn) (λc hc=>by rw [w9 hi hc];exact h0) i
def y7 (s:aP K H σ fs) {t t':SL}{c:ce} (e1:fs[i]?=am (am t)) (o:t.own=true) (np:∀φ,t≠.lu φ) (e2:σ[i]?=am (am (.ref a))) (hc:t.has a c) (WX:t'.has a c) (zG:∀b,t'.has a b->t.has a b) (o':t'.own=true) (sx:pX c H H') (ht:bc K H H'->jR K H' a t'):aP K H' σ (fs.set i (am t'))/\cX σ fs H σ (fs.set i (am t')) H':=by
 have oa:=s.ownAt e1 o e2;obtain⟨ob,q,n1,n2⟩:=oa.ex o hc;have tk:bc K H H':=⟨λb vs z=>sx b _ (λy=>by subst y;rw [q] at z;cases z;exact n1 _ rfl) z,λb o u z=>sx b _ (λy=>by subst y;rw [q] at z;cases z;exact n2 _ _ rfl) z⟩;have WD:=ht tk;have hi:i < fs.length:=(Al.mp e1).1;have Qq:∀b,dE σ (fs.set i (am t')) b->dE σ fs b:=λb z=>by
  obtain⟨j,w,x,z1,z2,z3,z4⟩:=z;rcases cG z1 with⟨rfl,rfl⟩ | ⟨n,z1⟩
  ·rw [e2] at z3;cases z3;exact⟨j,t,a,e1,o,e2,zG b z4⟩
  ·exact⟨j,w,x,z1,z2,z3,z4⟩
 refine⟨⟨by simp [s.len],λj w e=>?_,λj k w x b1 b2 b z1 z2 o1 o2 q1 q2 y1 y2=>?_⟩,⟨λb ob e n=>⟨sx b ob (λz=>by subst z;exact n ⟨i,t,a,e1,o,e2,hc⟩) e,λz=>n (Qq b z)⟩,λb e=>?_,λb φ p=>?_⟩⟩
 ·rcases cG e with⟨rfl,rfl⟩ | ⟨n,e⟩
  ·exact⟨_,e2,.inr ⟨a,rfl,WD⟩⟩
  ·obtain⟨u,h1,h2⟩:=s.at' j w e;refine⟨u,h1,h2.mono tk (λx b ob eb ow hb z=>sx b ob (λy=>?_) z)⟩;subst y;subst eb;exact n (s.nd j i w t x a b e e1 ow o h1 e2 hb hc)
 ·have f:∀{j:Nat}{w:SL}{y:ce},(fs.set i (am t'))[j]?=am (am w)->w.own=true->σ[j]?=am (am (.ref y))->w.has y b->∃w',fs[j]?=am (am w')/\w'.own=true/\w'.has y b:=λ{j w y} z ow qy hy=>by
   rcases cG z with⟨rfl,rfl⟩ | ⟨n,z⟩
   ·rw [e2] at qy;cases qy;exact⟨t,e1,o,zG b hy⟩
   ·exact⟨w,z,ow,hy⟩
  obtain⟨w',a1,a2,a3⟩:=f z1 o1 q1 y1;obtain⟨x',c1,c2,c3⟩:=f z2 o2 q2 y2;exact s.nd j k w' x' b1 b2 b a1 c1 a2 c2 q1 q2 a3 c3
 ·cases z:H b with
  | none=>rfl
  | some ob=>
   by_cases cc:b=c
   ·subst cc;obtain⟨o2,y,_⟩:=WD.ex o' WX;rw [e] at y;cases y
   ·rw [sx b ob cc z] at e;cases e
 ·obtain⟨j,p1,p2⟩:=p;have ji:j≠i:=λz=>by subst z;rw [e1] at p1;cases p1;exact np φ rfl
  exact .inl ⟨j,by rw [aK ji];exact p1,p2⟩
def f7 (s:aP K H σ fs) {t t':SL} (e1:fs[i]?=am (am t)) (o:t.own=true) (np:∀φ,t≠.lu φ) (e2:σ[i]?=am (am (.ref a))) (sx:pX a H H') (ht:bc K H H'->jR K H' a t') (hi:t'.S2=t.S2:=by rfl) (o':t'.own=true:=by rfl):aP K H' σ (fs.set i (am t'))/\cX σ fs H σ (fs.set i (am t')) H':=
 y7 s e1 o np e2 (.inl rfl) (.inl rfl) (λb h=>by unfold SL.has at h ⊢;rw [hi] at h;exact h) o' sx ht
end
end
end FL
open FL.W renaming bind→ap,ret→bd,run_bind→cr,ag→ga,aj→gl,au→nw,ext'→wT,aJ→BT
local macro_rules | `($a\$b)=>`(ap (bd $a) $b)
variable {x:BB}{u:L2.V}{o b:B7}{fs bq:FL.bp}{tc:FL.W Bool}{es:List B7}{σ':L2.St}{wa wb wc:FL.W PL.PV}{wl:FL.W (List PL.PV)}
namespace FL
section
open PySem PySem.Spec PyProof.Rows L2 PL
variable {K:Ab}
def fE (K:Ab) (fs:bp) (w:W PV):TE:=λσ H Q=>aP K H σ fs/\w.run λv=>∀u H',cJ σ fs H H'->aP K H' σ fs->VR K [] H' u v->Q u H'
def fT (K:Ab) (fs:bp) (w:W Bool):TT:=λσ H Q=>aP K H σ fs/\w.run λb=>∀H',cJ σ fs H H'->aP K H' σ fs->Q b H'
def fO (K:Ab) (fs:bp) (w:W (Option Int)):TO:=λσ H Q=>aP K H σ fs/\w.run λb=>∀H',cJ σ fs H H'->aP K H' σ fs->Q b H'
def fL (K:Ab) (fs:bp) (w:W (List PV)):TE:=λσ H Q=>aP K H σ fs/\w.run λl=>∀a vs H',cJ σ fs H H'->aP K H' σ fs->H a=bm->H' a=am (.lst vs)->aB K [] H' vs l->Q (.ref a) H'
def Wv (K:Ab) (H:Hp) (u:V) (l:List PV):Prop:=∃a vs,u=.ref a/\(Tx K H a vs\/H a=am (.tup vs))/\aB K [] H vs l
def R9 (K:Ab) (σ:L2.St) (fs:bp) (H:Hp) (u:V) (l:List PV):Prop:=Wv K H u l\/∃a,u=.ref a/\((¬dE σ fs a/\∃vs,H a=am (.lst vs)/\aB K [] H vs l)\/∃(i:Nat) (q:Option ce),fs[i]?=am (am (.ol q l))/\σ[i]?=am (am (.ref a)))
def fQ (K:Ab) (fs:bp) (w:W (List PV)):TE:=λσ H Q=>aP K H σ fs/\w.run λl=>∀u H',cJ σ fs H H'->aP K H' σ fs->R9 K σ fs H' u l->Q u H'
def fI (K:Ab) (fs:bp) (w:W (List PV)):TE:=λσ H Q=>aP K H σ fs/\w.run λl=>∀u H',cJ σ fs H H'->aP K H' σ fs->Wv K H' u l->Q u H'
inductive AK where
 | v | p (φ:List V->Prop) | f (a:ce)
inductive e7 (K:Ab) (σ:L2.St) (fs:bp) (H:Hp):List V->List AK->List PV->Prop
 | nil:e7 K σ fs H [] [] []
 | v {u:V}{x:PV}{vs:List V}{ks:List AK}{l:List PV} (r:VR K [] H u x) (t:e7 K σ fs H vs ks l):e7 K σ fs H (u::vs) (.v::ks) (x::l)
 | p {a:ce}{φ:List V->Prop}{vs:List V}{ks:List AK}{l:List PV} (r:gW σ fs φ a) (t:e7 K σ fs H vs ks l):e7 K σ fs H (.ref a::vs) (.p φ::ks) l
 | f {a:ce}{vs:List V}{ks:List AK}{l:List PV} (t:e7 K σ fs H vs ks l):e7 K σ fs H (.ref a::vs) (.f a::ks) l
def fA (K:Ab) (fs:bp) (ks:List AK) (w:W (List PV)):TA:=λσ H Q=>aP K H σ fs/\w.run λl=>∀vs H',cJ σ fs H H'->aP K H' σ fs->e7 K σ fs H' vs ks l->Q vs H'
structure EF (X:Cx) (K:Ab) (fs:bp) (e:gt) (w:W PV):Prop where p:PE X e (fE K fs w)
structure LF (X:Cx) (K:Ab) (fs:bp) (e:gt) (w:W (List PV)):Prop where p:PE X e (fL K fs w)
structure QF (X:Cx) (K:Ab) (fs:bp) (e:gt) (w:W (List PV)):Prop where p:PE X e (fQ K fs w)
structure IF (X:Cx) (K:Ab) (fs:bp) (e:gt) (w:W (List PV)):Prop where p:PE X e (fI K fs w)
structure TF (X:Cx) (K:Ab) (fs:bp) (e:gt) (w:W Bool):Prop where p:PT X e (fT K fs w)
structure JL (X:Cx) (K:Ab) (fs:bp) (e:gt) (w:W Bool):Prop where p:PW X e (fT K fs w)
structure OF (X:Cx) (K:Ab) (fs:bp) (e:Option gt) (w:W (Option Int)):Prop where p:L2.PO X e (fO K fs w)
structure AF (X:Cx) (K:Ab) (fs:bp) (es:List gt) (ks:List AK) {R:Type} (B:(List PV->W R)->W R):Prop where
 p:∃w:W (List PV),PA X es (fA K fs ks w)/\∀k,B k=ap w k
section
def Wv.tk (t:bc K H H') (h:Wv K H u l):Wv K H' u l:=by
 obtain⟨a,vs,e,q,r⟩:=h;exact⟨a,vs,e,q.imp (t.f _ _) (t.t _ _),aB.tk t r⟩
def R9.go (h:R9 K σ fs H u l) (s:aP K H σ fs) (g:cJ σ fs H H'):R9 K σ fs H' u l:=by
 rcases h with h | ⟨a,e,⟨n,vs,q,r⟩ | q⟩
 ·exact .inl (h.tk (g.dZ s))
 ·exact .inr ⟨a,e,.inl ⟨n,vs,(g.uS q n),g.Lx s r⟩⟩
 ·exact .inr ⟨a,e,.inr q⟩
def R9.sq (h:R9 K σ fs H u l) (s:aP K H σ fs):∃a vs,u=.ref a/\(dP K H a vs\/dG K H a vs)/\aB K [] H vs l:=by
 rcases h with⟨a,vs,e,q,r⟩ | ⟨a,e,⟨n,vs,q,r⟩ | ⟨i,_,q1,q2⟩⟩
 ·exact⟨a,vs,e,q.elim (λq=>.inl q.sq) λq=>.inr (dG.of q),r⟩
 ·exact⟨a,vs,e,.inl (dP.of q),r⟩
 ·obtain⟨_,vs,q,r⟩:=s.ownAt q1 rfl q2;exact⟨a,vs,e,.inl (dP.of q),r⟩
end
section
variable {a c:gt}{rest:List gt}{w:W PV}
def ae (i:Nat) (hs:fs[i]?=am (am (.val v)):=by rfl) (hN:X.N[i]?=am x:=by rfl) (hv:HK X.env.scope x:=by first | exact Di rfl | exact C1 (Di rfl) | exact C1 (C1 rfl)) (hd:jS x:=by decide) (kr:JM x:=by decide):EF X K fs (.Name x pos) (.ret v):=
 ⟨PE.imp (fe hN hv hd kr) λσ H Q ⟨sr,q⟩=>by
  obtain⟨u,e1,r⟩:=sr.at' i _ hs;rcases r with⟨w,e,r⟩ | ⟨a,_,r⟩
  ·cases e;exact⟨u,e1,q u H .refl sr r⟩
  ·exact r.elim⟩
def W6 {v:V}{p:PV} (hv:∀H,VR K [] H v p) (h:PE X e (tC v)):EF X K fs e (.ret p):=⟨PE.imp h λσ H Q ⟨sr,q⟩=>q v H .refl sr (hv _)⟩
def ao {i j}:EF X K fs (.Constant (.int i) j pos) (.ret (.int i)):=W6 (λ_=>.int i) UK
def Hu {b j}:EF X K fs (.Constant (.bool b) j pos) (.ret (.bl b)):=W6 (λ_=>.bl b) Yk
def sG {j}:EF X K fs (.Constant .none j pos) (.ret .aD):=W6 (λ_=>.aD) MB
def u7 {x j}:EF X K fs (.Constant (.str x) j pos) (.ret (.str x)):=W6 (λ_=>.str x) UI
def xB {i:Int}{t:Tok} (hm:X.mg x=am (.int i t)) (hg:Gl X x) (hd:jS x:=by decide):EF X K fs (.Name x pos) (.ret (.int i)):=W6 (λ_=>.int i) (qt hg hm ⟨_,rfl⟩ hd)
def xA {i:Str}{t:Tok} (hm:X.mg x=am (.str i t)) (hg:Gl X x) (hd:jS x:=by decide):EF X K fs (.Name x pos) (.ret (.str i)):=W6 (λ_=>.str i) (qt hg hm ⟨_,rfl⟩ hd)
def of2 (m:M2) (x y:PV):W PV:=⟨λQ=>m.f x y [] λz h=>h=[]/\Q z,λf q=>m.mono (λ_ _ q=>⟨q.1,f _ q.2⟩) q⟩
def hr0 (H:Hp):HR K [] H []:=⟨EY,rfl,λn a o e _=>by simp at e⟩
def pq0 {Q:VK}{z:PV}{h:PH} (sr:aP K H σ fs) (q:h=[]/\∀u H',cJ σ fs H H'->aP K H' σ fs->VR K [] H' u z->Q u H'):pQ K [] H Q z h:=λι' v H' g r x=>by
 obtain⟨e,q⟩:=q;subst e;have:ι'=[]:=B4 r.len;subst this;have sm:kG H H':=λa o z=>g.keep a o (by simp) z;exact q v H' (cJ.same sm) (sr.same sm) x
def UY {r:R2}{m:M2} (hm:M2.Ok K r m) {Q:VK}{v:V}{x y:PV} (sr:aP K H σ fs) (hu:VR K [] H u x) (hv:VR K [] H v y) (q:(of2 m x y).run λz=>∀u H',cJ σ fs H H'->aP K H' σ fs->VR K [] H' u z->Q u H'):r u v H Q:=
 hm (hr0 H) hu hv (m.mono (λz h q=>pq0 sr q) q)
def Jr {r:R2}{m:M2} (hm:M2.Ok K r m):∀σ H Q,fE K fs (.bind wa λx=>.bind wb λy=>of2 m x y) σ H Q->WB r (fE K fs wa) (fE K fs wb) σ H Q:=λσ H Q ⟨sr,q⟩=>
 ⟨sr,wa.mono (λx q1 u1 H1 g1 s1 v1=>⟨s1,wb.mono (λy q2 u2 H2 g2 s2 v2=>UY hm s2 (g2.vr s1 v1) v2 ((of2 m x y).mono (λz q u3 H3 g3 s3 v3=>q u3 H3 ((g1.trans g2).trans g3) s3 v3) q2)) q1⟩) q⟩
def Oq {op:Operator}{r:R2}{m:M2} (ho:jG X (pr op) r) (hm:M2.Ok K r m) (ha:EF X K fs a wa) (hb:EF X K fs b wb):EF X K fs (.BinOp a op b pos) (.bind wa λx=>.bind wb λy=>of2 m x y):=⟨PE.imp (IE ho ha.p hb.p) (Jr hm)⟩
def u5 (ha:EF X K fs a wa) (hb:EF X K fs b wb):EF X K fs (.BinOp a .Sub b pos) (.bind wa λx=>.bind wb λy=>of2 y9 x y):=Oq UO (FG λ_ _ _ _=>.int _) ha hb
def sH (ha:EF X K fs a wa) (hb:EF X K fs b wb):EF X K fs (.BinOp a .Mult b pos) (.bind wa λx=>.bind wb λy=>of2 oW x y):=Oq Qu (xX λ_ _ _ _=>.int _) ha hb
def Tn (ha:EF X K fs a wa) (hb:EF X K fs b wb):EF X K fs (.BinOp a .FloorDiv b pos) (.bind wa λx=>.bind wb λy=>of2 oDiv x y):=Oq Qv (xX λ_ _ _ _=>.int _) ha hb
def pR (ha:EF X K fs a wa) (hb:EF X K fs b wb):EF X K fs (.BinOp a .Mod b pos) (.bind wa λx=>.bind wb λy=>of2 oMod x y):=Oq US (xX λ_ _ _ _=>.int _) ha hb
def Tj (ha:EF X K fs a wa) (hb:EF X K fs b wb):EF X K fs (.BinOp a .Pow b pos) (.bind wa λx=>.bind wb λy=>of2 MK x y):=Oq UQ (xX λ_ _ _ _=>.int _) ha hb
def zd:PV->W PV
 | .int i=>.ret (.int (-i))
 | _=>.fail
def u9 (ha:EF X K fs a wa):EF X K fs (.UnaryOp .USub a pos) (.bind wa zd):=⟨PE.imp (Yh T3 ha.p) λσ H Q ⟨sr,q⟩=>⟨sr,wa.mono (λx q1 u1 H1 g1 s1 v1=>by
 cases v1 with
 | int i=>exact⟨_,rfl,q1 _ H1 g1 s1 (.int _)⟩
 | _=>exact q1.elim) q⟩⟩
def Z4:PV->W Bool
 | .bl b=>.ret b
 | _=>.fail
def Jw {m:M2} (hc:JC X K op b m) (ha:EF X K fs a wa) (hb:EF X K fs b wb):EF X K fs (.Compare a [op] [b] pos) (.bind wa λx=>.bind wb λy=>of2 m x y):=let ⟨_,h1,h2⟩:=hc.p;⟨PE.imp (Qm h1 ha.p hb.p hc.k) (Jr h2)⟩
def adC {w:W PV}:∀σ H Q,fT K fs (.bind w Z4) σ H Q->(fE K fs w) σ H λx H'=>∃k,x=.bl k/\Q k H':=λσ H Q ⟨sr,q⟩=>⟨sr,w.mono (λx q1 u1 H1 g1 s1 v1=>by
 cases v1 with
 | bl b=>exact⟨b,rfl,q1 H1 g1 s1⟩
 | _=>exact q1.elim) q⟩
def de {m:M2} (hc:JC X K op b m) (ha:EF X K fs a wa) (hb:EF X K fs b wb):TF X K fs (.Compare a [op] [b] pos) (.bind wa λx=>.bind wb λy=>.bind (of2 m x y) Z4):=let ⟨_,h1,h2⟩:=hc.p
 ⟨PT.imp (qp h1 ha.p hb.p hc.k) λσ H Q q=>Jr h2 σ H _ (adC (w:=.bind wa λx=>.bind wb λy=>of2 m x y) σ H Q q)⟩
def OG (z:PV) (w:W PV):W PV:=match z with
 | .bl true=>w
 | .bl false=>.ret (.bl false)
 | _=>.fail
def R4 (x:PV) (w:W PV):W PV:=match x with
 | .bl true=>w
 | .bl false=>.ret (.bl false)
 | _=>.fail
def ZT (ha:EF X K fs a wa) (hb:EF X K fs (.BoolOp .And (b::rest) pos) wb):EF X K fs (.BoolOp .And (a::b::rest) pos) (.bind wa λx=>R4 x wb):=⟨PE.imp (UM ha.p hb.p) λσ H Q ⟨sr,q⟩=>⟨sr,wa.mono (λx q1 u1 H1 g1 s1 v1=>by
 cases v1 with
 | bl k=>
  cases k with
  | true=>exact⟨true,rfl,by rw [if_pos rfl];exact⟨s1,wb.mono (λ_ q u H' g s v=>q u H' (g1.trans g) s v) q1⟩⟩
  | false=>exact⟨false,rfl,by rw [if_neg A5];exact q1 _ H1 g1 s1 (.bl _)⟩
 | _=>exact q1.elim) q⟩⟩
def ZN {op} (h:EF X K fs a wa):EF X K fs (.BoolOp op [a] pos) wa:=⟨UJ h.p⟩
variable {ta tb:W Bool}
def mP (h:TF X K fs a ta):JL X K fs (.BoolOp .And [a] pos) ta:=⟨P8 h.p⟩
def T4 (h:TF X K fs a ta):JL X K fs (.BoolOp .Or [a] pos) ta:=⟨Uz h.p⟩
def qT (ha:TF X K fs a ta) (hb:JL X K fs (.BoolOp .And (b::rest) pos) tb):JL X K fs (.BoolOp .And (a::b::rest) pos) (.bind ta λk=>if k=true then tb else .ret false):=⟨PW.imp (UA ha.p hb.p) λσ H Q ⟨sr,q⟩=>⟨sr,ta.mono (λk q1 H1 g1 s1=>by
 cases k with
 | true=>exact wU ⟨s1,tb.mono (λ_ q H' g s=>q H' (g1.trans g) s) q1⟩
 | false=>exact wV (q1 H1 g1 s1)) q⟩⟩
def Xt (ha:TF X K fs a ta) (hb:JL X K fs (.BoolOp .Or (b::rest) pos) tb):JL X K fs (.BoolOp .Or (a::b::rest) pos) (.bind ta λk=>if k=true then .ret true else tb):=⟨PW.imp (Yf ha.p hb.p) λσ H Q ⟨sr,q⟩=>⟨sr,ta.mono (λk q1 H1 g1 s1=>by
 cases k with
 | true=>exact wU (q1 H1 g1 s1)
 | false=>exact wV ⟨s1,tb.mono (λ_ q H' g s=>q H' (g1.trans g) s) q1⟩) q⟩⟩
def JL.t (h:JL X K fs a ta):TF X K fs a ta:=⟨PW.pt h.p⟩
def yE (ha:TF X K fs a ta):TF X K fs (.UnaryOp .Not a pos) (.bind ta λk=>.ret (!k)):=⟨PT.imp (UB ha.p) λσ H Q ⟨sr,q⟩=>⟨sr,q⟩⟩
def t6 (hc:TF X K fs c tc) (ha:EF X K fs a wa) (hb:EF X K fs b wb):EF X K fs (.IfExp c a b pos) (.bind tc λk=>if k=true then wa else wb):=⟨PE.imp (yX hc.p ha.p hb.p) λσ H Q ⟨sr,q⟩=>⟨sr,tc.mono (λk q1 H1 g1 s1=>by
 cases k with
 | true=>exact wU ⟨s1,wa.mono (λ_ q u H' g s v=>q u H' (g1.trans g) s v) q1⟩
 | false=>exact wV ⟨s1,wb.mono (λ_ q u H' g s v=>q u H' (g1.trans g) s v) q1⟩) q⟩⟩
def YK {la lb:W (List PV)} (hc:TF X K fs c tc) (ha:LF X K fs a la) (hb:LF X K fs b lb):LF X K fs (.IfExp c a b pos) (.bind tc λk=>if k=true then la else lb):=⟨PE.imp (yX hc.p ha.p hb.p) λσ H Q ⟨sr,q⟩=>⟨sr,tc.mono (λk q1 H1 g1 s1=>by
 cases k with
 | true=>exact wU ⟨s1,la.mono (λ_ q a vs H' g s n e v=>q a vs H' (g1.trans g) s (g1.there a n) e v) q1⟩
 | false=>exact wV ⟨s1,lb.mono (λ_ q a vs H' g s n e v=>q a vs H' (g1.trans g) s (g1.there a n) e v) q1⟩) q⟩⟩
def iu:PV->W Bool
 | .aD=>.ret false
 | .bl b=>.ret b
 | .int i=>.ret (i != 0)
 | .str y=>.eQ (y.length<=sizeLine) (.ret ((y.length:Int) != 0))
 | .tup l=>.ret (!l.isEmpty)
 | .cl l=>.ret (!l.isEmpty)
 | _=>.fail
def gH (hK:X.K=K) (ha:EF X K fs a wa) (he:∀Å,isTrue a X.env Å=(do let v <- Å;standAt a.pos;Da [v] (truthy v))):TF X K fs a (.bind wa iu):=⟨PT.imp (uG K hK ha.p he) λσ H Q ⟨sr,q⟩=>⟨sr,wa.mono (λx q1 u1 H1 g1 s1 v1=>by
 cases v1 with
 | aD=>exact⟨false,rfl,q1 H1 g1 s1⟩
 | bl b=>exact⟨b,rfl,q1 H1 g1 s1⟩
 | int i=>exact⟨_,rfl,q1 H1 g1 s1⟩
 | str y=>exact⟨_,⟨q1.1,rfl⟩,q1.2 H1 g1 s1⟩
 | ty _=>exact q1.elim
 | dk _ _ _=>exact q1.elim
 | dt _ _ _=>exact q1.elim
 | ref _=>exact q1.elim
 | @tup p vs l e rs=>
  refine⟨!vs.isEmpty,.inr (.inl ⟨_,dG.of e,rfl⟩),?_⟩;rw [<- km rs];exact q1 H1 g1 s1
 | @cl p vs l e rs=>
  refine⟨!vs.isEmpty,.inl ⟨_,e.sq,rfl⟩,?_⟩;rw [<- km rs];exact q1 H1 g1 s1) q⟩⟩
def Xv (hK:X.K=K) (ha:QF X K fs a wl) (he:∀Å,isTrue a X.env Å=(do let v <- Å;standAt a.pos;Da [v] (truthy v))):TF X K fs a (.bind wl λl=>.ret (!l.isEmpty)):=⟨PT.imp (uG K hK ha.p he) λσ H Q ⟨sr,q⟩=>⟨sr,wl.mono (λl q1 u1 H1 g1 s1 v1=>by
 obtain⟨b,vs,rfl,h,rs⟩:=v1.sq s1;refine⟨!vs.isEmpty,?_,?_⟩
 ·exact h.elim (λh=>.inl ⟨_,h,rfl⟩) λh=>.inr (.inl ⟨_,h,rfl⟩)
 ·rw [<- km rs];exact q1 H1 g1 s1) q⟩⟩
variable {R:Type}{ks:List AK}{B:(List PV->W R)->W R}
def ai:AF X K fs [] [] (R:=R) (λk=>k []):=⟨.ret [],PA.imp bP λσ H Q ⟨sr,q⟩=>q [] H .refl sr .nil,λk=>rfl⟩
def aa (ha:EF X K fs e w) (hr:AF X K fs es ks B) (hs:gs X e es:=by rfl):AF X K fs (e::es) (.v::ks) (λk=>.bind w λx=>B λl=>k (x::l)):=by
 obtain⟨wr,hp,hB⟩:=hr.p;refine⟨.bind w λx=>.bind wr λl=>.ret (x::l),PA.imp (aU ha.p hp hs) λσ H Q ⟨sr,q⟩=>?_,λk=>?_⟩
 ·exact⟨sr,w.mono (λx q1 u1 H1 g1 s1 v1=>⟨s1,wr.mono (λl q2 vs H2 g2 s2 v2=>q2 _ H2 (g1.trans g2) s2 (.v (g2.vr s1 v1) v2)) q1⟩) q⟩
 ·have:(λx=>B λl=>k (x::l))=λx=>ap wr λl=>k (x::l):=funext λx=>hB _;rw [this];rfl
def bD (i:Nat) (hr:AF X K fs es ks B) (hs:fs[i]?=am (am (.lu φ)):=by rfl) (hN:X.N[i]?=am x:=by rfl) (hv:HK X.env.scope x:=by first | exact Di rfl | exact C1 (Di rfl) | exact C1 (C1 rfl)) (hd:jS x:=by decide) (kr:JM x:=by decide)
  (pj:f8 (.Name x pos::es) X.env=(false,ii (.Name x pos) X.env)::f8 es X.env:=by rfl):AF X K fs (.Name x pos::es) (.p φ::ks) B:=by
 obtain⟨wr,hp,hB⟩:=hr.p;refine⟨wr,PA.imp (aU (fe hN hv hd kr) hp pj) λσ H Q ⟨sr,q⟩=>?_,hB⟩;obtain⟨u,e1,r⟩:=sr.at' i _ hs;rcases r with⟨v,e,_⟩ | ⟨a,e,r⟩
 ·cases e
 ·subst e;exact⟨_,e1,sr,wr.mono (λl q2 vs H2 g2 s2 v2=>q2 _ H2 g2 s2 (.p ⟨i,hs,e1⟩ v2)) q⟩
theorem e7.Lx:∀{vs:List V}{n:Nat}{l:List PV},e7 K σ fs H vs (Am n .v) l->aB K [] H vs l/\l.length=n
 | _,0,_,.nil=>⟨.nil,rfl⟩
 | _,n+1,_,.v r t=>⟨.cons r (e7.Lx t).1,by rw [Ar,(e7.Lx t).2]⟩
def ZL {x1}{B:(List PV->W PV)->W PV} (h:AF X K fs es (Am n .v) B) (hn:n<=1000:=by decide):EF X K fs (.Tuple es x1 pos) (B λl=>.ret (.tup l)):=by
 obtain⟨w,hp,hB⟩:=h.p;rw [hB];refine⟨PE.imp (Qh hp) λσ H Q ⟨sr,q⟩=>⟨sr,w.mono (λl q1 vs H1 g1 s1 v1=>?_) q⟩⟩;obtain⟨v2,hl⟩:=v1.Lx;refine⟨by rw [v2.length,hl];exact bS hn,λp H2 s2 e2 n2=>?_⟩;exact q1 _ H2 (g1.trans (cJ.same s2)) (s1.same s2) (.tup e2 (aB.tk s2.dY v2))
def YI {B:(List PV->W (List PV))->W (List PV)} (h:AF X K fs es (Am n .v) B) (hn:n<=1000:=by decide):LF X K fs (.List es pos) (B λl=>.ret l):=by
 obtain⟨w,hp,hB⟩:=h.p;rw [hB];refine⟨PE.imp (Qk hp) λσ H Q ⟨sr,q⟩=>⟨sr,w.mono (λl q1 vs H1 g1 s1 v1=>?_) q⟩⟩;obtain⟨v2,hl⟩:=v1.Lx;refine⟨by rw [v2.length,hl];exact bS hn,λp H2 s2 e2 n2=>?_⟩;exact q1 _ _ H2 (g1.trans (cJ.same s2)) (s1.same s2) (g1.there p n2) e2 (aB.tk s2.dY v2)
end
end
end FL
namespace L2
open PySem PySem.Spec PyProof.Rows
def Inv.Jn {σ:St} (I:Inv X Z σ H s) (e:H a=am (.lst vs)):∃o,Inv X Z σ (upd H a (.cI o (.lst vs))) s:=by
 obtain⟨z,ak,n,r,h1⟩:=(show bb X.prog X.w H s.heap a (.lst vs) from I.bu a _ e);exact⟨_,I.write (x:=a) (e:=a) (o:=.cI _ (.lst vs)) (h':=s.heap) (t':=s.toks) (by rw [e];exact Cu) (.inl rfl) (λb u _ z=>z) ⟨_,h1⟩ ⟨h1,z,ak,n,r,h1⟩⟩
def Inv.Jo {σ:St}{kvs:List (Key×V)} (I:Inv X Z σ H s) (e:H a=am (.dK kvs)):∃o,Inv X Z σ (upd H a (.cI o (.dK kvs))) s:=by
 obtain⟨z,hs,vs,r,o,es,ep,h1,h2⟩:=(show bb X.prog X.w H s.heap a (.dK kvs) from I.bu a _ e);exact⟨o,I.write (x:=a) (e:=a) (o:=.cI o (.dK kvs)) (h':=s.heap) (t':=s.toks) (by rw [e];exact Cu) (.inl rfl) (λb u _ z=>z) ⟨o,h1⟩ ⟨h1,z,hs,vs,r,o,es,ep,h1,h2⟩⟩
end L2
variable {t:FL.SL}{m:PL.yq}{ks:List FL.AK}{B:(List PL.PV->FL.W PL.PV)->FL.W PL.PV}{q0:Option BG}
namespace FL
section
open PySem PySem.Spec PyProof.Rows L2 PL
variable {K:Ab}
section
def qm (o':HO) (e:H a=am (.lst vs)):bc K H (upd H a o'):=⟨λb ws q=>by rw [aw (MX q e (by intro z;cases z))];exact q,λb o u q=>by rw [aw (MX q e (by intro z;cases z))];exact q⟩
def dvK (kvs:List (Key×PV)):PV:=.dv (kvs.map λkv=>kP kv.1) (kvs.map (·.2))
def Oy (kvs:List (List Key×PV)):PV:=.dv (kvs.map λkv=>.tup (kv.1.map kP)) (kvs.map (·.2))
def fP {oh:HO} (o':HO) (e:H a=am oh) (n1:∀vs,oh≠.tup vs) (n2:∀o u,oh≠.cI o u):bc K H (upd H a o'):=⟨λb ws q=>by rw [aw (λz=>by subst z;rw [e] at q;cases q;exact n1 _ rfl)];exact q,λb o u q=>by rw [aw (λz=>by subst z;rw [e] at q;cases q;exact n2 _ _ rfl)];exact q⟩
def SS {vs:List (List Key×V)}{kvs:List (List Key×PV)} (h:vs.map (·.1)=kvs.map (·.1)):(kvs.map λkv=>PV.tup (kv.1.map kP))=vs.map λkv=>PV.tup (kv.1.map kP):=by
 have:=congrArg (Fu λk:List Key=>PV.tup (k.map kP)) h;rw [AN,AN] at this;exact this.symm
def SU {vs:List (Key×V)}{kvs:List (Key×PV)} (h:vs.map (·.1)=kvs.map (·.1)):(kvs.map λkv=>kP kv.1)=vs.map λkv=>kP kv.1:=by
 have:=congrArg (Fu kP) h;rw [AN,AN] at this;exact this.symm
def SL.bw:SL->Bool
 | .ol _ _=>true
 | .od _=>true
 | .ot _=>true
 | _=>false
def SL.bv:SL->PV
 | .ol _ l=>.cl l
 | .od kvs=>dvK kvs
 | .ot kvs=>Oy kvs
 | _=>.aD
def SL.OK (h:t.bw=true):t.own=true:=by cases t <;> first | rfl | cases h
def Zw (I:Inv X Z σ' H s) (oa:jR K H a t) (hb:t.bw=true):∃ob o,H a=am o/\(∀vs,o≠.tup vs)/\(∀ob u,o≠.cI ob u)/\Inv X Z σ' (upd H a (.cI ob o)) s/\VR K [] (upd H a (.cI ob o)) (.ref a) t.bv:=by
 cases t with
 | ol q l=>
  obtain⟨_,vs,e,r⟩:=oa;obtain⟨ob,I2⟩:=I.Jn e;exact⟨ob,_,e,by simp,by simp,I2,.cl (.inl ⟨ob,aN⟩) (aB.tk (fP _ e (by simp) (by simp)) r)⟩
 | od l=>
  obtain⟨vs,e,k,r⟩:=oa;obtain⟨ob,I2⟩:=I.Jo e;exact⟨ob,_,e,by simp,by simp,I2,.dk aN (SU k) (aB.tk (fP _ e (by simp) (by simp)) r)⟩
 | ot l=>
  obtain⟨vs,e,k,r⟩:=oa;obtain⟨ob,I2⟩:=I.freeze e;exact⟨ob,_,e,by simp,by simp,I2,.dt aN (SS k) (aB.tk (fP _ e (by simp) (by simp)) r)⟩
 | _=>cases hb
def aP.Zv {o u:HO} (sr:aP K H σ fs) (hs:fs[i]?=am (am t)) (ho:t.own=true) (e1:σ[i]?=am (am (.ref a))) (h1:H a=am o) (n1:∀vs,o≠.tup vs) (n2:∀ob u,o≠.cI ob u) (vr:VR K [] (upd H a u) (.ref a) v):aP K (upd H a u) σ (fs.set i (am (.val v))):=by
 refine⟨by simp [sr.len],λj t' z=>?_,λj k t' u b1 b2 b z1 z2 o1 o2=>?_⟩
 ·rcases cG z with⟨rfl,rfl⟩ | ⟨n,z⟩
  ·exact⟨_,e1,.inl ⟨_,rfl,vr⟩⟩
  ·obtain⟨u,k1,k2⟩:=sr.at' j t' z;exact⟨u,k1,k2.mono (fP _ h1 n1 n2) (λx b o eb ow hb zz=>by
    subst eb;rw [aw (λy=>by subst y;exact n (sr.nd j i t' _ x b b z hs ow ho k1 e1 hb (.inl rfl)))];exact zz)⟩
 ·rcases cG z1 with⟨rfl,rfl⟩ | ⟨n1,z1⟩
  ·cases o1
  ·rcases cG z2 with⟨rfl,rfl⟩ | ⟨n2,z2⟩
   ·cases o2
   ·exact sr.nd j k t' u b1 b2 b z1 z2 o1 o2
def aP.side (s:aP K H σ fs) (n:¬dE σ fs a) (e:H a=am (.lst vs)) (o':HO):aP K (upd H a o') σ fs:=⟨s.len,λi t q=>by
 obtain⟨u,h1,h2⟩:=s.at' i t q;exact⟨u,h1,h2.mono (qm o' e) (λx b o eb ow hb z=>by subst eb;rw [aw (λy:b=a=>n ⟨i,t,x,q,ow,h1,y▸hb⟩)];exact z)⟩,s.nd⟩
def cJ.side (g:cJ σ fs H H1) (h0:H a=bm) (o':HO):cJ σ fs H (upd H1 a o'):=⟨λb o e n=>by rw [aw (bj e h0)];exact g.keep b o e n,λb e=>by
 by_cases c:b=a
 ·subst c;exact h0
 ·rw [aw c] at e;exact g.there b e⟩
end
section
variable {a:gt}{w:W PV}
def pS (h:LF X K fs e wl):EF X K fs e (.bind wl λl=>.ret (.cl l)):=⟨λZ s σ H Q I ⟨sr,q⟩=>by
 refine bR (h.p Z s σ H (λu H1=>∃a vs l,u=.ref a/\cJ σ fs H H1/\aP K H1 σ fs/\H a=bm/\H1 a=am (.lst vs)/\aB K [] H1 vs l/\∀u H',cJ σ fs H H'->aP K H' σ fs->VR K [] H' u (.cl l)->Q u H') I ⟨sr,wl.mono (λl q1 a vs H1 g1 s1 n e v=>⟨a,vs,l,rfl,g1,s1,n,e,v,q1⟩) q⟩) λu s1 ⟨v,H1,I1,r1,a,vs,l,e,g1,Um,n,ea,vr,q1⟩=>?_;subst e;obtain⟨ob,I2⟩:=I1.Jn ea;exact⟨.ref a,_,I2,r1,q1 _ _ (g1.side n _) (Um.side (λz=>sr.noOwn n z) ea _) (.cl (.inl ⟨ob,aN⟩) (aB.tk (qm _ ea) vr))⟩⟩
def aF:PV->W (List PV)
 | .tup l=>.ret l
 | .cl l=>.ret l
 | _=>.fail
def cH (h:EF X K fs e w):IF X K fs e (.bind w aF):=⟨PE.imp h.p λσ H Q ⟨sr,q⟩=>⟨sr,w.mono (λx q1 u1 H1 g1 s1 v1=>by
 cases v1 with
 | tup e r=>exact q1 _ H1 g1 s1 ⟨_,_,rfl,.inr e,r⟩
 | cl e r=>exact q1 _ H1 g1 s1 ⟨_,_,rfl,.inl e,r⟩
 | _=>exact q1.elim) q⟩⟩
def Ji (h:LF X K fs e wl):IF X K fs e wl:=cH (pS h)
theorem IF.q (h:IF X K fs e wl):QF X K fs e wl:=⟨PE.imp h.p λσ H Q ⟨sr,q⟩=>⟨sr,wl.mono (λl q1 u1 H1 g1 s1 v1=>q1 u1 H1 g1 s1 (.inl v1)) q⟩⟩
def aG (h:EF X K fs e w):QF X K fs e (.bind w aF):=(cH h).q
def yP (h:LF X K fs e wl):QF X K fs e wl:=⟨PE.imp h.p λσ H Q ⟨sr,q⟩=>⟨sr,wl.mono (λl q1 a vs H1 g1 s1 n e v=>q1 _ H1 g1 s1 (.inr ⟨a,rfl,.inl ⟨sr.noOwn n,vs,e,v⟩⟩)) q⟩⟩
def cg (i:Nat) (hs:fs[i]?=am (am (.ol q0 l)):=by rfl) (hN:X.N[i]?=am x:=by rfl) (hv:HK X.env.scope x:=by first | exact Di rfl | exact C1 (Di rfl) | exact C1 (C1 rfl)) (hd:jS x:=by decide) (kr:JM x:=by decide):QF X K fs (.Name x pos) (.ret l):=
 ⟨PE.imp (fe hN hv hd kr) λσ H Q ⟨sr,q⟩=>by
  obtain⟨u,e1,r⟩:=sr.at' i _ hs;rcases r with⟨w,e,r⟩ | ⟨a,e,r⟩
  ·cases e
  ·subst e;exact⟨_,e1,q _ H .refl sr (.inr ⟨a,rfl,.inr ⟨i,q0,hs,e1⟩⟩)⟩⟩
def S1 (l:List PV):PV->W PV
 | .int i=>.O6 (dD l i)
 | _=>.fail
def a6 (hK:X.K=K) (ha:QF X K fs a wl) (hb:EF X K fs b wb) (hs:yh b:=by exact λ_ _=>rfl):EF X K fs (.Subscript a b pos) (.bind wl λl=>.bind wb λy=>S1 l y):=⟨PE.imp (SI (Q9 K hK) ha.p hb.p hs) λσ H Q ⟨sr,q⟩=>⟨sr,wl.mono (λl q1 u1 H1 g1 s1 v1=>⟨s1,wb.mono (λy q2 u2 H2 g2 s2 v2=>by
 cases v2 with
 | int i=>
  have q2:(W.O6 (dD l i)).run _:=q2;cases z:dD l i with
  | none=>rw [z] at q2;exact q2.elim
  | some x=>
   rw [z] at q2;obtain⟨ad,vs,rfl,h,rs⟩:=(v1.go s1 g2).sq s2;obtain⟨v,e1,e2⟩:=aB.dD rs z;have q3:=q2 v H2 (g1.trans g2) s2 e2;exact h.elim (λh=>.inl ⟨ad,vs,i,v,rfl,rfl,h,e1,q3⟩) λh=>.inr (.inl ⟨ad,vs,i,v,rfl,rfl,h,e1,q3⟩)
 | _=>exact q2.elim) q1⟩) q⟩⟩
def ZR (ha:EF X K fs a wa) (hb:EF X K fs b wb) (hs:yh b):EF X K fs (.Subscript a b pos) (.bind wa λx=>.bind wb λy=>of2 MN x y):=⟨PE.imp (SI Nt ha.p hb.p hs) (Jr QD)⟩
def qv (m:yq) (l:List PV):W PV:=⟨λQ=>m.f l [] λz h=>h=[]/\Q z,λf q=>m.mono (λ_ _ q=>⟨q.1,f _ q.2⟩) q⟩
section
variable {id:String}{r:List V->Hp->VK->Prop}
def MJ (hm:yq.Ok K r m) {Q:VK}{us:List V} (sr:aP K H σ fs) (hu:aB K [] H us l) (q:(qv m l).run λz=>∀u H',cJ σ fs H H'->aP K H' σ fs->VR K [] H' u z->Q u H'):r us H Q:=hm (hr0 H) hu (m.mono (λz h q=>pq0 sr q) q)
def qH (hc:bN X (.builtin id) r) (hB:yq.Ok K r m) (hg:Gl X x) (hm:X.mg x=bm) (hv:im x=am (.builtin id)) (ha:AF X K fs (e::es) (Am n .v) B) (hn:x≠"__name__":=by decide) (nM:jS x:=by decide)
  (he:gs X e es:=by rfl) (dW:lq X pos es:=by rfl):EF X K fs (.Call (.Name x p) (e::es) [] pos) (B (qv m)):=by
 obtain⟨w,hp,Ģ⟩:=ha.p;rw [Ģ];exact⟨PE.imp (eT hc hg hm hv hp hn nM he dW) λσ H Q ⟨sr,q⟩=>⟨sr,w.mono (λl q1 vs H1 g1 s1 v1=>MJ hB s1 v1.Lx.1 ((qv m l).mono (λz q u H' g s v=>q u H' (g1.trans g) s v) q1)) q⟩⟩
def Ow (hc:bN X (.type id) r) (hB:yq.Ok K r m) (hg:Gl X x) (hm:X.mg x=bm) (hv:im x=am (.type id)) (ha:AF X K fs (e::es) (Am n .v) B) (hn:x≠"__name__":=by decide) (nM:jS x:=by decide)
  (he:gs X e es:=by rfl) (dW:lq X pos es:=by rfl):EF X K fs (.Call (.Name x p) (e::es) [] pos) (B (qv m)):=by
 obtain⟨w,hp,Ģ⟩:=ha.p;rw [Ģ];exact⟨PE.imp (kL hc hg hm hv hp hn nM he dW) λσ H Q ⟨sr,q⟩=>⟨sr,w.mono (λl q1 vs H1 g1 s1 v1=>MJ hB s1 v1.Lx.1 ((qv m l).mono (λz q u H' g s v=>q u H' (g1.trans g) s v) q1)) q⟩⟩
def CQ (K:Ab) (r:List V->Hp->VK->Prop) (m:List PV->W PV):Prop:=∀{fs:bp}{σ:L2.St}{H:Hp}{Q:VK}{u:V}{l:List PV},aP K H σ fs->R9 K σ fs H u l->((m l).run λz=>∀u H',cJ σ fs H H'->aP K H' σ fs->VR K [] H' u z->Q u H')->r [u] H Q
def CL (K:Ab) (r:List V->Hp->VK->Prop) (m:List PV->W (List PV)):Prop:=∀{fs:bp}{σ:L2.St}{H:Hp}{Q:VK}{u:V}{l:List PV},aP K H σ fs->R9 K σ fs H u l->((m l).run λz=>∀a vs H',cJ σ fs H H'->aP K H' σ fs->H a=bm->H' a=am (.lst vs)->aB K [] H' vs z->Q (.ref a) H')->r [u] H Q
def Ox {m:List PV->W PV} (hc:bN X (.builtin id) r) (hB:CQ K r m) (hg:Gl X x) (hm:X.mg x=bm) (hv:im x=am (.builtin id)) (ha:QF X K fs e wl) (hn:x≠"__name__":=by decide) (nM:jS x:=by decide)
  (he:gs X e []:=by rfl) (dW:lq X pos []:=by rfl):EF X K fs (.Call (.Name x p) [e] [] pos) (.bind wl m):=⟨PE.imp (eT hc hg hm hv (aU ha.p bP he) hn nM he dW) λσ H Q ⟨sr,q⟩=>⟨sr,wl.mono (λl q1 u H1 g1 s1 v1=>hB s1 v1 ((m l).mono (λz q u H' g s v=>q u H' (g1.trans g) s v) q1)) q⟩⟩
def KP {m:List PV->W PV} (hc:bN X (.type id) r) (hB:CQ K r m) (hg:Gl X x) (hm:X.mg x=bm) (hv:im x=am (.type id)) (ha:QF X K fs e wl) (hn:x≠"__name__":=by decide) (nM:jS x:=by decide)
  (he:gs X e []:=by rfl) (dW:lq X pos []:=by rfl):EF X K fs (.Call (.Name x p) [e] [] pos) (.bind wl m):=⟨PE.imp (kL hc hg hm hv (aU ha.p bP he) hn nM he dW) λσ H Q ⟨sr,q⟩=>⟨sr,wl.mono (λl q1 u H1 g1 s1 v1=>hB s1 v1 ((m l).mono (λz q u H' g s v=>q u H' (g1.trans g) s v) q1)) q⟩⟩
def aav {m:List PV->W (List PV)} (hc:bN X (.builtin id) r) (hB:CL K r m) (hg:Gl X x) (hm:X.mg x=bm) (hv:im x=am (.builtin id)) (ha:QF X K fs e wl) (hn:x≠"__name__":=by decide) (nM:jS x:=by decide)
  (he:gs X e []:=by rfl) (dW:lq X pos []:=by rfl):LF X K fs (.Call (.Name x p) [e] [] pos) (.bind wl m):=⟨PE.imp (eT hc hg hm hv (aU ha.p bP he) hn nM he dW) λσ H Q ⟨sr,q⟩=>⟨sr,wl.mono (λl q1 u H1 g1 s1 v1=>hB s1 v1 ((m l).mono (λz q a vs H' g s n e v=>q a vs H' (g1.trans g) s (g1.there a n) e v) q1)) q⟩⟩
def Nd {m:List PV->W (List PV)} (hc:bN X (.type id) r) (hB:CL K r m) (hg:Gl X x) (hm:X.mg x=bm) (hv:im x=am (.type id)) (ha:QF X K fs e wl) (hn:x≠"__name__":=by decide) (nM:jS x:=by decide)
  (he:gs X e []:=by rfl) (dW:lq X pos []:=by rfl):LF X K fs (.Call (.Name x p) [e] [] pos) (.bind wl m):=⟨PE.imp (kL hc hg hm hv (aU ha.p bP he) hn nM he dW) λσ H Q ⟨sr,q⟩=>⟨sr,wl.mono (λl q1 u H1 g1 s1 v1=>hB s1 v1 ((m l).mono (λz q a vs H' g s n e v=>q a vs H' (g1.trans g) s (g1.there a n) e v) q1)) q⟩⟩
end
def zr (l:List PV):W PV:=.ret (.int l.length)
def QS (K:Ab):CQ K (Uv K) zr:=λ{fs σ H Q u l} s v q=>by
 obtain⟨a,vs,rfl,h,rs⟩:=v.sq s;refine⟨_,vs.length,rfl,?_,?_⟩
 ·exact h.elim (λh=>.inl ⟨_,h,rfl⟩) λh=>.inr ⟨_,h,rfl⟩
 ·rw [rs.length];exact q _ H .refl s (.int _)
def mQ (l:List PV):W PV:=.ret (.tup l)
def Pq (K:Ab):CQ K (Mc K) mQ:=λ{fs σ H Q u l} s v q=>by
 have fresh:∀{a:ce}{vs:List V},dP K H a vs->aB K [] H vs l->Mc K [.ref a] H Q:=λ{a vs} h rs=>⟨a,vs,rfl,.inl ⟨h,λp H2 s2 e2 n2=>q _ H2 (cJ.same s2) (s.same s2) (.tup e2 (aB.tk s2.dY rs))⟩⟩;rcases v with⟨a,vs,rfl,h | h,rs⟩ | ⟨a,rfl,⟨n,vs,h,rs⟩ | ⟨i,_,q1,q2⟩⟩
 ·exact fresh h.sq rs
 ·exact⟨a,vs,rfl,.inr ⟨dG.of h,q _ H .refl s (.tup h rs)⟩⟩
 ·exact fresh (dP.of h) rs
 ·obtain⟨_,vs,h,rs⟩:=s.ownAt q1 rfl q2;exact fresh (dP.of h) rs
end
end
end FL
variable {R:Type}{m:List PL.PV->FL.W PL.PV}
namespace FL
section
open PySem PySem.Spec PyProof.Rows L2 PL
variable {K:Ab}
def yg (vs:List V) (ks:List AK) (φ:List V->Prop) (a:ce):Prop:=∃i:Nat,ks[i]?=am (.p φ)/\vs[i]?=am (.ref a)
structure Z9 (vs:List V) (ks:List AK) (H H':Hp):Prop where
 keep:∀a o,H a=am o->(∀φ,¬yg vs ks φ a)->H' a=am o
 there:∀a,H' a=bm->H a=bm
 UE:∀a φ,yg vs ks φ a->∃ws,H' a=am (.lst ws)/\φ ws
inductive ic (K:Ab) (H:Hp):List V->List AK->List PV->Prop
 | nil:ic K H [] [] []
 | v {u:V}{x:PV}{vs:List V}{ks:List AK}{l:List PV} (r:VR K [] H u x) (t:ic K H vs ks l):ic K H (u::vs) (.v::ks) (x::l)
 | p {a:ce}{φ:List V->Prop}{ws vs:List V}{ks:List AK}{l:List PV} (e:H a=am (.lst ws)) (r:φ ws) (t:ic K H vs ks l):ic K H (.ref a::vs) (.p φ::ks) l
 | f {a:ce}{vs:List V}{ks:List AK}{l:List PV} (t:ic K H vs ks l):ic K H (.ref a::vs) (.f a::ks) l
def fV (K:Ab) (ks:List AK) (m:List PV->W PV):Sp:=λvs H Q _=>∃l,ic K H vs ks l/\(m l).run λv=>∀u H',Z9 vs ks H H'->VR K [] H' u v->Q u H'
def fh (K:Ab) (ks:List AK) (m:List PV->W (List PV)):Sp:=λvs H Q _=>∃l,ic K H vs ks l/\(m l).run λz=>∀a ws H',Z9 vs ks H H'->H a=bm->H' a=am (.lst ws)->aB K [] H' ws z->Q (.ref a) H'
def Pd (R:Type):Nat->Type
 | 0=>W R
 | n+1=>PV->Pd R n
def cn:(n:Nat)->Pd R n->List PV->W R
 | 0,m,[]=>m
 | n+1,m,x::l=>cn n (m x) l
 | 0,_,_::_=>.fail
 | _+1,_,[]=>.fail
section
def e7.lu (h:e7 K σ fs H vs ks l) (p:yg vs ks φ a):gW σ fs φ a:=by
 obtain⟨i,e1,e2⟩:=p
 induction h generalizing i with
 | nil=>simp at e1
 | v r t ih=>cases i with | zero=>simp at e1 | succ i=>exact ih i (by simpa using e1) (by simpa using e2)
 | p r t ih=>
  cases i with
  | zero=>simp at e1 e2;subst e1;subst e2;exact r
  | succ i=>exact ih i (by simpa using e1) (by simpa using e2)
 | f t ih=>cases i with | zero=>simp at e1 | succ i=>exact ih i (by simpa using e1) (by simpa using e2)
def e7.c (h:e7 K σ fs H vs ks l) (s:aP K H σ fs):ic K H vs ks l:=by
 induction h with
 | nil=>exact .nil
 | v r t ih=>exact .v r ih
 | p r t ih=>
  obtain⟨i,e1,e2⟩:=r;obtain⟨ws,q,x⟩:=s.ownAt e1 rfl e2;exact .p q x ih
 | f t ih=>exact .f ih
def Z9.caller (g:Z9 vs ks H H') (h:e7 K σ fs H vs ks l) (s:aP K H σ fs):aP K H' σ fs/\cJ σ fs H H':=by
 have gf:cJ σ fs H H':=⟨λa o e n=>g.keep a o e λφ p=>n φ (h.lu p),g.there⟩;have tk:=gf.dZ s;refine⟨⟨s.len,λi t e=>?_,s.nd⟩,gf⟩;obtain⟨u,h1,h2⟩:=s.at' i t e;refine⟨u,h1,?_⟩;rcases h2 with⟨v,q,r⟩ | ⟨a,q,r⟩
 ·exact .inl ⟨v,q,VR.tk tk r⟩
 ·subst q;refine .inr ⟨a,rfl,?_⟩;by_cases c:(∃φ,yg vs ks φ a)/\t.own=true
  ·obtain⟨⟨φ,p⟩,ow⟩:=c;obtain⟨j,e1,e2⟩:=h.lu p;have ij:=s.nd i j t _ a a a e e1 ow rfl h1 e2 (.inl rfl) (.inl rfl);subst ij;rw [e] at e1;cases e1;exact g.UE a φ p
  ·refine r.mono tk (λb o ow hb z=>g.keep b o z λφ p=>?_);obtain⟨j,e1,e2⟩:=h.lu p;have ij:=s.nd i j t _ a b b e e1 ow rfl h1 e2 hb (.inl rfl);subst ij;rw [h1] at e2;cases e2;exact c ⟨⟨φ,p⟩,ow⟩
end
section
def V8 (G:Sk X.prog X.w X.K X.mg X.base x k ps (fV K ks m)) (hr:cB k' X.A) (hk:k<=k') (hg:Gl X x) (ha:AF X K fs (e::es) ks B) (nM:jS x:=by decide)
  (he:gs X e es:=by rfl) (dW:lq X pos es:=by rfl):EF X K fs (.Call (.Name x p) (e::es) [] pos) (B m):=by
 obtain⟨w,hp,hB⟩:=ha.p;rw [hB];exact⟨PE.imp (MC G hr hk hg hp nM he dW) λσ H Q ⟨sr,q⟩=>⟨sr,w.mono (λl q1 vs H1 g1 s1 v1=>⟨l,v1.c s1,(m l).mono (λz q2 u H2 g2 r2=>let ⟨s2,g3⟩:=g2.caller v1 s1;q2 u H2 (g1.trans g3) s2 r2) q1⟩) q⟩⟩
def Vh {m:List PV->W (List PV)}{B:(List PV->W (List PV))->W (List PV)} (G:Sk X.prog X.w X.K X.mg X.base x k ps (fh K ks m)) (hr:cB k' X.A) (hk:k<=k') (hg:Gl X x) (ha:AF X K fs (e::es) ks B) (nM:jS x:=by decide)
  (he:gs X e es:=by rfl) (dW:lq X pos es:=by rfl):LF X K fs (.Call (.Name x p) (e::es) [] pos) (B m):=by
 obtain⟨w,hp,hB⟩:=ha.p;rw [hB];exact⟨PE.imp (MC G hr hk hg hp nM he dW) λσ H Q ⟨sr,q⟩=>⟨sr,w.mono (λl q1 vs H1 g1 s1 v1=>⟨l,v1.c s1,(m l).mono (λz q2 a ws H2 g2 n2 e2 r2=>let ⟨s2,g3⟩:=g2.caller v1 s1;q2 a ws H2 (g1.trans g3) s2 (g1.there a n2) e2 r2) q1⟩) q⟩⟩
end
end
end FL
variable {x:Bool}{T:Type}{p':B9}
namespace FL
section
open PySem PySem.Spec PyProof.Rows L2 PL
variable {K:Ab}
inductive End where
 | nx (fs:bp) | nc (fs:bp) | ct (fs:bp) | rt (v:PV) | rl (l:List PV) | bk (fs:bp) | ro (v:PV) (a:ce) (l:List PV)
def yk (σ:L2.St) (fs:bp) (H:Hp) (a:ce):Prop:=H a=bm\/∃(i:Nat) (s:SL) (x:ce),fs[i]?=am (am s)/\s.own=true/\(∀φ,s≠.lu φ)/\σ[i]?=am (am (.ref x))/\s.has x a
def bE (K:Ab) (x:Bool) (σ:L2.St) (fs:bp) (H:Hp) (D:Ends):End->Prop
 | .nx bq=>x=false->∀σ' H',cX σ fs H σ' bq H'->aP K H' σ' bq->D.nx σ' H'
 | .nc bq=>∀σ' H',cX σ fs H σ' bq H'->aP K H' σ' bq->(x=false->D.nx σ' H')/\D.ct σ' H'
 | .ct bq=>∀σ' H',cX σ fs H σ' bq H'->aP K H' σ' bq->D.ct σ' H'
 | .bk bq=>∀σ' H',cX σ fs H σ' bq H'->aP K H' σ' bq->D.bk σ' H'
 | .rt v=>∀u σ' bq H',cX σ fs H σ' bq H'->aP K H' σ' bq->VR K [] H' u v->D.rt u H'
 | .ro v a l=>∀u σ' bq H',cX σ fs H σ' bq H'->aP K H' σ' bq->(∃i:Nat,bq[i]?=am (am (.ol (am a) l)))->VR K [] H' u v->D.rt u H'
 | .rl l=>∀a ws σ' bq H',cX σ fs H σ' bq H'->aP K H' σ' bq->yk σ fs H a->H' a=am (.lst ws)->aB K [] H' ws l->D.rt (.ref a) H'
def fS (K:Ab) (x:Bool) (fs:bp) (w:W T) (out:T->End):TS:=λD σ H=>aP K H σ fs/\w.run λt=>bE K x σ fs H D (out t)
structure SF (X:Cx) (K:Ab) (x:Bool) (fs:bp) (Ud:List ul) {T:Type} (w:W T) (out:T->End):Prop where p:qN X Ud (fS K x fs w out)
section
variable {σ1:L2.St}{Rz:bp}
def yk.go (g:cX σ fs H σ1 Rz H1) (s:aP K H σ fs) (s1:aP K H1 σ1 Rz) (h:yk σ1 Rz H1 a):yk σ fs H a:=by
 rcases h with h | ⟨i,t,x,e1,e2,np,e3,e4⟩
 ·exact .inl (g.there a h)
 ·cases z:H a with
  | none=>exact .inl z
  | some o=>
   by_cases c:dE σ fs a
   ·obtain⟨j,t',y,c1,c2,c3,c4⟩:=c;by_cases d:∃φ,t'=.lu φ
    ·obtain⟨φ,rfl⟩:=d;rcases c4 with rfl | c4
     ·rcases g.pk a φ ⟨j,c1,c3⟩ with⟨k,k1,k2⟩ | ⟨n,_⟩
      ·have:=s1.nd i k t _ x a a e1 k1 e2 rfl e3 k2 e4 (.inl rfl);subst this;rw [e1] at k1;cases k1;exact absurd rfl (np φ)
      ·exact absurd ⟨i,t,x,e1,e2,e3,e4⟩ n
     ·cases c4
    ·exact .inr ⟨j,t',y,c1,c2,λφ e=>d ⟨φ,e⟩,c3,c4⟩
   ·exact absurd ⟨i,t,x,e1,e2,e3,e4⟩ (g.keep a o z c).2
def bE.go (g:cX σ fs H σ1 Rz H1) (s:aP K H σ fs) (s1:aP K H1 σ1 Rz) {E:End} (h:bE K x σ fs H D E):bE K x σ1 Rz H1 D E:=by
 cases E with
 | nx bq=>exact λhx σ' H' g' s'=>h hx σ' H' (g.trans g') s'
 | nc bq=>exact λσ' H' g' s'=>h σ' H' (g.trans g') s'
 | bk bq=>exact λσ' H' g' s'=>h σ' H' (g.trans g') s'
 | ct bq=>exact λσ' H' g' s'=>h σ' H' (g.trans g') s'
 | rt v=>exact λu σ' bq H' g' s' r=>h u σ' bq H' (g.trans g') s' r
 | ro v a l=>exact λu σ' bq H' g' s' o r=>h u σ' bq H' (g.trans g') s' o r
 | rl l=>exact λa ws σ' bq H' g' s' f e r=>h a ws σ' bq H' (g.trans g') s' (f.go g s s1) e r
def bE.exit {D':Ends} (h1:D'.rt=D.rt) (h2:D'.ct=D.ct) (h3:D'.bk=D.bk) {E:End} (h:bE K x σ fs H D E):bE K true σ fs H D' E:=by
 cases E with
 | nx bq=>exact λhx=>nomatch hx
 | nc bq=>exact λσ' H' g' s'=>⟨λhx=>(nomatch hx),h2▸(h σ' H' g' s').2⟩
 | bk bq=>exact λσ' H' g' s'=>h3▸h σ' H' g' s'
 | ct bq=>exact λσ' H' g' s'=>h2▸h σ' H' g' s'
 | rt v=>exact λu σ' bq H' g' s' r=>h1▸h u σ' bq H' g' s' r
 | ro v a l=>exact λu σ' bq H' g' s' o r=>h1▸h u σ' bq H' g' s' o r
 | rl l=>exact λa ws σ' bq H' g' s' f e r=>h1▸h a ws σ' bq H' g' s' f e r
end
section
variable {X:Cx}{a b c e o:gt}{pos p:Pos}{fs bq:bp}{st:ul}{Ud rest sa sb:List ul}{T T1:Type}{w wk:W T}{out:T->End}{we:W PV}{wl:W (List PV)}{x:Bool}
def End.zF:End->Prop
 | .rt _=>True
 | .rl _=>True
 | .ro _ _ _=>True
 | _=>False
def bE.ab5 {D':Ends}{y:Bool}{E:End} (ho:E.zF) (e:D'.rt=D.rt) (h:bE K x σ fs H D E):bE K y σ fs H D' E:=by
 cases E with
 | rt v=>exact λu σ' bq H' g s r=>e▸h u σ' bq H' g s r
 | rl v=>exact λa ws σ' bq H' g s f ea r=>e▸h a ws σ' bq H' g s f ea r
 | ro v a l=>exact λu σ' bq H' g s o r=>e▸h u σ' bq H' g s o r
 | _=>exact ho.elim
def yB (X:Cx) (K:Ab) (x:Bool) (rest:List ul) {T:Type} (out:T->End):TS:=λD σ H=>∃bq w',SF X K x bq rest w' out/\fS K x bq w' out D σ H
def PZ:qN X rest (yB X K x rest out):=λZ s σ H D I ⟨bq,w',h,q⟩=>h.p Z s σ H D I q
def MW:qN X rest T9:=λ_ _ _ _ _ _ h=>h.elim
def SF.step {t:TS} (h:PS X st t) (hq:∀D σ H,fS K x fs w out D σ H->t {D with nx:=yB X K x rest out D} σ H):SF X K x fs (st::rest) w out:=⟨qN.imp (yQ h PZ) λD σ H q=>hq D σ H q⟩
def SF.last {t:TS} (h:PS X st t) (hq:∀D σ H,fS K x fs w out D σ H->t {D with nx:=λ_ _=>False} σ H):SF X K x fs (st::rest) w out:=⟨qN.imp (yQ h MW) λD σ H q=>hq D σ H q⟩
def SF.nil {t:T} (h:out t=.nx bq) (hl:iq fs bq):SF X K false fs [] (.ret t) out:=⟨qN.imp vT λD σ H ⟨sr,q⟩=>by
 have q:bE K false σ fs H D (out t):=q;rw [h] at q;exact q rfl σ H (cX.le sr hl) (sr.le hl)⟩
def SF.jb {t:T} (h:out t=.nc bq) (hl:iq fs bq):SF X K false fs [] (.ret t) out:=⟨qN.imp vT λD σ H ⟨sr,q⟩=>by
 have q:bE K false σ fs H D (out t):=q;rw [h] at q;exact (q σ H (cX.le sr hl) (sr.le hl)).1 rfl⟩
def SF.cont {t:T} (h:out t=.nc bq\/out t=.ct bq) (hl:iq fs bq):SF X K x fs (.Continue pos::rest) (.ret t) out:=SF.last yR λD σ H ⟨sr,q⟩=>by
 have q:bE K x σ fs H D (out t):=q;rcases h with h | h
 ·rw [h] at q;exact (q σ H (cX.le sr hl) (sr.le hl)).2
 ·rw [h] at q;exact q σ H (cX.le sr hl) (sr.le hl)
def SF.ret {k:PV->T} (he:EF X K fs e we) (h:∀v,out (k v)=.rt v):SF X K x fs (.Return (am e) pos::rest) (.bind we λv=>.ret (k v)) out:=SF.last (vV he.p) λD σ H ⟨sr,q⟩=>⟨sr,we.mono (λv q1 u H1 g1 s1 v1=>by
 have q1:bE K x σ fs H D (out (k v)):=q1;rw [h] at q1;exact q1 u σ fs H1 g1.f s1 v1) q⟩
def SF.dI {out:PV->End} (he:EF X K fs e we) (h:∀v,out v=.rt v):SF X K x fs (.Return (am e) pos::rest) we out:=SF.ret (k:=λv=>v) he h
def SF.abX {k:List PV->T} (he:LF X K fs e wl) (h:∀l,out (k l)=.rl l):SF X K x fs (.Return (am e) pos::rest) (.bind wl λl=>.ret (k l)) out:=SF.last (vV he.p) λD σ H ⟨sr,q⟩=>⟨sr,wl.mono (λl q1 a ws H1 g1 s1 n e v1=>by
 have q1:bE K x σ fs H D (out (k l)):=q1;rw [h] at q1;exact q1 a ws σ fs H1 g1.f s1 (.inl n) e v1) q⟩
def SF.jI {out:List PV->End} (he:LF X K fs e wl) (h:∀v,out v=.rl v):SF X K x fs (.Return (am e) pos::rest) wl out:=SF.abX (k:=λv=>v) he h
def SF.X0 (i:Nat) {y:Str}{t:T} (hs:fs[i]?=am (am (.ol q0 l))) (h:out t=.rl l) (hN:X.N[i]?=am y:=by rfl) (hv:HK X.env.scope y:=by first | exact Di rfl | exact C1 (Di rfl) | exact C1 (C1 rfl)) (hd:jS y:=by decide) (kr:JM y:=by decide):SF X K x fs (.Return (am (.Name y p)) pos::rest) (.ret t) out:=SF.last (vV (fe hN hv hd kr)) λD σ H ⟨sr,q⟩=>by
 have q:bE K x σ fs H D (out t):=q;rw [h] at q;obtain⟨u,e1,r⟩:=sr.at' i _ hs;rcases r with⟨v,e,_⟩ | ⟨a,e,r⟩
 ·cases e
 ·subst e;obtain⟨_,ws,q1,q2⟩:=r;exact⟨_,e1,q a ws σ fs H .refl sr (.inr ⟨i,_,_,hs,rfl,by simp,e1,.inl rfl⟩) q1 q2⟩
def SF.X1 (i:Nat) {ad:ce}{k:PV->T} (hs:fs[i]?=am (am (.ol (am ad) l))) (he:EF X K fs e we) (h:∀v,out (k v)=.ro v ad l):SF X K x fs (.Return (am e) pos::rest) (.bind we λv=>.ret (k v)) out:=SF.last (vV he.p) λD σ H ⟨sr,q⟩=>⟨sr,we.mono (λv q1 u H1 g1 s1 v1=>by
 have q1:bE K x σ fs H D (out (k v)):=q1;rw [h] at q1;exact q1 u σ fs H1 g1.f s1 ⟨i,hs⟩ v1) q⟩
def SF.expr {k:PV->W T} (he:EF X K fs e we) (hr:∀v,SF X K x fs rest (k v) out) (hs:mo e bm pos.line X.env=pure false:=by rfl):SF X K x fs (.Expr e pos::rest) (.bind we k) out:=SF.step (qr he.p hs) λD σ H ⟨sr,q⟩=>
 ⟨sr,we.mono (λv q1 u H1 g1 s1 v1=>⟨fs,k v,hr v,s1,(k v).mono (λt q2=>q2.go g1.f sr s1) q1⟩) q⟩
def SF.set {y:Str}{k:PV->W T} (hN:X.N.Nodup) (hi:X.N[i]?=am y) (hx:Loc X.env.scope y) (he:EF X K fs e we) (hr:∀v,SF X K x (fs.set i (am (.val v))) rest (k v) out) (hs:mo e (am (.Name y p')) pos.line X.env=pure false:=by rfl)
  (hf:O0 X y:=by first | exact .inl rfl | exact .inr rfl | assumption):SF X K x fs (.Assign [.Name y p'] e pos::rest) (.bind we k) out:=SF.step (vU hN hi hx he.p hs hf) λD σ H ⟨sr,q⟩=>
 ⟨sr,we.mono (λv q1 u H1 g1 s1 v1=>⟨_,k v,hr v,s1.jU v1 i,(k v).mono (λt q2=>q2.go (g1.f.trans (cX.jU s1 u v i)) sr (s1.jU v1 i)) q1⟩) q⟩
def SF.abV {y:Str}{k:List PV->W T} (hN:X.N.Nodup) (hi:X.N[i]?=am y) (hx:Loc X.env.scope y) (he:LF X K fs e wl) (hr:∀l,SF X K x (fs.set i (am (.ol bm l))) rest (k l) out) (hs:mo e (am (.Name y p')) pos.line X.env=pure false:=by rfl)
  (hf:O0 X y:=by first | exact .inl rfl | exact .inr rfl | assumption):SF X K x fs (.Assign [.Name y p'] e pos::rest) (.bind wl k) out:=SF.step (vU hN hi hx he.p hs hf) λD σ H ⟨sr,q⟩=>by
 refine⟨sr,wl.mono (λl q1 a ws H1 g1 s1 n e v1=>?_) q⟩;have no:=sr.noOwn n;have s2:=s1.Mk (t:=.ol bm l) ⟨by simp,ws,e,v1⟩ no i;exact⟨_,k l,hr l,s2,(k l).mono (λt q2=>q2.go (cX.Mk s1 g1.f no n i) sr s2) q1⟩
def SF.cI (i:Nat) {t:SL} (hs:fs[i]?=am (am t)) (hr:SF X K x (fs.set i (am (.val t.bv))) Ud w out) (hb:t.bw=true:=by rfl):SF X K x fs Ud w out:=⟨λZ s σ H D I ⟨sr,q⟩=>by
 obtain⟨u,e1,r⟩:=sr.at' i _ hs;have ho:=SL.OK hb;rcases r with⟨v,e,_⟩ | ⟨a,e,oa⟩
 ·subst e;cases hb
 ·subst e;obtain⟨ob,o,h1,n1,n2,I2,vr⟩:=Zw I oa hb;have ow:∀b,dE σ (fs.set i (am (.val t.bv))) b->dE σ fs b:=λb z=>by
   obtain⟨j,t,x,z1,z2,z3,z4⟩:=z;rcases cG z1 with⟨rfl,rfl⟩ | ⟨n,z1⟩
   ·cases z2
   ·exact⟨j,t,x,z1,z2,z3,z4⟩
  have s2:=sr.Zv hs ho e1 h1 n1 n2 vr;have g2:cX σ fs H σ (fs.set i (am (.val t.bv))) (upd H a (.cI ob o)):=by
   refine⟨λb o z n=>⟨?_,λy=>n (ow b y)⟩,λb z=>?_,λb φ z=>?_⟩
   ·rw [aw (λy=>by subst y;exact n ⟨i,_,_,hs,ho,e1,.inl rfl⟩)];exact z
   ·by_cases c:b=a
    ·subst c;rw [aN] at z;cases z
    ·rw [aw c] at z;exact z
   ·obtain⟨j,z1,z2⟩:=z;have:j≠i:=λy=>by subst y;rw [hs] at z1;cases z1;cases hb
    exact .inl ⟨j,by rw [aK this];exact z1,z2⟩
  exact hr.p Z s σ _ D I2 ⟨s2,w.mono (λt q3=>q3.go g2 sr s2) q⟩⟩
variable {tc:W Bool}
def SF.YR (hc:TF X K fs c tc) (ha:SF X K x fs sa w out) (hb:SF X K x fs sb wk out):SF X K x fs [.If c sa sb pos] (.bind tc λb=>if b=true then w else wk) out:=⟨qN.imp (P9 (Mo hc.p ha.p hb.p)) λD σ H ⟨sr,q⟩=>⟨sr,tc.mono (λk q1 H1 g1 s1=>by
 cases k with
 | true=>exact wU ⟨s1,w.mono (λt q2=>q2.go g1.f sr s1) q1⟩
 | false=>exact wV ⟨s1,wk.mono (λt q2=>q2.go g1.f sr s1) q1⟩) q⟩⟩
def SF.Rk (hc:TF X K fs c tc) (ha:SF X K true fs sa w out) (hb:SF X K x fs rest wk out):SF X K x fs (.If c sa [] pos::rest) (.bind tc λb=>if b=true then w else wk) out:=SF.step (Mo hc.p ha.p vT) λD σ H ⟨sr,q⟩=>⟨sr,tc.mono (λk q1 H1 g1 s1=>by
 cases k with
 | true=>exact wU ⟨s1,w.mono (λt q2=>bE.exit (D:=D) (D':={D with nx:=yB X K x rest out D}) rfl rfl rfl (q2.go g1.f sr s1)) q1⟩
 | false=>exact wV ⟨fs,wk,hb,s1,wk.mono (λt q2=>q2.go g1.f sr s1) q1⟩) q⟩
def Sg (X:Cx) (K:Ab) (x:Bool) (rest:List ul) {T:Type} (w:W T) (out:T->End):End->Prop
 | .nx bq=>SF X K x bq rest w out
 | .nc bq=>False
 | .bk bq=>∃t,w=.ret t/\out t=.bk bq
 | .ct bq=>∃t,w=.ret t/\(out t=.ct bq\/out t=.nc bq)
 | .rt v=>∃t,w=.ret t/\out t=.rt v
 | .rl l=>∃t,w=.ret t/\out t=.rl l
 | .ro v a l=>∃t,w=.ret t/\out t=.ro v a l
def Sg.r {E:End} (sr:aP K H σ fs) (h:Sg X K x rest w out E) (q:w.run λt=>bE K x σ fs H D (out t)):bE K false σ fs H {D with nx:=yB X K x rest out D} E:=by
 cases E with
 | nx bq=>exact λ_ σ' H' g' s'=>⟨bq,w,h,s',w.mono (λt q2=>q2.go g' sr s') q⟩
 | nc bq=>exact h.elim
 | bk bq=>
  obtain⟨t,rfl,h⟩:=h;have q:bE K x σ fs H D (out t):=q;rw [h] at q;exact q
 | ct bq=>
  obtain⟨t,rfl,h⟩:=h;have q:bE K x σ fs H D (out t):=q;rcases h with h | h
  ·rw [h] at q;exact q
  ·rw [h] at q;exact λσ' H' g s=>(q σ' H' g s).2
 | rt v=>
  obtain⟨t,rfl,h⟩:=h;have q:bE K x σ fs H D (out t):=q;rw [h] at q;exact q
 | rl v=>
  obtain⟨t,rfl,h⟩:=h;have q:bE K x σ fs H D (out t):=q;rw [h] at q;exact q
 | ro v a l=>
  obtain⟨t,rfl,h⟩:=h;have q:bE K x σ fs H D (out t):=q;rw [h] at q;exact q
variable {w1 w2:W T1}{out1:T1->End}{k:T1->W T}
def SF.ifS (hc:TF X K fs c tc) (ha:SF X K false fs sa w1 out1) (hb:SF X K false fs sb w2 out1) (hr:∀t,Sg X K x rest (k t) out (out1 t)):SF X K x fs (.If c sa sb pos::rest) (.bind tc λb=>.bind (if b=true then w1 else w2) k) out:=SF.step (Mo hc.p ha.p hb.p) λD σ H ⟨sr,q⟩=>⟨sr,tc.mono (λb q1 H1 g1 s1=>by
 have fin:∀t,(k t).run (λt=>bE K x σ fs H D (out t))->bE K false σ fs H {D with nx:=yB X K x rest out D} (out1 t):=λt q=>(hr t).r sr q;cases b with
 | true=>exact wU ⟨s1,w1.mono (λt q2=>(fin t q2).go g1.f sr s1) q1⟩
 | false=>exact wV ⟨s1,w2.mono (λt q2=>(fin t q2).go g1.f sr s1) q1⟩) q⟩
end
end
end FL
variable {is:List Nat}
namespace FL
section
open PySem PySem.Spec PyProof.Rows L2 PL
variable {K:Ab}
def JF (K:Ab) (H:Hp) (J:It) (l:List PV):Prop:=l.length<=sizeLine/\∀H',bc K H H'->(∀(i:Nat) (p:PV),l[i]?=am p->J.go i H'/\∀x H2,J.Sm i H' x H2->kG H' H2/\VR K [] H2 x p)/\J.stop l.length H'
def JF.tk {J:It} (t:bc K H H') (h:JF K H J l):JF K H' J l:=⟨h.1,λH2 t2=>h.2 H2 (bc.trans t t2)⟩
def fIt (K:Ab) (fs:bp) (w:W (List PV)):TI:=λσ H R=>aP K H σ fs/\w.run λl=>∀J H',cJ σ fs H H'->aP K H' σ fs->JF K H' J l->R J H'
structure uw (X:Cx) (K:Ab) (fs:bp) (tg e:gt) (w:W (List PV)):Prop where p:PI X tg e (fIt K fs w)
section
variable {a c:gt}
def Sd {ad:ce} (h:Tx K H ad vs) (r:aB K [] H vs l) (hz:l.length<=sizeLine):JF K H (Itl K ad) l:=⟨hz,λH' t=>by
 have e1:=(t.f _ _ h).sq;have e2:=aB.tk t r;refine⟨λi p hp=>?_,vs,e1,by rw [e2.length];exact An _⟩;obtain⟨v,h3,h4⟩:=e2.get hp;refine⟨⟨vs,v,e1,h3⟩,λx H3 y=>?_⟩;obtain⟨rfl,y⟩:=y;have:=y vs e1;rw [h3] at this;cases this;exact⟨kG.refl _,h4⟩⟩
def Wy {ad:ce} (h:H ad=am (.tup vs)) (r:aB K [] H vs l) (hz:l.length<=sizeLine):JF K H (Itt K ad) l:=⟨hz,λH' t=>by
 have e1:=dG.of (K:=K) (t.t _ _ h);have e2:=aB.tk t r;refine⟨λi p hp=>?_,vs,e1,by rw [e2.length];exact An _⟩;obtain⟨v,h3,h4⟩:=e2.get hp;refine⟨⟨vs,v,e1,h3⟩,λx H3 y=>?_⟩;obtain⟨rfl,y⟩:=y;have:=y vs e1;rw [h3] at this;cases this;exact⟨kG.refl _,h4⟩⟩
def cU (hK:X.K=K) (h:IF X K fs e wl):uw X K fs tg e wl:=⟨by
 subst hK;intro Z s σ H R I ⟨sr,q⟩;refine bR (h.p Z s σ H (λu H1=>∃l,Wv X.K H1 u l/\∀J,JF X.K H1 J l->R J H1) I ⟨sr,wl.mono (λl q1 u H1 g1 s1 v1=>⟨l,v1,λJ j=>q1 J H1 g1 s1 j⟩) q⟩) λv s1 ⟨x,H1,I1,r1,l,⟨ad,vs,e,hh,rs⟩,q1⟩=>?_;subst e;cases r1;rcases hh with hh | hh
 ·obtain⟨ak,rv,pl,hz⟩:=I1.list hh.sq;refine CZ pl.isList ?_;refine⟨s1.heap.objs.size,[s1.heap.objs.size],_,_,H1,rfl,I1.kept (t':=s1.toks) λb o e=>Ag _ e,uy ad _,⟨_,Ap _ rfl,rfl,rfl⟩,λb hb=>?_,q1 _ (Sd hh rs (by rw [<- rs.length];exact hz))⟩;have e:b=s1.heap.objs.size:=by simpa using hb
  subst e;exact I1.xj (An _) (I1.bu.fresh (An _))
 ·obtain⟨ak,rv,pl,hz⟩:=I1.tuple (dG.of hh);refine DU (show s1.heap.IsTuple ad ak.toArray from pl) ?_;refine⟨s1.heap.objs.size,[s1.heap.objs.size],_,_,H1,rfl,I1.kept (t':=s1.toks) λb o e=>Ag _ e,F4 ad _,⟨_,Ap _ rfl,rfl,rfl⟩,λb hb=>?_,q1 _ (Wy hh rs (by rw [<- rs.length];exact hz))⟩;have e:b=s1.heap.objs.size:=by simpa using hb
  subst e;exact I1.xj (An _) (I1.bu.fresh (An _))⟩
def okN (i j:Int):Prop:=-(2 ^ 62)<=i/\i < 2 ^ 62/\-(2 ^ 62)<=j/\j < 2 ^ 62/\(j-i).toNat<=sizeLine
def jH:PV->W (List PV)
 | .int j=>.eQ (okN 0 j) (.ret (iK 0 j.toNat))
 | _=>.fail
def L8:PV->PV->PV->W (List PV)
 | .int i,.int j,.int k=>.eQ (k = -1/\okN j i) (.ret (pT i (i-j).toNat))
 | _,_,_=>.fail
def Wz (lo:Int) (n:Nat) (hz:n<=sizeLine):JF K H (Itr lo n) (iK lo n):=⟨by rw [iJ];exact hz,λH' t=>⟨λi p hp=>by
  obtain⟨h1,rfl⟩:=ph hp;refine⟨h1,λx H2 y=>?_⟩;obtain⟨rfl,rfl⟩:=y;exact⟨kG.refl _,.int _⟩,by show n<=(iK lo n).length;rw [iJ];exact An _⟩⟩
theorem fo (hg:Gl X "range") (hm:X.mg "range"=bm) (ha:EF X K fs a wa) (hs:f8 [a] X.env=[(false,ii a X.env)]:=by rfl):uw X K fs tg (.Call (.Name "range" p) [a] [] pos) (.bind wa jH):=
 ⟨PI.imp (Ka hg hm (aU ha.p bP hs) hs) λσ H R ⟨sr,q⟩=>⟨sr,wa.mono (λx q1 u1 H1 g1 s1 v1=>by
  cases v1 with
  | int j=>exact⟨_,rfl,q1.1.2.2.1,q1.1.2.2.2.1,q1.2 _ H1 g1 s1 (Wz _ _ (by have:=q1.1.2.2.2.2;omega))⟩
  | _=>exact q1.elim) q⟩⟩
def Rb (hg:Gl X "range") (hm:X.mg "range"=bm) (ha:EF X K fs a wa) (hb:EF X K fs b wb) (hc:EF X K fs c wc) (hs:f8 [a,b,c] X.env=[(false,ii a X.env),(false,ii b X.env),(false,ii c X.env)]:=by rfl) (qC:f8 [b,c] X.env=[(false,ii b X.env),(false,ii c X.env)]:=by rfl) (hs3:f8 [c] X.env=[(false,ii c X.env)]:=by rfl):uw X K fs tg (.Call (.Name "range" p) [a,b,c] [] pos) (.bind wa λx=>.bind wb λy=>.bind wc λz=>L8 x y z):=
 ⟨PI.imp (J9 hg hm (aU ha.p (aU hb.p (aU hc.p bP hs3) (by show f8 _ _=_;rw [qC,hs3])) (by show f8 _ _=_;rw [hs,qC])) hs qC) λσ H R ⟨sr,q⟩=>⟨sr,wa.mono (λx q1 u1 H1 g1 s1 v1=>⟨s1,wb.mono (λy q2 u2 H2 g2 s2 v2=>⟨s2,wc.mono (λz q3 u3 H3 g3 s3 v3=>by
  cases v1 with
  | int i=>
   cases v2 with
   | int j=>
    cases v3 with
    | int k=>
     obtain⟨⟨rfl,k1,k2,k3,k4,k5⟩,q3⟩:=q3;refine⟨_,_,rfl,⟨k3,k4,k1,k2⟩,q3 _ H3 ((g1.trans g2).trans g3) s3 ⟨by rw [va];exact k5,λH' t=>⟨λi p hp=>?_,?_⟩⟩⟩
     ·obtain⟨h1,rfl⟩:=vc hp;refine⟨h1,λx H2 y=>?_⟩;obtain⟨rfl,rfl⟩:=y;exact⟨kG.refl _,.int _⟩
     ·exact Nat.le_of_eq (va _ _).symm
    | _=>exact q3.elim
   | _=>exact q3.elim
  | _=>exact q3.elim) q2⟩) q1⟩) q⟩⟩
def nI (hK:X.K=K) {kk:Nat} (hg:Gl X "enumerate") (hm:X.mg "enumerate"=bm) (h:IF X K fs e wl) (FV:gs X e []:=by rfl):uw X K fs (.Tuple Î kk tp) (.Call (.Name "enumerate" p1) [e] [] p2) (.bind wl λl=>.eQ (l.length<=sizeLine) (.ret (dC 0 l))):=
 ⟨PI.imp (Mu K hK hg hm h.p FV) λσ H R ⟨sr,q⟩=>⟨sr,wl.mono (λl q1 u1 H1 g1 s1 v1=>by
  obtain⟨ad,vs,rfl,hh,rs⟩:=v1;have yl:∀{H':Hp}{i:Nat}{x v:V}{y:PV}{pp:ce},H' pp=bm->VR K [] H' v y->kG H' (upd H' pp (.tup [.int (i:Int),v]))/\VR K [] (upd H' pp (.tup [.int (i:Int),v])) (.ref pp) (.tup [.int ((0+i:Nat):Int),y]):=λ{H' i x v y pp} hn h4=>
   have sm:=j6 hn (.tup [.int (i:Int),v])
   ⟨sm,.tup aN (.cons (by rw [Ax];exact .int _) (.cons (VR.tk sm.dY h4) .nil))⟩
  refine⟨ad,rfl,?_⟩;rcases hh with hh | hh
  ·refine .inl ⟨⟨vs,hh.sq⟩,q1.2 _ H1 g1 s1 ⟨by rw [bZ];exact q1.1,λH' t=>⟨λi p hp=>?_,vs,(t.f _ _ hh).sq,by rw [rs.length,bZ];exact An _⟩⟩⟩;obtain⟨y,hy,rfl⟩:=fK hp;obtain⟨v,h3,h4⟩:=(aB.tk t rs).get hy;refine⟨⟨vs,v,(t.f _ _ hh).sq,h3⟩,λx H3 z=>?_⟩;obtain⟨pp,x0,rfl,hn,rfl,hz⟩:=z;have:=hz vs (t.f _ _ hh).sq;rw [h3] at this;cases this;exact yl (x:=.aD) hn h4
  ·refine .inr ⟨⟨vs,dG.of hh⟩,q1.2 _ H1 g1 s1 ⟨by rw [bZ];exact q1.1,λH' t=>⟨λi p hp=>?_,vs,dG.of (t.t _ _ hh),by rw [rs.length,bZ];exact An _⟩⟩⟩;obtain⟨y,hy,rfl⟩:=fK hp;obtain⟨v,h3,h4⟩:=(aB.tk t rs).get hy;refine⟨⟨vs,v,dG.of (t.t _ _ hh),h3⟩,λx H3 z=>?_⟩;obtain⟨pp,x0,rfl,hn,rfl,hz⟩:=z;have:=hz vs (dG.of (t.t _ _ hh));rw [h3] at this;cases this;exact yl (x:=.aD) hn h4) q⟩⟩
end
def qZ:List Nat->List V->L2.St->L2.St
 | i::is,u::us,σ=>qZ is us (σ.set i (am u))
 | _,_,σ=>σ
def fG (K:Ab) (fs:bp) (is:List Nat) (wt:PV->W T) (cW:T->bp):TG:=λv σ H Q=>∃p,aP K H σ fs/\VR K [] H v p/\(wt p).run λt=>∀us,cX σ fs H (qZ is us σ) (cW t) H->aP K H (qZ is us σ) (cW t)->Q (qZ is us σ) H
structure GF (X:Cx) (K:Ab) (fs:bp) (tg:gt) (is:List Nat) {T:Type} (wt:PV->W T) (cW:T->bp):Prop where p:PG X tg (fG K fs is wt cW)
def yA:PV->W (PV×PV)
 | .tup [a,b]=>.ret (a,b)
 | _=>.fail
section
def WY (h:PG X tg (gN i)):GF X K fs tg [i] .ret (λp=>fs.set i (am (.val p))):=⟨PG.imp h λv σ H Q ⟨p,sr,r,q⟩=>q [v] (cX.jU sr v p i) (sr.jU r i)⟩
def Ry (hK:X.K=K) (h:PG X tg (Zs X.K 2 (NV (gN i) (NV (gN j) Zu)))):GF X K fs tg [i,j] yA (λt=>(fs.set i (am (.val t.1))).set j (am (.val t.2))):=⟨PG.imp h λv σ H Q ⟨p,sr,r,q⟩=>by
 unfold yA at q
 split at q
 ·cases r with
  | tup e rs=>
   cases rs with
   | cons ra t=>
   cases t with
   | cons rb t=>
   cases t;have s1:=sr.jU ra i;exact⟨_,_,rfl,dG.of e,rfl,_,_,rfl,_,_,rfl,rfl,q [_,_] ((cX.jU sr _ _ i).trans (cX.jU s1 _ _ j)) (s1.jU rb j)⟩
 ·exact q.elim⟩
end
section
variable {S T:Type}
def cV:List PV->S->(PV->S->W S)->W S
 | [],s,_=>.ret s
 | x::r,s,f=>.bind (f x s) λs'=>cV r s' f
inductive Lp (S T:Type) where
 | go (s:S) | out (t:T)
def nR:List PV->S->(PV->S->W (Lp S T))->W (Lp S T)
 | [],s,_=>.ret (.go s)
 | x::r,s,f=>.bind (f x s) λo=>match o with
  | .go s'=>nR r s' f
  | .out t=>.ret (.out t)
def Ln (k:S->W T) (inj:R->T):Lp S R->W T
 | .go s=>k s
 | .out r=>.ret (inj r)
@[simp] theorem NS (k:S->W T) (inj:R->T) (s:S):Ln k inj (.go s)=k s:=(rfl)
@[simp] theorem aaL (k:S->W T) (inj:R->T) (r:R):Ln k inj (.out r)=.ret (inj r):=(rfl)
def lpE (hd:S->bp) (out:R->End):Lp S R->End
 | .go s=>.nc (hd s)
 | .out r=>out r
def lpX (hd:S->bp) (out:R->End):Lp S R->End
 | .go s=>.nx (hd s)
 | .out r=>out r
def lZ (c:S->W Bool) (b:S->W S):Nat->S->W S
 | 0,_=>.fail
 | n+1,s=>.bind (c s) λk=>if k=true then .bind (b s) (lZ c b n) else .ret s
def F1 (c:S->W Bool) (b:S->W S) (s:S):W S:=⟨λQ=>∃n,(lZ c b n s).run Q,λh ⟨n,q⟩=>⟨n,(lZ c b n s).mono h q⟩⟩
end
section
variable {c:gt}{rest:List ul}{S T T2:Type}{hd:S->bp}{s0:S}{wt:PV->W T2}{cW:S->T2->bp}{k:S->W T}{out:T->End}{R:Type}{inj:R->T}
theorem SF.for {f:PV->S->W S}{wb:T2->S->W S} (hp:ww (dL X.prog X.w) X.A X.env X.xe) (hc:X.calm=true) (hi:uw X K fs tg iter wl) (hl:iq fs (hd s0)) (hg:∀s,GF X K (hd s) tg is wt (cW s)) (hf:∀p s,f p s=.bind (wt p) λt=>wb t s)
  (hb:∀s t,SF X K false (cW s t) body (wb t s) λs'=>.nc (hd s')) (hr:∀s,SF X K x (hd s) rest (k s) out) (hs:yr X iter:=by intro _;rfl) :
  SF X K x fs (.For tg iter body [] pos::rest) (.bind wl λl=>.bind (cV l s0 f) k) out:=by
 refine SF.step (Gj (g:=λv σ H Q=>∃s,fG K (hd s) is wt (cW s) v σ H Q) (tb:=λD σ H=>∃s t,fS K false (cW s t) (wb t s) (λs'=>.nc (hd s')) D σ H) hp hc hi.p (λZ s σ H v u Q I r ⟨s1,q⟩=>(hg s1).p Z s σ H v u Q I r q) (λZ s σ H D I ⟨s1,t1,q⟩=>(hb s1 t1).p Z s σ H D I q) hs) λD σ H ⟨sr,q⟩=>?_;refine⟨sr,wl.mono (λl q1 J H1 g1 s1 jf=>?_) q⟩;refine⟨λi m σ' H'=>∃s,aP K H' σ' (hd s)/\cX σ fs H σ' (hd s) H'/\JF K H' J l/\m=l.length-i/\i<=l.length/\(cV (l.drop i) s f).run λs'=>(k s').run λt=>bE K x σ fs H D (out t),⟨l.length,s0,s1.le hl,g1.f.trans (cX.le s1 hl),jf,by simp,Bg _,by simpa using q1⟩,?_⟩;rintro i m σ2 H2 ⟨s,s2,g2,Q8,rfl,hi,q2⟩;obtain⟨j1,j2⟩:=Q8.2 H2 (bc.refl H2);by_cases ig:i < l.length
 ·obtain⟨go,yl⟩:=j1 i _ (Ad ig);have ed:=Bi ig;rw [ed] at q2;refine .inr ⟨go,λσ3 H3=>∃s',aP K H3 σ3 (hd s')/\cX σ fs H σ3 (hd s') H3/\JF K H3 J l/\(cV (l.drop (i+1)) s' f).run λs'=>(k s').run λt=>bE K x σ fs H D (out t),λσ3 H3 ⟨s',a1,a2,a3,a4⟩=>⟨l.length-(i+1),by omega,s',a1,a2,a3,rfl,ig,a4⟩,λv H3 y=>?_⟩;obtain⟨sm,vx⟩:=yl v H3 y;have q2:(f l[i] s).run λs'=>(cV (l.drop (i+1)) s' f).run λs'=>(k s').run λt=>bE K x σ fs H D (out t):=q2;rw [hf] at q2;have s3:=s2.same sm;have g3:=g2.trans (cX.same sm s2);refine⟨s,_,s3,vx,(wt l[i]).mono (λt q4 us g4 s4=>?_) q2⟩;refine⟨s,t,s4,(wb t s).mono (λs' q5 σ5 H5 g5 s5=>?_) q4⟩;have fin:∃s',aP K H5 σ5 (hd s')/\cX σ fs H σ5 (hd s') H5/\JF K H5 J l/\(cV (l.drop (i+1)) s' f).run λs'=>(k s').run λt=>bE K x σ fs H D (out t):=⟨s',s5,(g3.trans g4).trans g5,Q8.tk (bc.trans sm.dY (bc.trans (g4.dZ s3) (g5.dZ s4))),q5⟩;exact⟨λ_=>fin,fin⟩
 ·have e:i=l.length:=by omega
  subst e;rw [Dl] at q2;exact .inl ⟨j2,hd s,k s,hr s,s2,(k s).mono (λt q3=>q3.go g2 sr s2) q2⟩
theorem SF.nR {f:PV->S->W (Lp S R)}{wb:T2->S->W (Lp S R)} (hp:ww (dL X.prog X.w) X.A X.env X.xe) (hc:X.calm=true) (hi:uw X K fs tg iter wl) (hl:iq fs (hd s0)) (hg:∀s,GF X K (hd s) tg is wt (cW s)) (hf:∀p s,f p s=.bind (wt p) λt=>wb t s)
  (ho:∀t,(out (inj t)).zF)
  (hb:∀s t,SF X K false (cW s t) body (wb t s) (lpE hd λr=>out (inj r))) (hr:∀s,SF X K x (hd s) rest (k s) out) (hs:yr X iter:=by intro _;rfl) :
  SF X K x fs (.For tg iter body [] pos::rest) (.bind wl λl=>.bind (FL.nR l s0 f) (Ln k inj)) out:=by
 refine SF.step (Gj (g:=λv σ H Q=>∃s,fG K (hd s) is wt (cW s) v σ H Q) (tb:=λD σ H=>∃s t,fS K false (cW s t) (wb t s) (lpE hd λr=>out (inj r)) D σ H) hp hc hi.p (λZ s σ H v u Q I r ⟨s1,q⟩=>(hg s1).p Z s σ H v u Q I r q) (λZ s σ H D I ⟨s1,t1,q⟩=>(hb s1 t1).p Z s σ H D I q) hs) λD σ H ⟨sr,q⟩=>?_;refine⟨sr,wl.mono (λl q1 J H1 g1 s1 jf=>?_) q⟩;have lo:∀(D':Ends) (y:Bool) (t:R),D'.rt=D.rt->bE K x σ fs H D (out (inj t))->bE K y σ fs H D' (out (inj t)):=λD' y t e h=>bE.ab5 (ho t) e h;refine⟨λi m σ' H'=>∃s,aP K H' σ' (hd s)/\cX σ fs H σ' (hd s) H'/\JF K H' J l/\m=l.length-i/\i<=l.length/\(FL.nR (l.drop i) s f).run λo=>(Ln k inj o).run λt=>bE K x σ fs H D (out t),⟨l.length,s0,s1.le hl,g1.f.trans (cX.le s1 hl),jf,by simp,Bg _,by simpa using q1⟩,?_⟩;rintro i m σ2 H2 ⟨s,s2,g2,Q8,rfl,hi,q2⟩;obtain⟨j1,j2⟩:=Q8.2 H2 (bc.refl H2);by_cases ig:i < l.length
 ·obtain⟨go,yl⟩:=j1 i _ (Ad ig);have ed:=Bi ig;rw [ed] at q2;refine .inr ⟨go,λσ3 H3=>∃s',aP K H3 σ3 (hd s')/\cX σ fs H σ3 (hd s') H3/\JF K H3 J l/\(FL.nR (l.drop (i+1)) s' f).run λo=>(Ln k inj o).run λt=>bE K x σ fs H D (out t),λσ3 H3 ⟨s',a1,a2,a3,a4⟩=>⟨l.length-(i+1),by omega,s',a1,a2,a3,rfl,ig,a4⟩,λv H3 y=>?_⟩;obtain⟨sm,vx⟩:=yl v H3 y;have q2:(f l[i] s).run λo=>(match o with | .go s'=>FL.nR (l.drop (i+1)) s' f | .out t=>bd (.out t)).run λo=>(Ln k inj o).run λt=>bE K x σ fs H D (out t):=q2;rw [hf] at q2;have s3:=s2.same sm;have g3:=g2.trans (cX.same sm s2);refine⟨s,_,s3,vx,(wt l[i]).mono (λt q4 us g4 s4=>?_) q2⟩;refine⟨s,t,s4,(wb t s).mono (λo q5=>?_) q4⟩;cases o with
  | out t5=>
   refine bE.go (g3.trans g4) sr s4 (lo _ false t5 ?_ q5);rfl
  | go s'=>
   intro σ5 H5 g5 s5;have fin:∃s',aP K H5 σ5 (hd s')/\cX σ fs H σ5 (hd s') H5/\JF K H5 J l/\(FL.nR (l.drop (i+1)) s' f).run λo=>(Ln k inj o).run λt=>bE K x σ fs H D (out t):=⟨s',s5,(g3.trans g4).trans g5,Q8.tk (bc.trans sm.dY (bc.trans (g4.dZ s3) (g5.dZ s4))),q5⟩;exact⟨λ_=>fin,fin⟩
 ·have e:i=l.length:=by omega
  subst e;rw [Dl] at q2;exact .inl ⟨j2,hd s,k s,hr s,s2,(k s).mono (λt q3=>q3.go g2 sr s2) q2⟩
def SF.Xo {cw:S->W Bool}{b:S->W S} (hp:ww (dL X.prog X.w) X.A X.env X.xe) (hl:iq fs (hd s0)) (hc:∀s,TF X K (hd s) c (cw s)) (hb:∀s,SF X K false (hd s) body (b s) λs'=>.nc (hd s')) (hr:∀s,SF X K x (hd s) rest (k s) out) :
  SF X K x fs (.While c body [] pos::rest) (.bind (F1 cw b s0) k) out:=by
 refine SF.step (Mm (tc:=λσ H Q=>∃s,fT K (hd s) (cw s) σ H Q) (tb:=λD σ H=>∃s,fS K false (hd s) (b s) (λs'=>.nc (hd s')) D σ H) hp (λZ s σ H Q I ⟨s1,q⟩=>(hc s1).p Z s σ H Q I q) (λZ s σ H D I ⟨s1,q⟩=>(hb s1).p Z s σ H D I q)) λD σ H ⟨sr,n,q⟩=>?_;refine⟨λm σ' H'=>∃s,aP K H' σ' (hd s)/\cX σ fs H σ' (hd s) H'/\(lZ cw b m s).run λs'=>(k s').run λt=>bE K x σ fs H D (out t),⟨n,s0,sr.le hl,cX.le sr hl,q⟩,?_⟩;rintro m σ1 H1 ⟨s,s1,g1,q1⟩;cases m with
 | zero=>exact q1.elim
 | succ m=>
  refine⟨s,s1,(cw s).mono (λkk q2 H2 g2 s2=>?_) q1⟩;cases kk with
  | false=>
   refine wV ?_;exact⟨hd s,k s,hr s,s2,(k s).mono (λt q3=>q3.go (g1.trans g2.f) sr s2) q2⟩
  | true=>
   refine wU ?_;refine⟨λσ3 H3=>∃s,aP K H3 σ3 (hd s)/\cX σ fs H σ3 (hd s) H3/\(lZ cw b m s).run λs'=>(k s').run λt=>bE K x σ fs H D (out t),λσ3 H3 a=>⟨m,Eh m,a⟩,s,s2,(b s).mono (λs' q5 σ5 H5 g5 s5=>?_) q2⟩;have fin:∃s,aP K H5 σ5 (hd s)/\cX σ fs H σ5 (hd s) H5/\(lZ cw b m s).run λs'=>(k s').run λt=>bE K x σ fs H D (out t):=⟨s',s5,(g1.trans g2.f).trans g5,q5⟩;exact⟨λ_=>fin,fin⟩
end
end
end FL
variable {f:PL.PV->FL.W (Option PL.PV)}{mI:FL.bp}
namespace FL
section
open PySem PySem.Spec PyProof.Rows L2 PL
variable {K:Ab}
def mH:List PV->(PV->W (Option PV))->W (List PV)
 | [],_=>.ret []
 | x::r,f=>.bind (f x) λo=>.bind (mH r f) λl=>.ret (o.toList++l)
def cv:List PV->(PV->W PV)->W (List PV)
 | [],_=>.ret []
 | x::r,f=>.bind (f x) λy=>.bind (cv r f) λl=>.ret (y::l)
theorem wo (f:PV->W PV):∀l,cv l f=mH l λp=>.bind (f p) λv=>.ret (am v)
 | []=>rfl
 | x::r=>by
  show ap (f x) (λy=>ap (cv r f) λl=>bd (y::l))=ap (f x) λy=>ap (mH r _) λl=>bd (y::l);rw [wo f r]
def cf (ix:List (Option Nat)) (fs:bp):bp:=ix.map λo=>match o with | some j=>(fs[j]?).getD bm | none=>bm
section
def n8 {s:SL} (h:(cf ix fs)[i]?=am (am s)):∃j,ix[i]?=am (am j)/\fs[j]?=am (am s):=by
 unfold cf at h;rw [Aj] at h;cases q:ix[i]? with
 | none=>rw [q] at h;cases h
 | some o=>
  rw [q] at h;cases o with
  | none=>cases h
  | some j=>
   refine⟨j,rfl,?_⟩;have h:(fs[j]?).getD bm=am s:=Option.some.inj h;cases z:fs[j]? with
   | none=>rw [z] at h;cases h
   | some y=>rw [z] at h;exact congrArg am h
def lh (h:ix[i]?=am (am j)) (e:σ[j]?=am (am u)):(n6 ix σ)[i]?=am (am u):=by
 unfold n6;rw [Aj,h];show am ((σ[j]?).getD bm)=_;rw [e];rfl
def aP.gU (s:aP K H σ fs) (inj:∀i i' j:Nat,ix[i]?=am (am j)->ix[i']?=am (am j)->i=i'):aP K H (n6 ix σ) (cf ix fs):=by
 refine⟨by unfold n6 cf;simp,λi t e=>?_,λi i' t u x y a e1 e2 o1 o2 q1 q2 z1 z2=>?_⟩
 ·obtain⟨j,h1,h2⟩:=n8 e;obtain⟨u,h3,h4⟩:=s.at' j t h2;exact⟨u,lh h1 h3,h4⟩
 ·obtain⟨j,h1,h2⟩:=n8 e1;obtain⟨j',gY,qD⟩:=n8 e2;obtain⟨u1,h3,_⟩:=s.at' j t h2;obtain⟨u2,NR,_⟩:=s.at' j' u qD;rw [lh h1 h3] at q1;rw [lh gY NR] at q2;cases q1;cases q2;have:=s.nd j j' t u x y a h2 qD o1 o2 h3 NR z1 z2;subst this;exact inj i i' j h1 gY
structure Se (ix:List (Option Nat)) (σ:L2.St) (fs:bp) (σ':L2.St) (bq:bp):Prop where
 own:∀(i:Nat) (t:SL),bq[i]?=am (am t)->t.own=true->∃j,ix[i]?=am (am j)/\fs[j]?=am (am t)/\σ'[i]?=σ[j]?
def Se.v9 (h:Se ix σ fs σ' bq) (o:dE σ' bq a):dE σ fs a:=by
 obtain⟨i,t,x,e1,e2,e3,e4⟩:=o;obtain⟨j,h1,h2,h3⟩:=h.own i t e1 e2;exact⟨j,t,x,h2,e2,h3▸e3,e4⟩
def Se.lu (h:Se ix σ fs σ' bq) (o:gW σ' bq φ a):gW σ fs φ a:=by
 obtain⟨i,e1,e3⟩:=o;obtain⟨j,h1,h2,h3⟩:=h.own i _ e1 rfl;exact⟨j,h2,h3▸e3⟩
def Se.out (h:Se ix σ fs σ' bq) (s:aP K H1 σ fs) (g:cJ σ' bq H1 H2) (s2:aP K H2 σ' bq):aP K H2 σ fs/\cJ σ fs H1 H2:=by
 have gf:cJ σ fs H1 H2:=⟨λa o e n=>g.keep a o e λφ z=>n φ (h.lu z),g.there⟩;refine⟨⟨s.len,λj t e=>?_,s.nd⟩,gf⟩;obtain⟨u,h1,h2⟩:=s.at' j t e;refine⟨u,h1,?_⟩;have tk:=gf.dZ s;rcases h2 with⟨v,q,r⟩ | ⟨a,q,r⟩
 ·exact .inl ⟨v,q,VR.tk tk r⟩
 ·subst q;refine .inr ⟨a,rfl,?_⟩;by_cases c:∃b,t.own=true/\t.has a b/\dE σ' bq b
  ·obtain⟨b,ow,hb,i,t',x,c1,c2,c3,c4⟩:=c;obtain⟨j',k1,k2,k3⟩:=h.own i t' c1 c2;have jj:=s.nd j j' t t' a x b e k2 ow c2 h1 (k3▸c3) hb c4;subst jj;rw [e] at k2;cases k2;exact s2.ownAt c1 c2 (k3.trans h1)
  ·exact r.mono tk (λb o ow hb z=>g.uS z λy=>c ⟨b,ow,hb,y⟩)
theorem qY:∀{is:List Nat}{us:List V}{σ:L2.St}{i:Nat},i∉is->(qZ is us σ)[i]?=σ[i]?
 | [],us,σ,i,_=>by cases us <;> rfl
 | j::is,[],σ,i,_=>rfl
 | j::is,u::us,σ,i,h=>by
  rw [qZ,qY (λz=>h (AU _ z))];exact aK (λz=>h (by rw [z];exact Bu))
end
section
variable {T2:Type}{wt:PV->W T2}{cW:T2->bp}{tf:T2->W Bool}{te:T2->W PV}
structure FF (X:Cx) (K:Ab) (fs:bp) (Ë:List gt) (w:W Bool):Prop where p:Xb X Ë (fT K fs w)
def N4:FF X K fs [] (.ret true):=⟨λZ s σ H Q I ⟨sr,q⟩=>Qg Z s σ H Q I (q H .refl sr)⟩
def Hg {c:gt}{w:W Bool} (h:TF X K fs c w):FF X K fs [c] w:=⟨Qf h.p⟩
def uv (is:List Nat) (mI:bp) (cW:T2->bp):Prop:=∀t,(cW t).length=mI.length/\∀(i:Nat) (s:SL),(cW t)[i]?=am (am s)->(i∈is/\s.own=false)\/(i∉is/\mI[i]?=am (am s))
theorem Tf (S:aA X.env.scope X.N sc N' ix) (hb:mI=cf ix fs) (hf:∀p,f p=.bind (wt p) λt=>.bind (tf t) λk=>if k=true then .bind (te t) λv=>.ret (am v) else .ret bm) (hl:uv is mI cW) (hr:∀t,iq (cW t) mI) (zG:∀j∈is,ix[j]?=am bm) :
  ∀σ H Q,fL K fs (.bind wl λl=>mH l f) σ H Q->tLc ix (fIt K fs wl) (λv σ H Q=>fG K mI is wt cW v σ H Q) (λσ H Q=>∃t,fT K (cW t) (tf t) σ H Q) (λσ H Q=>∃t,fE K (cW t) (te t) σ H Q) σ H Q:=by
 subst hb;rintro σ H Q ⟨sr,q⟩;refine⟨sr,wl.mono (λl q1 J H1 g1 s1 jf D hD=>?_) q⟩;have inj:∀i i' j:Nat,ix[i]?=am (am j)->ix[i']?=am (am j)->i=i':=λi i' j h1 h2=>by
  have hi:i < N'.length:=by rw [<- S.len];exact (Al.mp h1).1
  have NK:i' < N'.length:=by rw [<- S.len];exact (Al.mp h2).1
  have e1:=(S.at h1 (Ad hi)).1;have e2:=(S.at h2 (Ad NK)).1;rw [e1] at e2;exact (List.getElem_inj S.nd).mp (Option.some.inj e2)
 have nD:=s1.noOwn hD;refine⟨λi m σ' ys H'=>∃Ä,aP K H' σ fs/\cJ σ fs H H'/\aP K H' σ' (cf ix fs)/\Se ix σ fs σ' (cf ix fs)/\JF K H' J l/\H' D=am (.lst ys)/\aB K [] H' ys Ä/\Ä.length<=i/\m=l.length-i/\i<=l.length/\
  (mH (l.drop i) f).run λr=>∀a vs H',cJ σ fs H H'->aP K H' σ fs->H a=bm->H' a=am (.lst vs)->aB K [] H' vs (Ä++r)->Q (.ref a) H',⟨l.length,[],?_⟩,?_⟩
 ·have sm:=j6 hD (.lst []);refine⟨s1.same sm,g1.trans (cJ.same sm),(s1.same sm).gU inj,⟨λi t e o=>?_⟩,jf.tk sm.dY,aN,.nil,Bg _,by simp,Bg _,by simpa using q1⟩;obtain⟨j,h1,h2⟩:=n8 e;obtain⟨u,h3,_⟩:=s1.at' j t h2;exact⟨j,h1,h2,by rw [lh h1 h3,h3]⟩
 rintro i m σ2 ys H2 ⟨Ä,sO,gO,s2,S2,Q8,hy,vy,Zl,rfl,hi,q2⟩;refine⟨hy,?_⟩;obtain⟨j1,j2⟩:=Q8.2 H2 (bc.refl H2);by_cases ig:i < l.length
 ·obtain⟨go,yl⟩:=j1 i _ (Ad ig);have ed:=Bi ig;rw [ed] at q2;refine .inr ⟨go,λv H3 y=>?_⟩;obtain⟨sm,vx⟩:=yl v H3 y;have q2:(f l[i]).run λo=>(mH (l.drop (i+1)) f).run λr=>∀a vs H',cJ σ fs H H'->aP K H' σ fs->H a=bm->H' a=am (.lst vs)->aB K [] H' vs (Ä++(o.toList++r))->Q (.ref a) H':=q2;rw [hf] at q2;have s3:=s2.same sm;have sO3:=sO.same sm;have gO3:=gO.trans (cJ.same sm);have hy3:=sm _ _ hy;have vy3:=aB.tk sm.dY vy;have jf3:=Q8.tk sm.dY;refine⟨_,s3,vx,(wt l[i]).mono (λt q4 us g4 s4=>?_) q2⟩;have Rh:Se ix σ fs (qZ is us σ2) (cW t):=⟨λj u e o=>by
   rcases (hl t).2 j u e with⟨_,z⟩ | ⟨n,z⟩
   ·rw [z] at o;cases o
   ·obtain⟨j',k1,k2,k3⟩:=S2.own j u z o;exact⟨j',k1,k2,by rw [qY n];exact k3⟩⟩
  refine⟨t,s4,(tf t).mono (λkk q5 H5 g5 s5=>?_) q4⟩;obtain⟨sO5,ads⟩:=Rh.out sO3 g5 s5;have gO5:=gO3.trans ads;have tk5:=g5.dZ s4;have nD4:¬dE (qZ is us σ2) (cW t) D:=λz=>nD (Rh.v9 z);have hy5:=g5.uS hy3 nD4;have vy5:=aB.tk tk5 vy3;have jf5:=jf3.tk (g5.dZ s4);have Í:∀{H6:Hp},aP K H6 (qZ is us σ2) (cW t)->aP K H6 (qZ is us σ2) (cf ix fs)/\Se ix σ fs (qZ is us σ2) (cf ix fs):=λ{H6} z=>⟨z.le (hr t),⟨λj u e o=>Rh.own j u ((hr t).at j u e) o⟩⟩;cases kk with
  | false=>
   refine wV ⟨l.length-(i+1),by omega,Ä,sO5,gO5,(Í s5).1,(Í s5).2,jf5,hy5,vy5,by omega,rfl,ig,?_⟩;exact q5
  | true=>
   refine wU ⟨t,s5,(te t).mono (λv6 q6 u6 H6 g6 s6 v6'=>?_) q5⟩;obtain⟨sO6,adq⟩:=Rh.out sO5 g6 s6;have gO6:=gO5.trans adq;have tk6:=g6.dZ s5;have YZ:=g6.uS hy5 nD4;have vy6:=aB.tk tk6 vy5;have tkD:=qm (K:=K) (.lst (ys++[u6])) YZ;have hD0:=g1.there D hD;refine⟨YZ,by rw [vy6.length];have:=Q8.1;omega,l.length-(i+1),by omega,Ä++[v6],sO6.side nD YZ _,gO6.side hD0 _,((Í s6).1).side (λz=>nD ((Í s6).2.v9 z)) YZ _,(Í s6).2,(jf5.tk (g6.dZ s5)).tk (qm _ YZ),aN,aB.tk tkD (vy6.append (.cons v6' .nil)),by rw [Ak];simp;omega,rfl,ig,?_⟩;refine (mH (l.drop (i+1)) f).mono (λr q7 a vs H7 g7 s7 n e v7=>q7 a vs H7 g7 s7 n e ?_) q6;simpa using v7
 ·have e:i=l.length:=by omega
  subst e;rw [Dl] at q2;exact .inl ⟨j2,q2 D ys H2 gO sO (g1.there D hD) hy (by simpa using vy)⟩
end
end
end FL
namespace L2
open PySem PySem.Spec PyProof.Rows
def qe (l:ce) (items:Array bn) (n:Nat) (b:ce) (bG:Array bn) (n2:Nat) (sl:Array (Option bn)) (hc0:¬(!items.isEmpty&&Builtin.List.listTooLong (items.size+bG.size))=true) (hc1:items.size<=sizeLine) (qC:items.size+bG.size<=sizeLine+1) :
  Meets (wn.«list.extend» ⟨[.ref l,.ref b],[]⟩) (λ_ R s=>s.heap.get? l=am {cls:=.type "list",dict:=bm,data:=.seq items n,slots:=#[]}/\s.heap.get? b=am {cls:=.type "list",dict:=bm,data:=.seq bG n2,slots:=sl}/\R (.ok (.ret AO)) {s with heap:=s.heap.update l (Bj λx=>x++bG),toks:=s.toks}):=
 .of_wp λprog w A R s h=>by
  obtain⟨hp,g,d,tk,os⟩:=s;obtain⟨hl,hb,h⟩:=h;have f1:=Eo;have f2:=Df;have f3:=Dx;have f4:=Dp;have f5:=Dq;have Kx:(items++bG).size<=sizeLine+1:=by rw [Array.size_append];exact qC
  wp_walk using (Cy hl rfl (hz:=hc1) (_hz':=Kx)),BZ hl,BZ hb;exact⟨_,rfl,h⟩
def Yc (K:Ab):V->List V->Hp->VK->Prop:=λx vs H Q=>∃l b xs zs,x=.ref l/\vs=[.ref b]/\H l=am (.lst xs)/\(dP K H b zs\/dG K H b zs)/\xs.length+zs.length<=sizeLine/\yz H l (.lst (xs++zs)) (Q .aD)
theorem QM (K:Ab) (hK:X.K=K):HU X "list.extend" (Yc K):=by
 subst hK;intro Z s σ H x vs v us Q I rx rv h;obtain⟨l,b,xs,zs,rfl,rfl,hH,hB | hB,hz,q⟩:=h
 ·cases rx;obtain⟨u,rfl,ru⟩:=rv.one;cases ru;obtain⟨z,ak,n,r,hl,e⟩:=I.qb hH;obtain⟨cT,r2,⟨⟨cls,dd,data,sl⟩,n2,e2,hc,hd,kq⟩,z2⟩:=I.list hB;simp only at hc hd kq;subst hc hd kq;have O9:=r2.length;have hsz:ak.toArray.size+cT.toArray.size<=sizeLine:=by rw [Ah,Ah];omega
  have se:¬(!ak.toArray.isEmpty&&Builtin.List.listTooLong (ak.toArray.size+cT.toArray.size))=true:=by
   rw [m8 hsz,D3];exact A5
  refine re DQ ⟨_,e,rfl⟩ DB (Dn _ _)
   (qe l ak.toArray n b cT.toArray n2 sl se (by rw [Ah];omega) ∅) ⟨e,e2,?_⟩
  refine⟨.aD,_,I.GI (its':=ak++cT) hH e (by simp) (r.append r2) ?_,rfl,q.at⟩;rw [Ak];omega
 ·exact zf Z s σ H _ _ v us Q I rx rv ⟨l,b,xs,zs,rfl,rfl,hH,hB,hz,q⟩
end L2
variable {y z:BB}{we:FL.W PL.PV}
namespace FL
section
open PySem PySem.Spec PyProof.Rows L2 PL
variable {K:Ab}
section
variable {T2:Type}{wt:PV->W T2}{cW:T2->bp}{tf:T2->W Bool}{te:T2->W PV}
def Vg (hc:X.calm=true) (S:aA X.env.scope X.N sc N' ix) (hi:uw X K fs tg iter wl) (hg:∀cl C s2 H2 fp,GF (gU X sc N' cl C s2 H2 fp) K (cf ix fs) tg is wt cW) (Ĝ:∀cl C s2 H2 fp t,FF (gU X sc N' cl C s2 H2 fp) K (cW t) Ë (tf t)) (he:∀cl C s2 H2 fp t,EF (gU X sc N' cl C s2 H2 fp) K (cW t) Ç (te t))
  (hf:∀p,f p=.bind (wt p) λt=>.bind (tf t) λk=>if k=true then .bind (te t) λv=>.ret (am v) else .ret bm) (hl:uv is (cf ix fs) cW/\∀t,iq (cW t) (cf ix fs)) (zG:∀j∈is,ix[j]?=am bm) (hs:yr X iter:=by intro _;rfl) :
  LF X K fs (.ListComp Ç [⟨tg,iter,Ë,0⟩] sc pos) (.bind wl λl=>mH l f):=
 ⟨PE.imp (Yi hc S hi.p (λcl C s2 H2 fp=>(hg cl C s2 H2 fp).p) (λcl C s2 H2 fp Z s σ H Q I ⟨t,q⟩=>(Ĝ cl C s2 H2 fp t).p Z s σ H Q I q) (λcl C s2 H2 fp Z s σ H Q I ⟨t,q⟩=>(he cl C s2 H2 fp t).p Z s σ H Q I q) hs) (Tf S rfl hf hl.1 hl.2 zG)⟩
def SR {f:PV->W PV} (hc:X.calm=true) (S:aA X.env.scope X.N sc N' ix) (hi:uw X K fs tg iter wl) (hg:∀cl C s2 H2 fp,GF (gU X sc N' cl C s2 H2 fp) K (cf ix fs) tg is wt cW) (he:∀cl C s2 H2 fp t,EF (gU X sc N' cl C s2 H2 fp) K (cW t) Ç (te t))
  (hf:∀p,f p=.bind (wt p) te) (hl:uv is (cf ix fs) cW/\∀t,iq (cW t) (cf ix fs)) (zG:∀j∈is,ix[j]?=am bm) (hs:yr X iter:=by intro _;rfl) :
  LF X K fs (.ListComp Ç [⟨tg,iter,[],0⟩] sc pos) (.bind wl λl=>cv l f):=by
 have:(λl=>cv l f)=λl=>mH l λp=>.bind (wt p) λt=>.bind (.ret true) λk=>if k=true then .bind (te t) λv=>.ret (am v) else .ret bm:=funext λl=>by
  rw [wo];congr 1;funext p;rw [hf];rfl
 rw [this];exact Vg (tf:=λ_=>.ret true) hc S hi hg (λ_ _ _ _ _ _=>N4) he (λp=>rfl) hl zG hs
def SF.Sv {rest:List ul}{out:T->End}{k:List PV->W T} (hc:X.calm=true) (hN:X.N.Nodup) (NK:X.N[i]?=am y) (hx:X.env.scope.names.lookup y=am .local) (S:aA X.env.scope X.N sc N' ix) (hi:uw X K fs tg iter wl) (hg:∀cl C s2 H2 fp,GF (gU X sc N' cl C s2 H2 fp) K (cf ix fs) tg is wt cW) (Ĝ:∀cl C s2 H2 fp t,FF (gU X sc N' cl C s2 H2 fp) K (cW t) Ë (tf t)) (he:∀cl C s2 H2 fp t,EF (gU X sc N' cl C s2 H2 fp) K (cW t) Ç (te t))
  (hf:∀p,f p=.bind (wt p) λt=>.bind (tf t) λk=>if k=true then .bind (te t) λv=>.ret (am v) else .ret bm) (hl:uv is (cf ix fs) cW/\∀t,iq (cW t) (cf ix fs)) (zG:∀j∈is,ix[j]?=am bm) (hr:∀l,SF X K x (fs.set i (am (.ol bm l))) rest (k l) out)
  (wY:mo (.ListComp Ç [⟨tg,iter,Ë,0⟩] sc pos) (am (.Name y px)) tF.line X.env=pure true:=by rfl) (hs:yr X iter:=by intro _;rfl) :
  SF X K x fs (.Assign [.Name y px] (.ListComp Ç [⟨tg,iter,Ë,0⟩] sc pos) tF::rest) (.bind (.bind wl λl=>mH l f) k) out:=
 SF.step (Mn hc hN NK hx S hi.p (λcl C s2 H2 fp=>(hg cl C s2 H2 fp).p) (λcl C s2 H2 fp Z s σ H Q I ⟨t,q⟩=>(Ĝ cl C s2 H2 fp t).p Z s σ H Q I q) (λcl C s2 H2 fp Z s σ H Q I ⟨t,q⟩=>(he cl C s2 H2 fp t).p Z s σ H Q I q) wY hs) λD σ H ⟨sr,q⟩=>
  Tf (K:=K) S rfl hf hl.1 hl.2 zG σ H _ ⟨sr,(ap wl λl=>mH l f).mono (λl q1 a ws H1 g1 s1 n e v1=>by
   have no:=sr.noOwn n;have s2:=s1.Mk (t:=.ol bm l) ⟨by simp,ws,e,v1⟩ no i;exact⟨_,k l,hr l,s2,(k l).mono (λt q2=>q2.go (cX.Mk s1 g1.f no n i) sr s2) q1⟩) q⟩
theorem wC:∀{l:bp}{i:Nat} (s:Option SL),l[i]?=am bm->iq (l.set i s) l
 | [],_,_,h=>by simp at h
 | x::l,0,s,h=>by
  simp at h;subst h;exact .drop (iq.refl l)
 | x::l,i+1,s,h=>by
  rw [List.set_cons_succ];exact .keep (wC s (by simpa using h))
def iq.trans {a b c:bp} (h1:iq a b) (h2:iq b c):iq a c:=by
 induction h1 generalizing c with
 | nil=>exact h2
 | drop h ih=>cases h2 with | drop h2=>exact .drop (ih h2) | keep h2=>exact .drop (ih h2)
 | keep h ih=>cases h2 with | drop h2=>exact .drop (ih h2) | keep h2=>exact .keep (ih h2)
def rS {l:bp}{is:List Nat} (hl:l.length=mI.length/\∀(j:Nat) (s:SL),l[j]?=am (am s)->(j∈is/\s.own=false)\/(j∉is/\mI[j]?=am (am s))) (hi:mI[i]?=am bm) :
  (l.set i (am (.val v))).length=mI.length/\∀(j:Nat) (s:SL),(l.set i (am (.val v)))[j]?=am (am s)->(j∈is++[i]/\s.own=false)\/(j∉is++[i]/\mI[j]?=am (am s)):=by
 refine⟨by rw [BR];exact hl.1,λj s e=>?_⟩;rcases cG e with⟨rfl,rfl⟩ | ⟨n,e⟩
 ·exact .inl ⟨by simp,rfl⟩
 ·rcases hl.2 j s e with⟨h1,h2⟩ | ⟨h1,h2⟩
  ·exact .inl ⟨by simp [h1],h2⟩
  ·exact .inr ⟨by simp [h1,n],h2⟩
def SQ (mI:bp):mI.length=mI.length/\∀(j:Nat) (s:SL),mI[j]?=am (am s)->(j∈([]:List Nat)/\s.own=false)\/(j∉([]:List Nat)/\mI[j]?=am (am s)):=⟨rfl,λj s e=>.inr ⟨by simp,e⟩⟩
def Vd (hi:mI[i]?=am bm):uv [i] mI (λp=>mI.set i (am (.val p)))/\∀t,iq (mI.set i (am (.val t))) mI:=⟨λt=>rS (is:=[]) (SQ mI) hi,λt=>wC _ hi⟩
def L1 {l:bp}{s:Option SL} (h:l[j]?=am bm) (n:j≠i):(l.set i s)[j]?=am bm:=by rw [aK n];exact h
def QT (hi:mI[i]?=am bm) (hj:mI[j]?=am bm) (n:j≠i):uv [i,j] mI (λt:PV×PV=>(mI.set i (am (.val t.1))).set j (am (.val t.2)))/\∀t:PV×PV,iq ((mI.set i (am (.val t.1))).set j (am (.val t.2))) mI:=
 ⟨λt=>rS (is:=[i]) (rS (is:=[]) (SQ mI) hi) hj,λt=>(wC _ (L1 hj n)).trans (wC _ hi)⟩
end
section
variable {rest:List ul}{T:Type}{out:T->End}{wi:W PV}
def c9 (sr:aP K H σ fs) (hs:fs[i]?=am (am (.ol q0 l))):∃a ws,σ[i]?=am (am (.ref a))/\H a=am (.lst ws)/\aB K [] H ws l:=by
 obtain⟨u,e1,r⟩:=sr.at' i _ hs;rcases r with⟨v,e,_⟩ | ⟨a,e,z,ws,q1,q2⟩
 ·cases e
 ·subst e;exact⟨a,ws,e1,q1,q2⟩
def m4 {oB:List V}{l':List PV} (sr:aP K H σ fs) (hs:fs[i]?=am (am (.ol q0 l))) (e1:σ[i]?=am (am (.ref a))) (sx:pX a H H') (h':H' a=am (.lst oB)) (r:aB K [] H oB l'):aP K H' σ (fs.set i (am (.ol q0 l')))/\cX σ fs H σ (fs.set i (am (.ol q0 l'))) H':=
 f7 (t':=.ol q0 l') sr hs rfl (by simp) e1 sx λtk=>⟨(sr.ownAt hs rfl e1).1,oB,h',aB.tk tk r⟩
def kF (l:List PV) (v:PV):W (List PV):=.eQ (l.length < sizeLine) (.ret (l++[v]))
theorem SF.append (i:Nat) {k:List PV->W T} (hs:fs[i]?=am (am (.ol q0 l))) (hK:X.K=K) (hN:X.N[i]?=am y) (hv:HK X.env.scope y) (he:EF X K fs e we) (hr:∀l',SF X K x (fs.set i (am (.ol q0 l'))) rest (k l') out)
  (hd:jS y:=by decide) (kr:JM y:=by decide) (dw:lc (.Name y p) "append" X.env (ii (.Name y p) X.env)=ii (.Name y p) X.env:=by rfl)
  (mj:Tw X bo [e]:=by rfl)
  (du:O3 Ã bo:=by rfl) (pj:gs X e []:=by rfl) (dM:lq X bo []:=by rfl)
  (wY:mo (.Call (.Attribute (.Name y p) "append" Ã) [e] [] bo) bm pos.line X.env=pure false:=by rfl) :
  SF X K x fs (.Expr (.Call (.Attribute (.Name y p) "append" Ã) [e] [] bo) pos::rest) (.bind we λv=>.bind (kF l v) k) out:=
 SF.step (qr (oV K hK BI PySem.F.slot_list_append PySem.F.type_list_append Gx (fe hN hv hd kr) (aU he.p bP pj) dw mj du pj dM) wY) λD σ H ⟨sr,q⟩=>by
  obtain⟨a,ws,e1,h1,r1⟩:=c9 sr hs;refine⟨_,e1,.inl ⟨rfl,_,dP.of h1⟩,sr,we.mono (λv q1 u H1 g1 s1 v1=>?_) q⟩;obtain⟨a',oB,xJ,gY,FU⟩:=c9 s1 hs;rw [e1] at xJ;cases xJ;refine⟨a,oB,u,rfl,rfl,gY,by rw [FU.length];exact q1.1,λH2 sx h2=>?_⟩;obtain⟨s2,g2⟩:=m4 s1 hs e1 sx h2 (FU.append (.one v1));exact⟨_,k _,hr _,s2,(k _).mono (λt q2=>q2.go (g1.f.trans g2) sr s2) q1.2⟩
def VV (l m:List PV):W (List PV):=.eQ (l.length+m.length<=sizeLine) (.ret (l++m))
theorem SF.extend (i:Nat) {k:List PV->W T} (hs:fs[i]?=am (am (.ol q0 l))) (hK:X.K=K) (hN:X.N[i]?=am y) (hv:HK X.env.scope y) (he:QF X K fs e wl) (hr:∀l',SF X K x (fs.set i (am (.ol q0 l'))) rest (k l') out)
  (hd:jS y:=by decide) (kr:JM y:=by decide) (dw:lc (.Name y p) "extend" X.env (ii (.Name y p) X.env)=ii (.Name y p) X.env:=by rfl)
  (mj:Tw X bo [e]:=by rfl)
  (du:O3 Ã bo:=by rfl) (pj:gs X e []:=by rfl) (dM:lq X bo []:=by rfl)
  (wY:mo (.Call (.Attribute (.Name y p) "extend" Ã) [e] [] bo) bm pos.line X.env=pure false:=by rfl) :
  SF X K x fs (.Expr (.Call (.Attribute (.Name y p) "extend" Ã) [e] [] bo) pos::rest) (.bind wl λm=>.bind (VV l m) k) out:=
 SF.step (qr (oV K hK BI PySem.F.slot_list_extend PySem.F.type_list_extend (QM K hK) (fe hN hv hd kr) (aU he.p bP pj) dw mj du pj dM) wY) λD σ H ⟨sr,q⟩=>by
  obtain⟨a,ws,e1,h1,r1⟩:=c9 sr hs;refine⟨_,e1,.inl ⟨rfl,_,dP.of h1⟩,sr,wl.mono (λm q1 u H1 g1 s1 v1=>?_) q⟩;obtain⟨a',oB,xJ,gY,FU⟩:=c9 s1 hs;rw [e1] at xJ;cases xJ;obtain⟨b,zs,rfl,hb,rb⟩:=v1.sq s1;refine⟨a,b,oB,zs,rfl,rfl,gY,hb,by rw [FU.length,rb.length];exact q1.1,λH2 sx h2=>?_⟩;obtain⟨s2,g2⟩:=m4 s1 hs e1 sx h2 (FU.append rb);exact⟨_,k _,hr _,s2,(k _).mono (λt q2=>q2.go (g1.f.trans g2) sr s2) q1.2⟩
def yU (l:List PV):W (List PV×PV):=match l.getLast? with
 | some v=>.ret (l.dropLast,v)
 | none=>.fail
def LY {l:List PV} (h:l.getLast?=am v):l=l.dropLast++[v]:=by
 rw [List.getLast?_eq_some_iff] at h;obtain⟨ys,rfl⟩:=h;simp
theorem aB.snoc:∀{ws:List V}{l:List PV}{v:PV},aB K [] H ws (l++[v])->∃WA u,ws=WA++[u]/\aB K [] H WA l/\VR K [] H u v
 | _,[],_,.cons r .nil=>⟨[],_,rfl,.nil,r⟩
 | _,x::l,v,.cons r t=>by
  obtain⟨WA,u,rfl,h1,h2⟩:=aB.snoc t;exact⟨_::WA,u,rfl,.cons r h1,h2⟩
def SF.Gk (i j:Nat) {k:List PV×PV->W T} (hs:fs[i]?=am (am (.ol q0 l))) (Zc:j≠i) (hK:X.K=K) (hN:X.N[i]?=am y) (hv:HK X.env.scope y) (Ġ:X.N.Nodup) (hj:X.N[j]?=am z) (hx:Loc X.env.scope z) (hr:∀t:List PV×PV,SF X K x ((fs.set i (am (.ol q0 t.1))).set j (am (.val t.2))) rest (k t) out)
  (hd:jS y:=by decide) (kr:JM y:=by decide) (dw:lc (.Name y p) "pop" X.env (ii (.Name y p) X.env)=ii (.Name y p) X.env:=by rfl) (du:O3 Ã bo:=by rfl)
  (wY:mo (.Call (.Attribute (.Name y p) "pop" Ã) [] [] bo) (am (.Name z p')) pos.line X.env=pure false:=by rfl) (hf:O0 X z:=by first | exact .inl rfl | exact .inr rfl | assumption) :
  SF X K x fs (.Assign [.Name z p'] (.Call (.Attribute (.Name y p) "pop" Ã) [] [] bo) pos::rest) (.bind (yU l) k) out:=
 SF.step (vU Ġ hj hx (Qn K hK BI EK EJ QJ (fe hN hv hd kr) dw du) wY hf) λD σ H ⟨sr,q⟩=>by
  obtain⟨a,ws,e1,h1,r1⟩:=c9 sr hs;have q:(yU l).run λt=>(k t).run λt=>bE K x σ fs H D (out t):=q;unfold yU at q;cases hl:l.getLast? with
  | none=>rw [hl] at q;exact q.elim
  | some v=>
   rw [hl] at q;have el:=LY hl;rw [el] at r1;obtain⟨WA,u,rfl,r0,ru⟩:=aB.snoc r1;refine⟨_,e1,.inl ⟨rfl,_,dP.of h1⟩,a,WA,u,rfl,rfl,h1,λH2 sx h2=>?_⟩;obtain⟨s2,g2⟩:=m4 sr hs e1 sx h2 r0;have ru2:VR K [] H2 u v:=g2.vr sr ru;have s3:=s2.jU ru2 j;exact⟨_,k _,hr (l.dropLast,v),s3,(k _).mono (λt q2=>q2.go (g2.trans (cX.jU s2 _ _ j)) sr s3) q⟩
def jT (l:List PV) (i v:PV):W (List PV):=match i with
 | .int k=>match tq l.length k with
  | some j=>.ret (l.set j v)
  | none=>.fail
 | _=>.fail
def SF.Gd (i:Nat) {ei:gt}{k:List PV->W T} (hs:fs[i]?=am (am (.ol q0 l))) (hN:X.N[i]?=am y) (hv:HK X.env.scope y) (he:EF X K fs e we) (hi:EF X K fs ei wi) (hr:∀l',SF X K x (fs.set i (am (.ol q0 l'))) rest (k l') out)
  (ha:∀v,Fk (.Subscript (.Name y p) ei F7) X.env v=(do
   let ov <- Da [v] (ii (.Name y p) X.env)
   let iv <- Da [v,ov] (ii ei X.env)
   standAt F7
   Da [v,ov,iv] (setItem ov iv v)
   release [v,ov,iv] []):=by intro _;rfl)
  (hd:jS y:=by decide) (kr:JM y:=by decide) (hss:EQ [.Subscript (.Name y p) ei F7] e pos.line X.env=pure false:=by rfl) (hw:Fa [.Subscript (.Name y p) ei F7] e X.env=pure bm:=by rfl)
  (h1:(xz [.Subscript (.Name y p) ei F7] X.env).map (·.2)=[Fk (.Subscript (.Name y p) ei F7) X.env]:=by rfl) :
  SF X K x fs (.Assign [.Subscript (.Name y p) ei F7] e pos::rest) (.bind we λv=>.bind wi λn=>.bind (jT l n v) k) out:=
 SF.step (Mp he.p (UH (fe hN hv hd kr) hi.p JZ ha) hss hw h1) λD σ H ⟨sr,q⟩=>by
  refine⟨sr,we.mono (λv q1 u H1 g1 s1 v1=>?_) q⟩;obtain⟨a,ws,e1,h1,r1⟩:=c9 s1 hs;refine⟨_,e1,s1,wi.mono (λn q2 u2 H2 g2 s2 v2=>?_) q1⟩;obtain⟨a',oB,xJ,gY,FU⟩:=c9 s2 hs;rw [e1] at xJ;cases xJ;cases v2 with
  | int kk=>
   have q2:(match tq l.length kk with | some j=>bd (l.set j v) | none=>W.fail).run _:=q2;cases hj:tq l.length kk with
   | none=>rw [hj] at q2;exact q2.elim
   | some j=>
    rw [hj] at q2;refine⟨a,oB,kk,j,rfl,rfl,gY,by rw [FU.length];exact hj,λH3 sx h3=>?_⟩;obtain⟨s3,g3⟩:=m4 s2 hs e1 sx h3 (FU.set (g2.vr s1 v1) j);exact⟨_,k _,hr _,s3,(k _).mono (λt q3=>q3.go ((g1.trans g2).f.trans g3) sr s3) q2⟩
  | _=>exact q2.elim
end
end
end FL
variable {x:BB}
namespace FL
section
open PySem PySem.Spec PyProof.Rows L2 PL
variable {K:Ab}
def gF:List AK->List PV->bp
 | [],_=>[]
 | .v::ks,x::l=>am (.val x)::gF ks l
 | .v::_,[]=>[]
 | .p φ::ks,l=>am (.lu φ)::gF ks l
 | .f a::ks,l=>am (.adr a)::gF ks l
def gE (ks:List AK) (l:List PV) (n:Nat):bp:=gF ks l++Am (n-ks.length) bm
def iR (ks:List AK):Prop:=∀i j:Nat,(∃φ,ks[i]?=am (.p φ))->(∃φ,ks[j]?=am (.p φ))->i=j
theorem iU:∀{n:Nat}{m:Pd R n}{l:List PV}{Q:R->Prop},(cn n m l).run Q->l.length=n
 | 0,_,[],_,_=>rfl
 | 0,_,_::_,_,h=>h.elim
 | n+1,_,[],_,h=>h.elim
 | n+1,m,x::l,Q,h=>by rw [Ar,iU (n:=n) (m:=m x) h]
section
theorem ic.len (h:ic K H vs ks l):vs.length=ks.length:=by induction h <;> simp_all
def ic.slot (h:ic K H vs ks l):(gF ks l).length=vs.length/\∀(i:Nat) (s:SL),(gF ks l)[i]?=am (am s)->∃u,vs[i]?=am u/\vn K H u s/\(s.own=true->∃φ,s=.lu φ/\ks[i]?=am (.p φ)):=by
 induction h with
 | nil=>exact⟨rfl,λi s e=>by simp [gF] at e⟩
 | @v u x vs ks l r t ih=>
  refine⟨by simp [gF,ih.1],λi s e=>?_⟩;cases i with
  | zero=>simp [gF] at e;subst e;exact⟨u,rfl,.inl ⟨x,rfl,r⟩,λz=>by cases z⟩
  | succ i=>simp [gF] at e;obtain⟨w,h1,h2,h3⟩:=ih.2 i s e;exact⟨w,by simpa using h1,h2,by simpa using h3⟩
 | @p a φ ws vs ks l e0 r t ih=>
  refine⟨by simp [gF,ih.1],λi s e=>?_⟩;cases i with
  | zero=>simp [gF] at e;subst e;exact⟨_,rfl,.inr ⟨a,rfl,ws,e0,r⟩,λ_=>⟨φ,rfl,rfl⟩⟩
  | succ i=>simp [gF] at e;obtain⟨w,h1,h2,h3⟩:=ih.2 i s e;exact⟨w,by simpa using h1,h2,by simpa using h3⟩
 | @f a vs ks l t ih=>
  refine⟨by simp [gF,ih.1],λi s e=>?_⟩;cases i with
  | zero=>simp [gF] at e;subst e;exact⟨_,rfl,.inr ⟨a,rfl,rfl⟩,λz=>by cases z⟩
  | succ i=>simp [gF] at e;obtain⟨w,h1,h2,h3⟩:=ih.2 i s e;exact⟨w,by simpa using h1,h2,by simpa using h3⟩
def ic.UE (h:ic K H vs ks l) (e:ks[i]?=am (.p φ)):(gF ks l)[i]?=am (am (.lu φ)):=by
 induction h generalizing i with
 | nil=>simp at e
 | v r t ih=>cases i with | zero=>simp at e | succ i=>simp [gF];exact ih (by simpa using e)
 | p e0 r t ih=>cases i with | zero=>simp at e;subst e;rfl | succ i=>simp [gF];exact ih (by simpa using e)
 | f t ih=>cases i with | zero=>simp at e | succ i=>simp [gF];exact ih (by simpa using e)
theorem n9 {s:SL} (h:(gE ks l n)[i]?=am (am s)):(gF ks l)[i]?=am (am s):=by
 unfold gE at h;by_cases c:i < (gF ks l).length
 ·rw [AM c] at h;exact h
 ·rw [AQ ∅,Bq] at h
  split at h <;> cases h
def kJ {N:List Str} (h:vs[i]?=am u):(L2.start N vs)[i]?=am (am u):=by
 unfold L2.start;rw [AM (by rw [Ai];exact (Al.mp h).1),Aj,h];rfl
def uC {N:List Str} (h:(L2.start N vs)[i]?=am (am u)):vs[i]?=am u:=by
 unfold L2.start at h;by_cases c:i < vs.length
 ·rw [AM (by simpa using c),Aj] at h;cases z:vs[i]? with
  | none=>rw [z] at h;cases h
  | some q=>rw [z] at h;cases h;rfl
 ·rw [AQ (by simpa using c),Bq] at h
  split at h <;> cases h
def ic.beg (h:ic K H vs ks l) (one:iR ks) (N:List Str):aP K H (L2.start N vs) (gE ks l N.length):=by
 obtain⟨hl,hs⟩:=h.slot;refine⟨?_,λi s e=>?_,λi j s t x y a e1 e2 o1 o2 q1 q2 z1 z2=>?_⟩
 ·unfold L2.start gE;rw [Ak,Ak,Ai,hl,Bn,Bn,h.len]
 ·obtain⟨u,h1,h2,_⟩:=hs i s (n9 e);exact⟨u,kJ h1,h2⟩
 ·obtain⟨_,_,_,h3⟩:=hs i s (n9 e1);obtain⟨_,_,_,h4⟩:=hs j t (n9 e2);obtain⟨φ,_,k1⟩:=h3 o1;obtain⟨ψ,_,k2⟩:=h4 o2;exact one i j ⟨φ,k1⟩ ⟨ψ,k2⟩
def ic.go (h:ic K H vs ks l) {N:List Str} (g:cX (L2.start N vs) (gE ks l N.length) H σ' bq H') (s':aP K H' σ' bq):Z9 vs ks H H':=by
 obtain⟨hl,hs⟩:=h.slot;refine⟨λa o e n=>(g.keep a o e λz=>?_).1,g.there,λa φ p=>?_⟩
 ·obtain⟨i,s,x,e1,e2,e3,e4⟩:=z;obtain⟨u,h1,h2,h3⟩:=hs i s (n9 e1);obtain⟨φ,rfl,k⟩:=h3 e2;rcases e4 with rfl | e4
  ·exact n φ ⟨i,k,uC e3⟩
  ·cases e4
 ·obtain⟨i,e1,e2⟩:=p;have e3:=h.UE e1;have hi:=(Al.mp e3).1;have e4:(gE ks l N.length)[i]?=am (am (.lu φ)):=by unfold gE;rw [AM hi];exact e3
  rcases g.pk a φ ⟨i,e4,kJ e2⟩ with⟨j,k1,k2⟩ | ⟨_,k⟩
  ·exact s'.ownAt k1 rfl k2
  ·exact k
end
section
variable {st:ul}{f:ce}{N:List Str}
def fnV {m:Pd PV n} (Fn:Pc K x qual st f fd) (S:aq N ps (af st)) (nK:ks.length=ps.length) (one:iR ks)
  (Â:∀l:List PV,l.length=n->∀(bO:bn) (A:nn) (outer:List Env) (s:ci) (H:Hp) (E:XK),cB k (A.deeper (pc qual (af st) s.heap.objs.size f bO))->SF (gD lj P w K mg base N qual (af st) f bO A outer s H E).uJ K false (gE ks l N.length) (aV st) (cn n m l) .rt) :
  gG P w K mg base lj (k+1) f fd ps (fV K ks (cn n m)):=by
 refine Fn.ok S (λvs H Q E h=>?_) (λbO A outer s H vs Q E hr h=>?_)
 ·obtain⟨l,h,_⟩:=h;rw [h.len];exact nK
 obtain⟨l,h,q⟩:=h;refine⟨_,(Â l (iU q) bO A outer s H E hr).p,h.beg one N,(cn n m l).mono (λv q1 u σ' bq H' g s' r=>q1 u H' (h.go g s') r) q⟩
def fnL {m:Pd (List PV) n} (Fn:Pc K x qual st f fd) (S:aq N ps (af st)) (nK:ks.length=ps.length) (one:iR ks)
  (Â:∀l:List PV,l.length=n->∀(bO:bn) (A:nn) (outer:List Env) (s:ci) (H:Hp) (E:XK),cB k (A.deeper (pc qual (af st) s.heap.objs.size f bO))->SF (gD lj P w K mg base N qual (af st) f bO A outer s H E).uJ K false (gE ks l N.length) (aV st) (cn n m l) .rl) :
  gG P w K mg base lj (k+1) f fd ps (fh K ks (cn n m)):=by
 refine Fn.ok S (λvs H Q E h=>?_) (λbO A outer s H vs Q E hr h=>?_)
 ·obtain⟨l,h,_⟩:=h;rw [h.len];exact nK
 obtain⟨l,h,q⟩:=h;have sr:=h.beg one N;refine⟨_,(Â l (iU q) bO A outer s H E hr).p,sr,(cn n m l).mono (λz q1 a ws σ' bq H' g s' fr e r=>q1 a ws H' (h.go g s') ?_ e r) q⟩;rcases fr with fr | ⟨i,t,x,e1,e2,np,e3,e4⟩
 ·exact fr
 ·obtain⟨_,_,_,h3⟩:=h.slot.2 i t (n9 e1);obtain⟨φ,e,_⟩:=h3 e2;exact absurd e (np φ)
end
def cq:iR []:=λi j ⟨_,h⟩=>by simp at h
def eU (h:iR ks):iR (.v::ks):=λi j ⟨φ,a⟩ ⟨ψ,b⟩=>by
 cases i with
 | zero=>simp at a
 | succ i=>
  cases j with
  | zero=>simp at b
  | succ j=>rw [h i j ⟨φ,by simpa using a⟩ ⟨ψ,by simpa using b⟩]
def ar:iR (.p φ::Am n .v):=λi j ⟨χ,a⟩ ⟨ψ,b⟩=>by
 have z:∀{i:Nat}{χ:List V->Prop},(AK.p φ::Am n .v)[i]?=am (.p χ)->i=0:=λ{i χ} a=>by
  cases i with
  | zero=>rfl
  | succ i=>
   have a:(Am n AK.v)[i]?=am (.p χ):=by simpa using a
   rw [Bq] at a
   split at a <;> simp at a
 rw [z a,z b]
end
end FL
namespace L2
open PySem PySem.Spec PyProof.Rows
def Ye (K:Ab):R2:=λx y H Q=>∃a b xs zs,x=.ref a/\y=.ref b/\dP K H a xs/\dP K H b zs/\xs.length+zs.length<=sizeLine/\ke H (.lst (xs++zs)) Q
theorem Qx (K:Ab) (hK:X.K=K):jG X (pr .Add) (Ye K):=by
 subst hK;intro Z s σ H x y v u Q I rx ry h;obtain⟨l,b,xs,zs,rfl,rfl,hH,hB,hz,q⟩:=h;cases rx;cases ry;obtain⟨ak,r,⟨⟨cls,dd,data,sl⟩,n,ho,hc,hd,kq⟩,_⟩:=I.list hH;obtain⟨cT,r2,⟨⟨Wh,RS,data2,O4⟩,n2,Kz,NM,Ó,S9⟩,_⟩:=I.list hB;simp only at hc hd kq NM Ó S9;subst hc hd kq NM Ó S9;have e:ak.toArray++cT.toArray=(ak++cT).toArray:=by simp
 have hl:=r.length;have O9:=r2.length;refine concat_meets ⟨_,ho,rfl⟩ ⟨_,Kz,rfl⟩ noFill_list_add seq_list_add PySem.F.slot_list_add PySem.F.entry_list_add (PySem.F.args_list_add_2 _ _) (list_addW l b ak.toArray cT.toArray n n2 bm bm sl O4 (by simp;omega)) ⟨ho,Kz,?_⟩;rw [e];exact⟨.ref _,_,I.U9 (t':=s.toks) (r.append r2) (by rw [Ak];omega),rfl,q.at _ I.fresh⟩
end L2
variable {hi:FL.W (Option Int)}
namespace FL
section
open PySem PySem.Spec PyProof.Rows L2 PL
variable {K:Ab}
section
variable {a c:gt}{w:W PV}{wm:W (List PV)}
def nW (l m:List PV):W (List PV):=.eQ (l.length+m.length<=sizeLine) (.ret (l++m))
def fQL (K:Ab) (fs:bp) (w:W (List PV)):TE:=λσ H Q=>aP K H σ fs/\w.run λl=>∀u H',cJ σ fs H H'->aP K H' σ fs->R9 K σ fs H' u l->(∀ý,cJ σ fs H' ý->aP K ý σ fs->∃a vs,u=.ref a/\dP K ý a vs/\aB K [] ý vs l)->Q u H'
structure Lf (X:Cx) (K:Ab) (fs:bp) (e:gt) (w:W (List PV)):Prop where p:PE X e (fQL K fs w)
def cM (h:LF X K fs e wl):Lf X K fs e wl:=⟨PE.imp h.p λσ H Q ⟨sr,q⟩=>⟨sr,wl.mono (λl q1 a vs H1 g1 s1 n e v=>q1 _ H1 g1 s1 (.inr ⟨a,rfl,.inl ⟨sr.noOwn n,vs,e,v⟩⟩) λH2 g2 s2=>⟨a,vs,rfl,dP.of (g2.uS e (sr.noOwn n)),g2.Lx s1 v⟩) q⟩⟩
def Mi (i:Nat) (hs:fs[i]?=am (am (.ol q0 l)):=by rfl) (hN:X.N[i]?=am x:=by rfl) (hv:HK X.env.scope x:=by first | exact Di rfl | exact C1 (Di rfl) | exact C1 (C1 rfl)) (hd:jS x:=by decide) (kr:JM x:=by decide):Lf X K fs (.Name x pos) (.ret l):=
 ⟨PE.imp (fe hN hv hd kr) λσ H Q ⟨sr,q⟩=>by
  obtain⟨a,ws,e1,h1,r1⟩:=c9 sr hs;refine⟨_,e1,q _ H .refl sr (.inr ⟨a,rfl,.inr ⟨i,q0,hs,e1⟩⟩) λH2 g2 s2=>?_⟩;obtain⟨a',oB,xJ,gY,FU⟩:=c9 s2 hs;rw [e1] at xJ;cases xJ;exact⟨a,oB,rfl,dP.of gY,FU⟩⟩
def wu:PV->W (List PV)
 | .cl l=>.ret l
 | _=>.fail
def me (h:EF X K fs e w):Lf X K fs e (.bind w wu):=⟨PE.imp h.p λσ H Q ⟨sr,q⟩=>⟨sr,w.mono (λx q1 u1 H1 g1 s1 v1=>by
 cases v1 with
 | cl e r=>exact q1 _ H1 g1 s1 (.inl ⟨_,_,rfl,.inl e,r⟩) λH2 g2 s2=>⟨_,_,rfl,((g2.dZ s1).f _ _ e).sq,g2.Lx s1 r⟩
 | _=>exact q1.elim) q⟩⟩
def nG (hK:X.K=K) (ha:Lf X K fs a wl) (hb:Lf X K fs b wm):LF X K fs (.BinOp a .Add b pos) (.bind wl λl=>.bind wm λm=>nW l m):=⟨PE.imp (IE (Qx K hK) ha.p hb.p) λσ H Q ⟨sr,q⟩=>⟨sr,wl.mono (λl q1 u1 H1 g1 s1 _ v1=>⟨s1,wm.mono (λm q2 u2 H2 g2 s2 _ v2=>by
 obtain⟨a,vs,rfl,h1,r1⟩:=v1 H2 g2 s2;obtain⟨b,ws,rfl,h2,r2⟩:=v2 H2 .refl s2;refine⟨a,b,vs,ws,rfl,rfl,h1,h2,by rw [r1.length,r2.length];exact q2.1,λp H3 s3 h3 n3=>?_⟩;have gg:=g1.trans g2;exact q2.2 p _ H3 (gg.trans (cJ.same s3)) (s2.same s3) (gg.there p n3) h3 (aB.tk s3.dY (r1.append r2))) q1⟩) q⟩⟩
def IP {Q:VK} (g1:cJ σ fs H H1) (s1:aP K H1 σ fs) (r:aB K [] H1 vs l) (q:∀a vs H',cJ σ fs H H'->aP K H' σ fs->H a=bm->H' a=am (.lst vs)->aB K [] H' vs l->Q (.ref a) H'):ke H1 (.lst vs) Q:=λp H2 s2 h2 n2=>q p vs H2 (g1.trans (cJ.same s2)) (s1.same s2) (g1.there p n2) h2 (aB.tk s2.dY r)
def M7 (K:Ab):CL K (Me K) .ret:=λ{fs σ H Q u l} s v q=>by
 obtain⟨a,vs,rfl,h,rs⟩:=v.sq s;exact⟨a,vs,rfl,h,IP .refl s rs q⟩
def Vf (hK:X.K=K) (hg:Gl X "list") (hm:X.mg "list"=bm) (ha:QF X K fs e wl) (he:gs X e []:=by rfl) (dW:lq X pos []:=by rfl):LF X K fs (.Call (.Name "list" p) [e] [] pos) wl:=Nd (m:=.ret) (HC K hK) (M7 K) hg hm boot_list ha ⋯ ⋯ he dW
def d9 (hK:X.K=K) (hg:Gl X "tuple") (hm:X.mg "tuple"=bm) (ha:QF X K fs e wl) (he:gs X e []:=by rfl) (dW:lq X pos []:=by rfl):EF X K fs (.Call (.Name "tuple" p) [e] [] pos) (.bind wl mQ):=KP (K1 K hK) (Pq K) hg hm boot_tuple ha ⋯ ⋯ he dW
def sI (hK:X.K=K) (hg:Gl X "len") (hm:X.mg "len"=bm) (ha:QF X K fs e wl) (he:gs X e []:=by rfl) (dW:lq X pos []:=by rfl):EF X K fs (.Call (.Name "len" p) [e] [] pos) (.bind wl zr):=Ox (ve K hK) (QS K) hg hm boot_len ha ⋯ ⋯ he dW
def OV (ha:EF X K fs e w) (he:f8 [e] X.env=(false,ii e X.env)::f8 [] X.env):AF X K fs [e] (Am 1 .v) (R:=R) (λk=>.bind w λx=>k [x]):=aa ha ai he
def fg (hK:X.K=K) (hg:Gl X "len") (hm:X.mg "len"=bm) (ha:EF X K fs e w) (he:gs X e []:=by rfl) (dW:lq X pos []:=by rfl):EF X K fs (.Call (.Name "len" p) [e] [] pos) (.bind w λx=>qv fD [x]):=qH (n:=1) (ve K hK) (RZ K) hg hm boot_len (OV ha he) ⋯ ⋯ he dW
def Tp (hg:Gl X "abs") (hm:X.mg "abs"=bm) (ha:EF X K fs e w) (he:gs X e []:=by rfl) (dW:lq X pos []:=by rfl):EF X K fs (.Call (.Name "abs" p) [e] [] pos) (.bind w λx=>qv Fz [x]):=qH (n:=1) OJ R1 hg hm boot_abs (OV ha he) ⋯ ⋯ he dW
def RH (hg:Gl X "int") (hm:X.mg "int"=bm) (ha:EF X K fs e w) (he:gs X e []:=by rfl) (dW:lq X pos []:=by rfl):EF X K fs (.Call (.Name "int" p) [e] [] pos) (.bind w λx=>qv HG [x]):=Ow (n:=1) K6 R0 hg hm boot_int (OV ha he) ⋯ ⋯ he dW
def ZP (hc:X.calm=true) (hg:Gl X "max") (hm:X.mg "max"=bm) (ha:EF X K fs a wa) (hb:EF X K fs b wb) (he:f8 [a,b] X.env=(false,ii a X.env)::f8 [b] X.env:=by rfl) (VJ:gs X b []:=by rfl) (dW:(wv pos (f8 [b] X.env)).any (·.1)=false:=by rfl):EF X K fs (.Call (.Name "max" p) [a,b] [] pos) (.bind wa λx=>.bind wb λy=>qv K9 [x,y]):=qH (n:=2) (K3 hc) RY hg hm boot_max (aa ha (aa hb ai VJ) he) ⋯ ⋯ he dW
def ZO (hc:X.calm=true) (hg:Gl X "min") (hm:X.mg "min"=bm) (ha:EF X K fs a wa) (hb:EF X K fs b wb) (he:f8 [a,b] X.env=(false,ii a X.env)::f8 [b] X.env:=by rfl) (VJ:gs X b []:=by rfl) (dW:(wv pos (f8 [b] X.env)).any (·.1)=false:=by rfl):EF X K fs (.Call (.Name "min" p) [a,b] [] pos) (.bind wa λx=>.bind wb λy=>qv K8 [x,y]):=qH (n:=2) (K2 hc) RX hg hm boot_min (aa ha (aa hb ai VJ) he) ⋯ ⋯ he dW
def YG (hK:X.K=K) (hc:X.calm=true) (ě:Gl X "list") (ė:X.mg "list"=bm) (Ě:Gl X "reversed") (Ll:X.mg "reversed"=bm) (he:Lf X K fs e wl)
  (FV:f8 [.Call (.Name "reversed" p3) [e] [] p4] X.env=(false,ii (.Call (.Name "reversed" p3) [e] [] p4) X.env)::f8 [] X.env:=by rfl) (qC:gs X e []:=by rfl) :
  LF X K fs (.Call (.Name "list" p1) [.Call (.Name "reversed" p3) [e] [] p4] [] p2) (.bind wl λl=>.ret l.reverse):=⟨PE.imp (Gn K hK hc ě ė Ě Ll he.p FV qC) λσ H Q ⟨sr,q⟩=>⟨sr,wl.mono (λl q1 u1 H1 g1 s1 _ v1=>by
 obtain⟨a,vs,rfl,h1,r1⟩:=v1 H1 .refl s1;exact⟨a,vs,rfl,h1,IP g1 s1 r1.reverse q1⟩) q⟩⟩
def jg (k:Kd) (x:PV):W PV:=match x with
 | .ref _=>.fail
 | .ty _=>.fail
 | x=>.ret (.bl (k.is x))
def SG (K:Ab):List V->Hp->VK->Prop:=λxs H Q=>∃x c t b,xs=[x,.ty c]/\(lE K H x t\/(t=.type "tuple"/\∃a vs,x=.ref a/\dG K H a vs)\/(t=.type "list"/\∃a vs,x=.ref a/\dP K H a vs)\/(t=.type "dict"/\∃a,x=.ref a/\IsD H a))/\Br K t (.type c)=am b/\Q (.bl b) H
def K5 (hK:X.K=K):bN X (.builtin "isinstance") (SG K):=by
 subst hK;intro Z s σ H xs us Q I r h;obtain⟨x,c,t,b,rfl,ty | ty | ⟨rfl,a,vs,rfl,hL⟩ | ⟨rfl,a,rfl,hD⟩,e,q⟩:=h
 ·exact pW Z s σ H _ us Q I r ⟨x,c,t,b,rfl,ty,e,q⟩
 ·exact K4 X.K rfl Z s σ H _ us Q I r ⟨x,c,t,b,rfl,.inr ty,e,q⟩
 ·obtain⟨u,w,rfl,r1,r2⟩:=vals2 r;cases r1;cases r2;obtain⟨ak,_,⟨o,n,h1,h2,_⟩,_⟩:=I.list hL;exact A7 D6 I.uT ⟨o,h1,h2⟩ e (λz=>nomatch z) λtk=>⟨.bl b,H,I.tok _,rfl,q⟩
 ·obtain⟨u,w,rfl,r1,r2⟩:=vals2 r;cases r1;cases r2;have:∃o,s.heap.get? a=am o/\o.cls=.type "dict":=by
   rcases hD with⟨kvs,e⟩ | ⟨kvs,e⟩
   ·obtain⟨_,_,vs,_,o,_,_,h1,h2,_⟩:=Fl I.bu e;exact⟨o,h1,h2.1⟩
   ·obtain⟨_,_,xs,_,o,_,_,h1,h2,_⟩:=z9 I.bu e;exact⟨o,h1,h2.1⟩
  obtain⟨o,h1,h2⟩:=this;exact A7 D7 I.uT ⟨o,h1,h2⟩ e (λz=>nomatch z) λtk=>⟨.bl b,H,I.tok _,rfl,q⟩
def jQ (hK:X.K=K) (k:Kd) (hg:Gl X "isinstance") (hm:X.mg "isinstance"=bm) (ha:EF X K fs a wa) (hgx:Gl X x) (hmx:X.mg x=bm) (hv:im x=am (.type k.name)) (hn:x≠"__name__":=by decide) (hd:jS x:=by decide)
  (he:f8 [a,.Name x p2] X.env=(false,ii a X.env)::f8 [.Name x p2] X.env:=by rfl) (VJ:f8 [Expr.Name x p2] X.env=(false,ii (.Name x p2) X.env)::f8 [] X.env:=by rfl)
  (dW:(wv pos (f8 [Expr.Name x p2] X.env)).any (·.1)=false:=by rfl):EF X K fs (.Call (.Name "isinstance" p) [a,.Name x p2] [] pos) (.bind wa (jg k)):=
 ⟨PE.imp (eT (K5 hK) hg hm boot_isinstance (aU ha.p (aU (Qo (v:=.ty k.name) hgx hmx hv rfl hn hd) bP VJ) he) ⋯ ⋯ he dW) λσ H Q ⟨sr,q⟩=>⟨sr,wa.mono (λx q1 u1 H1 g1 s1 v1=>by
  have fin:∀{t:bn}{y:PV},lE K H1 u1 t->Br K t (.type k.name)=am (k.is y)->Q (.bl (k.is y)) H1->SG K [u1,.ty k.name] H1 Q:=λty e q=>⟨_,_,_,_,rfl,.inl ty,e,q⟩;cases v1 with
  | aD=>exact fin (y:=.aD) .aD (by rw [(qA K).1 k];cases k <;> rfl) (q1 _ H1 g1 s1 (.bl _))
  | bl b=>exact fin (.bl b) (Vl K b k) (q1 _ H1 g1 s1 (.bl _))
  | int b=>exact fin (.int b) (Q2 K b k) (q1 _ H1 g1 s1 (.bl _))
  | str b=>exact fin (.str b) (Q1 K b k) (q1 _ H1 g1 s1 (.bl _))
  | ty n=>exact q1.elim
  | ref n=>exact q1.elim
  | @dk a o kvs ks l e k1 r=>exact⟨_,_,_,_,rfl,.inr (.inr (.inr ⟨rfl,_,rfl,.inl ⟨_,.inr ⟨_,e⟩⟩⟩)),(show _=am (k.is (.dv ks l)) by rw [(qA K).2.2 k];cases k <;> rfl),q1 _ H1 g1 s1 (.bl _)⟩
  | @dt a o kvs ks l e k1 r=>exact⟨_,_,_,_,rfl,.inr (.inr (.inr ⟨rfl,_,rfl,.inr ⟨_,.inr ⟨_,e⟩⟩⟩)),(show _=am (k.is (.dv ks l)) by rw [(qA K).2.2 k];cases k <;> rfl),q1 _ H1 g1 s1 (.bl _)⟩
  | @cl p vs l e r=>exact⟨_,_,_,_,rfl,.inr (.inr (.inl ⟨rfl,_,_,rfl,e.sq⟩)),(show _=am (k.is (.cl l)) by rw [(qA K).2.1 k];cases k <;> rfl),q1 _ H1 g1 s1 (.bl _)⟩
  | @tup p vs l e r=>exact⟨_,_,_,_,rfl,.inr (.inl ⟨rfl,_,_,rfl,dG.of e⟩),Q0 K _ k,q1 _ H1 g1 s1 (.bl _)⟩) q⟩⟩
def P0 (l:List PV):PV->W (List PV)
 | .int k=>.eQ (-(2 ^ 63)<=k/\k < 2 ^ 63/\l.length*k.toNat<=sizeLine) (.ret (Am k.toNat l).flatten)
 | _=>.fail
def YH (ha:LF X K fs a wl) (hb:EF X K fs b wb):LF X K fs (.BinOp a .Mult b pos) (.bind wl λl=>.bind wb λy=>P0 l y):=⟨PE.imp (IE UP ha.p hb.p) λσ H Q ⟨sr,q⟩=>⟨sr,wl.mono (λl q1 a vs H1 g1 s1 n e v=>⟨s1,wb.mono (λy q2 u2 H2 g2 s2 v2=>by
 cases v2 with
 | int k=>
  have no:=sr.noOwn n;have e2:=(g2.uS e no);have r2:=g2.Lx s1 v;refine⟨a,k,vs,rfl,rfl,e2,q2.1.1,q2.1.2.1,by rw [r2.length];exact q2.1.2.2,λp hp=>?_⟩;have sm:=j6 hp (.lst (Am k.toNat vs).flatten);have gg:=g1.trans g2;exact q2.2 p _ _ (gg.trans (cJ.same sm)) (s2.same sm) (gg.there p hp) aN (aB.tk sm.dY (r2.rep k.toNat))
 | _=>exact q2.elim) q1⟩) q⟩⟩
def part:PV->W (Option Int)
 | .int i=>.ret (am i)
 | _=>.fail
def rq:OF X K fs bm (.ret bm):=⟨PO.imp Qb λσ H Q ⟨sr,q⟩=>q H .refl sr⟩
def Gr (h:EF X K fs e w):OF X K fs (am e) (.bind w part):=⟨PO.imp (Qa h.p) λσ H Q ⟨sr,q⟩=>⟨sr,w.mono (λx q1 u1 H1 g1 s1 v1=>by
 cases v1 with
 | int i=>exact⟨_,rfl,q1 H1 g1 s1⟩
 | _=>exact q1.elim) q⟩⟩
def lS:List PV->W (List Int)
 | []=>.ret []
 | .int i::r=>.bind (lS r) λl=>.ret (i::l)
 | _=>.fail
theorem fH:∀{l:List PV}{Q:List Int->Prop},(lS l).run Q->∃ns:List Int,l=ns.map PV.int/\Q ns
 | [],Q,h=>⟨[],rfl,h⟩
 | .int b::r,Q,h=>by
  obtain⟨bs,e,q⟩:=fH (l:=r) h;exact⟨b::bs,by rw [e];rfl,q⟩
 | .aD::r,Q,h=>h.elim
 | .bl _::r,Q,h=>h.elim
 | .str _::r,Q,h=>h.elim
 | .tup _::r,Q,h=>h.elim
 | .ref _::r,Q,h=>h.elim
 | .ty _::r,Q,h=>h.elim
 | .cl _::r,Q,h=>h.elim
@[simp] theorem fJ:∀bs:List Int,lS (bs.map PV.int)=.ret bs
 | []=>rfl
 | b::bs=>by
  show ap (lS (bs.map PV.int)) _=_;rw [fJ bs];rfl
end
end
end FL
variable {k2:Nat}
namespace FL
section
open PySem PySem.Spec PyProof.Rows L2 PL
variable {K:Ab}
abbrev b2 (m:M2) (wa wb:W PV):W PV:=.bind wa λx=>.bind wb λy=>of2 m x y
abbrev t2 (m:M2) (wa wb:W PV):W Bool:=.bind wa λx=>.bind wb λy=>.bind (of2 m x y) Z4
abbrev c1 (m:yq) (w:W PV):W PV:=.bind w λx=>qv m [x]
abbrev c7 (wl:W (List PV)) (wb:W PV):W PV:=.bind wl λl=>.bind wb λy=>S1 l y
abbrev LG (a b:W Bool):W Bool:=.bind a λk=>if k=true then b else .ret false
abbrev tor (a b:W Bool):W Bool:=.bind a λk=>if k=true then .ret true else b
abbrev LB (a:W Bool):W Bool:=.bind a λk=>.ret (!k)
abbrev eH {α:Type} (t:W Bool) (a b:W α):W α:=.bind t λk=>if k=true then a else b
section
variable {a c:gt}{rest:List ul}{S T T2:Type}{hd:S->bp}{s0:S}{w:W PV}{wt:PV->W T2}{cW:S->T2->bp}{k:S->W T}{out:T->End}{x:Bool}
def SF.xn {f:PV->S->W S} (hp:ww (dL X.prog X.w) X.A X.env X.xe) (hc:X.calm=true) (hi:uw X K fs tg iter wl) (hl:iq fs (hd s0)) (hg:PG X tg (gN i)) (hb:∀s p,SF X K false ((hd s).set i (am (.val p))) body (f p s) λs'=>.nc (hd s')) (hr:∀s,SF X K x (hd s) rest (k s) out) (hs:yr X iter:=by intro _;rfl) :
  SF X K x fs (.For tg iter body [] pos::rest) (.bind wl λl=>.bind (cV l s0 f) k) out:=SF.for (wt:=.ret) (wb:=λp s=>f p s) hp hc hi hl (λs=>WY hg) (λ_ _=>rfl) hb hr hs
def SF.VS {wb:T2->S->W S} (hp:ww (dL X.prog X.w) X.A X.env X.xe) (hc:X.calm=true) (hi:uw X K fs tg iter wl) (hl:iq fs (hd s0)) (hg:∀s,GF X K (hd s) tg is wt (cW s)) (hb:∀s t,SF X K false (cW s t) body (wb t s) λs'=>.nc (hd s')) (hr:∀s,SF X K x (hd s) rest (k s) out) (hs:yr X iter:=by intro _;rfl) :
  SF X K x fs (.For tg iter body [] pos::rest) (.bind wl λl=>.bind (cV l s0 λp s=>.bind (wt p) λt=>wb t s) k) out:=SF.for hp hc hi hl hg (λ_ _=>rfl) hb hr hs
def SF.Tb {inj:R->T}{f:PV->S->W (Lp S R)} (hp:ww (dL X.prog X.w) X.A X.env X.xe) (hc:X.calm=true) (hi:uw X K fs tg iter wl) (hl:iq fs (hd s0)) (hg:PG X tg (gN i)) (ho:∀t,(out (inj t)).zF) (hb:∀s p,SF X K false ((hd s).set i (am (.val p))) body (f p s) (lpE hd λr=>out (inj r))) (hr:∀s,SF X K x (hd s) rest (k s) out) (hs:yr X iter:=by intro _;rfl) :
  SF X K x fs (.For tg iter body [] pos::rest) (.bind wl λl=>.bind (FL.nR l s0 f) (Ln k inj)) out:=SF.nR (wt:=.ret) (wb:=λp s=>f p s) hp hc hi hl (λs=>WY hg) (λ_ _=>rfl) ho hb hr hs
def Oi {t:T} (h:(out t).zF):Sg X K x rest (.ret t) out (out t):=by
 cases e:out t with
 | rt v=>exact⟨t,rfl,e⟩
 | rl v=>exact⟨t,rfl,e⟩
 | ro v a l=>exact⟨t,rfl,e⟩
 | _=>rw [e] at h;exact h.elim
def SF.ifF {c:gt}{sa sb:List ul}{pos:Pos}{S:Type}{hd:S->bp}{inj:R->T}{k:S->W T}{w1 w2:W (Lp S R)} (hc:TF X K fs c tc) (ha:SF X K false fs sa w1 (lpX hd λr=>out (inj r))) (hb:SF X K false fs sb w2 (lpX hd λr=>out (inj r))) (ho:∀t,(out (inj t)).zF) (hr:∀s,SF X K x (hd s) rest (k s) out):SF X K x fs (.If c sa sb pos::rest) (.bind tc λb=>.bind (if b=true then w1 else w2) (Ln k inj)) out:=
 SF.ifS hc ha hb λt=>match t with
  | .go s=>hr s
  | .out r=>Oi (ho r)
def SF.XU {fs3:T2->bp}{k:T2->W T} (he:EF X K fs e we) (hg:GF X K fs tg is wt fs3) (hr:∀t,SF X K x (fs3 t) rest (k t) out) (hs:EQ [tg] e pos.line X.env=pure false:=by rfl) (hw:Fa [tg] e X.env=pure bm:=by rfl)
  (h1:(xz [tg] X.env).map (·.2)=[Fk tg X.env]:=by rfl):SF X K x fs (.Assign [tg] e pos::rest) (.bind we λv=>.bind (wt v) k) out:=SF.step (Mp he.p hg.p hs hw h1) λD σ H ⟨sr,q⟩=>
 ⟨sr,we.mono (λv q1 u H1 g1 s1 v1=>⟨v,s1,v1,(wt v).mono (λt q2 us g2 s2=>⟨_,k t,hr t,s2,(k t).mono (λt' q3=>q3.go (g1.f.trans g2) sr s2) q2⟩) q1⟩) q⟩
def SF.par {UC:Pos}{kt:Nat}{k:PV->PV->W T} (hc:X.calm=true) (hN:X.N.Nodup) (hi:X.N[i]?=am y) (hj:X.N[j]?=am z) (Zc:i≠j) (hx:X.env.scope.names.lookup y=am .local) (hy:X.env.scope.names.lookup z=am .local)
  (ha:EF X K fs a wa) (hb:EF X K fs b wb) (hr:∀u v,SF X K x ((fs.set i (am (.val u))).set j (am (.val v))) rest (k u v) out)
  (hw:Fa [.Tuple [.Name y px,.Name z py] kt pt] (.Tuple [a,b] k2 UC) X.env=pure (am [y,z]):=by rfl) (hs:EQ [.Tuple [.Name y px,.Name z py] kt pt] (.Tuple [a,b] k2 UC) pos.line X.env=pure false:=by rfl)
  (he:f8 [a,b] X.env=(false,ii a X.env)::f8 [b] X.env:=by rfl) (VJ:gs X b []:=by rfl) :
  SF X K x fs (.Assign [.Tuple [.Name y px,.Name z py] kt pt] (.Tuple [a,b] k2 UC) pos::rest) (.bind wa λu=>.bind wb λv=>k u v) out:=
 SF.step (UD hc hN hi hj Zc hx hy (aU ha.p (aU hb.p bP VJ) he) hw hs) λD σ H ⟨sr,q⟩=>⟨sr,wa.mono (λu q1 u1 H1 g1 s1 v1=>⟨s1,wb.mono (λv q2 u2 H2 g2 s2 v2=>by
  have s3:=s2.jU (g2.vr s1 v1) i;have s4:=s3.jU v2 j;exact⟨_,_,rfl,_,k u v,hr u v,s4,(k u v).mono (λt q3=>q3.go (((g1.trans g2).f.trans (cX.jU s2 _ _ i)).trans (cX.jU s3 _ _ j)) sr s4) q2⟩) q1⟩) q⟩
def LC (v:PV):W PV:=.eQ (v.dat=true) (.ret v)
def LD (l:List PV):W (List PV):=.eQ (ug l=true) (.ret l)
mutual
theorem VR.kW {ι:List ce}{H H':Hp} (t:∀p vs,H p=am (.tup vs)->H' p=am (.tup vs)):∀{v:V}{q:PV},VR K ι H v q->q.dat=true->VR K [] H' v q
 | _,_,.aD,_=>.aD
 | _,_,.bl b,_=>.bl b
 | _,_,.int i,_=>.int i
 | _,_,.str x,_=>.str x
 | _,_,.ty n,h=>by rw [PV.dat] at h;cases h
 | _,_,.tup e r,h=>.tup (t _ _ e) (aB.kW t r (by rw [PV.dat] at h;exact h))
 | _,_,.cl e r,h=>by rw [PV.dat] at h;cases h
 | _,_,.dk _ _ _,h=>by rw [PV.dat] at h;cases h
 | _,_,.dt _ _ _,h=>by rw [PV.dat] at h;cases h
 | _,_,.ref e,h=>by rw [PV.dat] at h;cases h
theorem aB.kW {ι:List ce}{H H':Hp} (t:∀p vs,H p=am (.tup vs)->H' p=am (.tup vs)):∀{v:List V}{q:List PV},aB K ι H v q->ug q=true->aB K [] H' v q
 | _,_,.nil,_=>.nil
 | _,_,.cons r s,h=>by
  rw [ug,AE] at h;exact .cons (VR.kW t r h.1) (aB.kW t s h.2)
end
def bor (I:Inv X Z σ H s) (sr:aP K H σ fs) (hs:fs[i]?=am (am t)) (hb:t.bw=true):∃a o ob,Inv X Z σ (upd H a (.cI ob o)) s/\aP K (upd H a (.cI ob o)) σ (fs.set i (am (.val t.bv)))/\
  ∀σ' s' H1,Inv X Z σ' H1 s'->cJ σ (fs.set i (am (.val t.bv))) (upd H a (.cI ob o)) H1->aP K H1 σ (fs.set i (am (.val t.bv)))->Inv X Z σ' (upd H1 a o) s'/\cJ σ fs H (upd H1 a o)/\aP K (upd H1 a o) σ fs/\(∀p vs,H1 p=am (.tup vs)->upd H1 a o p=am (.tup vs))/\∀p vs,p≠a->H1 p=am (.lst vs)->upd H1 a o p=am (.lst vs):=by
 have ho:=SL.OK hb;obtain⟨u,e1,⟨v,e,_⟩ | ⟨a,e,oa⟩⟩:=sr.at' i _ hs
 ·subst e;cases hb
 subst e;obtain⟨ob,o,h1,n1,n2,I2,vr⟩:=Zw I oa hb;have h0:∀o u,X.H₀ a≠am (.cI o u):=λo u z=>by
  have:=I.base.su a o u z;rw [h1] at this;exact n2 _ _ (Option.some.inj this)
 refine⟨a,o,ob,I2,sr.Zv hs ho e1 h1 n1 n2 vr,λσ' s' H1 J g s1=>?_⟩;have pf:∀φ b,gW σ (fs.set i (am (.val t.bv))) φ b->gW σ fs φ b:=λφ b ⟨j,z1,z3⟩=>by
  rcases cG z1 with⟨_,z⟩ | ⟨n,z1⟩
  ·cases z
  ·exact⟨j,z1,z3⟩
 have npa:∀φ,¬gW σ fs φ a:=λφ ⟨j,z1,z3⟩=>by
  have:=sr.nd j i _ _ a a a z1 hs rfl ho z3 e1 (.inl rfl) (.inl rfl);subst this;rw [hs] at z1;cases z1;cases hb
 have e2:=g.keep a _ aN λφ p=>npa φ (pf φ a p);have hk:=NG J.bu e2;have ge:cJ σ fs H (upd H1 a o):=by
  refine⟨λb o z n=>?_,λb z=>?_⟩
  ·by_cases c:b=a
   ·subst c;rw [h1] at z;cases z;exact aN
   ·rw [aw c];exact g.keep b o (by rw [aw c];exact z) λφ p=>n φ (pf φ b p)
  ·by_cases c:b=a
   ·subst c;rw [aN] at z;cases z
   ·rw [aw c] at z;have:=g.there b z;rw [aw c] at this;exact this
 refine⟨J.abD e2 h0 (hk a _ aN) hk,ge,⟨sr.len,λj t z=>?_,sr.nd⟩,λp vs z=>?_,λp vs n z=>by rw [aw n];exact z⟩
 ·obtain⟨u,k1,k2⟩:=sr.at' j t z;refine⟨u,k1,?_⟩;by_cases c:∃φ,t=.lu φ
  ·obtain⟨φ,rfl⟩:=c;have ji:j≠i:=λy=>by subst y;rw [hs] at z;cases z;cases hb
   rcases k2 with⟨v,y,_⟩ | ⟨b,rfl,_⟩
   ·cases y
   ·obtain⟨vs,y1,y2⟩:=s1.ownAt (t:=.lu φ) (i:=j) (by rw [aK ji];exact z) rfl k1;refine .inr ⟨b,rfl,vs,?_,y2⟩;rw [aw (λy=>by subst y;exact npa φ ⟨j,z,k1⟩)];exact y1
  ·refine k2.mono (ge.dZ sr) (λx b o eb ow hb zz=>ge.keep b o zz λφ ⟨j',p1,p3⟩=>?_);subst eb;have:=sr.nd j j' t _ x b b z p1 ow rfl k1 p3 hb (.inl rfl);subst this;rw [z] at p1;cases p1;exact c ⟨φ,rfl⟩
 ·rw [aw (λy=>by subst y;rw [e2] at z;cases z)];exact z
def ZS (i:Nat) (hs:fs[i]?=am (am t)) (h:EF X K (fs.set i (am (.val t.bv))) e w) (hb:t.bw=true:=by rfl):EF X K fs e (.bind w LC):=⟨λZ s σ H Q I ⟨sr,q⟩=>by
 obtain⟨a,o,ob,I2,s2,Í⟩:=bor I sr hs hb;refine bR (h.p Z s σ _ (λu H1=>∃v,cJ σ (fs.set i (am (.val t.bv))) (upd H a (.cI ob o)) H1/\aP K H1 σ (fs.set i (am (.val t.bv)))/\VR K [] H1 u v/\v.dat=true/\∀u H',cJ σ fs H H'->aP K H' σ fs->VR K [] H' u v->Q u H') I2 ⟨s2,w.mono (λv q1 u H1 g1 s1 v1=>⟨v,g1,s1,v1,q1.1,q1.2⟩) q⟩) λu s1 ⟨x,H1,I1,r1,v,g1,Um,v1,d,q1⟩=>?_;obtain⟨I3,g3,s3,t3,_⟩:=Í σ s1 H1 I1 g1 Um;exact⟨x,_,I3,r1,q1 x _ g3 s3 (VR.kW t3 v1 d)⟩⟩
def YL (i:Nat) (hs:fs[i]?=am (am t)) (h:LF X K (fs.set i (am (.val t.bv))) e wl) (hb:t.bw=true:=by rfl):LF X K fs e (.bind wl LD):=⟨λZ s σ H Q I ⟨sr,q⟩=>by
 obtain⟨a,o,ob,I2,s2,Í⟩:=bor I sr hs hb;refine bR (h.p Z s σ _ (λu H1=>∃b vs l',u=.ref b/\cJ σ (fs.set i (am (.val t.bv))) (upd H a (.cI ob o)) H1/\aP K H1 σ (fs.set i (am (.val t.bv)))/\upd H a (.cI ob o) b=bm/\H1 b=am (.lst vs)/\aB K [] H1 vs l'/\ug l'=true/\∀a vs H',cJ σ fs H H'->aP K H' σ fs->H a=bm->H' a=am (.lst vs)->aB K [] H' vs l'->Q (.ref a) H') I2 ⟨s2,wl.mono (λl' q1 b vs H1 g1 s1 n e v1=>⟨b,vs,l',rfl,g1,s1,n,e,v1,q1.1,q1.2⟩) q⟩) λu s1 ⟨x,H1,I1,r1,b,vs,l',e,g1,Um,n,eb,v1,d,q1⟩=>?_;subst e;obtain⟨I3,g3,s3,t3,k3⟩:=Í σ s1 H1 I1 g1 Um;have nb:b≠a:=λy=>by subst y;rw [aN] at n;cases n
 exact⟨_,_,I3,r1,q1 b vs _ g3 s3 (by rw [aw nb] at n;exact n) (k3 b vs nb eb) (aB.kW t3 v1 d)⟩⟩
end
end
end FL
variable {G:List Int->Prop}
namespace FL
section
open PySem PySem.Spec PyProof.Rows L2 PL
variable {K:Ab}
def XS (K:Ab) (m:List PV->List PV->W (PV×List PV)):Sp:=λvs H Q _=>∃a Sq ws lo l,vs=.ref a::Sq/\H a=am (.lst ws)/\aB K [] H ws lo/\aB K [] H Sq l/\(m lo l).run λt=>∀u oB H',pX a H H'->(∀b,H' b=bm->H b=bm)->H' a=am (.lst oB)->aB K [] H' oB t.2->VR K [] H' u t.1->Q u H'
section
variable {st:ul}{f:ce}{N:List Str}
def OL (a:ce) (lo l:List PV) (n:Nat):bp:=am (.ol (am a) lo)::(l.map λv=>am (SL.val v))++Am (n-1-l.length) bm
def aB.slot (r:aB K [] H vs l) {s:SL} (h:(l.map λv=>am (SL.val v))[i]?=am (am s)):∃u v,vs[i]?=am u/\s=.val v/\VR K [] H u v:=by
 rw [Aj] at h;cases e:l[i]? with
 | none=>rw [e] at h;cases h
 | some v=>
  rw [e] at h;obtain⟨u,h1,h2⟩:=r.get e;cases h;exact⟨u,v,h1,rfl,h2⟩
theorem fnO {m:List PV->Pd (PV×List PV) n} (Fn:Pc K x qual st f fd) (S:aq N ps (af st)) (hn:n+1=ps.length)
  (Â:∀(a:ce) (lo l:List PV),l.length=n->∀(bO:bn) (A:nn) (outer:List Env) (s:ci) (H:Hp) (E:XK),cB k (A.deeper (pc qual (af st) s.heap.objs.size f bO))->SF (gD lj P w K mg base N qual (af st) f bO A outer s H E).uJ K false (OL a lo l N.length) (aV st) (cn n (m lo) l) λt=>.ro t.1 a t.2) :
  gG P w K mg base lj (k+1) f fd ps (XS K λlo l=>cn n (m lo) l):=by
 refine Fn.ok S (λvs H Q E h=>?_) (λbO A outer s H vs Q E hr h=>?_)
 ·obtain⟨a,Sq,ws,lo,l,rfl,_,_,r,q⟩:=h;rw [Ar,r.length,iU q];exact hn
 obtain⟨a,Sq,ws,lo,l,rfl,ha,vP,r,q⟩:=h;have hl:=iU q;have hr2:=r.length;have Rv:∀{i:Nat}{s:SL},(OL a lo l N.length)[i]?=am (am s)->(i=0/\s=.ol (am a) lo)\/∃j u v,i=j+1/\Sq[j]?=am u/\s=.val v/\VR K [] H u v:=λ{i s} e=>by
  unfold OL at e;cases i with
  | zero=>simp at e;exact .inl ⟨rfl,e.symm⟩
  | succ j=>
   rw [List.cons_append,List.getElem?_cons_succ] at e;by_cases c:j < l.length
   ·rw [AM (by simpa using c)] at e;obtain⟨u,v,h1,h2,h3⟩:=aB.slot r e;exact .inr ⟨j,u,v,rfl,h1,h2,h3⟩
   ·rw [AQ (by simpa using c),Bq] at e
    split at e <;> cases e
 have sr:aP K H (L2.start N (.ref a::Sq)) (OL a lo l N.length):=by
  refine⟨?_,λi s e=>?_,λi j s t x y b e1 e2 o1 o2 q1 q2 _ _=>?_⟩
  ·unfold L2.start OL;rw [Ak,Ai,Bn,Ak,Ar,Ar,Ai,Bn];omega
  ·rcases Rv e with⟨rfl,rfl⟩ | ⟨j,u,v,rfl,h1,rfl,h3⟩
   ·exact⟨.ref a,kJ rfl,.inr ⟨a,rfl,λb z=>Option.some.inj z,ws,ha,vP⟩⟩
   ·exact⟨u,kJ (by simpa using h1),.inl ⟨v,rfl,h3⟩⟩
  ·rcases Rv e1 with⟨rfl,rfl⟩ | ⟨j1,u,v,rfl,h1,rfl,h3⟩
   ·rcases Rv e2 with⟨rfl,rfl⟩ | ⟨j1,u,v,rfl,h1,rfl,h3⟩
    ·rfl
    ·cases o2
   ·cases o1
 refine⟨_,(Â a lo l hl bO A outer s H E hr).p,sr,(cn n (m lo) l).mono (λt q1 u σ' bq H' g s' ho rv=>?_) q⟩;obtain⟨i,e⟩:=ho;obtain⟨u',e',r'⟩:=s'.at' i _ e;rcases r' with⟨v,z,_⟩ | ⟨b,rfl,hb,oB,h1,h2⟩
 ·cases z
 have hba:=hb a rfl;subst hba;refine q1 u oB H' (λc o nc e=>(g.keep c o e λz=>?_).1) g.there h1 h2 rv;obtain⟨j,t',x,z1,z2,z3,z4⟩:=z;rcases Rv z1 with⟨rfl,rfl⟩ | ⟨j1,u,v,rfl,_,rfl,_⟩
 ·have:=uC z3;simp at this;rcases z4 with rfl | z4
  ·exact nc this.symm
  ·cases z4
 ·cases z2
def iQ (G:List Int->Prop):List V->Prop:=λws=>∃ns:List Int,ws=ns.map V.int/\G ns
def UG {m:List PV->List PV->W (PV×List PV)}{mp:List PV->W PV} (F:gG P w K mg base lj k f fd ps (XS K m)) (hm:∀ns l Q,G ns->(mp l).run Q->(m (ns.map PV.int) l).run λt=>Q t.1/\∃zb:List Int,t.2=zb.map PV.int/\G zb) :
  gG P w K mg base lj k f fd ps (fV K (.p (iQ G)::Am n .v) mp):=F.imp λvs H Q E h=>by
 obtain⟨l,ha,q⟩:=h;cases ha with
 | @p a φ ws vs ks l e r t=>
  obtain⟨ns,rfl,hG⟩:=r;have tv:∀{n:Nat}{vs:List V}{l:List PV},ic K H vs (Am n .v) l->aB K [] H vs l:=by
   intro n
   induction n with
   | zero=>intro vs l h;cases h;exact .nil
   | succ n ih=>intro vs l h;cases h with | v r t=>exact .cons r (ih t)
  refine⟨a,vs,ns.map V.int,ns.map PV.int,l,rfl,e,nJ _ _ ns,tv t,(m _ _).mono (λt q1 u oB H' sx hth e' r' rv=>?_) (hm ns l _ hG q)⟩;obtain⟨q1,zb,et,hG'⟩:=q1;rw [et] at r';have:=jh r';subst this;refine q1 u H' ⟨λb o eb nb=>sx b o (λz=>?_) eb,hth,λb φ p=>?_⟩ rv
  ·subst z;exact nb _ ⟨0,rfl,rfl⟩
  ·obtain⟨i,e1,e2⟩:=p;cases i with
   | zero=>simp at e1 e2;subst e1;subst e2;exact⟨_,e',zb,rfl,hG'⟩
   | succ i=>
    simp at e1;rw [Bq] at e1
    split at e1 <;> simp at e1
end
section
variable {Ud:List ul}{T:Type}{w:W T}{out:T->End}{x:Bool}
def Yg (G:List Int->Prop) (l:List PV) (w:W T):W T:=.eQ (∃ns:List Int,l=ns.map PV.int/\G ns) w
def SF.lu (i:Nat) (hs:fs[i]?=am (am (.ol bm l))) (hr:SF X K x (fs.set i (am (.lu (iQ G)))) Ud w out):SF X K x fs Ud (Yg G l w) out:=⟨λZ s σ H D I ⟨sr,q⟩=>by
 obtain⟨⟨ns,el,hG⟩,q⟩:=q;obtain⟨a,ws,e1,h1,r1⟩:=c9 sr hs;subst el;have:=jh r1;subst this;obtain⟨s2,g2⟩:=f7 (t':=.lu (iQ G)) sr hs rfl (by simp) e1 (λ_ _ _ z=>z:pX a H H) λtk=>⟨_,h1,ns,rfl,hG⟩;exact hr.p Z s σ H D I ⟨s2,w.mono (λt q2=>q2.go g2 sr s2) q⟩⟩
end
end
section
open PySem PySem.Spec PyProof.Rows L2 PL
variable {K:Ab}
abbrev adL (wa wb:W PV):W PV:=.bind wa λx=>R4 x wb
abbrev He (wl:W (List PV)):W PV:=.bind wl λl=>.ret (.cl l)
abbrev O7 (t:W Bool) (w:W PV):W (Option PV):=.bind t λk=>if k=true then .bind w λv=>.ret (am v) else .ret bm
section
variable {c:gt}{W':W PV}{WL:W (List PV)}
def RN (G:Sk X.prog X.w X.K X.mg X.base x k ps (fV K ks m)) (hr:cB k' X.A) (hk:k<=k') (hg:Gl X x) (ha:AF X K fs (e::es) ks B) (hW:W'=B m) (nM:jS x:=by decide)
  (he:gs X e es:=by rfl) (dW:lq X pos es:=by rfl):EF X K fs (.Call (.Name x p) (e::es) [] pos) W':=hW▸V8 G hr hk hg ha nM he dW
def QY {m:List PV->W (List PV)}{B:(List PV->W (List PV))->W (List PV)} (G:Sk X.prog X.w X.K X.mg X.base x k ps (fh K ks m)) (hr:cB k' X.A) (hk:k<=k') (hg:Gl X x) (ha:AF X K fs (e::es) ks B) (hW:WL=B m) (nM:jS x:=by decide)
  (he:gs X e es:=by rfl) (dW:lq X pos es:=by rfl):LF X K fs (.Call (.Name x p) (e::es) [] pos) WL:=hW▸Vh G hr hk hg ha nM he dW
def aZ {x1} (h:AF X K fs es (Am n .v) B) (hW:W'=B λl=>.ret (.tup l)) (hn:n<=1000:=by decide):EF X K fs (.Tuple es x1 pos) W':=hW▸ZL h hn
def bf {B:(List PV->W (List PV))->W (List PV)} (h:AF X K fs es (Am n .v) B) (hW:WL=B λl=>.ret l) (hn:n<=1000:=by decide):LF X K fs (.List es pos) WL:=hW▸YI h hn
variable {T2:Type}{wt:PV->W T2}{cW:T2->bp}{tf:T2->W Bool}{te:T2->W PV}
def kh {f:PV->W PV} (hc:X.calm=true) (S:aA X.env.scope X.N sc N' ix) (hi:uw X K fs tg iter wl) (hg:∀cl C s2 H2 fp,PG (gU X sc N' cl C s2 H2 fp) tg (gN i)) (he:∀cl C s2 H2 fp t,EF (gU X sc N' cl C s2 H2 fp) K ((cf ix fs).set i (am (.val t))) Ç (f t)) (h0:ix[i]?=am bm) (hs:yr X iter:=by intro _;rfl) :
  LF X K fs (.ListComp Ç [⟨tg,iter,[],0⟩] sc pos) (.bind wl λl=>cv l f):=
 have h1:(cf ix fs)[i]?=am bm:=by unfold cf;rw [Aj,h0];rfl
 SR hc S hi (λcl C s2 H2 fp=>WY (hg cl C s2 H2 fp)) he (λ_=>rfl) (Vd h1) (λj hj=>by rw [Bk] at hj;subst hj;exact h0) hs
def Jb {tf:PV->W Bool}{te:PV->W PV} (hc:X.calm=true) (S:aA X.env.scope X.N sc N' ix) (hi:uw X K fs tg iter wl) (hg:∀cl C s2 H2 fp,PG (gU X sc N' cl C s2 H2 fp) tg (gN i)) (hf:∀cl C s2 H2 fp t,TF (gU X sc N' cl C s2 H2 fp) K ((cf ix fs).set i (am (.val t))) c (tf t)) (he:∀cl C s2 H2 fp t,EF (gU X sc N' cl C s2 H2 fp) K ((cf ix fs).set i (am (.val t))) Ç (te t)) (h0:ix[i]?=am bm) (hs:yr X iter:=by intro _;rfl) :
  LF X K fs (.ListComp Ç [⟨tg,iter,[c],0⟩] sc pos) (.bind wl λl=>mH l λp=>O7 (tf p) (te p)):=
 have h1:(cf ix fs)[i]?=am bm:=by unfold cf;rw [Aj,h0];rfl
 Vg (wt:=.ret) (tf:=tf) (te:=te) hc S hi (λcl C s2 H2 fp=>WY (hg cl C s2 H2 fp)) (λcl C s2 H2 fp t=>Hg (hf cl C s2 H2 fp t)) he (λ_=>rfl) (Vd h1) (λj hj=>by rw [Bk] at hj;subst hj;exact h0) hs
def Ve (hc:X.calm=true) (S:aA X.env.scope X.N sc N' ix) (hi:uw X K fs tg iter wl) (hg:∀cl C s2 H2 fp,GF (gU X sc N' cl C s2 H2 fp) K (cf ix fs) tg is wt cW) (he:∀cl C s2 H2 fp t,EF (gU X sc N' cl C s2 H2 fp) K (cW t) Ç (te t))
  (hl:uv is (cf ix fs) cW/\∀t,iq (cW t) (cf ix fs)) (zG:∀j∈is,ix[j]?=am bm) (hs:yr X iter:=by intro _;rfl) :
  LF X K fs (.ListComp Ç [⟨tg,iter,[],0⟩] sc pos) (.bind wl λl=>cv l λp=>.bind (wt p) te):=SR hc S hi hg he (λ_=>rfl) hl zG hs
def YJ (hc:X.calm=true) (S:aA X.env.scope X.N sc N' ix) (hi:uw X K fs tg iter wl) (hg:∀cl C s2 H2 fp,GF (gU X sc N' cl C s2 H2 fp) K (cf ix fs) tg is wt cW) (hf:∀cl C s2 H2 fp t,TF (gU X sc N' cl C s2 H2 fp) K (cW t) c (tf t)) (he:∀cl C s2 H2 fp t,EF (gU X sc N' cl C s2 H2 fp) K (cW t) Ç (te t))
  (hl:uv is (cf ix fs) cW/\∀t,iq (cW t) (cf ix fs)) (zG:∀j∈is,ix[j]?=am bm) (hs:yr X iter:=by intro _;rfl) :
  LF X K fs (.ListComp Ç [⟨tg,iter,[c],0⟩] sc pos) (.bind wl λl=>mH l λp=>.bind (wt p) λt=>O7 (tf t) (te t)):=Vg hc S hi hg (λcl C s2 H2 fp t=>Hg (hf cl C s2 H2 fp t)) he (λ_=>rfl) hl zG hs
variable {rest:List ul}{T:Type}{out:T->End}{x0:Bool}{kk:List PV->W T}
def QP {wt:PV->W T2}{te:T2->W PV}:(λl=>cv l λp=>.bind (wt p) te)=λl=>mH l λp=>.bind (wt p) λt=>.bind (.ret true) λk=>if k=true then .bind (te t) λv=>.ret (am v) else .ret bm:=funext λl=>by
 rw [wo];rfl
def SF.Iz (hc:X.calm=true) (hN:X.N.Nodup) (NK:X.N[i]?=am y) (hx:X.env.scope.names.lookup y=am .local) (S:aA X.env.scope X.N sc N' ix) (hi:uw X K fs tg iter wl) (hg:∀cl C s2 H2 fp,GF (gU X sc N' cl C s2 H2 fp) K (cf ix fs) tg is wt cW) (he:∀cl C s2 H2 fp t,EF (gU X sc N' cl C s2 H2 fp) K (cW t) Ç (te t))
  (hl:uv is (cf ix fs) cW/\∀t,iq (cW t) (cf ix fs)) (zG:∀j∈is,ix[j]?=am bm) (hr:∀l,SF X K x0 (fs.set i (am (.ol bm l))) rest (kk l) out)
  (wY:mo (.ListComp Ç [⟨tg,iter,[],0⟩] sc pos) (am (.Name y px)) tF.line X.env=pure true:=by rfl) (hs:yr X iter:=by intro _;rfl) :
  SF X K x0 fs (.Assign [.Name y px] (.ListComp Ç [⟨tg,iter,[],0⟩] sc pos) tF::rest) (.bind (.bind wl λl=>cv l λp=>.bind (wt p) te) kk) out:=by
 rw [QP];exact SF.Sv (tf:=λ_=>.ret true) hc hN NK hx S hi hg (λ_ _ _ _ _ _=>N4) he (λp=>rfl) hl zG hr wY hs
def SF.mS {f:PV->W PV} (hc:X.calm=true) (hN:X.N.Nodup) (NK:X.N[i]?=am y) (hx:X.env.scope.names.lookup y=am .local) (S:aA X.env.scope X.N sc N' ix) (hi:uw X K fs tg iter wl) (hg:∀cl C s2 H2 fp,PG (gU X sc N' cl C s2 H2 fp) tg (gN j)) (he:∀cl C s2 H2 fp t,EF (gU X sc N' cl C s2 H2 fp) K ((cf ix fs).set j (am (.val t))) Ç (f t)) (h0:ix[j]?=am bm) (hr:∀l,SF X K x0 (fs.set i (am (.ol bm l))) rest (kk l) out)
  (wY:mo (.ListComp Ç [⟨tg,iter,[],0⟩] sc pos) (am (.Name y px)) tF.line X.env=pure true:=by rfl) (hs:yr X iter:=by intro _;rfl) :
  SF X K x0 fs (.Assign [.Name y px] (.ListComp Ç [⟨tg,iter,[],0⟩] sc pos) tF::rest) (.bind (.bind wl λl=>cv l f) kk) out:=
 have h1:(cf ix fs)[j]?=am bm:=by unfold cf;rw [Aj,h0];rfl
 SF.Iz (wt:=.ret) hc hN NK hx S hi (λcl C s2 H2 fp=>WY (hg cl C s2 H2 fp)) he (Vd h1) (λm hj=>by rw [Bk] at hj;subst hj;exact h0) hr wY hs
def SF.Uj (hc:X.calm=true) (hN:X.N.Nodup) (NK:X.N[i]?=am y) (hx:X.env.scope.names.lookup y=am .local) (S:aA X.env.scope X.N sc N' ix) (hi:uw X K fs tg iter wl) (hg:∀cl C s2 H2 fp,GF (gU X sc N' cl C s2 H2 fp) K (cf ix fs) tg is wt cW) (hf:∀cl C s2 H2 fp t,TF (gU X sc N' cl C s2 H2 fp) K (cW t) c (tf t)) (he:∀cl C s2 H2 fp t,EF (gU X sc N' cl C s2 H2 fp) K (cW t) Ç (te t))
  (hl:uv is (cf ix fs) cW/\∀t,iq (cW t) (cf ix fs)) (zG:∀j∈is,ix[j]?=am bm) (hr:∀l,SF X K x0 (fs.set i (am (.ol bm l))) rest (kk l) out)
  (wY:mo (.ListComp Ç [⟨tg,iter,[c],0⟩] sc pos) (am (.Name y px)) tF.line X.env=pure true:=by rfl) (hs:yr X iter:=by intro _;rfl) :
  SF X K x0 fs (.Assign [.Name y px] (.ListComp Ç [⟨tg,iter,[c],0⟩] sc pos) tF::rest) (.bind (.bind wl λl=>mH l λp=>.bind (wt p) λt=>O7 (tf t) (te t)) kk) out:=SF.Sv hc hN NK hx S hi hg (λcl C s2 H2 fp t=>Hg (hf cl C s2 H2 fp t)) he (λ_=>rfl) hl zG hr wY hs
end
def NY {f:ce} (h:∀vs H Q E,¬sp vs H Q E):gG P w K mg base lj k f fd ps sp:=⟨λvs H Q E q=>(h _ _ _ _ q).elim,λA outer s H args us vs Q E _ _ _ _ q=>(h _ _ _ _ q).elim⟩
def LS {m:Pd PV n} (h:∀l Q,l.length=n->¬(cn n m l).run Q):∀vs H Q E,¬fV K ks (cn n m) vs H Q E:=λvs H Q E ⟨l,_,q⟩=>h l _ (iU q) q
def PM {m:Pd (List PV) n} (h:∀l Q,l.length=n->¬(cn n m l).run Q):∀vs H Q E,¬fh K ks (cn n m) vs H Q E:=λvs H Q E ⟨l,_,q⟩=>h l _ (iU q) q
theorem bF (hr:cB k A):A.units+200 < ss:=by have:=hr.un;omega
end
end FL
variable {m:List PL.PV}
namespace FL
section
open PySem PySem.Spec PyProof.Rows L2 PL
variable {K:Ab}
mutual
def PV.jm:PV->Bool
 | .tup l=>eJ l
 | .cl l=>eJ l
 | .ref _=>false
 | .ty _=>false
 | .dv _ _=>false
 | _=>true
def eJ:List PV->Bool
 | []=>true
 | x::l=>PV.jm x&&eJ l
end
mutual
def PV.gC:PV->Nat
 | .tup l=>dB l+1
 | .cl l=>dB l+1
 | _=>0
def dB:List PV->Nat
 | []=>0
 | x::l=>max (PV.gC x) (dB l)
end
mutual
def jn:PV->PV->Bool
 | .aD,.aD=>true
 | .bl a,.bl b=>a==b
 | .bl a,.int b=>(if a then 1 else 0)==b
 | .int a,.bl b=>a==(if b then 1 else 0)
 | .int a,.int b=>a==b
 | .str a,.str b=>a==b
 | .tup l,.tup m=>fv l m
 | .cl l,.cl m=>fv l m
 | _,_=>false
def fv:List PV->List PV->Bool
 | [],[]=>true
 | x::l,y::m=>jn x y&&fv l m
 | _,_=>false
end
theorem sC:∀{l:List PV}{j:Nat}{x:PV},eJ l=true->l[j]?=am x->PV.jm x=true
 | [],_,_,_,e=>by simp at e
 | y::l,0,x,h,e=>by
  simp at e;subst e;rw [eJ,AE] at h;exact h.1
 | y::l,j+1,x,h,e=>by
  rw [eJ,AE] at h;exact sC h.2 (by simpa using e)
theorem u0:∀{l:List PV}{j:Nat}{x:PV},l[j]?=am x->PV.gC x<=dB l
 | [],_,_,e=>by simp at e
 | y::l,0,x,e=>by
  simp at e;subst e;rw [dB];omega
 | y::l,j+1,x,e=>by
  have:=u0 (l:=l) (j:=j) (x:=x) (by simpa using e);rw [dB];omega
mutual
theorem N6:∀(x:PV),PV.jm x=true->jn x x=true
 | .aD,_=>by rw [jn]
 | .bl b,_=>by rw [jn];simp
 | .int i,_=>by rw [jn];simp
 | .str i,_=>by rw [jn];simp
 | .tup l,h=>by rw [jn];exact kT l (by rw [PV.jm] at h;exact h)
 | .cl l,h=>by rw [jn];exact kT l (by rw [PV.jm] at h;exact h)
 | .ref _,h=>by rw [PV.jm] at h;cases h
 | .ty _,h=>by rw [PV.jm] at h;cases h
 | .dv _ _,h=>by rw [PV.jm] at h;cases h
theorem kT:∀(l:List PV),eJ l=true->fv l l=true
 | [],_=>by rw [fv]
 | x::l,h=>by
  rw [eJ,AE] at h;rw [fv,N6 x h.1,kT l h.2];rfl
end
def Od (l m:List PV) (j:Nat):Bool:=match l[j]?,m[j]? with | some x,am y=>jn x y | _,_=>true
theorem nT:∀(l m:List PV),((AG (min l.length m.length)).all (Od l m)&&l.length==m.length)=fv l m
 | [],[]=>by rw [fv];rfl
 | [],_::_=>by
  rw [fv]
  ·simp
  ·intros;simp_all
  ·intros;simp_all
 | _::_,[]=>by
  rw [fv]
  ·simp
  ·intros;simp_all
  ·intros;simp_all
 | x::l,y::m=>by
  rw [fv,<- nT l m];have e:min (x::l).length (y::m).length=min l.length m.length+1:=by simp only [Ar];omega
  rw [e,List.range_succ_eq_map,List.all_cons,List.all_map];have e2:((x::l).length==(y::m).length)=(l.length==m.length):=by simp
  rw [e2,Bool.and_assoc];rfl
def N5 (h:l.length≠m.length):fv l m=false:=by
 rw [<- nT];have:(l.length==m.length)=false:=by simpa using h
 rw [this,D3]
section
mutual
theorem VR.NZ (I:Inv X Z σ H s):∀{v:V}{x y:PV},VR X.K [] H v x->VR X.K [] H v y->x=y
 | _,_,_,.aD,h=>by cases h;rfl
 | _,_,_,.bl b,h=>by cases h;rfl
 | _,_,_,.int b,h=>by cases h;rfl
 | _,_,_,.str b,h=>by cases h;rfl
 | _,_,_,.ty b,h=>by cases h;rfl
 | _,_,_,.ref e,h=>by simp at e
 | _,_,_,.tup e r,h=>by
  cases h with
  | tup e' r'=>
   have ee:=I.kI (dG.of e) (dG.of e');subst ee;rw [aB.NZ I r r']
  | ref e=>simp at e
  | cl e' r'=>
   obtain⟨ak,_,⟨o,n,h1,h2,_⟩,_⟩:=I.list e'.sq;obtain⟨its',_,⟨o',gY,qD,_⟩,_⟩:=I.tuple (dG.of e);rw [h1] at gY;cases gY;rw [h2] at qD;simp at qD
  | dk e' _ _=>rw [e] at e';cases e'
  | dt e' _ _=>rw [e] at e';cases e'
 | _,_,_,.dk e k r,h=>by
  cases h with
  | dk e' k' r'=>rw [e] at e';cases e';rw [k,k',aB.NZ I r r']
  | dt e' _ _=>rw [e] at e';cases e'
  | ref e=>simp at e
  | tup e' _=>rw [e] at e';cases e'
  | cl e' r'=>
   obtain⟨ak,_,⟨o,n,h1,h2,_⟩,_⟩:=I.list e'.sq;obtain⟨_,_,vs,_,o',_,_,gY,qD,_⟩:=Fl I.bu (.inr ⟨_,e⟩);rw [h1] at gY;cases gY;have h3:=qD.1;rw [h2] at h3;simp at h3
 | _,_,_,.dt e k r,h=>by
  cases h with
  | dt e' k' r'=>rw [e] at e';cases e';rw [k,k',aB.NZ I r r']
  | dk e' _ _=>rw [e] at e';cases e'
  | ref e=>simp at e
  | tup e' _=>rw [e] at e';cases e'
  | cl e' r'=>
   obtain⟨ak,_,⟨o,n,h1,h2,_⟩,_⟩:=I.list e'.sq;obtain⟨_,_,vs,_,o',_,_,gY,qD,_⟩:=z9 I.bu (.inr ⟨_,e⟩);rw [h1] at gY;cases gY;have h3:=qD.1;rw [h2] at h3;simp at h3
 | _,_,_,.cl e r,h=>by
  cases h with
  | dk e' _ _=>
   obtain⟨ak,_,⟨o,n,h1,h2,_⟩,_⟩:=I.list e.sq;obtain⟨_,_,vs,_,o',_,_,gY,qD,_⟩:=Fl I.bu (.inr ⟨_,e'⟩);rw [h1] at gY;cases gY;have h3:=qD.1;rw [h2] at h3;simp at h3
  | dt e' _ _=>
   obtain⟨ak,_,⟨o,n,h1,h2,_⟩,_⟩:=I.list e.sq;obtain⟨_,_,vs,_,o',_,_,gY,qD,_⟩:=z9 I.bu (.inr ⟨_,e'⟩);rw [h1] at gY;cases gY;have h3:=qD.1;rw [h2] at h3;simp at h3
  | cl e' r'=>
   obtain⟨ak,k,⟨o,n,h1,h2,h3,h4⟩,_⟩:=I.list e.sq;obtain⟨its',k',⟨o',n',gY,qD,NR,VN⟩,_⟩:=I.list e'.sq;rw [h1] at gY;cases gY;rw [h4] at VN;have:ak=its':=by injection VN with a b;simpa using a
   subst this;have ee:=Vals.inj k k';subst ee;rw [aB.NZ I r r']
  | ref e=>simp at e
  | tup e' r'=>
   obtain⟨ak,_,⟨o,n,h1,h2,_⟩,_⟩:=I.list e.sq;obtain⟨its',_,⟨o',gY,qD,_⟩,_⟩:=I.tuple (dG.of e');rw [h1] at gY;cases gY;rw [h2] at qD;simp at qD
theorem aB.NZ (I:Inv X Z σ H s):∀{v:List V}{x y:List PV},aB X.K [] H v x->aB X.K [] H v y->x=y
 | _,_,_,.nil,h=>by cases h;rfl
 | _,_,_,.cons r t,h=>by
  cases h with
  | cons r' t'=>rw [VR.NZ I r r',aB.NZ I t t']
end
structure Cmp (A:nn) (s:ci) (w w':bn) (b:Bool):Prop where
 rc:SeqAt.RcAt A s w w' b
 ne:SeqAt.RcNeAt A s w w' (!b)
 eq:Dc A s w w' b
def ZK (I:Inv X Z σ H s) {ws:List V} (r:Vals vs ak) (r':Vals ws its') (r1:aB X.K [] H vs l) (r2:aB X.K [] H ws m)
  (ih:∀(j:Nat) (x y:PV) (v v':V) (w w':bn),l[j]?=am x->m[j]?=am y->VR X.K [] H v x->VR X.K [] H v' y->RelV v w->RelV v' w'->Dc A s w w' (jn x y)) :
  ∀j (g1:j < ak.toArray.size) (g2:j < its'.toArray.size),Dc A s ak.toArray[j] its'.toArray[j] (Od l m j):=λj g1 g2=>by
 have h1:j < ak.length:=by simpa using g1
 have h2:j < its'.length:=by simpa using g2
 have hl:j < l.length:=by rw [<- r1.length,r.length];exact h1
 have hm:j < m.length:=by rw [<- r2.length,r'.length];exact h2
 obtain⟨v,v1,v2⟩:=r1.get (Ad hl);obtain⟨v',TX,v2'⟩:=r2.get (Ad hm);obtain⟨u,u1,u2⟩:=r.get v1;obtain⟨u',u1',u2'⟩:=r'.get TX;rw [Ad h1] at u1;rw [Ad h2] at u1';cases u1;cases u1';unfold Od;rw [Ad hl,Ad hm];have:=ih j _ _ v v' _ _ (Ad hl) (Ad hm) v2 v2' u2 u2';simpa using this
inductive Sh (X:Cx) (H:Hp) (s:ci):PV->bn->Prop
 | aD:Sh X H s .aD .none
 | bl (b:Bool):Sh X H s (.bl b) (.bool b)
 | int (i:Int) (t:Tok):Sh X H s (.int i) (.int i t)
 | str (x:Str) (t:Tok):Sh X H s (.str x) (.str x t)
 | tup {p:ce}{vs:List V}{ak:List bn}{l:List PV} (e:VR X.K [] H (.ref p) (.tup l)) (k:Vals vs ak) (r:aB X.K [] H vs l) (h:s.heap.IsTuple p ak.toArray):Sh X H s (.tup l) (.ref p)
 | cl {p:ce}{vs:List V}{ak:List bn}{l:List PV} (e:VR X.K [] H (.ref p) (.cl l)) (k:Vals vs ak) (r:aB X.K [] H vs l) (h:s.heap.IsList p ak.toArray):Sh X H s (.cl l) (.ref p)
def Sh.of (I:Inv X Z σ H s) {v:V}{x:PV}{w:bn} (h:VR X.K [] H v x) (r:RelV v w) (d:PV.jm x=true):Sh X H s x w:=by
 cases h with
 | ref e=>simp at e
 | aD=>cases r;exact .aD
 | bl a=>cases r;exact .bl a
 | int a=>obtain⟨t,rfl⟩:=r;exact .int a t
 | str a=>obtain⟨t,rfl⟩:=r;exact .str a t
 | tup e q=>
  cases r;obtain⟨ak,k,ht,_⟩:=I.tuple (dG.of e);exact .tup (.tup e q) k q ht
 | cl e q=>
  cases r;obtain⟨ak,k,pl,_⟩:=I.list e.sq;exact .cl (.cl e q) k q pl.isList
 | _=>rw [PV.jm] at d;cases d
set_option maxHeartbeats 8000000 in
theorem Wg (hK:X.K=K) (I:Inv X Z σ H s):∀(n:Nat) (x y:PV) (A:nn) (v v':V) (w w':bn),PV.gC x<=n->PV.jm x=true->PV.jm y=true->VR K [] H v x->VR K [] H v' y->RelV v w->RelV v' w'->A.units+n+1 < ss->Cmp A s w w' (jn x y):=by
 subst hK;intro n
 induction n using Bl with
 | ind n ih=>
 intro x y A v v' w w' hd dx dy hv hv' r1 r2 hu;have a:=Sh.of I hv r1 dx;have b:=Sh.of I hv' r2 dy;clear hv hv' r1 r2;have el:∀{l m:List PV}{vs ws:List V}{ak cT:List bn},eJ l=true->eJ m=true->dB l < n->Vals vs ak->Vals ws cT->aB X.K [] H vs l->aB X.K [] H ws m->ak.toArray.size=l.length/\cT.toArray.size=m.length/\∀j (g1:j < ak.toArray.size) (g2:j < cT.toArray.size),Dc A.in1 s ak.toArray[j] cT.toArray[j] (Od l m j):=λd1 d2 hd k1 k2 r r'=>⟨by rw [Ah,<- k1.length,r.length],by rw [Ah,<- k2.length,r'.length],ZK I (A:=A.in1) k1 k2 r r' λj x y v v' w w' hx hy vx vy rx ry=>(ih _ hd x y A.in1 v v' w w' (u0 hx) (sC d1 hx) (sC d2 hy) vx vy rx ry (by show A.units+1+_+1 < _;omega)).eq⟩;have fin:∀{pa pb:ce}{l m:List PV},(pa=pb->l=m)->eJ l=true->SeqAt.RcAt A s (.ref pa) (.ref pb) (fv l m)->Dc A s (.ref pa) (.ref pb) (fv l m):=λ{pa pb l m} h d q=>by
  by_cases Zm:pa=pb
  ·rw [h Zm,kT _ (h Zm▸d),Zm];exact Fp _
  ·exact Fc Zm q
 cases a <;> cases b
 case tup.tup pa vs ak l e k r ht pb ws cT m e2 k2 r2 G3=>
  rw [PV.gC] at hd;obtain⟨z1,z2,ie⟩:=el dx dy ∅ k k2 r r2;have q1:=Fe ht G3 (A:=A) ∅ ie;have q2:=SeqAt.RcNeAt.tuples ht G3 (A:=A) ∅ ie;rw [z1,z2,nT] at q1 q2;exact⟨q1,q2,fin (λz=>by subst z;have:=VR.NZ I e e2;injection this) dx q1⟩
 case cl.cl pa vs ak l e k r ht pb ws cT m e2 k2 r2 G3=>
  rw [PV.gC] at hd;obtain⟨z1,z2,ie⟩:=el dx dy ∅ k k2 r r2;by_cases hz:l.length=m.length
  ·have q1:=SeqAt.RcAt.lists ht G3 (by rw [z1,z2];exact hz) (A:=A) ∅ ie;have q2:=SeqAt.RcNeAt.lists ht G3 (by rw [z1,z2];exact hz) (A:=A) ∅ ie;have ef:(AG l.length).all (Od l m)=fv l m:=by rw [<- nT,hz,Nat.min_self,beq_self_eq_true,Bool.and_true]
   rw [z1,ef] at q1 q2;exact⟨q1,q2,fin (λz=>by subst z;have:=VR.NZ I e e2;injection this) dx q1⟩
  ·have q1:=SeqAt.RcAt.lists_lengths (A:=A) ht G3 (by rw [z1,z2];simpa using hz) ∅;have q2:=SeqAt.RcNeAt.lists_lengths (A:=A) ht G3 (by rw [z1,z2];simpa using hz) ∅;have ef:=N5 hz;rw [<- ef] at q1;have q2:SeqAt.RcNeAt A s (.ref pa) (.ref pb) (!fv l m):=by rw [ef];exact q2
   exact⟨q1,q2,fin (λz=>by subst z;have:=VR.NZ I e e2;injection this) dx q1⟩
 all_goals
  clear ih el fin;rw [jn] <;> try (intros;simp_all;done)
  refine⟨?_,?_,?_⟩ <;> (try simp only [CA,D2]) <;> first | with_reducible exact .none_none | with_reducible exact .none_bool _ | with_reducible exact .none_int _ _ | with_reducible exact .none_str _ _ | with_reducible exact .none_tuple ‹_› ∅ | with_reducible exact .none_list ‹_› ∅ | with_reducible exact .bool_none _ | with_reducible exact .bool_str _ _ _ | with_reducible exact .bool_tuple _ ‹_› ∅ | with_reducible exact .bool_list _ ‹_› ∅ | with_reducible exact .int_none _ _ | with_reducible exact .int_str _ _ _ _ | with_reducible exact .int_tuple _ _ ‹_› ∅ | with_reducible exact .int_list _ _ ‹_› ∅ | with_reducible exact .str_none _ _ | with_reducible exact .str_bool _ _ _ | with_reducible exact .str_int _ _ _ _ | with_reducible exact .str_tuple _ _ ‹_› ∅ | with_reducible exact .str_list _ _ ‹_› ∅ | with_reducible exact .tuple_none ‹_› ∅ | with_reducible exact .tuple_bool _ ‹_› ∅ | with_reducible exact .tuple_int _ _ ‹_› ∅ | with_reducible exact .tuple_str _ _ ‹_› ∅ | with_reducible exact .tuple_list ‹_› ‹_› ∅ | with_reducible exact .list_none ‹_› ∅ | with_reducible exact .list_bool _ ‹_› ∅ | with_reducible exact .list_int _ _ ‹_› ∅ | with_reducible exact .list_str _ _ ‹_› ∅ | with_reducible exact .list_tuple ‹_› ‹_› ∅ | exact .same _ | exact .bool_bool _ _ | exact .bool_int _ _ _ | exact .int_bool _ _ _ | exact .int_int _ _ _ _ | exact .str_str _ _ _ _
end
end
section
open PySem PySem.Spec PyProof.Rows L2 PL
variable {K:Ab}
mutual
theorem VR.m9 {ι:List ce}{H:Hp}:∀{v:V}{q:PV},VR K ι H v q->PV.jm q=true->VR K [] H v q
 | _,_,.aD,_=>.aD
 | _,_,.bl b,_=>.bl b
 | _,_,.int i,_=>.int i
 | _,_,.str x,_=>.str x
 | _,_,.ty n,h=>by rw [PV.jm] at h;cases h
 | _,_,.dk _ _ _,h=>by rw [PV.jm] at h;cases h
 | _,_,.dt _ _ _,h=>by rw [PV.jm] at h;cases h
 | _,_,.tup e r,h=>.tup e (aB.m9 r (by rw [PV.jm] at h;exact h))
 | _,_,.cl e r,h=>.cl e (aB.m9 r (by rw [PV.jm] at h;exact h))
 | _,_,.ref e,h=>by rw [PV.jm] at h;cases h
theorem aB.m9 {ι:List ce}{H:Hp}:∀{v:List V}{q:List PV},aB K ι H v q->eJ q=true->aB K [] H v q
 | _,_,.nil,_=>.nil
 | _,_,.cons r s,h=>by
  rw [eJ,AE] at h;exact .cons (VR.m9 r h.1) (aB.m9 s h.2)
end
def KJ (x y:PV):Prop:=PV.jm x=true/\PV.jm y=true/\PV.gC x<=150
def m6:M2:=⟨λx y h Q=>KJ x y/\Q (.bl (jn x y)) h,λf q=>⟨q.1,f _ _ q.2⟩⟩
def wd:M2:=⟨λx y h Q=>KJ x y/\Q (.bl (!jn x y)) h,λf q=>⟨q.1,f _ _ q.2⟩⟩
def P6 (K:Ab) (neg:Bool):R2:=λu v H Q=>∃x y,VR K [] H u x/\VR K [] H v y/\KJ x y/\Q (.bl (if neg then !jn x y else jn x y)) H
section
theorem UU (hK:X.K=K) (hu:X.A.units+200 < ss):jG X (o0 .Eq) (P6 K false):=λZ s σ H u v w w' Q I r1 r2 ⟨x,y,h1,h2,⟨o1,o2,o3⟩,q⟩=>by
 exact EqBoolInt.of_rc (Wg hK I 150 x y X.A u v w w' o3 o1 o2 h1 h2 r1 r2 ∅).rc ⟨.bl _,H,I,rfl,q⟩
theorem UR (hK:X.K=K) (hu:X.A.units+200 < ss):jG X (o0 .NotEq) (P6 K true):=λZ s σ H u v w w' Q I r1 r2 ⟨x,y,h1,h2,⟨o1,o2,o3⟩,q⟩=>by
 exact EqBoolInt.of_rcne (Wg hK I 150 x y X.A u v w w' o3 o1 o2 h1 h2 r1 r2 ∅).ne ⟨.bl _,H,I,rfl,q⟩
def QG:M2.Ok K (P6 K false) m6:=λ{ι H h u v x y Q} hr hu hv q=>⟨x,y,VR.m9 hu q.1.1,VR.m9 hv q.1.2.1,q.1,q.2 ι _ H (Go.refl _ _) hr (.bl _)⟩
def QC:M2.Ok K (P6 K true) wd:=λ{ι H h u v x y Q} hr hu hv q=>⟨x,y,VR.m9 hu q.1.1,VR.m9 hv q.1.2.1,q.1,q.2 ι _ H (Go.refl _ _) hr (.bl _)⟩
def rX (hK:X.K=K) (hu:X.A.units+200 < ss):JC X K .Eq b m6:=⟨⟨_,UU hK hu,QG⟩,ka _⟩
def Jd (hK:X.K=K) (hu:X.A.units+200 < ss):JC X K .NotEq b wd:=⟨⟨_,UR hK hu,QC⟩,ka _⟩
end
end
end FL
variable {x:A4}{b b1:Bool}{t z i1 i2 a1 a2:BG}{ys:Array A4}{k1:Nat}
namespace L2
open PySem PySem.Spec PyProof.Rows
def sX (b:Bool) (h:kw) (it a:ce) (k:Nat):Prop:=match b with
 | true=>h.IsListIter it a k
 | false=>h.IsTupleIter it a k
def hZ (b:Bool) (h:kw) (a:ce) (xs:Array bn):Prop:=match b with
 | true=>h.IsList a xs
 | false=>h.IsTuple a xs
def sX.move (x:sX b h it a k) (g:∀o,h.get? it=am o->h'.get? it=am o):sX b h' it a k:=by
 cases b with
 | true=>obtain⟨o,e,p⟩:=(show h.IsListIter it a k from x);exact (show h'.IsListIter it a k from⟨o,g o e,p⟩)
 | false=>obtain⟨o,e,p⟩:=(show h.IsTupleIter it a k from x);exact (show h'.IsTupleIter it a k from⟨o,g o e,p⟩)
def hZ.move (x:hZ b h a xs) (g:∀o,h.get? a=am o->h'.get? a=am o):hZ b h' a xs:=by
 cases b with
 | true=>obtain⟨o,e,p⟩:=(show h.IsList a xs from x);exact (show h'.IsList a xs from⟨o,g o e,p⟩)
 | false=>obtain⟨o,e,p⟩:=(show h.IsTuple a xs from x);exact (show h'.IsTuple a xs from⟨o,g o e,p⟩)
def sX.obj (x:sX b h it a k):∃o,h.get? it=am o/\∀v,o.data≠.cell v:=by
 cases b with
 | true=>obtain⟨o,e,_,d⟩:=(show h.IsListIter it a k from x);exact⟨o,e,λv z=>by rw [d] at z;cases z⟩
 | false=>obtain⟨o,e,_,d⟩:=(show h.IsTupleIter it a k from x);exact⟨o,e,λv z=>by rw [d] at z;cases z⟩
def hZ.lt (x:hZ b h a xs):a < h.objs.size:=by
 cases b with
 | true=>obtain⟨o,e,p⟩:=(show h.IsList a xs from x);exact Ao e
 | false=>obtain⟨o,e,p⟩:=(show h.IsTuple a xs from x);exact Ao e
section
def kd (h:sX b s.heap it t i) (ht:hZ b s.heap t items) (hx:items[i]?=am x)
  (q:∀h':kw,sX b h' it t (i+1)->Ci it s.heap h'->Q x {s with heap:=h'}):db (dL prog w) A (Builtin.SmallTypes.nextOf (.ref it)) Q E s:=by
 cases b with
 | true=>exact wpAny_nextOf_list_item h ht hx λh' a b=>q h' a b
 | false=>exact gK h ht hx q
def rD (hA:A.handled=bm) (h:sX b s.heap it t i) (ht:hZ b s.heap t items) (hx:items[i]?=bm)
  (q:∀(h':kw) (e:ce),Fo it s.heap h'->(∃o,h'.get? e=am o/\o.cls=.type "StopIteration")->E (.ref e) {s with heap:=h'}):db (dL prog w) A (Builtin.SmallTypes.nextOf (.ref it)) Q E s:=by
 cases b with
 | true=>exact wpAny_nextOf_list_end hA h ht hx λh' e a b=>q h' e a b
 | false=>exact iC hA h ht hx q
def Kt:Bool->String
 | true=>"list_iterator"
 | false=>"tuple_iterator"
def uF (h:hZ b s.heap a xs) (q:Q (.ref s.heap.objs.size) {s with heap:=s.heap.push {cls:=.type (Kt b),data:=.fields #[.ref a,.int 0 0]}}):db (dL prog w) A (pyIter (.ref a)) Q E s:=by
 cases b with
 | true=>exact CZ h q
 | false=>exact DU h q
def Ip (e:h.get? it=am {cls:=.type (Kt b),data:=.fields #[.ref a,.int 0 0]}):sX b h it a 0:=by
 cases b with
 | true=>exact (show h.IsListIter it a 0 from⟨_,e,rfl,rfl⟩)
 | false=>exact (show h.IsTupleIter it a 0 from⟨_,e,rfl,rfl⟩)
end
structure jE (b1 b2:Bool) (h:kw) (z TI TO i1 i2 a1 a2:ce) (f0:bn) (k1 k2:Nat):Prop where
 zip:IsZip h z TI TO f0
 ti:IsPair h TI (.ref i1) (.ref i2)
 to:∃a b,IsPair h TO a b
 it1:sX b1 h i1 a1 k1
 it2:sX b2 h i2 a2 k2
def qO {E:bn->ci->Prop}{b2:Bool}{TI TO:ce}{y:bn} (hA:ZipApart z TI TO i1 i2 a1 a2)
  (hz:jE b1 b2 s.heap z TI TO i1 i2 a1 a2 .none k1 k2) (S5:hZ b1 s.heap a1 xs) (G3:hZ b2 s.heap a2 ys) (hx:xs[k1]?=am x) (hy:ys[k2]?=am y)
  (q:∀h':kw,jE b1 b2 h' z TI TO i1 i2 a1 a2 (u8 s.heap.objs.size) (k1+1) (k2+1)->IsPair h' s.heap.objs.size x y->(∀c o,c≠z->c≠TO->c≠i1->c≠i2->s.heap.get? c=am o->h'.get? c=am o)->Q (.ref s.heap.objs.size) {s with heap:=h'}) :
  db (dL prog w) A (wn.«zip.__next__» {pos:=[.ref z]}) (λfin s'=>∃v,fin=ES (Fq v)/\Q v s') E s:=by
 obtain⟨hz,Rm,⟨ta,tb,ď⟩,ø,WU⟩:=hz;show db _ _ (field (.ref z) 2 >>= λr=>_) _ _ s;refine Aa (AY hz rfl rfl ?_);refine Aa (AY hz rfl rfl ?_);refine Aa (Bs Rm rfl ?_);refine Aa ?_;refine Aa (AY hz rfl rfl ?_);refine Ae ?_;refine Aa (CG ?_);refine Aa (AY hz rfl rfl ?_);show db _ _ (wE (.ref z) 0 .ellipsis >>= λr=>_) _ _ s;refine Aa (A2 hz (show 0 < 5 by decide) λh1 z1 b1=>?_);show db _ _ ((forIn [(Az i1,0),(Az i2,1)] _ _) >>= λr=>_) _ _ _;refine Aa ?_;rw [BS];have tW:=b1.2;refine Aa ?_;refine Aa (Ec ?_);refine Aa (kd (ø.move λo e=>(tW _ hA.i1z).trans e) (S5.move λo e=>(tW _ hA.l1z).trans e) hx λh2 j2 b2=>Ae ?_);have NT:∀b,b≠z->b≠i1->h2.get? b=s.heap.get? b:=λb n1 n2=>(b2.2 b n2).trans (tW b n1);have à:=(NT _ hA.TOz hA.TOi1).trans ď;refine Aa (Bs à rfl ?_);refine Aa (Dr à λh3 t3 b3=>?_);have Ì:∀b,b≠z->b≠i1->b≠TO->h3.get? b=s.heap.get? b:=λb n1 n2 n3=>(b3.2 b n3).trans (NT b n1 n2);refine Aa (Ct (Ae ?_));show db _ _ (forIn [(Az i2,1)] _ _) _ _ _;rw [BS];refine Aa ?_;refine Aa (Ec ?_);refine Aa (kd (WU.move λo e=>(Ì _ hA.i2z hA.i12.symm hA.TOi2.symm).trans e) (G3.move λo e=>(Ì _ hA.l2z hA.l2i1 hA.l2TO).trans e) hy λh4 j4 b4=>Ae ?_);have to4:=(b4.2 _ hA.TOi2).trans t3;refine Aa (Bs to4 rfl ?_);refine Aa (Dr to4 λh5 t5 b5=>?_);have to5:=t5;refine Aa (Ct (Ae ?_));refine Ae ?_;refine Aa (Bs to5 rfl ?_);have ā:=b5.1.trans (b4.1.trans (b3.1.trans (b2.1.trans b1.1)));refine Aa (CH ?_ (by show 2<=sizeLine;decide));have Zr:∀b,b≠z->b≠i1->b≠TO->b≠i2->h5.get? b=s.heap.get? b:=λb n1 n2 n3 n4=>(b5.2 b n3).trans ((b4.2 b n4).trans (Ì b n1 n2 n3));have z5:h5.get? z=am {cls:=.type "zip",data:=.fields #[.ellipsis,.bool false,.bool false,.ref TI,.ref TO]}:=(b5.2 _ hA.TOz.symm).trans ((b4.2 _ hA.i2z.symm).trans ((b3.2 _ hA.TOz.symm).trans ((b2.2 _ hA.i1z.symm).trans z1)));have kp:∀b o,h5.get? b=am o->(h5.push {cls:=.type "tuple",data:=.seq #[x,y]}).get? b=am o:=λb o e=>Ag _ e;have ab9:(h5.push {cls:=.type "tuple",data:=.seq #[x,y]}).get? h5.objs.size=am {cls:=.type "tuple",data:=.seq #[x,y]}:=Ap _ rfl;refine Aa ?_;show db _ _ (wE (.ref z) 0 (u8 h5.objs.size) >>= λ_=>wE (.ref z) 1 (.bool false)) _ _ _;refine Aa (A2 (kp _ _ z5) (show 0 < 5 by decide) λh7 z7 b7=>?_);refine A2 z7 (show 1 < 5 by decide) λh8 z8 b8=>?_;have KG:∀b,b≠z->h8.get? b=(h5.push {cls:=.type "tuple",data:=.seq #[x,y]}).get? b:=λb n=>(b8.2 b n).trans (b7.2 b n);have nz:s.heap.objs.size≠z:=λe=>by have:=Ao hz;rw [<- e] at this;exact AX _ this
 refine Ae ⟨.ref h5.objs.size,rfl,?_⟩;rw [ā];refine q h8 ⟨?_,?_,?_,?_,?_⟩ ?_ ?_
 ·rw [<- ā];exact z8
 ·rw [IsPair,KG _ hA.TIz];exact kp _ _ ((Zr _ hA.TIz hA.TIi1 hA.TITO hA.TIi2).trans Rm)
 ·exact⟨x,y,by rw [IsPair,KG _ hA.TOz];exact kp _ _ to5⟩
 ·refine j2.move λo e=>?_;rw [KG _ hA.i1z];exact kp _ _ ((b5.2 _ hA.TOi1.symm).trans ((b4.2 _ hA.i12).trans ((b3.2 _ hA.TOi1.symm).trans e)))
 ·refine j4.move λo e=>?_;rw [KG _ hA.i2z];exact kp _ _ ((b5.2 _ hA.TOi2.symm).trans e)
 ·rw [IsPair,KG _ nz,<- ā];exact ab9
 ·intro c o n1 n2 n3 n4 e;rw [KG _ n1];exact kp _ _ ((Zr _ n1 n3 n2 n4).trans e)
def tu {b2:Bool}{TI TO:ce}{Q:PySem.Fin->ci->Prop} (hh:A.handled=bm) (hA:ZipApart z TI TO i1 i2 a1 a2)
  (hz:jE b1 b2 s.heap z TI TO i1 i2 a1 a2 .none k1 k2) (S5:hZ b1 s.heap a1 xs) (G3:hZ b2 s.heap a2 ys) (hx:xs[k1]?=bm\/ys[k2]?=bm)
  (q:∀(h':kw) (e:ce),(∀c o,c≠z->c≠TO->c≠i1->c≠i2->s.heap.get? c=am o->h'.get? c=am o)->(∃o,h'.get? e=am o/\o.cls=.type "StopIteration")->E (.ref e) {s with heap:=h'}) :
  db (dL prog w) A (wn.«zip.__next__» {pos:=[.ref z]}) Q E s:=by
 obtain⟨hz,Rm,⟨ta,tb,ď⟩,ø,WU⟩:=hz;show db _ _ (field (.ref z) 2 >>= λr=>_) _ _ s;refine Aa (AY hz rfl rfl ?_);refine Aa (AY hz rfl rfl ?_);refine Aa (Bs Rm rfl ?_);refine Aa ?_;refine Aa (AY hz rfl rfl ?_);refine Ae ?_;refine Aa (CG ?_);refine Aa (AY hz rfl rfl ?_);show db _ _ (wE (.ref z) 0 .ellipsis >>= λr=>_) _ _ s;refine Aa (A2 hz (show 0 < 5 by decide) λh1 z1 b1'=>?_);show db _ _ ((forIn [(Az i1,0),(Az i2,1)] _ _) >>= λr=>_) _ _ _;refine Aa ?_;rw [BS];have tW:=b1'.2;refine Aa ?_;refine Aa (Ec ?_);have fin:∀{h2:kw}{e:ce},h2.get? z=am {cls:=.type "zip",data:=.fields #[.ellipsis,.bool false,.bool false,.ref TI,.ref TO]}->(∃o,h2.get? e=am o/\o.cls=.type "StopIteration")->(∀c o,c≠z->c≠TO->c≠i1->c≠i2->s.heap.get? c=am o->h2.get? c=am o)->db (dL prog w) A (wE (.ref z) 0 .none) (λ_ s'=>E (.ref e) s') (λ_ _=>True) {s with heap:=h2}:=λ{h2 e} z2 ex k=>by
  refine A2 z2 (show 0 < 5 by decide) λh3 z3 b3=>?_;refine q h3 e (λc o n1 n2 n3 n4 ec=>?_) ?_
  ·rw [b3.2 _ n1];exact k c o n1 n2 n3 n4 ec
  ·obtain⟨o,eo,hc⟩:=ex;by_cases he:e=z
   ·subst he;rw [z2] at eo;cases eo;exact absurd (show BX "zip"=BX "StopIteration" from hc) ⋯
   ·exact⟨o,(b3.2 _ he).trans eo,hc⟩
 cases WO:xs[k1]? with
 | none=>
  refine Aa (rD hh (ø.move λo e=>(tW _ hA.i1z).trans e) (S5.move λo e=>(tW _ hA.l1z).trans e) WO λh2 e k ex=>?_);have z2:h2.get? z=am {cls:=.type "zip",data:=.fields #[.ellipsis,.bool false,.bool false,.ref TI,.ref TO]}:=k _ _ hA.i1z.symm z1;refine A2 z2 (show 0 < 5 by decide) λh3 z3 b3=>?_;refine q h3 e (λc o n1 n2 n3 n4 ec=>?_) ?_
  ·rw [b3.2 _ n1];exact k _ _ n3 ((tW _ n1).trans ec)
  ·obtain⟨o,eo,hc⟩:=ex;by_cases he:e=z
   ·subst he;rw [z2] at eo;cases eo;exact absurd (show BX "zip"=BX "StopIteration" from hc) ⋯
   ·exact⟨o,(b3.2 _ he).trans eo,hc⟩
 | some x=>
  have hy:ys[k2]?=bm:=by
   rcases hx with h | h
   ·rw [WO] at h;cases h
   ·exact h
  refine Aa (kd (ø.move λo e=>(tW _ hA.i1z).trans e) (S5.move λo e=>(tW _ hA.l1z).trans e) WO λh2 j2 b2'=>Ae ?_);have NT:∀b,b≠z->b≠i1->h2.get? b=s.heap.get? b:=λb n1 n2=>(b2'.2 b n2).trans (tW b n1);have à:=(NT _ hA.TOz hA.TOi1).trans ď;refine Aa (Bs à rfl ?_);refine Aa (Dr à λh3 t3 b3=>?_);have Ì:∀b,b≠z->b≠i1->b≠TO->h3.get? b=s.heap.get? b:=λb n1 n2 n3=>(b3.2 b n3).trans (NT b n1 n2);refine Aa (Ct (Ae ?_));refine Aa ?_;refine Aa (Ec ?_);show db _ _ (Builtin.SmallTypes.nextOf (.ref i2) >>= λv=>pure (am v)) _ _ _;refine Aa (rD hh (WU.move λo e=>(Ì _ hA.i2z hA.i12.symm hA.TOi2.symm).trans e) (G3.move λo e=>(Ì _ hA.l2z hA.l2i1 hA.l2TO).trans e) hy λh4 e k ex=>?_);have z4:h4.get? z=am {cls:=.type "zip",data:=.fields #[.ellipsis,.bool false,.bool false,.ref TI,.ref TO]}:=k _ _ hA.i2z.symm ((b3.2 _ hA.TOz.symm).trans ((b2'.2 _ hA.i1z.symm).trans z1));refine A2 z4 (show 0 < 5 by decide) λh5 z5 b5=>?_;refine q h5 e (λc o n1 n2 n3 n4 ec=>?_) ?_
  ·rw [b5.2 _ n1];exact k _ _ n4 ((Ì _ n1 n3 n2).trans ec)
  ·obtain⟨o,eo,hc⟩:=ex;by_cases he:e=z
   ·subst he;rw [z4] at eo;cases eo;exact absurd (show BX "zip"=BX "StopIteration" from hc) ⋯
   ·exact⟨o,(b5.2 _ he).trans eo,hc⟩
def oQ {b2:Bool}{TI TO:ce}{y:bn}{Q:Option bn->ci->Prop} (hA:ZipApart z TI TO i1 i2 a1 a2)
  (hz:jE b1 b2 s.heap z TI TO i1 i2 a1 a2 .none k1 k2) (S5:hZ b1 s.heap a1 xs) (G3:hZ b2 s.heap a2 ys) (hx:xs[k1]?=am x) (hy:ys[k2]?=am y)
  (q:∀h':kw,jE b1 b2 h' z TI TO i1 i2 a1 a2 (u8 s.heap.objs.size) (k1+1) (k2+1)->IsPair h' s.heap.objs.size x y->(∀c o,c≠z->c≠TO->c≠i1->c≠i2->s.heap.get? c=am o->h'.get? c=am o)->Q (am (.ref s.heap.objs.size)) {s with heap:=h'}) :
  db (dL prog w) A (pyNext (.ref z)) Q E s:=by
 have ty:s.TypeIs (.ref z) "zip":=⟨_,hz.zip,rfl⟩;refine Aa (CS (AV ty Dv (A8 Dv ty F.entry_zip_next ?_ (F.args_zip_next_1 _))));exact qO hA hz S5 G3 hx hy λh' a b c=>Ae (q h' a b c)
def pZ {b2:Bool}{TI TO:ce}{Q:Option bn->ci->Prop} (hh:A.handled=bm) (hA:ZipApart z TI TO i1 i2 a1 a2)
  (hz:jE b1 b2 s.heap z TI TO i1 i2 a1 a2 .none k1 k2) (S5:hZ b1 s.heap a1 xs) (G3:hZ b2 s.heap a2 ys) (hx:xs[k1]?=bm\/ys[k2]?=bm)
  (q:∀h':kw,(∀c o,c≠z->c≠TO->c≠i1->c≠i2->s.heap.get? c=am o->h'.get? c=am o)->Q bm {s with heap:=h'}) :
  db (dL prog w) A (pyNext (.ref z)) Q E s:=by
 have ty:s.TypeIs (.ref z) "zip":=⟨_,hz.zip,rfl⟩;refine Aa (CS (AV ty Dv (A8 Dv ty F.entry_zip_next ?_ (F.args_zip_next_1 _))));refine tu (A:=A.in1) hh hA hz S5 G3 hx λh' e k ex=>?_;obtain⟨o,eo,hc⟩:=ex;refine Aa (Dg (T:="StopIteration") ⟨o,eo,hc⟩ isSubtype_stop ?_);exact Ae (q h' k)
def rH (b1 b2:Bool) (a1 a2:ce) (xs ys:Array bn):Meets (wn.«zip.__new__» {pos:=[.type "zip",.ref a1,.ref a2]}) (λ_ R s=>hZ b1 s.heap a1 xs/\hZ b2 s.heap a2 ys/\
  ∀h':kw,jE b1 b2 h' (s.heap.objs.size+4) (s.heap.objs.size+2) (s.heap.objs.size+3) s.heap.objs.size (s.heap.objs.size+1) a1 a2 .none 0 0->(∀b o,s.heap.get? b=am o->h'.get? b=am o)->R (.ok (.ret (.ref (s.heap.objs.size+4)))) {s with heap:=h'}):=
 .of_wp λprog w A R s h=>by
  obtain⟨h1,h2,q⟩:=h;refine Aa ?_;refine Aa (Cs (a:=true) rfl ?_);refine Aa (Cs sub_zip ?_);refine Ae ?_;refine Aa ?_;refine Aa ?_;rw [BS];refine Aa ?_;refine Aa (Bb (uF h1 (Ae ?_)));have k1:∀b o,s.heap.get? b=am o->(s.heap.push {cls:=.type (Kt b1),data:=.fields #[.ref a1,.int 0 0]}).get? b=am o:=λb o e=>Ag _ e;have g1:(s.heap.push {cls:=.type (Kt b1),data:=.fields #[.ref a1,.int 0 0]}).get? s.heap.objs.size=am {cls:=.type (Kt b1),data:=.fields #[.ref a1,.int 0 0]}:=Ap _ rfl;have z1:(s.heap.push {cls:=.type (Kt b1),data:=.fields #[.ref a1,.int 0 0]}).objs.size=s.heap.objs.size+1:=Cp ..;generalize s.heap.push {cls:=.type (Kt b1),data:=.fields #[.ref a1,.int 0 0]}=w5 at k1 g1 z1 ⊢;show db _ _ (forIn [Az a2] _ _) _ _ _;rw [BS];refine Aa ?_;refine Aa (Bb (uF (xs:=ys) (h2.move λo e=>k1 _ _ e) (Ae ?_)));show db _ _ (forIn [] _ _) _ _ _;rw [List.forIn_nil];refine Ae (Ae ?_);have k2:∀b o,w5.get? b=am o->(w5.push {cls:=.type (Kt b2),data:=.fields #[.ref a2,.int 0 0]}).get? b=am o:=λb o e=>Ag _ e;have g2:(w5.push {cls:=.type (Kt b2),data:=.fields #[.ref a2,.int 0 0]}).get? w5.objs.size=am {cls:=.type (Kt b2),data:=.fields #[.ref a2,.int 0 0]}:=Ap _ rfl;have z2:(w5.push {cls:=.type (Kt b2),data:=.fields #[.ref a2,.int 0 0]}).objs.size=w5.objs.size+1:=Cp ..;show db _ _ (newTuple [.ref s.heap.objs.size,.ref w5.objs.size] >>= λr=>_) _ _ {s with heap:=w5.push {cls:=.type (Kt b2),data:=.fields #[.ref a2,.int 0 0]}};generalize w5.push {cls:=.type (Kt b2),data:=.fields #[.ref a2,.int 0 0]}=w4 at k2 g2 z2 ⊢;refine Aa (CH ?_ (by show 2<=sizeLine;decide));have k3:∀b o,w4.get? b=am o->(w4.push {cls:=.type "tuple",data:=.seq [Az s.heap.objs.size,Az w5.objs.size].toArray}).get? b=am o:=λb o e=>Ag _ e;have g3:(w4.push {cls:=.type "tuple",data:=.seq [Az s.heap.objs.size,Az w5.objs.size].toArray}).get? w4.objs.size=am {cls:=.type "tuple",data:=.seq #[.ref s.heap.objs.size,.ref w5.objs.size]}:=Ap _ rfl;have z3:(w4.push {cls:=.type "tuple",data:=.seq [Az s.heap.objs.size,Az w5.objs.size].toArray}).objs.size=w4.objs.size+1:=Cp ..;show db _ _ (newTuple [.none,.none] >>= λr=>_) _ _ {s with heap:=w4.push {cls:=.type "tuple",data:=.seq [Az s.heap.objs.size,Az w5.objs.size].toArray}};generalize w4.push {cls:=.type "tuple",data:=.seq [Az s.heap.objs.size,Az w5.objs.size].toArray}=Ky at k3 g3 z3 ⊢;refine Aa (CH ?_ (by show 2<=sizeLine;decide));have k4:∀b o,Ky.get? b=am o->(Ky.push {cls:=.type "tuple",data:=.seq [AO,AO].toArray}).get? b=am o:=λb o e=>Ag _ e;have g4:(Ky.push {cls:=.type "tuple",data:=.seq [AO,AO].toArray}).get? Ky.objs.size=am {cls:=.type "tuple",data:=.seq #[.none,.none]}:=Ap _ rfl;have z4:(Ky.push {cls:=.type "tuple",data:=.seq [AO,AO].toArray}).objs.size=Ky.objs.size+1:=Cp ..;show db _ _ (newObj (.type "zip") (.fields #[.none,.bool false,.bool false,.ref w4.objs.size,.ref Ky.objs.size]) >>= λr=>_) _ _ {s with heap:=Ky.push {cls:=.type "tuple",data:=.seq [AO,AO].toArray}};generalize Ky.push {cls:=.type "tuple",data:=.seq [AO,AO].toArray}=WQ at k4 g4 z4 ⊢;refine Aa (AJ ?_ (by simp [sizeOk];decide));have k5:∀b o,WQ.get? b=am o->(WQ.push {cls:=.type "zip",data:=.fields #[.none,.bool false,.bool false,.ref w4.objs.size,.ref Ky.objs.size]}).get? b=am o:=λb o e=>Ag _ e;have g5:(WQ.push {cls:=.type "zip",data:=.fields #[.none,.bool false,.bool false,.ref w4.objs.size,.ref Ky.objs.size]}).get? WQ.objs.size=am {cls:=.type "zip",data:=.fields #[.none,.bool false,.bool false,.ref w4.objs.size,.ref Ky.objs.size]}:=Ap _ rfl;have e1:=z1;have e2:w4.objs.size=s.heap.objs.size+2:=by rw [z2,e1]
  have e3:Ky.objs.size=s.heap.objs.size+3:=by rw [z3,e2]
  have e4:WQ.objs.size=s.heap.objs.size+4:=by rw [z4,e3]
  refine Ae ⟨.ref WQ.objs.size,rfl,?_⟩;rw [e2,e3] at g5 k5 ⊢;rw [e4] at g5 ⊢;rw [e3] at g4;rw [e1,e2] at g3;rw [e1] at g2;refine q _ ⟨g5,k5 _ _ (k4 _ _ g3),⟨_,_,k5 _ _ g4⟩,Ip (k5 _ _ (k4 _ _ (k3 _ _ (k2 _ _ g1)))),Ip (k5 _ _ (k4 _ _ (k3 _ _ g2)))⟩ λb o e=>k5 _ _ (k4 _ _ (k3 _ _ (k2 _ _ (k1 _ _ e))))
def K0 {b2:Bool} (h1:hZ b1 s.heap a1 xs) (h2:hZ b2 s.heap a2 ys)
  (q:∀h':kw,jE b1 b2 h' (s.heap.objs.size+4) (s.heap.objs.size+2) (s.heap.objs.size+3) s.heap.objs.size (s.heap.objs.size+1) a1 a2 .none 0 0->(∀b o,s.heap.get? b=am o->h'.get? b=am o)->Q (.ref (s.heap.objs.size+4)) {s with heap:=h'}) :
  db (dL prog w) A (call (.type "zip") [.ref a1,.ref a2]) Q E s:=
 callType_new F.called_zip ⋯ (F.typeCall_zip_2 _ _) (F.newCall_zip_2 _ _) (λo=>F.args_object_init_3 o _ _) F.entry_zip_new (rH b1 b2 a1 a2 xs ys) ⟨h1,h2,λh' z k=>⟨⟨_,z.zip,rfl⟩,q h' z k⟩⟩
def Lq (b:Bool) (K:Ab) (H:Hp) (a:ce) (xs:List V):Prop:=match b with
 | true=>dP K H a xs
 | false=>dG K H a xs
def Inv.WC {xs:List V} (I:Inv X Z σ H s) (h:Lq b X.K H a xs):∃ak:List bn,Vals xs ak/\hZ b s.heap a ak.toArray/\xs.length<=sizeLine:=by
 cases b with
 | true=>obtain⟨ak,r,p,z⟩:=I.list (show dP X.K H a xs from h);exact⟨ak,r,p.isList,z⟩
 | false=>obtain⟨ak,r,p,z⟩:=I.tuple (show dG X.K H a xs from h);exact⟨ak,r,p,z⟩
def Inv.Io {xs ys:List V} (I:Inv X Z σ H s) (h:Lq b X.K H a xs) (h':Lq b X.K H a ys):xs=ys:=by
 cases b with
 | true=>
  obtain⟨ak,k,⟨o,n,h1,h2,h3,h4⟩,_⟩:=I.list (show dP X.K H a xs from h);obtain⟨its',k',⟨o',n',gY,qD,NR,VN⟩,_⟩:=I.list (show dP X.K H a ys from h');rw [h1] at gY;cases gY;rw [h4] at VN;have:ak=its':=by injection VN with a b;simpa using a
  subst this;exact Vals.inj k k'
 | false=>exact I.kI h h'
def Z6 (b1 b2:Bool) (K:Ab) (a1 a2:ce):It where
 go:=λi H=>∃xs ys x y,Lq b1 K H a1 xs/\Lq b2 K H a2 ys/\xs[i]?=am x/\ys[i]?=am y
 Sm:=λi H v H'=>∃p x y,v=.ref p/\H p=bm/\H'=upd H p (.tup [x,y])/\(∀xs,Lq b1 K H a1 xs->xs[i]?=am x)/\∀ys,Lq b2 K H a2 ys->ys[i]?=am y
 stop:=λi H=>∃xs ys,Lq b1 K H a1 xs/\Lq b2 K H a2 ys/\(xs.length<=i\/ys.length<=i)
theorem JP {K:Ab}{b2:Bool}{kk:Nat}{TI TO:ce} (hA:ZipApart z TI TO i1 i2 a1 a2):Turn P w K (.Tuple Î kk pos) (Z6 b1 b2 K a1 a2) [z,TI,TO,i1,i2] z (λi h=>jE b1 b2 h z TI TO i1 i2 a1 a2 .none i i) where
 mem:=by simp
 obj:=λi h st b hb=>by
  simp only [Aw,Bx,or_false] at hb;rcases hb with rfl | rfl | rfl | rfl | rfl
  ·exact⟨_,st.zip,λv z=>by cases z⟩
  ·exact⟨_,st.ti,λv z=>by cases z⟩
  ·obtain⟨_,_,e⟩:=st.to;exact⟨_,e,λv z=>by cases z⟩
  ·exact st.it1.obj
  ·exact st.it2.obj
 keep:=λi h h' st k=>⟨k z (by simp) _ st.zip,k TI (by simp) _ st.ti,let ⟨a,b,e⟩:=st.to;⟨a,b,k TO (by simp) _ e⟩,st.it1.move λo e=>k i1 (by simp) _ e,st.it2.move λo e=>k i2 (by simp) _ e⟩
 item:=by
  intro X hP hw hK hc i Z s σ H E I hf st hg;subst hP hw hK;obtain⟨xs,ys,x,y,hx,hy,gx,gy⟩:=hg;obtain⟨ak,rx,tx,_⟩:=I.WC hx;obtain⟨cT,ry,ty,_⟩:=I.WC hy;obtain⟨u,gu,ru⟩:=mL rx gx;obtain⟨v,gv,rv⟩:=mL ry gy;refine oQ hA st tx ty (by simpa using gu) (by simpa using gv) λh' zt np k=>?_;refine⟨_,rfl,?_⟩;refine Aa (wpAny_load zt.zip ?_);show db _ _ (if ((["enumerate","zip","dict_itemiterator","dict_reverseitemiterator","odict_iterator","itertools.zip_longest","itertools.pairwise"].contains "zip"&&(am (u8 s.heap.objs.size)==am (u8 s.heap.objs.size)))=true) then (do rule "for.unpacks-the-owned-tuple";wE (.ref z) 0 .none) else pure ()) _ _ _;rw [if_pos (by rw [beq_self_eq_true];decide)];refine Aa (CG ?_);refine A2 zt.zip (show 0 < 5 by decide) λh2 z2 b2=>?_;have lt:∀b∈[z,TI,TO,i1,i2],b < s.heap.objs.size:=λb hb=>by
   simp only [Aw,Bx,or_false] at hb;rcases hb with rfl | rfl | rfl | rfl | rfl
   ·exact Ao st.zip
   ·exact Ao st.ti
   ·obtain⟨_,_,e⟩:=st.to;exact Ao e
   ·obtain⟨o,e,_⟩:=st.it1.obj;exact Ao e
   ·obtain⟨o,e,_⟩:=st.it2.obj;exact Ao e
  have nz:s.heap.objs.size≠z:=λe=>AX _ (by have:=lt z (by simp);rw [<- e] at this;exact this);have YM:∀b o,b∉[z,TI,TO,i1,i2]->s.heap.get? b=am o->h2.get? b=am o:=λb o hb e=>by
   have Kx:b≠z:=λq=>hb (by simp [q]);rw [b2.2 b Kx];exact k b o Kx (λq=>hb (by simp [q])) (λq=>hb (by simp [q])) (λq=>hb (by simp [q])) e
  have Yv:h2.get? s.heap.objs.size=am {cls:=.type "tuple",data:=.seq #[u,v]}:=(b2.2 _ nz).trans np;have Ze:=I.bu.fresh (An s.heap.objs.size);refine⟨.ref s.heap.objs.size,upd H s.heap.objs.size (.tup [x,y]),I.qU (t':=s.toks) hf YM (An _) ⟨by show 2<=sizeLine;decide,[u,v],.cons ru (.cons rv .nil),⟨_,Yv,rfl,_,rfl⟩⟩,rfl,⟨_,x,y,rfl,Ze,rfl,λxs' h'=>?_,λys' h'=>?_⟩,⟨z2,(b2.2 _ hA.TIz).trans zt.ti,let ⟨p,q,e⟩:=zt.to;⟨p,q,(b2.2 _ hA.TOz).trans e⟩,zt.it1.move λo e=>(b2.2 _ hA.i1z).trans e,zt.it2.move λo e=>(b2.2 _ hA.i2z).trans e⟩,λb hb=>?_⟩
  ·rw [I.Io h' hx];exact gx
  ·rw [I.Io h' hy];exact gy
  ·rw [aw (AB (lt b hb))];exact (hf b hb).1
 done:=by
  intro X hP hw hK hc i Z s σ H E I hf st hg;subst hP hw hK;obtain⟨xs,ys,hx,hy,hl⟩:=hg;obtain⟨ak,rx,tx,_⟩:=I.WC hx;obtain⟨cT,ry,ty,_⟩:=I.WC hy;have el:=rx.length;have el2:=ry.length;refine pZ (I.ok.hd hc) hA st tx ty ?_ λh' k=>⟨rfl,I.vC (t':=s.toks) hf λb o hb e=>k b o (λz=>hb (by simp [z])) (λz=>hb (by simp [z])) (λz=>hb (by simp [z])) (λz=>hb (by simp [z])) e⟩;rcases hl with hl | hl
  ·exact .inl (by simp;omega)
  ·exact .inr (by simp;omega)
 self:=λA i s Q E st h=>wpAny_pyIter_zip st.zip h
def YS (K:Ab) (t1 t2:TE):TI:=λσ H R=>t1 σ H λx H1=>t2 σ H1 λy H2=>∃b1 b2 a b,x=.ref a/\y=.ref b/\(∃xs,Lq b1 K H2 a xs)/\(∃ys,Lq b2 K H2 b ys)/\R (Z6 b1 b2 K a b) H2
def Qc (K:Ab) (hK:X.K=K) {e1 e2:gt}{t2:TE}{kk:Nat} (hg:Gl X "zip") (hm:X.mg "zip"=bm) (h1:PE X e1 t1) (h2:PE X e2 t2)
  (FV:f8 [e1,e2] X.env=(false,ii e1 X.env)::f8 [e2] X.env:=by rfl) (qC:gs X e2 []:=by rfl) (dW:(wv p2 (f8 [e2] X.env)).any (·.1)=false:=by rfl) :
  PI X (.Tuple Î kk tp) (.Call (.Name "zip" p1) [e1,e2] [] p2) (YS K t1 t2):=by
 subst hK;intro Z s σ H R I h;refine BH (gX I hg hm boot_zip ?_ ⋯ ⋯);refine Be ?_ FV dW;rw [FV,qC];refine Cc (bR (h1 Z s σ H _ I h) λu1 s1 ⟨x,H1,I1,r1,q1⟩=>?_);refine Cc (bR (h2 Z s1 σ H1 _ I1 q1) λu2 s2 ⟨y,H2,I2,r2,b1,b2,a,b,ex,ey,⟨xs,hx⟩,⟨ys,hy⟩,q⟩=>CD ?_);subst ex;subst ey;cases r1;cases r2;obtain⟨ak,rx,tx,_⟩:=I2.WC hx;obtain⟨cT,ry,ty,_⟩:=I2.WC hy;have l1:=tx.lt;have l2:=ty.lt;refine K0 tx ty λh' zt k=>?_;refine wpAny_pyIter_zip zt.zip ?_;have dd:∀i j:Nat,i≠j->s2.heap.objs.size+i≠s2.heap.objs.size+j:=λi j n e=>n (Nat.add_left_cancel e);have na:∀i:Nat,a≠s2.heap.objs.size+i:=λi=>AB (AA l1 (BJ _ _));have nb:∀i:Nat,b≠s2.heap.objs.size+i:=λi=>AB (AA l2 (BJ _ _));have hA:ZipApart (s2.heap.objs.size+4) (s2.heap.objs.size+2) (s2.heap.objs.size+3) s2.heap.objs.size (s2.heap.objs.size+1) a b:=
  ⟨dd 2 4 ⋯,dd 3 4 ⋯,dd 0 4 ⋯,dd 1 4 ⋯,dd 2 3 ⋯,dd 2 0 ⋯,dd 2 1 ⋯,dd 3 0 ⋯,dd 3 1 ⋯,dd 0 1 ⋯,na 4,na 3,na 0,na 1,nb 4,nb 3,nb 0,nb 1⟩
 refine⟨_,_,_,_,H2,rfl,I2.kept (t':=s2.toks) k,JP hA,zt,λc hc=>?_,q⟩;have Ö:s2.heap.objs.size<=c:=by
  simp only [Aw,Bx,or_false] at hc;rcases hc with rfl | rfl | rfl | rfl | rfl
  ·exact BJ _ _
  ·exact BJ _ _
  ·exact BJ _ _
  ·exact An _
  ·exact BJ _ _
 exact I2.xj Ö (I2.bu.fresh Ö)
def X3 (K:Ab):V->Option Int->Option Int->Hp->VK->Prop:=λx lo hi H Q=>∃a xs,x=.ref a/\dG K H a xs/\
 ((HT.dR xs.length 0 lo=0/\HT.dR xs.length xs.length hi=xs.length)->Q x H)/\(¬(HT.dR xs.length 0 lo=0/\HT.dR xs.length xs.length hi=xs.length)->ke H (.tup (xQ xs lo hi)) Q)
def PU (K:Ab) (hK:X.K=K):SlR X (X3 K):=by
 subst hK;intro Z s σ H x v vl vu lo hi sl Q I rx hs pl pu h;obtain⟨a,xs,rfl,hT,qw,qn⟩:=h;by_cases c:HT.dR xs.length 0 lo=0/\HT.dR xs.length xs.length hi=xs.length
 ·have q:=qw c;cases rx;obtain⟨ak,r,ht,hz⟩:=I.tuple hT;have Á:ak.toArray.size=xs.length:=by rw [Ah];exact r.length.symm
  refine⟨"tuple",_,AH.lookup,ht.typeIs,?_⟩;obtain⟨os,Lk,WW,Ru⟩:=id hs;have Zn:s.TypeIs (.ref sl) "slice":=⟨os,Lk,WW⟩;unfold Db
  try with_reducible refine Bb ?_
  first | refine Aa (Ae ?_) | skip
  refine Aa (D8 ht.typeIs ⋯ ?_);refine Aa (AV (name:=BL "__getitem__") ht.typeIs AH
   (A8 AH ht.typeIs entry_tuple_getitem ?_ (args_tuple_getitem _ _)))
  show db _ _ (Builtin.Tuple.tupleItemsOf (.ref a) >>= _) _ _ s;refine Aa (tupleItemsOf_ ht ?_);refine Aa (Cv Zn ?_);refine Aa (HT.iy hs pl pu ?_);show db _ _ (if (((HT.dR ak.toArray.size 0 lo:Nat):Int)==0&&(1:Int)==1&&(HT.dR ak.toArray.size ak.toArray.size hi-HT.dR ak.toArray.size 0 lo)==ak.toArray.size)=true then _ else _) _ _ s;rw [if_pos (by rw [Á,c.1,c.2];simp)];refine Aa ?_
  first
   | refine Aa (Cv ht.typeIs (Ae ?_))
   | refine Cv ht.typeIs (Ae ?_)
  first
   | rw [if_pos ⋯]
   | rw [if_pos rfl]
  refine Aa (CG (Ae ⟨_,rfl,?_⟩));exact Ae ⟨.ref a,H,I,rfl,q⟩
 ·exact Uh Z s σ H _ v vl vu lo hi sl Q I rx hs pl pu ⟨a,xs,rfl,hT,c,λp hp=>(qn c).at p hp⟩
def Yd (K:Ab):R2:=λx y H Q=>∃a b xs ys,x=.ref a/\y=.ref b/\dG K H a xs/\dG K H b ys/\xs.length+ys.length<=sizeLine/\
 (xs=[]->Q (.ref b) H)/\(xs≠[]->ys=[]->Q (.ref a) H)/\(xs≠[]->ys≠[]->ke H (.tup (xs++ys)) Q)
def Qw (K:Ab) (hK:X.K=K):jG X (pr .Add) (Yd K):=by
 subst hK;intro Z s σ H x y v u Q I rx ry h;obtain⟨a,b,xs,ys,rfl,rfl,ha,hb,hz,q0,q1,q2⟩:=h;by_cases c:xs=[]
 ·cases rx;cases ry;obtain⟨ak,r1,p1,_⟩:=I.tuple ha;obtain⟨cT,r2,p2,_⟩:=I.tuple hb;obtain⟨⟨cls,dd,data,sl⟩,ho,hc,n,hd⟩:=id p1;obtain⟨⟨Wh,RS,data2,O4⟩,Kz,NM,n2,Ó⟩:=id p2;simp only at hc hd NM Ó;subst hc hd NM Ó;exact concat_meets ⟨_,ho,rfl⟩ ⟨_,Kz,rfl⟩ noFill_tuple_add seq_tuple_add CW CV (CO _ _)
   (tuple_addW0 a b ak.toArray cT.toArray n n2 dd RS sl O4 (by rw [r1.i9.mpr c];rfl)) ⟨ho,Kz,.ref b,H,I,rfl,q0 c⟩
 ·exact IK Z s σ H _ _ v u Q I rx ry ⟨a,b,xs,ys,rfl,rfl,ha,hb,c,hz,q1 c,λn p hp=>(q2 c n).at p hp⟩
end L2
namespace FL
section
open PySem PySem.Spec PyProof.Rows L2 PL
variable {K:Ab}
section
variable {a b c:gt}{w:W PV}{wm:W (List PV)}
def addW:PV->PV->W PV
 | .int i,.int j=>.ret (.int (i+j))
 | .str a,.str b=>.eQ (a.length+b.length<=sizeLine) (.ret (.str (a++b)))
 | .tup a,.tup b=>.eQ (a.length+b.length<=sizeLine) (.ret (.tup (a++b)))
 | _,_=>.fail
def b9 (hK:X.K=K) (ha:EF X K fs a wa) (hb:EF X K fs b wb):EF X K fs (.BinOp a .Add b pos) (.bind wa λx=>.bind wb λy=>addW x y):=
 ⟨PE.imp (IE ((Qy K hK).or (Qw K hK)) ha.p hb.p) λσ H Q ⟨sr,q⟩=>⟨sr,wa.mono (λx q1 u1 H1 g1 s1 v1=>⟨s1,wb.mono (λy q2 u2 H2 g2 s2 v2=>by
  have TX:=g2.vr s1 v1;cases TX with
  | int i=>
   cases v2 with
   | int j=>exact .inl ⟨_,rfl,q2 _ H2 (g1.trans g2) s2 (.int _)⟩
   | _=>exact q2.elim
  | str i=>
   cases v2 with
   | str j=>exact .inl ⟨_,rfl,q2.1,q2.2 _ H2 (g1.trans g2) s2 (.str _)⟩
   | _=>exact q2.elim
  | @tup p vs l e r=>
   cases v2 with
   | @tup p' Sq l' e' r'=>
    refine .inr ⟨p,p',vs,Sq,rfl,rfl,dG.of e,dG.of e',by rw [r.length,r'.length];exact q2.1,λz=>?_,λ_ z=>?_,λ_ _ q H3 s3 h3 n3=>?_⟩
    ·have z':=(PL.aB.i9 r).mp z;subst z';exact q2.2 _ H2 (g1.trans g2) s2 (.tup e' r')
    ·have z':=(PL.aB.i9 r').mp z;subst z';have q2:=q2.2;rw [DA] at q2;exact q2 _ H2 (g1.trans g2) s2 (.tup e r)
    ·exact q2.2 _ H3 ((g1.trans g2).trans (cJ.same s3)) (s2.same s3) (.tup h3 (aB.tk s3.dY (r.append r')))
   | _=>exact q2.elim
  | _=>exact q2.elim) q1⟩) q⟩⟩
theorem mJ:∀(l m:List PV),(oA l m).length=min l.length m.length
 | [],m=>by rw [oA];simp;intros;simp_all
 | x::l,[]=>by rw [oA];simp;intros;simp_all
 | x::l,y::m=>by rw [oA,Ar,mJ l m];simp only [Ar];omega
def JN (l m:List PV):W (List PV):=.eQ (l.length<=sizeLine) (.ret (oA l m))
def Su (h:Wv K H u l):∃(b:Bool) (a:ce) (vs:List V),u=.ref a/\aB K [] H vs l/\∀H',bc K H H'->Lq b K H' a vs:=by
 obtain⟨a,vs,e,h | h,r⟩:=h
 ·exact⟨true,a,vs,e,r,λH' t=>(t.f _ _ h).sq⟩
 ·exact⟨false,a,vs,e,r,λH' t=>dG.of (t.t _ _ h)⟩
theorem Nv (hK:X.K=K) {kk:Nat} (hg:Gl X "zip") (hm:X.mg "zip"=bm) (ha:IF X K fs a wl) (hb:IF X K fs b wm)
  (FV:f8 [a,b] X.env=(false,ii a X.env)::f8 [b] X.env:=by rfl) (qC:gs X b []:=by rfl) (dW:(wv p2 (f8 [b] X.env)).any (·.1)=false:=by rfl) :
  uw X K fs (.Tuple Î kk tp) (.Call (.Name "zip" p1) [a,b] [] p2) (.bind wl λl=>.bind wm λm=>JN l m):=
 ⟨PI.imp (Qc K hK hg hm ha.p hb.p FV qC dW) λσ H R ⟨sr,q⟩=>⟨sr,wl.mono (λl q1 u1 H1 g1 s1 v1=>⟨s1,wm.mono (λm q2 u2 H2 g2 s2 v2=>by
  obtain⟨b1,a1,vs,rfl,r1,x1⟩:=Su (v1.tk (g2.dZ s1));obtain⟨b2,a2,ws,rfl,r2,x2⟩:=Su v2;have tr:bc K H2 H2:=bc.refl H2;refine⟨b1,b2,a1,a2,rfl,rfl,⟨vs,x1 H2 tr⟩,⟨ws,x2 H2 tr⟩,q2.2 _ H2 (g1.trans g2) s2 ⟨by rw [mJ];have:=q2.1;omega,λH' t=>⟨λi pp hp=>?_,vs,ws,x1 H' t,x2 H' t,?_⟩⟩⟩
  ·obtain⟨x,y,hx,hy,rfl⟩:=qP hp;obtain⟨v,h3,h4⟩:=(aB.tk t r1).get hx;obtain⟨v',NR,VN⟩:=(aB.tk t r2).get hy;refine⟨⟨vs,ws,v,v',x1 H' t,x2 H' t,h3,NR⟩,λz H3 yl=>?_⟩;obtain⟨p,x',y',rfl,hn,rfl,e1,e2⟩:=yl;have e1:=e1 vs (x1 H' t);have e2:=e2 ws (x2 H' t);rw [h3] at e1;rw [NR] at e2;cases e1;cases e2;have sm:=j6 hn (.tup [v,v']);exact⟨sm,.tup aN (.cons (VR.tk sm.dY h4) (.cons (VR.tk sm.dY VN) .nil))⟩
  ·rw [mJ,r1.length,r2.length];omega) q1⟩) q⟩⟩
variable {el eh:Option gt}{lo:W (Option Int)}
def LZ (x:PV) (i j:Option Int):W PV:=match x with
 | .tup l=>.ret (.tup (uh l i j))
 | _=>.fail
def KY {i j:Option Int} (h:HT.dR l.length 0 i=0/\HT.dR l.length l.length j=l.length):uh l i j=l:=by
 unfold uh;rw [h.1,h.2];simp
def ZM (hK:X.K=K) (he:EF X K fs e w) (hl:OF X K fs el lo) (hh:OF X K fs eh hi):EF X K fs (.Subscript e (.Slice el eh bm p2) pos) (.bind w λx=>.bind lo λi=>.bind hi λj=>LZ x i j):=⟨PE.imp (Mz (PU K hK) he.p hl.p hh.p) λσ H Q ⟨sr,q⟩=>⟨sr,w.mono (λx q1 u1 H1 g1 s1 v1=>⟨s1,lo.mono (λi q2 H2 g2 s2=>⟨s2,hi.mono (λj q3 H3 g3 s3=>by
 have TX:=g3.vr s2 (g2.vr s1 v1);have gg:=(g1.trans g2).trans g3;cases TX with
 | @tup p vs l e r=>
  have Á:=r.length;refine⟨p,vs,rfl,dG.of e,λc=>?_,λc q H4 s4 h4 n4=>?_⟩
  ·rw [Á] at c;have q3:(bd (PV.tup (uh l i j))).run _:=q3;rw [KY c] at q3;exact q3 _ H3 gg s3 (.tup e r)
  ·exact q3 _ H4 (gg.trans (cJ.same s4)) (s3.same s4) (.tup h4 (aB.tk s4.dY (r.cut i j)))
 | _=>exact q3.elim) q2⟩) q1⟩) q⟩⟩
end
end
end FL
variable {vs:List A4}
namespace L2
open PySem PySem.Spec PyProof.Rows
def agt:List Int->Int
 | []=>0
 | x::l=>l.foldl max x
def nk:List Int->Int
 | []=>0
 | x::l=>l.foldl min x
theorem xo (l:List Int) (x:Int):l.foldl min x<=x/\(∀y∈l,l.foldl min x<=y)/\(l.foldl min x=x\/l.foldl min x∈l):=by
 induction l generalizing x with
 | nil=>exact⟨BU _,by simp,.inl rfl⟩
 | cons y l ih=>
  obtain⟨h1,h2,h3⟩:=ih (min x y);refine⟨by rw [CT];omega,λz hz=>?_,?_⟩
  ·rw [CT];rcases Aw.mp hz with rfl | hz
   ·omega
   ·exact h2 z hz
  ·rw [CT];rcases h3 with h3 | h3
   ·rw [h3];by_cases c:y<=x
    ·right;rw [Int.min_eq_right c];exact .head _
    ·left;omega
   ·exact .inr (.tail _ h3)
def qx {l:List Int}{x:Int} (h:x∈l):nk l<=x:=by
 cases l with
 | nil=>cases h
 | cons y l=>
  rcases Aw.mp h with rfl | h
  ·exact (xo l _).1
  ·exact (xo l y).2.1 x h
def nj {l:List Int} (h:l≠[]):nk l∈l:=by
 cases l with
 | nil=>exact absurd rfl h
 | cons y l=>
  rcases (xo l y).2.2 with e | e
  ·show l.foldl min y∈_;rw [e];exact .head _
  ·exact .tail _ e
def Mf (K:Ab) (C:List Int->Prop) (g:List Int->Int):List V->Hp->VK->Prop:=λxs H Q=>∃(p:ce) (ns:List Int),xs=[.ref p]/\dP K H p (ns.map V.int)/\C ns/\Q (.int (g ns)) H
section
theorem IW {xs:Array (Int×Tok)} (FW:ns=xs.toList.map (·.1)) (Rt:ns≠[]):numAt xs (argBest (λi j=>decide (numAt xs i < numAt xs j)) (xs.size-1))=nk ns:=by
 have hsz:0 < xs.size:=by
  have h3:0 < ns.length:=Co.mpr Rt;rw [FW,Ai,BQ] at h3;exact h3
 obtain⟨h1,h2⟩:=argBest_lt (numAt xs) (xs.size-1);apply EH
 ·have hm:=nj Rt;rw [FW] at hm;obtain⟨j,hj,ej⟩:=mem_getD hm;rw [Ai,BQ] at hj;rw [<- FW] at ej;rw [<- ej,FW,<- numAt_eq];exact h2 j ∅
 ·refine qx ?_;rw [FW,numAt_eq];exact getD_mem (by rw [Ai,BQ];omega)
def Ke {l:ce} (hh:A.handled=bm) (hl:s.heap.IsList l vs.toArray) (hi:tt vs ns) (Rt:ns≠[])
  (h:∀(h':kw) (t:Tok) tk,(∀b o,s.heap.get? b=am o->h'.get? b=am o)->Q (.int (nk ns) t) {s with heap:=h',toks:=tk}):db (dL prog w) A (call (.builtin "min") [.ref l]) Q E s:=by
 obtain⟨xs,e⟩:=hi.allInts.items;have FW:ns=xs.toList.map (·.1):=by rw [<- hi.numsOf,<- nums_intItems,<- e]
 have hsz:0 < xs.size:=by
  have h3:0 < ns.length:=Co.mpr Rt;rw [FW,Ai,BQ] at h3;exact h3
 rw [e] at hl;refine min_intList hh hl hsz λv h' tk hv hk=>?_;obtain⟨t,rfl⟩:=intItems_at hv;rw [IW FW Rt];exact h h' t tk hk
def JS {l:ce} (hh:A.handled=bm) (hl:s.heap.IsList l vs.toArray) (hi:tt vs ns)
  (h:∀(h':kw) (t:Tok) tk,(∀b o,s.heap.get? b=am o->h'.get? b=am o)->Q (.int ns.sum t) {s with heap:=h',toks:=tk}):db (dL prog w) A (call (.builtin "sum") [.ref l]) Q E s:=by
 obtain⟨xs,e⟩:=hi.allInts.items;have FW:ns=xs.toList.map (·.1):=by rw [<- hi.numsOf,<- nums_intItems,<- e]
 rw [e] at hl;refine sum_intListG hh hl λh' tk t' hk=>?_;have:=h h' t' tk hk;rw [preSum_eq,Ep (by simp),<- FW];exact this
end
def vf {b:String}{C:List Int->Prop}{g:List Int->Int} (K:Ab) (hK:X.K=K) (hc:X.calm=true)
  (Ø:∀{s:ci}{l:ce}{vs:List bn}{ns:List Int}{Q:bn->ci->Prop},X.A.handled=bm->s.heap.IsList l vs.toArray->tt vs ns->C ns->(∀(h':kw) (t:Tok) tk,(∀b o,s.heap.get? b=am o->h'.get? b=am o)->Q (.int (g ns) t) {s with heap:=h',toks:=tk})->db (dL X.prog X.w) X.A (call (.builtin b) [.ref l]) Q X.xe s):bN X (.builtin b) (Mf K C g):=by
 subst hK;intro Z s σ H xs us Q I r h;obtain⟨p,ns,rfl,hq,hC,q⟩:=h;obtain⟨u,rfl,rx⟩:=vals1 r;cases rx;obtain⟨ak,r',pl,hz⟩:=I.list hq;exact Ø (I.ok.hd hc) pl.isList (intsAre_of r') hC λh' t tk hk=>⟨.int _,H,I.kept (t':=tk) hk,⟨t,rfl⟩,q⟩
end L2
variable {x:PL.PV}
namespace FL
section
open PySem PySem.Spec PyProof.Rows L2 PL
variable {K:Ab}
section
open Classical in
noncomputable def Hi (K:Ab) (H:Hp) (x:PV) (w:bn):Bool:=decide (∃p v,RelV v w/\VR K [] H v p/\jn p x=true)
open Classical in
def Oe (hK:X.K=K) (I:Inv X Z σ H s) {x p:PV}{v:V}{w:bn} (r:RelV v w) (h:VR K [] H v p):Hi K H x w=jn p x:=by
 subst hK;cases e:jn p x with
 | true=>exact decide_eq_true ⟨p,v,r,h,e⟩
 | false=>
  refine decide_eq_false ?_;rintro⟨p',v',r',h',e'⟩;have:=L9 r r';subst this;rw [VR.NZ I h h',e'] at e;cases e
theorem qG (hK:X.K=K) (I:Inv X Z σ H s):∀{vs:List V}{ak:List bn}{l:List PV},Vals vs ak->aB K [] H vs l->ak.map (Hi K H x)=l.map λy=>jn y x
 | _,_,_,.nil,.nil=>rfl
 | _,_,_,.cons r t,.cons q z=>by rw [Au,Au,Oe hK I r q,qG hK I t z]
def G1 (x:PV) (l:List PV):Prop:=PV.jm x=true/\eJ l=true/\dB l<=150
theorem pD (hK:X.K=K) (I:Inv X Z σ H s) {v:V}{w:bn} (hx:VR K [] H v x) (rx:RelV v w) (dx:PV.jm x=true) (hu:A.units+150+1 < ss) :
  ∀{vs:List V}{ak:List bn}{l:List PV},Vals vs ak->aB K [] H vs l->eJ l=true->dB l<=150->∀u∈ak,Dc A s u w (Hi K H x u)
 | _,_,_,.nil,.nil,_,_,u,hu=>by cases hu
 | _,_,_,.cons r t,.cons q z,d,dd,u,hm=>by
  rw [eJ,AE] at d;rw [dB] at dd;rcases Aw.mp hm with rfl | hm
  ·rw [Oe hK I r q];exact (Wg hK I 150 _ x A _ v _ w ∅ d.1 dx q hx r rx hu).eq
  ·exact pD hK I hx rx dx hu t z d.2 ∅ u hm
end
def lz (x:PV) (l:List PV):Bool:=l.any λy=>jn y x
def Ux (K:Ab) (neg:Bool):R2:=λx y H Q=>∃p vs l xp,y=.ref p/\(dP K H p vs\/dG K H p vs)/\aB K [] H vs l/\VR K [] H x xp/\G1 xp l/\Q (.bl (if neg then !lz xp l else lz xp l)) H
section
theorem any_map' (f:α->Bool):∀l:List α,l.any f=(l.map f).any id
 | []=>rfl
 | x::l=>by rw [Cn,Au,Cn,any_map' f l];rfl
theorem MH (K:Ab) (hK:X.K=K) (hu:X.A.units+200 < ss):jG X (o0 .In) (Ux K false):=by
 intro Z s σ H x y v u Q I rx ry h;obtain⟨p,vs,l,xp,rfl,hq,hl,hx,ok,q⟩:=h;cases ry;have VB:X.A.in1.units+150+1 < ss:=by show X.A.units+1+150+1 < _;omega
 have fin:∀{ak:List bn},Vals vs ak->ak.toArray.any (Hi K H xp)=lz xp l:=λ{ak} r=>by
  rw [show ak.toArray.any (Hi K H xp)=ak.any (Hi K H xp) by simp,any_map',qG hK I r hl,<- any_map'];rfl
 rcases hq with hq | hq
 ·obtain⟨ak,r,pl,hz⟩:=I.list (show dP X.K H p vs by rw [hK];exact hq);refine SeqAt.in_listAt (Hi K H xp) pl.isList (λw hw=>pD hK I hx rx ok.1 VB r hl ok.2.1 ok.2.2 w (by simpa using hw)) ⟨.bl _,H,I,rfl,?_⟩;rw [fin r];exact q
 ·obtain⟨ak,r,pl,hz⟩:=I.tuple (show dG X.K H p vs by rw [hK];exact hq);refine SeqAt.in_tupleAt (Hi K H xp) pl (λw hw=>pD hK I hx rx ok.1 VB r hl ok.2.1 ok.2.2 w (by simpa using hw)) ⟨.bl _,H,I,rfl,?_⟩;rw [fin r];exact q
theorem Qt (K:Ab) (hK:X.K=K) (hu:X.A.units+200 < ss):jG X (o0 .NotIn) (Ux K true):=by
 intro Z s σ H x y v u Q I rx ry h;obtain⟨p,vs,l,xp,rfl,hq,hl,hx,ok,q⟩:=h;cases ry;have VB:X.A.in1.units+150+1 < ss:=by show X.A.units+1+150+1 < _;omega
 have fin:∀{ak:List bn},Vals vs ak->ak.toArray.any (Hi K H xp)=lz xp l:=λ{ak} r=>by
  rw [show ak.toArray.any (Hi K H xp)=ak.any (Hi K H xp) by simp,any_map',qG hK I r hl,<- any_map'];rfl
 rcases hq with hq | hq
 ·obtain⟨ak,r,pl,hz⟩:=I.list (show dP X.K H p vs by rw [hK];exact hq);refine SeqAt.notIn_listAt (Hi K H xp) pl.isList (λw hw=>pD hK I hx rx ok.1 VB r hl ok.2.1 ok.2.2 w (by simpa using hw)) ⟨.bl _,H,I,rfl,?_⟩;rw [fin r];exact q
 ·obtain⟨ak,r,pl,hz⟩:=I.tuple (show dG X.K H p vs by rw [hK];exact hq);refine SeqAt.notIn_tupleAt (Hi K H xp) pl (λw hw=>pD hK I hx rx ok.1 VB r hl ok.2.1 ok.2.2 w (by simpa using hw)) ⟨.bl _,H,I,rfl,?_⟩;rw [fin r];exact q
def tV (x:PV) (l:List PV):Nat:=l.findIdx λy=>jn y x
def Ya (K:Ab):V->List V->Hp->VK->Prop:=λx us H Q=>∃p vs l y q,x=.ref p/\us=[y]/\dP K H p vs/\aB K [] H vs l/\VR K [] H y q/\G1 q l/\lz q l=true/\Q (.int (tV q l)) H
theorem QK (K:Ab) (hK:X.K=K) (hu:X.A.units+200 < ss):HU X "list.index" (Ya K):=by
 intro Z s σ H x vs v us Q I rx rv h;obtain⟨p,ws,l,y,q,rfl,rfl,hq,hl,hy,ok,has,qq⟩:=h;cases rx;obtain⟨u,rfl,ru⟩:=rv.one;have VB:X.A.in1.units+150+1 < ss:=by show X.A.units+1+150+1 < _;omega
 obtain⟨ak,r,⟨⟨cls,dd,data,sl⟩,n,ho,hc,hd,kq⟩,hz⟩:=I.list (show dP X.K H p ws by rw [hK];exact hq);simp only at hc hd kq;subst hc hd kq;have em:=qG (x:=q) hK I r hl;have Á:ak.length=l.length:=by rw [<- r.length,hl.length]
 have ig:tV q l < l.length:=List.findIdx_lt_length_of_exists (by simpa [lz] using has);have at':∀(j:Nat) (h1:j < ak.length) (h2:j < l.length),Hi K H q ak[j]=jn l[j] q:=λj h1 h2=>by
  have e:=congrArg (λz=>z[j]?) em;simp only [Aj,Ad h1,Ad h2,Cf] at e;exact Option.some.inj e
 have hsm:((tV q l:Nat):Int) < 2 ^ 63-1:=by
  have h8:l.length<=sizeLine:=by rw [<- hl.length];exact hz
  have h9:(sizeLine:Int) < 2 ^ 63-1:=by decide
  omega
 refine re F.slot_list_index ⟨_,ho,rfl⟩ F.entry_list_index (F.args_list_index_2 _ _) (SeqAt.list_indexAt p ak.toArray n bm sl u (Hi K H q) (tV q l) (by rw [Ah];omega) hsm ?_ ?_) ⟨ho,?_,?_⟩
 ·have h1:tV q l < ak.length:=by omega
  rw [show ak.toArray[tV q l]'(by rw [Ah];omega)=ak[tV q l] by simp,at' _ h1 ig];exact List.findIdx_getElem (w:=ig)
 ·intro m hm hmj;have h1:m < ak.length:=by rw [Ah] at hm;exact hm
  rw [show ak.toArray[m]=ak[m] by simp,at' _ h1 ∅];have:=List.not_of_lt_findIdx (p:=λy=>jn y q) (xs:=l) hmj;simpa using this
 ·intro w hw;exact pD hK I hy ru ok.1 VB r hl ok.2.1 ok.2.2 w (by simpa using hw)
 ·exact⟨.int _,H,I.tok _,⟨_,rfl⟩,qq⟩
end
end
end FL
namespace L2
open PySem PySem.Spec PyProof.Rows
theorem yW (xs:List bn):∀k≤xs.length,((AG k).filterMap λ(m:Nat)=>xs.toArray[(((xs.length:Int)-1)+(m:Int)*(-1)).toNat]?)=(xs.drop (xs.length-k)).reverse
 | 0,_=>by simp
 | k+1,h=>by
  have ih:=yW xs k ∅;rw [List.range_succ,List.filterMap_append,ih];have e:(((xs.length:Int)-1)+(k:Int)*(-1)).toNat=xs.length-(k+1):=by omega
  have h1:xs.length-(k+1) < xs.length:=by omega
  simp only [A6,List.filterMap_nil,e];have e2:xs.toArray[xs.length-(k+1)]?=am xs[xs.length-(k+1)]:=by simp [h1]
  rw [e2];have e3:xs.drop (xs.length-(k+1))=xs[xs.length-(k+1)]::xs.drop (xs.length-k):=by
   rw [Bi h1];congr 2;omega
  rw [e3,CF]
section
variable {st:gt}{tl th ts:TO}{lo hi:Option gt}
def XA (K:Ab) (te:TE) (tl th ts:TO):TE:=λσ H Q=>te σ H λx H1=>tl σ H1 λl H2=>th σ H2 λu H3=>ts σ H3 λs H4=>∃a xs,x=.ref a/\dG K H4 a xs/\l=bm/\u=bm/\s=am (-1)/\ke H4 (.tup xs.reverse) Q
theorem Qi (K:Ab) (hK:X.K=K) (he:PE X e te) (hl:PO X lo tl) (hu:PO X hi th) (hs:PO X (am st) ts):PE X (.Subscript e (.Slice lo hi (am st) p2) pos) (XA K te tl th ts):=by
 subst hK;intro Z s σ H Q I h;refine Subscript_ (bR (he Z s σ H _ I h) λv s1 ⟨x,H1,I1,r1,q1⟩=>?_);refine wpAny_Slice (bR (hl Z s1 σ H1 _ I1 q1) λvl s2 ⟨l,H2,I2,pl,q2⟩=>bR (hu Z s2 σ H2 _ I2 q2) λvu s3 ⟨u,H3,I3,pu,q3⟩=>bR (hs Z s3 σ H3 _ I3 q3) λvs s4 ⟨c,H4,I4,ps,a,xs,ea,hx,el,eu,ec,q⟩=>?_);subst ea;subst el;subst eu;subst ec;cases r1;cases pl;cases pu;cases ps with
 | int i t=>
 have I5:Inv X Z σ H4 {s4 with heap:=s4.heap.push {cls:=.type "slice",data:=.fields #[.none,.none,.int (-1) t]}}:=I4.kept (t':=s4.toks) λb ob q=>Ag _ q;obtain⟨ak,r,ht,hz⟩:=I5.tuple hx;have Á:=r.length;refine tail_any (ops:=[.ref a,.ref s4.heap.objs.size]) ht.typeIs AH.lookup ?_ (by with_unfolding_all rfl);have hs:ER {s4 with heap:=s4.heap.push {cls:=.type "slice",data:=.fields #[.none,.none,.int (-1) t]}}.heap s4.heap.objs.size .none .none (.int (-1) t):=ER.new ..;generalize {s4 with heap:=s4.heap.push {cls:=.type "slice",data:=.fields #[.none,.none,.int (-1) t]}}=s5 at I5 ht hs;obtain⟨os,Lk,WW,Ru⟩:=id hs;have Zn:s5.TypeIs (.ref s4.heap.objs.size) "slice":=⟨os,Lk,WW⟩;unfold Db
 try with_reducible refine Bb ?_
 first | refine Aa (Ae ?_) | skip
 refine Aa (D8 ht.typeIs ⋯ ?_);refine Aa (AV (name:=BL "__getitem__") ht.typeIs AH
  (A8 AH ht.typeIs entry_tuple_getitem ?_ (args_tuple_getitem _ _)))
 show db _ _ (Builtin.Tuple.tupleItemsOf (.ref a) >>= _) _ _ s5;refine Aa (tupleItemsOf_ ht ?_);refine Aa (Cv Zn ?_);rw [if_pos ⋯];have app:∀{Q:Int×Int×Nat->ci->Prop}{E:bn->ci->Prop}{A:nn} (n:Nat),Q ((n:Int)-1,-1,n) s5->db (dL X.prog X.w) A (Builtin.Slice.sliceApplied (.ref s4.heap.objs.size) (pure (n:Int))) Q E s5:=λ{Q E A} n hq=>by
  unfold Builtin.Slice.sliceApplied Builtin.Slice.sliceFields;refine Aa (Aa (AY Lk Ru (x:=.none) rfl (Aa (AY Lk Ru (x:=.none) rfl (Aa (AY Lk Ru (x:=.int (-1) t) rfl (Ae ?_)))))));refine Aa (HT.fW (.int (-1) t) ?_);show db _ _ (if (((-1:Int))==0)=true then _ else _) _ _ s5;rw [if_neg ⋯];refine Aa (HT.fW .none (Aa (HT.fW .none (Aa (Ae ?_)))));show db _ _ (match Builtin.Slice.sliceAdjust bm bm (-1) (n:Int) with | (lo,hi)=>pure (lo,(-1:Int),Builtin.Slice.slicePlaces lo hi (-1))) _ _ s5;have e1:Builtin.Slice.sliceAdjust bm bm (-1) (n:Int)=((n:Int)-1,-1):=by unfold Builtin.Slice.sliceAdjust;simp
  rw [e1];have e2:Builtin.Slice.slicePlaces ((n:Int)-1) (-1) (-1)=n:=by
   unfold Builtin.Slice.slicePlaces;rw [if_neg ⋯];by_cases h0:(n:Int)-1 > -1
   ·rw [if_pos h0];show (((n:Int)-1 - -1-1) / 1+1).toNat=n;rw [Int.ediv_one];omega
   ·rw [if_neg h0];show (0:Int).toNat=n;omega
  show db _ _ (pure ((n:Int)-1,(-1:Int),Builtin.Slice.slicePlaces ((n:Int)-1) (-1) (-1))) _ _ s5;rw [e2];exact Ae hq
 refine Aa (app ak.toArray.size ?_);show db _ _ (if (((ak.toArray.size:Int)-1)==0&&(-1:Int)==1&&ak.toArray.size==ak.toArray.size)=true then _ else _) _ _ s5;rw [if_neg (by simp)];have hp:=yW ak ak.length (An _);rw [DJ,List.drop_zero] at hp;have ĕ:((AG ak.toArray.size).filterMap λ(m:Nat)=>ak.toArray[(((ak.toArray.size:Int)-1)+(m:Int)*(-1)).toNat]?).toArray=ak.reverse.toArray:=by
  rw [Ah,hp]
 rw [ĕ];have hsz:sizeOk (.seq ak.reverse.toArray):=by
  show ak.reverse.toArray.size<=sizeLine;rw [Ah,BP];omega
 have fin:EP X Z σ Q (.ref s5.heap.objs.size) {s5 with heap:=s5.heap.push {cls:=.type "tuple",data:=.seq ak.reverse.toArray}}:=
  ⟨.ref s5.heap.objs.size,_,I5.laid (t':=s5.toks) (o:=.tup xs.reverse) (λb ob q=>Ag _ q) (An _) ⟨by rw [BP];exact hz,_,r.rk,E4 _ _⟩,rfl,q.at _ (I5.bu.fresh (An _))⟩
 first
  | exact Aa (m:=Builtin.Tuple.tupleExact _) (AJ (Ae ⟨_,rfl,Ae fin⟩) hsz)
  | exact Aa (m:=Builtin.Tuple.tupleExact _) (AJ (Aa (Ae (Ae ⟨_,rfl,Ae fin⟩))) hsz)
  | exact Aa (Aa (m:=Builtin.Tuple.tupleExact _) (AJ (Ae (Ae ⟨_,rfl,Ae fin⟩)) hsz))
  | exact Aa (Aa (m:=Builtin.Tuple.tupleExact _) (AJ (Ae ⟨_,rfl,Ae fin⟩) hsz))
end
end L2
variable {Q:PL.PV->Prop}
namespace FL
section
open PySem PySem.Spec PyProof.Rows L2 PL
variable {K:Ab}
section
variable {a b c:gt}{w:W PV}
def qg (neg:Bool) (x:PV) (l:List PV):W Bool:=.eQ (G1 x l) (.ret (if neg then !lz x l else lz x l))
def N8 {neg:Bool}:∀σ H Q,fT K fs (.bind wa λx=>.bind wl λl=>qg neg x l) σ H Q->WB (Ux K neg) (fE K fs wa) (fQ K fs wl) σ H λx H'=>∃k,x=.bl k/\Q k H':=λσ H Q ⟨sr,q⟩=>
 ⟨sr,wa.mono (λx q1 u1 H1 g1 s1 v1=>⟨s1,wl.mono (λl q2 u2 H2 g2 s2 v2=>by
  obtain⟨ad,vs,rfl,h,rs⟩:=v2.sq s2;exact⟨ad,vs,l,x,rfl,h,rs,g2.vr s1 v1,q2.1,_,rfl,q2.2 H2 (g1.trans g2) s2⟩) q1⟩) q⟩
def Xx (hK:X.K=K) (hu:X.A.units+200 < ss) (ha:EF X K fs a wa) (hb:QF X K fs b wl) (hk:t0 .In b=false:=by rfl):TF X K fs (.Compare a [.In] [b] pos) (.bind wa λx=>.bind wl λl=>qg false x l):=⟨PT.imp (qp (MH K hK hu) ha.p hb.p hk) (N8 (neg:=false))⟩
def vG (hK:X.K=K) (hu:X.A.units+200 < ss) (ha:EF X K fs a wa) (hb:QF X K fs b wl) (hk:t0 .NotIn b=false:=by rfl):TF X K fs (.Compare a [.NotIn] [b] pos) (.bind wa λx=>.bind wl λl=>qg true x l):=⟨PT.imp (qp (Qt K hK hu) ha.p hb.p hk) (N8 (neg:=true))⟩
abbrev Ny (neg:Bool) (wa:W PV) (wl:W (List PV)):W Bool:=.bind wa λx=>.bind wl λl=>qg neg x l
def IT (l:List PV):W PV:=.bind (lS l) λns=>.eQ (ns≠[]) (.ret (.int (nk ns)))
def Ij (l:List PV):W PV:=.bind (lS l) λns=>.ret (.int ns.sum)
def uW {C:List Int->Prop}{g:List Int->Int}{f:List PV->W PV} (hf:∀{l:List PV}{Q:PV->Prop},(f l).run Q->∃ns:List Int,l=ns.map PV.int/\C ns/\Q (.int (g ns))):∀σ H Q,fE K fs (.bind wl f) σ H Q->tCB (Mf K C g) (Sr (fQL K fs wl) XC) σ H Q:=λσ H Q ⟨sr,q⟩=>⟨sr,wl.mono (λl q1 u1 H1 g1 s1 _ v1=>by
 obtain⟨ns,el,hC,q2⟩:=hf q1;obtain⟨a,vs,rfl,h1,r1⟩:=v1 H1 .refl s1;rw [el] at r1;have:=jh r1;subst this;exact⟨a,ns,rfl,h1,hC,q2 _ H1 g1 s1 (.int _)⟩) q⟩
def Kf (h:(IT l).run Q):∃ns:List Int,l=ns.map PV.int/\ns≠[]/\Q (.int (nk ns)):=let ⟨ns,e,q⟩:=fH h;⟨ns,e,q.1,q.2⟩
def JT (h:(Ij l).run Q):∃ns:List Int,l=ns.map PV.int/\True/\Q (.int ns.sum):=let ⟨ns,e,q⟩:=fH h;⟨ns,e,trivial,q⟩
def V5 (hK:X.K=K) (hc:X.calm=true) (hg:Gl X "min") (hm:X.mg "min"=bm) (ha:Lf X K fs e wl) (he:gs X e []:=by rfl) (dW:lq X pos []:=by rfl):EF X K fs (.Call (.Name "min" p) [e] [] pos) (.bind wl IT):=⟨PE.imp (eT (vf (C:=λns=>ns≠[]) (g:=nk) K hK hc λa b c d q=>Ke a b c d q) hg hm boot_min (aU ha.p bP he) ⋯ ⋯ he dW) (uW Kf)⟩
def V4 (hK:X.K=K) (hc:X.calm=true) (hg:Gl X "sum") (hm:X.mg "sum"=bm) (ha:Lf X K fs e wl) (he:gs X e []:=by rfl) (dW:lq X pos []:=by rfl):EF X K fs (.Call (.Name "sum" p) [e] [] pos) (.bind wl Ij):=⟨PE.imp (eT (vf (C:=λ_=>True) (g:=λns=>ns.sum) K hK hc λa b c _ q=>JS a b c q) hg hm (show im "sum"=am (.builtin "sum") by rfl) (aU ha.p bP he) ⋯ ⋯ he dW) (uW JT)⟩
def sortI (ns:List Int):List Int:=ns.mergeSort (λa b=>decide (a<=b))
theorem LW (h1:ms.Perm ns) (h2:ms.Pairwise (·<=·)):ms=sortI ns:=by
 have h3:(sortI ns).Perm ns:=CN ns _;have h4:(sortI ns).Pairwise (λa b=>decide (a<=b)=true):=Ei (λa b c=>by simp;omega) (λa b=>by simp;omega) ns;exact List.Perm.eq_of_pairwise (le:=λa b=>a<=b) (λa b _ _ h h'=>EH h h') h2 (h4.imp (by simp)) (h1.trans h3.symm)
def vK (l:List PV):W (List PV):=.bind (lS l) λns=>.eQ (ns.length < 64) (.ret ((sortI ns).map PV.int))
def QX (hK:X.K=K) (hg:Gl X "sorted") (hm:X.mg "sorted"=bm) (ha:Lf X K fs e wl) (he:gs X e []:=by rfl) (dW:lq X pos []:=by rfl):LF X K fs (.Call (.Name "sorted" p) [e] [] pos) (.bind wl vK):=⟨PE.imp (eT (HB K hK) hg hm boot_sorted (aU ha.p bP he) ⋯ ⋯ he dW) λσ H Q ⟨sr,q⟩=>⟨sr,wl.mono (λl q1 u1 H1 g1 s1 _ v1=>by
 obtain⟨ns,el,hC,q2⟩:=fH (l:=l) q1;obtain⟨a,vs,rfl,h1,r1⟩:=v1 H1 .refl s1;rw [el] at r1;have:=jh r1;subst this;refine⟨a,ns,rfl,h1,hC,λms a2 a3=>?_⟩;rw [LW a2 a3];exact IP g1 s1 (nJ _ _ _) q2) q⟩⟩
def Rl (l:List PV) (x:PV):W PV:=.eQ (G1 x l/\lz x l=true) (.ret (.int (tV x l)))
def RL (hK:X.K=K) (hu:X.A.units+200 < ss) (ho:Lf X K fs o wl) (he:EF X K fs e w)
  (dw:lc o "index" X.env (ii o X.env)=ii o X.env:=by rfl)
  (mj:Tw X bo [e]:=by rfl)
  (du:O3 Ã bo:=by rfl) (pj:gs X e []:=by rfl) (dM:lq X bo []:=by rfl) :
  EF X K fs (.Call (.Attribute o "index" Ã) [e] [] bo) (.bind wl λl=>.bind w λx=>Rl l x):=
 ⟨PE.imp (oV K hK BI PySem.F.slot_list_index PySem.F.type_list_index (QK K hK hu) ho.p (aU he.p bP pj) dw mj du pj dM) λσ H Q ⟨sr,q⟩=>⟨sr,wl.mono (λl q1 u1 H1 g1 s1 _ v1=>by
  obtain⟨a,vs,eu,h1,_⟩:=v1 H1 .refl s1;subst eu;refine⟨.inl ⟨rfl,_,h1⟩,s1,w.mono (λx q2 u2 H2 g2 s2 v2=>?_) q1⟩
  ·obtain⟨a',vs,ea,h2,r2⟩:=v1 H2 g2 s2;cases ea;exact⟨a,vs,l,u2,x,rfl,rfl,h2,r2,v2,q2.1.1,q2.1.2,q2.2 _ H2 (g1.trans g2) s2 (.int _)⟩) q⟩⟩
variable {el eh:Option gt}{st:gt}{lo ws:W (Option Int)}
def Iy (x:PV) (i j k:Option Int):W PV:=match x with
 | .tup l=>.eQ (i=bm/\j=bm/\k=am (-1)) (.ret (.tup l.reverse))
 | _=>.fail
def Om (hK:X.K=K) (he:EF X K fs e w) (hl:OF X K fs el lo) (hh:OF X K fs eh hi) (hs:OF X K fs (am st) ws):EF X K fs (.Subscript e (.Slice el eh (am st) p2) pos) (.bind w λx=>.bind lo λi=>.bind hi λj=>.bind ws λk=>Iy x i j k):=⟨PE.imp (Qi K hK he.p hl.p hh.p hs.p) λσ H Q ⟨sr,q⟩=>⟨sr,w.mono (λx q1 u1 H1 g1 s1 v1=>⟨s1,lo.mono (λi q2 H2 g2 s2=>⟨s2,hi.mono (λj q3 H3 g3 s3=>⟨s3,ws.mono (λk q4 H4 g4 s4=>by
 have TX:=g4.vr s3 (g3.vr s2 (g2.vr s1 v1));have gg:=((g1.trans g2).trans g3).trans g4;cases TX with
 | @tup p vs l e r=>
  have q4:(W.eQ (i=bm/\j=bm/\k=am (-1)) (bd (PV.tup l.reverse))).run _:=q4;exact⟨p,vs,rfl,dG.of e,q4.1.1,q4.1.2.1,q4.1.2.2,λq H5 s5 h5 n5=>q4.2 _ H5 (gg.trans (cJ.same s5)) (s4.same s5) (.tup h5 (aB.tk s5.dY r.reverse))⟩
 | _=>exact q4.elim) q3⟩) q2⟩) q1⟩) q⟩⟩
end
end
section
open PySem PySem.Spec PyProof.Rows L2 PL
variable {K:Ab}
section
variable {rest:List ul}{T:Type}{out:T->End}{x:Bool}
def agO (l:List PV):PV->W PV
 | .int k=>.eQ (0<=k/\k < 1000) (.O6 l[k.toNat]?)
 | _=>.fail
def Uq (l:List PV) (v:PV):W (List PV):=match v with
 | .int k=>.bind (lS l) λns=>.eQ (k∈ns) (.ret ((ns.erase k).map PV.int))
 | _=>.fail
theorem SF.remove (i:Nat) {k:List PV->W T} (hs:fs[i]?=am (am (.ol q0 l))) (hK:X.K=K) (hN:X.N[i]?=am y) (hv:HK X.env.scope y) (he:EF X K fs e we) (hr:∀l',SF X K x (fs.set i (am (.ol q0 l'))) rest (k l') out)
  (hd:jS y:=by decide) (kr:JM y:=by decide) (dw:lc (.Name y p) "remove" X.env (ii (.Name y p) X.env)=ii (.Name y p) X.env:=by rfl)
  (mj:Tw X bo [e]:=by rfl)
  (du:O3 Ã bo:=by rfl) (pj:gs X e []:=by rfl) (dM:lq X bo []:=by rfl)
  (wY:mo (.Call (.Attribute (.Name y p) "remove" Ã) [e] [] bo) bm pos.line X.env=pure false:=by rfl) :
  SF X K x fs (.Expr (.Call (.Attribute (.Name y p) "remove" Ã) [e] [] bo) pos::rest) (.bind we λv=>.bind (Uq l v) k) out:=
 SF.step (qr (oV K hK BI PySem.F.slot_list_remove PySem.F.type_list_remove Gv (fe hN hv hd kr) (aU he.p bP pj) dw mj du pj dM) wY) λD σ H ⟨sr,q⟩=>by
  obtain⟨a,ws,e1,h1,r1⟩:=c9 sr hs;refine⟨_,e1,.inl ⟨rfl,_,dP.of h1⟩,sr,we.mono (λv q1 u H1 g1 s1 v1=>?_) q⟩;obtain⟨a',oB,xJ,gY,FU⟩:=c9 s1 hs;rw [e1] at xJ;cases xJ;cases v1 with
  | int kk=>
   obtain⟨ns,el,hk,q2⟩:=fH (l:=l) q1;subst el;have:=jh FU;subst this;refine⟨a,ns,kk,rfl,rfl,gY,hk,λH2 sx h2=>?_⟩;obtain⟨s2,g2⟩:=m4 s1 hs e1 sx h2 (nJ _ _ (ns.erase kk));exact⟨_,k _,hr _,s2,(k _).mono (λt q3=>q3.go (g1.f.trans g2) sr s2) q2⟩
  | _=>exact q1.elim
end
end
end FL
variable {vs:List (L2.Key×L2.V)}{kvs:List (L2.Key×PL.PV)}
namespace FL
section
open PySem PySem.Spec PyProof.Rows L2 PL
variable {K:Ab}
abbrev w2 (f:PV->PV->W PV) (wa wb:W PV):W PV:=.bind wa λx=>.bind wb λy=>f x y
def adh (kvs:List (Key×PV)) (k:Key):Bool:=kvs.any λkv=>decide (kv.1=k)
def qh (kvs:List (Key×PV)) (k:Key):Option PV:=(kvs.find? λkv=>decide (kv.1=k)).map (·.2)
def ib (K:Ab) (H:Hp) (vs:List (Key×V)) (kvs:List (Key×PV)):Prop:=vs.map (·.1)=kvs.map (·.1)/\aB K [] H (vs.map (·.2)) (kvs.map (·.2))
section
def ib.cons_inv {p:Key×V}{q:Key×PV} (h:ib K H (p::vs) (q::kvs)):p.1=q.1/\VR K [] H p.2 q.2/\ib K H vs kvs:=by
 obtain⟨h1,h2⟩:=h;injection h1 with a b;cases h2 with
 | cons r t=>exact⟨a,r,b,t⟩
theorem ib.ind {C:List (Key×V)->List (Key×PV)->Prop} (h0:C [] []) (h1:∀p q vs kvs,p.1=q.1->VR K [] H p.2 q.2->ib K H vs kvs->C vs kvs->C (p::vs) (q::kvs)):∀{vs kvs},ib K H vs kvs->C vs kvs
 | [],[],_=>h0
 | [],_::_,h=>by simp [ib] at h
 | _::_,[],h=>by simp [ib] at h
 | p::vs,q::kvs,h=>let ⟨a,b,c⟩:=h.cons_inv;h1 p q vs kvs a b c (ib.ind h0 h1 c)
def ib.has (h:ib K H vs kvs) (k:Key):(ir vs k).isSome=adh kvs k:=by
 rw [<- yw];refine ib.ind (C:=λvs kvs=>(vs.any λkv=>decide (kv.1=k))=kvs.any λkv=>decide (kv.1=k)) rfl (λp q vs kvs e _ _ ih=>?_) h;rw [Cn,Cn,ih,e]
def ib.get (h:ib K H vs kvs) (k:Key) (g:qh kvs k=am v):∃u,ir vs k=am u/\VR K [] H u v:=by
 refine ib.ind (C:=λvs kvs=>qh kvs k=am v->∃u,ir vs k=am u/\VR K [] H u v) (λg=>by simp [qh] at g) (λp q vs kvs e r _ ih g=>?_) h g;by_cases c:p.1=k
 ·rw [jV c];have c':=e▸c;have:qh (q::kvs) k=am q.2:=by simp [qh,BF,c']
  rw [this] at g;cases g;exact⟨_,rfl,r⟩
 ·rw [jW c];have c':=e▸c;have:qh (q::kvs) k=qh kvs k:=by simp [qh,BF,c']
  exact ih (this▸g)
end
end
end FL
variable {kvs:List (List L2.Key×PL.PV)}
namespace FL
section
open PySem PySem.Spec PyProof.Rows L2 PL
variable {K:Ab}
def oy (K:Ab) (H:Hp) (vs:List (List Key×V)) (kvs:List (List Key×PV)):Prop:=vs.map (·.1)=kvs.map (·.1)/\aB K [] H (vs.map (·.2)) (kvs.map (·.2))
def Si (K:Ab) (H:Hp) (ob:HO) (v:PV):Prop:=(∃vs kvs,ob=.dK vs/\v=dvK kvs/\ib K H vs kvs)\/∃vs kvs,ob=.dT vs/\v=Oy kvs/\oy K H vs kvs
def fDv (K:Ab) (fs:bp) (w:W PV):TE:=λσ H Q=>aP K H σ fs/\w.run λv=>∀a ob H',cJ σ fs H H'->aP K H' σ fs->H a=bm->H' a=am ob->Si K H' ob v->Q (.ref a) H'
structure DVF (X:Cx) (K:Ab) (fs:bp) (e:gt) (w:W PV):Prop where p:PE X e (fDv K fs w)
section
variable {σ:L2.St}{fs:bp}{H:Hp}{a:ce}{ob:HO}{v:PV}
def aP.XT (s:aP K H σ fs) (n:¬dE σ fs a) (e:H a=am ob) (n1:∀vs,ob≠.tup vs) (n2:∀o u,ob≠.cI o u) (o':HO):aP K (upd H a o') σ fs:=⟨s.len,λi t q=>by
 obtain⟨u,h1,h2⟩:=s.at' i t q;exact⟨u,h1,h2.mono (fP o' e n1 n2) (λx b o eb ow hb z=>by subst eb;rw [aw (λy:b=a=>n ⟨i,t,x,q,ow,h1,y▸hb⟩)];exact z)⟩,s.nd⟩
def Si.cI {X:Cx}{Z:List (ce×Obj)}{s:ci}{σ':L2.St} (I:Inv X Z σ' H s) (e:H a=am ob) (d:Si K H ob v):∃u,Inv X Z σ' (upd H a u) s/\VR K [] (upd H a u) (.ref a) v/\(∀vs,ob≠.tup vs)/\∀o u,ob≠.cI o u:=by
 rcases d with⟨vs,kvs,rfl,rfl,d1,d2⟩ | ⟨vs,kvs,rfl,rfl,d1,d2⟩
 ·obtain⟨o,I2⟩:=I.Jo e;exact⟨_,I2,.dk aN (SU d1) (aB.tk (fP _ e (by simp) (by simp)) d2),by simp,by simp⟩
 ·obtain⟨o,I2⟩:=I.freeze e;exact⟨_,I2,.dt aN (SS d1) (aB.tk (fP _ e (by simp) (by simp)) d2),by simp,by simp⟩
end
section
variable {a b c:gt}{w:W PV}
def adI (h:DVF X K fs e w):EF X K fs e w:=⟨λZ s σ H Q I ⟨sr,q⟩=>by
 refine bR (h.p Z s σ H (λu H1=>∃a ob v,u=.ref a/\cJ σ fs H H1/\aP K H1 σ fs/\H a=bm/\H1 a=am ob/\Si K H1 ob v/\∀u H',cJ σ fs H H'->aP K H' σ fs->VR K [] H' u v->Q u H') I ⟨sr,w.mono (λv q1 a ob H1 g1 s1 n e d=>⟨a,ob,v,rfl,g1,s1,n,e,d,q1⟩) q⟩) λu s1 ⟨v,H1,I1,r1,a,ob,v',e,g1,Um,n,ea,d,q1⟩=>?_;subst e;obtain⟨o',I2,vr,n1,n2⟩:=d.cI I1 ea;exact⟨.ref a,_,I2,r1,q1 _ _ (g1.side n _) (Um.XT (λz=>sr.noOwn n z) ea n1 n2 _) vr⟩⟩
def IH (kv:List Key×PV):PV:=.tup [.tup (kv.1.map kP),kv.2]
theorem Np (H:Hp):∀k:List Key,aB K [] H (k.map kV) (k.map kP)
 | []=>.nil
 | .inl i::k=>.cons (.int i) (Np H k)
 | .inr i::k=>.cons (.str i) (Np H k)
theorem Jc:∀{k:List Key}{vs:List V},aB K [] H vs (k.map kP)->vs=k.map kV
 | [],_,h=>by cases h;rfl
 | .inl i::k,_,h=>by
  cases h with
  | cons x t=>cases x;rw [Jc t];rfl
 | .inr i::k,_,h=>by
  cases h with
  | cons x t=>cases x;rw [Jc t];rfl
theorem yY:∀{kvs:List (List Key×PV)}{vs:List V},aB K [] H vs (kvs.map IH)->∃zs:List Pz,vs=zs.map (λz=>V.ref z.pa)/\(∀z∈zs,z.At H)/\zs.map (·.k)=kvs.map (·.1)/\aB K [] H (zs.map (·.v)) (kvs.map (·.2))
 | [],_,h=>by cases h;exact⟨[],rfl,by simp,rfl,.nil⟩
 | kv::kvs,_,h=>by
  cases h with
  | cons x t=>
  obtain⟨zs,z1,z2,z3,z4⟩:=yY t;cases x with
  | @tup p ws _ e r=>
  cases r with
  | cons x1 t1=>
  cases t1 with
  | cons x2 t2=>
  cases t2;cases x1 with
  | @tup b us _ e1 r1=>
  have:=Jc r1;subst this;refine⟨⟨p,kv.1,b,_⟩::zs,by rw [Au,z1],λz hz=>?_,by rw [Au,Au,z3],.cons x2 z4⟩;rcases Aw.mp hz with rfl | hz
  ·exact⟨e,e1⟩
  ·exact z2 z hz
def Hw (l:List PV):W PV:=⟨λQ=>∃kvs:List (List Key×PV),l=kvs.map IH/\(kvs.map (·.1)).Nodup/\kvs.length<=1000/\Q (Oy kvs),λf q=>q.imp λkvs h=>⟨h.1,h.2.1,h.2.2.1,f _ h.2.2.2⟩⟩
theorem RT (hK:X.K=K) (hc:X.calm=true) (hu:X.A.units+200 < ss) (hg:Gl X "dict") (hm:X.mg "dict"=bm) (ha:Lf X K fs e wl) (he:gs X e []:=by rfl) (dW:lq X pos []:=by rfl) :
  DVF X K fs (.Call (.Name "dict" p) [e] [] pos) (.bind wl Hw):=⟨PE.imp (kL (HF K hK hc ∅) hg hm boot_dict (aU ha.p bP he) ⋯ ⋯ he dW) λσ H Q ⟨sr,q⟩=>⟨sr,wl.mono (λl q1 u H1 g1 s1 v0 v1=>by
  obtain⟨kvs,rfl,nd,hl,q1⟩:=q1;obtain⟨a,vs,rfl,e3,e4⟩:=v1 H1 .refl s1;obtain⟨zs,rfl,z2,z3,z4⟩:=yY e4;have hzl:zs.length=kvs.length:=by have:=congrArg Cj z3;simpa using this
  refine⟨a,zs,rfl,e3,z2,by rw [z3];exact nd,by omega,λp H2 s2 h2 n2=>?_⟩;exact q1 _ _ H2 (g1.trans (cJ.same s2)) (s1.same s2) (g1.there _ n2) h2 (.inr ⟨_,_,rfl,rfl,by rw [AN,<- z3];rfl,by rw [AN];exact aB.tk s2.dY z4⟩)) q⟩⟩
def KQ (nd:(kvs.map (·.1)).Nodup) (hl:kvs.length<=1000) (q:Q (Oy kvs)):(Hw (kvs.map IH)).run Q:=⟨kvs,rfl,nd,hl,q⟩
def lA (kvs:List (List Key×PV)) (k:List Key):Option PV:=(kvs.find? λkv=>decide (kv.1=k)).map (·.2)
theorem oy.get {k:List Key}:∀{vs:List (List Key×V)}{kvs:List (List Key×PV)},oy K H vs kvs->(lA kvs k=bm->ir vs k=bm)/\∀{v},lA kvs k=am v->∃u,ir vs k=am u/\VR K [] H u v
 | [],[],_=>⟨λ_=>rfl,λg=>by simp [lA] at g⟩
 | [],_::_,h=>by simp [oy] at h
 | _::_,[],h=>by simp [oy] at h
 | p::vs,q::kvs,h=>by
  obtain⟨h1,h2⟩:=h;rw [Au,Au] at h1 h2;injection h1 with e b;cases h2 with
  | cons r t=>
  have ih:=oy.get (k:=k) (vs:=vs) (kvs:=kvs) ⟨b,t⟩;by_cases c:p.1=k
  ·rw [jV c];have c':=e▸c;have:lA (q::kvs) k=am q.2:=by simp [lA,BF,c']
   rw [this];refine⟨λz=>(by cases z),λ{v} z=>?_⟩;cases z;exact⟨_,rfl,r⟩
  ·rw [jW c];have c':=e▸c;have:lA (q::kvs) k=lA kvs k:=by simp [lA,BF,c']
   rw [this];exact ih
def ib.get' {k:Key}:∀{vs:List (Key×V)}{kvs:List (Key×PV)},ib K H vs kvs->(qh kvs k=bm->ir vs k=bm)/\∀{v},qh kvs k=am v->∃u,ir vs k=am u/\VR K [] H u v:=λ{vs kvs} h=>⟨λz=>by
 have:=h.has k;cases e:ir vs k with
 | none=>rfl
 | some u=>
  rw [e] at this;have h2:=this.symm;unfold qh at z;rw [Option.map_eq_none_iff,List.find?_eq_none] at z;obtain⟨x,hx,ñ⟩:=List.any_eq_true.mp h2;exact absurd ñ (z x hx),λz=>h.get k z⟩
def SY (k:Key) (l:List PV):kP k≠.tup l:=by cases k <;> exact PV.noConfusion
def Vr {a b:Key} (h:kP a=kP b):a=b:=by
 cases a <;> cases b <;> simp [kP] at h <;> rw [h]
theorem wO:∀{a b:List Key},a.map kP=b.map kP->a=b
 | [],[],_=>rfl
 | [],_::_,h=>by simp at h
 | _::_,[],h=>by simp at h
 | x::a,y::b,h=>by
  rw [Au,Au] at h;injection h with h1 h2;rw [Vr h1,wO h2]
inductive FT:PV->PV->Option PV->Prop
 | k (kvs:List (Key×PV)) (k:Key):kvs≠[]->FT (dvK kvs) (kP k) (qh kvs k)
 | t (kvs:List (List Key×PV)) (k:List Key):kvs≠[]->FT (Oy kvs) (.tup (k.map kP)) (lA kvs k)
def TV {kvs:List (Key×PV)} (h0:kvs≠[]) (h:VR K [] H u (dvK kvs)):∃a o vs,u=.ref a/\H a=am (.cI o (.dK vs))/\ib K H vs kvs:=by
 have Ý:∀{vs:List (Key×V)}{kvs:List (Key×PV)},(kvs.map λkv=>kP kv.1)=(vs.map λkv=>kP kv.1)->vs.map (·.1)=kvs.map (·.1):=λ{vs kvs} e=>by
  have e:(kvs.map (·.1)).map kP=(vs.map (·.1)).map kP:=by rw [AN,AN];exact e
  exact (wO e).symm
 cases h with
 | @dk a o vs _ _ e k r=>exact⟨a,o,vs,rfl,e,Ý k,r⟩
 | @dt a o vs _ _ e k r=>
  cases kvs with
  | nil=>exact absurd rfl h0
  | cons x l=>cases vs with
   | nil=>simp at k
   | cons y m=>simp at k;exact absurd k.1 (SY _ _)
def Ly (h0:kvs≠[]) (h:VR K [] H u (Oy kvs)):∃a o vs,u=.ref a/\H a=am (.cI o (.dT vs))/\oy K H vs kvs:=by
 have Ý:∀{vs:List (List Key×V)}{kvs:List (List Key×PV)},(kvs.map λkv=>PV.tup (kv.1.map kP))=(vs.map λkv=>PV.tup (kv.1.map kP))->vs.map (·.1)=kvs.map (·.1):=λ{vs kvs} e=>by
  induction kvs generalizing vs with
  | nil=>cases vs with
   | nil=>rfl
   | cons y m=>simp at e
  | cons x l ih=>cases vs with
   | nil=>simp at e
   | cons y m=>
    injection e with e1 e2;injection e1 with e1;rw [Au,Au,wO e1,ih e2]
 cases h with
 | @dt a o vs _ _ e k r=>exact⟨a,o,vs,rfl,e,Ý k,r⟩
 | @dk a o vs _ _ e k r=>
  cases kvs with
  | nil=>exact absurd rfl h0
  | cons x l=>cases vs with
   | nil=>simp at k
   | cons y m=>simp at k;exact absurd k.1.symm (SY _ _)
def FT.ok {z:V}{d y:PV}{r:Option PV} (h:FT d y r) (hu:VR K [] H u d) (hz:VR K [] H z y):∃a o,u=.ref a/\IsD H a/\Sj H a z o/\(r=bm->o=bm)/\∀v,r=am v->∃w,o=am w/\VR K [] H w v:=by
 cases h with
 | k kvs k h0=>
  obtain⟨a,o,vs,rfl,e,d⟩:=TV h0 hu;have ez:z=kV k:=by
   cases k with
   | inl i=>cases hz;rfl
   | inr i=>cases hz;rfl
  subst ez;exact⟨a,ir vs k,rfl,.inl ⟨vs,.inr ⟨o,e⟩⟩,.inl ⟨vs,k,.inr ⟨o,e⟩,rfl,rfl⟩,(ib.get' d).1,λv=>(ib.get' d).2⟩
 | t kvs k h0=>
  obtain⟨a,o,vs,rfl,e,d⟩:=Ly h0 hu;cases hz with
  | @tup b us _ e1 r1=>
  have:=Jc r1;subst this;exact⟨a,ir vs k,rfl,.inr ⟨vs,.inr ⟨o,e⟩⟩,.inr ⟨vs,k,b,.inr ⟨o,e⟩,rfl,e1,rfl⟩,(oy.get d).1,λv=>(oy.get d).2⟩
def dgW (d y:PV):W PV:=⟨λQ=>∃v,FT d y (am v)/\Q v,λf ⟨v,a,q⟩=>⟨v,a,f _ q⟩⟩
def ZV (a b:W PV):W PV:=.bind a λx=>.bind b λy=>dgW x y
theorem Ov (hu:X.A.units+200 < ss) (ha:EF X K fs a wa) (hb:EF X K fs b wb) (hs:Wx b):EF X K fs (.Subscript a b pos) (ZV wa wb):=⟨PE.imp (Ql ∅ ha.p hb.p hs) λσ H Q ⟨sr,q⟩=>⟨sr,wa.mono (λx q1 u1 H1 g1 s1 v1=>⟨s1,wb.mono (λy q2 u2 H2 g2 s2 v2=>by
 obtain⟨v,g,q2⟩:=q2;obtain⟨a,o,rfl,_,g2',_,h⟩:=g.ok (g2.vr s1 v1) v2;obtain⟨w,rfl,vw⟩:=h v rfl;exact⟨a,w,rfl,g2',q2 _ H2 (g1.trans g2) s2 vw⟩) q1⟩) q⟩⟩
def JA {k:List Key} (h:lA kvs k=am v) (q:Q v):(dgW (Oy kvs) (.tup (k.map kP))).run Q:=⟨v,by rw [<- h];exact .t kvs k (λz=>by subst z;simp [lA] at h),q⟩
def Nf (d:PV):W (List PV):=⟨λQ=>∃kvs:List (List Key×PV),d=Oy kvs/\kvs≠[]/\kvs.length<=1000/\Q (kvs.map λkv=>.tup (kv.1.map kP)),λf q=>q.imp λkvs h=>⟨h.1,h.2.1,h.2.2.1,f _ h.2.2.2⟩⟩
theorem Rc (h:EF X K fs e w):uw X K fs tg e (.bind w Nf):=⟨PI.imp (Mv h.p) λσ H R ⟨sr,q⟩=>⟨sr,w.mono (λx q1 u1 H1 g1 s1 v1=>by
 obtain⟨kvs,rfl,h0,hl,q1⟩:=q1;obtain⟨a,o,vs,rfl,e,d1,d2⟩:=Ly h0 v1;have len:vs.length=kvs.length:=by have:=congrArg Cj d1;simpa using this
 refine⟨a,o,vs,rfl,e,q1 _ H1 g1 s1 ⟨bS (by simpa using hl),λH' t=>?_⟩⟩;have e':=t.z _ _ _ e;refine⟨λi p hp=>?_,vs,e',by simp [len]⟩;rw [Aj] at hp;cases z:kvs[i]? with
 | none=>rw [z] at hp;cases hp
 | some kv=>
  rw [z] at hp;have hp:=Option.some.inj hp;subst hp;have hi:=(Al.mp z).1;refine⟨⟨vs,e',by omega⟩,λy H2 yy=>?_⟩;obtain⟨rfl,yy⟩:=yy;obtain⟨b,k,v,rfl,k2,k3⟩:=yy vs e';have ek:k=kv.1:=by
   have h1:(vs.map (·.1))[i]?=am k:=by rw [Aj,k2];rfl
   rw [d1,Aj,z] at h1;exact (Option.some.inj h1).symm
  subst ek;exact⟨kG.refl _,.tup k3 (Np _ _)⟩) q⟩⟩
def Kn {Q:List PV->Prop} (h0:kvs≠[]) (hl:kvs.length<=1000) (q:Q (kvs.map λkv=>.tup (kv.1.map kP))):(Nf (Oy kvs)).run Q:=⟨kvs,rfl,h0,hl,q⟩
end
end
end FL
variable {κ:PyProof.Rows.SortKind}{vs:List A4}{p:Array Nat}{m:Nat}
namespace L2
open PySem PySem.Spec PyProof.Rows
def eA (N:Nat) (P:α->Prop):DE α->Prop
 | .ret a=>P a
 | .ask i j k=>i < N/\j < N/\∀b,eA N P (k b)
theorem eA.mono {N:Nat}{P P':α->Prop} (h:∀a,P a->P' a):∀{t:DE α},eA N P t->eA N P' t
 | .ret a,q=>h a q
 | .ask i j k,q=>⟨q.1,q.2.1,λb=>eA.mono h (q.2.2 b)⟩
theorem eA.bind {N:Nat}{P:α->Prop}{P':β->Prop}{f:α->DE β} (hf:∀a,P a->eA N P' (f a)):∀{t:DE α},eA N P t->eA N P' (t.bind f)
 | .ret a,q=>hf a q
 | .ask i j k,q=>⟨q.1,q.2.1,λb=>eA.bind hf (q.2.2 b)⟩
theorem eA.wp {N:Nat}{P:α->Prop}{cmp:Nat->Nat->(Bool->ci->Prop)->ci->Prop}{Q:α->ci->Prop} (hc:∀i j C,i < N->j < N->(∀b,C b s)->cmp i j C s) (hq:∀a,P a->Q a s):∀{t:DE α},eA N P t->t.kasWp cmp Q s
 | .ret a,q=>hq a q
 | .ask i j k,q=>hc i j _ q.1 q.2.1 λb=>eA.wp hc hq (q.2.2 b)
def cC (N:Nat) (p:Array Nat):Prop:=p.toList.Perm (AG N)
def cC.lt {N:Nat} (h:cC N p) (h0:0 < N) (k:Nat):p.getD k 0 < N:=by
 by_cases c:k < p.size
 ·have:p.getD k 0=p[k]:=by simp [Array.getD,c]
  rw [this];exact AW.mp (h.mem_iff.mp (by simp))
 ·have:p.getD k 0=0:=by simp [Array.getD,c]
  rw [this];exact h0
def cC.rev {N:Nat} (h:cC N p) (i j:Nat):cC N (Ez p i j):=(D4.mp (mirror_perm p i j _)).trans h
def cC.bub {N:Nat} (h:cC N p) (i j:Nat):cC N (bubble p i j):=(D4.mp (bubble_perm p i j)).trans h
section
variable {N:Nat} (h0:0 < N)
include h0
theorem Nn (h:cC N p):∀f n,eA N (λ_=>True) (PySem.W.kas_asc p f n)
 | 0,n=>trivial
 | f+1,n=>⟨h.lt h0 _,h.lt h0 _,λb=>by
  cases b with
  | true=>exact trivial
  | false=>exact Nn h f (n+1)⟩
theorem wH:∀f (p:Array Nat) n q,cC N p->eA N (λr=>cC N r.1) (PySem.W.kas_desc f p n q)
 | 0,p,n,q,h=>h
 | f+1,p,n,q,h=>⟨h.lt h0 _,h.lt h0 _,λb=>by
  cases b with
  | true=>
   show eA N _ (if q > 0 then _ else _)
   split
   ·exact wH f _ _ _ (h.rev _ _)
   ·exact wH f _ _ _ h
  | false=>exact⟨h.lt h0 _,h.lt h0 _,λb=>by
    cases b with
    | true=>exact h
    | false=>exact wH f _ _ _ h⟩⟩
def Nh (h:cC N p):eA N (λr=>cC N r.2) (PySem.W.kas_tail3 n m p):=by
 exact eA.bind (N:=N) (P:=λ_=>True) (P':=λr:Nat×Array Nat=>cC N r.2) (f:=λk=>.ret (k,Ez p 0 n)) (λk _=>(show cC N (Ez p 0 n) from h.rev _ _)) (Nn h0 (h.rev _ _) _ _)
def Nk (h:cC N p):eA N (λr=>cC N r.2) (PySem.W.kas_descPart n m p):=eA.bind (λr hr=>by
 split
 ·exact Nh h0 (hr.rev _ _)
 ·exact Nh h0 hr) (wH h0 _ _ _ _ h)
def Q7 (h:cC N p):eA N (λr=>cC N r.2) (PySem.W.kas_count m p):=eA.bind (λn _=>by
 split
 ·exact h
 ·split
  ·exact⟨h.lt h0 _,h.lt h0 _,λb=>by
    cases b with
    | true=>exact h
    | false=>exact Nk h0 (h.rev _ _)⟩
  ·exact Nk h0 h) (Nn h0 h _ _)
theorem wG (h:cC N p) (k:Nat):∀f l r,eA N (λ_=>True) (PySem.W.kas_place p k f l r)
 | 0,l,r=>trivial
 | f+1,l,r=>by
  show eA N _ (if l≥r then _ else _)
  split
  ·exact trivial
  ·exact⟨h.lt h0 _,h.lt h0 _,λb=>by
    cases b with
    | true=>exact wG h k f _ _
    | false=>exact wG h k f _ _⟩
theorem SW:∀f (p:Array Nat) k,cC N p->eA N (cC N) (PySem.W.kas_bin f p k)
 | 0,p,k,h=>h
 | f+1,p,k,h=>eA.bind (λl _=>SW f _ _ (h.bub _ _)) (wG h0 h k _ _ _)
def Vq:eA N (cC N) (Fj N):=eA.bind (λr hr=>by
 split
 ·exact SW h0 _ _ _ hr
 ·exact hr) (Q7 h0 (List.Perm.refl _))
end
section
theorem GJ {P:PySem.Fin->ci->Prop} (ho:s.heap.get? a=am (sB "list" vs.toArray n)) (Zp:vs.length < 64)
  (ę:2<=vs.length->∀h',(∀b o,b≠a->s.heap.get? b=am o->h'.get? b=am o)->db (dL prog w) A (keyKind' vs.toArray) (λk s'=>k=κ/\s'={s with heap:=h'}) (λ_ _=>False) {s with heap:=h'})
  (ig:∀h',(∀b o,b≠a->s.heap.get? b=am o->h'.get? b=am o)->∀i j,i < vs.length->j < vs.length->∀C:Bool->ci->Prop,(∀b,C b {s with heap:=h'})->db (dL prog w) A (keyLt' κ (vs.getD i AO) (vs.getD j AO)) C (λ_ _=>False) {s with heap:=h'})
  (h:∀out:List bn,out.Perm vs->P (.done (.ret .none)) {s with heap:=sortedHeap s.heap a vs out.toArray}) :
  db (dL prog w) A (wn.«list.sort» ⟨[.ref a],[]⟩) P E s:=by
 rw [list_sort_plain];have ha:=Ao ho;refine Aa (listItems_at ho rfl ?_);refine Aa (listUpdate_at ho rfl ?_);obtain⟨e1,ho1⟩:∃e1,(s.heap.update a (Bj λ_=>#[])).get? a=am (sB "list" #[] e1):=⟨_,get?_update_seq ho (λ_=>#[])⟩;refine Aa (seqEpoch_at ho1 rfl ?_);refine Aa (CH ?_);refine Aa (wpAny_newList ?_);refine Bb ?_;have ö:(((s.heap.update a (Bj λ_=>#[])).push (sB "tuple" vs.toArray 0)).push (sB "list" #[] 0)).get? a=am (sB "list" #[] e1):=by
  rw [Heap.get?_push_ne _ _ _ (by rw [size_push',Ef];exact AB (Nat.lt_succ_of_lt ha)),Heap.get?_push_ne _ _ _ (by rw [Ef];exact AB ha)];exact ho1
 have kp:∀b o,b≠a->s.heap.get? b=am o->(((s.heap.update a (Bj λ_=>#[])).push (sB "tuple" vs.toArray 0)).push (sB "list" #[] 0)).get? b=am o:=λb o n e=>Ag _ (Ag _ (by rw [E5 _ _ _ _ n];exact e));dsimp only;have hsz:vs.toArray.size=vs.length:=by simp
 by_cases h2:vs.toArray.size < 2
 ·rw [if_pos h2,if_pos h2];refine Aa (Ae ?_);refine Aa (Ae ?_);dsimp only;refine Aa (seqEpoch_at ö rfl ?_);refine Aa (listUpdate_at ö rfl ?_ (hsz2:=by rw [Array.size_map];show (pairsOf vs).size<=_;rw [pairsOf_size,sizeLine_eq];omega));simp only [bne_self_eq_false,Aq,if_false];refine Ae ?_;have e:(arrOf (SortSt.mk' general' (vs.toArray.zip vs.toArray) #[] 7 bm)).map (·.2)=vs.toArray:=by
   apply Array.toList_inj.mp;simp [List.map_snd_zip]
  show P _ {s with heap:=_};rw [e];exact h vs (List.Perm.refl _)
 ·rw [if_neg h2,if_neg h2];have qD:2<=vs.length:=by omega
  refine Aa (BN (ę qD _ kp) (λk s0 hk=>?_) λ_ _ x=>x.elim);obtain⟨rfl,rfl⟩:=hk;have hw:(Fj vs.length).kasWp (PySem.W.kas_ask prog w A k vs) (λp s'=>cC vs.length p/\s'={s with heap:=((s.heap.update a (Bj λ_=>#[])).push (sB "tuple" vs.toArray 0)).push (sB "list" #[] 0)}) {s with heap:=((s.heap.update a (Bj λ_=>#[])).push (sB "tuple" vs.toArray 0)).push (sB "list" #[] 0)}:=
   eA.wp (λi j C hi hj hC=>ig _ kp i j hi hj C hC) (λp hp=>⟨hp,rfl⟩) (Vq (show 0 < vs.length by omega))
  refine Aa (BN (PySem.W.kat_run (Q:=λqo s'=>∃p:Array Nat,cC vs.length p/\arrOf qo=p.map (PySem.W.kas_item (vs.toArray.zip vs.toArray))/\failedOf qo=bm/\s'={s with heap:=((s.heap.update a (Bj λ_=>#[])).push (sB "tuple" vs.toArray 0)).push (sB "list" #[] 0)})
   rfl qD Zp (λp' qo s' a1 a2 a3 a4=>⟨p',a4.1,a2,a3,a4.2⟩) hw) ?_ λ_ _ e=>e)
  rintro⟨⟨⟩,qo⟩ s' ⟨p,hp,har,hf,rfl⟩;have acR:=PySem.W.kat_snds rfl har;have S6:(p.toList.map λi=>vs.getD i AO).Perm vs:=by
   have e:(AG vs.length).map (λi=>vs.getD i AO)=vs:=by
    apply Ck;intro i;by_cases c:i < vs.length
    ·rw [Aj,B8 c,Ad c];show am (vs.getD i AO)=_;rw [Af,Ad c];rfl
    ·rw [AZ (by simp;omega),AZ ∅]
   have:=hp.map (λi=>vs.getD i AO);rw [e] at this;exact this
  rw [acR];refine Aa (seqEpoch_at ö rfl ?_);refine Aa (listUpdate_at ö rfl ?_ (hsz2:=by rw [Ah,S6.length_eq,sizeLine_eq];omega));rw [hf];simp only [bne_self_eq_false,Aq,if_false];exact Ae (h _ S6)
def PN {l:ce}{Q:bn->ci->Prop} (hl:s.heap.IsList l vs.toArray) (Zp:vs.length < 64)
  (ę:2<=vs.length->∀h',(∀b o,s.heap.get? b=am o->h'.get? b=am o)->db (dL prog w) A.in1.in1 (keyKind' vs.toArray) (λk s'=>k=κ/\s'={s with heap:=h'}) (λ_ _=>False) {s with heap:=h'})
  (ig:∀h',(∀b o,s.heap.get? b=am o->h'.get? b=am o)->∀i j,i < vs.length->j < vs.length->∀C:Bool->ci->Prop,(∀b,C b {s with heap:=h'})->db (dL prog w) A.in1.in1 (keyLt' κ (vs.getD i AO) (vs.getD j AO)) C (λ_ _=>False) {s with heap:=h'})
  (h:∀out:List bn,out.Perm vs->Q (.ref (s.heap.objs.size+1)) {s with heap:=sortedAll s.heap vs out.toArray}) :
  db (dL prog w) A (call (.builtin "sorted") [.ref l]) Q E s:=by
 refine Calls.call_function_entry kind_sorted plain_sorted entry_sorted (args_sorted1 _) ?_;refine Aa (m:=checkCount "sorted" 1 1 _) (Ae ?_);refine Aa (collect_list hl ?_);refine Aa (wpAny_newList ?_);have hsz:((s.heap.push (sB "list" #[] 0)).update s.heap.objs.size (Bj (·++vs.toArray))).objs.size=s.heap.objs.size+1:=by
  rw [Ef,size_push']
 have õ:(((s.heap.push (sB "list" #[] 0)).update s.heap.objs.size (Bj (·++vs.toArray))).push (sB "list" vs.toArray 0)).get? (s.heap.objs.size+1)=am (sB "list" vs.toArray 0):=by
  rw [<- hsz];exact Ap _ rfl
 have kp:∀b o,s.heap.get? b=am o->b≠s.heap.objs.size+1/\(((s.heap.push (sB "list" #[] 0)).update s.heap.objs.size (Bj (·++vs.toArray))).push (sB "list" vs.toArray 0)).get? b=am o:=λb o e=>by
  have lt:=Ao e;refine⟨AB (Nat.lt_succ_of_lt lt),Ag _ ?_⟩;rw [E5 _ _ _ _ (AB lt)];exact Ag _ e
 show db _ _ _ _ _ {s with heap:=((s.heap.push (sB "list" #[] 0)).update s.heap.objs.size (Bj (·++vs.toArray))).push (sB "list" vs.toArray 0)};rw [hsz];refine Aa (Bb (A8 slot_list_sort ⟨_,õ,rfl⟩ entry_list_sort (GJ (κ:=κ) õ Zp (λh2 h' k=>?_) (λh' k=>?_) λout hp=>⟨_,rfl,?_⟩) (args_list_sort _)))
 ·exact ę h2 h' λb o e=>k b o (kp b o e).1 (kp b o e).2
 ·exact ig h' λb o e=>k b o (kp b o e).1 (kp b o e).2
 ·exact Ae ⟨_,rfl,h out hp⟩
end
end L2
variable {t t1:PySem.Tok}{p:B9}
namespace FL
section
open PySem PySem.Spec PyProof.Rows L2 PL
variable {K:Ab}
def pd:PV->Bool
 | .tup [.str _,.tup [.int _,.int _]]=>true
 | _=>false
def G0 (h:pd x=true):∃s i j,x=.tup [.str s,.tup [.int i,.int j]]:=by
 unfold pd at h
 split at h
 ·exact⟨_,_,_,rfl⟩
 ·cases h
section
def RQ (I:Inv X Z σ H s) {v:V}{u:bn} (hv:VR X.K [] H v x) (ru:RelV v u) (hx:pd x=true):∃(a b:ce) (st:Str) (i j:Int) (t t1 t2:Tok) (oa ob:Obj) (na nb:Nat),u=.ref a/\s.heap.get? a=am oa/\oa.cls=.type "tuple"/\oa.data=.seq #[.str st t,.ref b] na/\s.heap.get? b=am ob/\ob.cls=.type "tuple"/\ob.data=.seq #[.int i t1,.int j t2] nb:=by
 obtain⟨st,i,j,rfl⟩:=G0 hx;cases hv with
 | @tup p vs _ e r=>
 cases ru;cases r with
 | cons r1 r2=>
 cases r1;cases r2 with
 | cons r2 r3=>
 cases r3;cases r2 with
 | @tup b ws _ e2 r4=>
 cases r4 with
 | cons r4 r5=>
 cases r4;cases r5 with
 | cons r5 r6=>
 cases r6;cases r5;obtain⟨ak,rv,⟨o,h1,h2,n,h3⟩,_⟩:=I.tuple (dG.of (K:=X.K) e);obtain⟨cT,rv2,⟨o2,k1,k2,n2,k3⟩,_⟩:=I.tuple (dG.of (K:=X.K) e2);cases rv with
 | cons q1 q2=>
 cases q2 with
 | cons q2 q3=>
 cases q3;cases rv2 with
 | cons m1 m2=>
 cases m2 with
 | cons m2 m3=>
 cases m3;obtain⟨t,rfl⟩:=q1;cases q2;obtain⟨t1,rfl⟩:=m1;obtain⟨t2,rfl⟩:=m2;exact⟨p,b,st,i,j,t,t1,t2,o,o2,n,n2,rfl,h1,h2,h3,k1,k2,k3⟩
end
theorem RO {b a' b':ce}{st qo:Str}{i j i' j':Int}{t2 t' XQ XN:Tok}{oa WD Yu:Obj}{na nb na' Ć:Nat} (hu:A.units+1 < ss)
  (h1:s.heap.get? a=am oa) (h3:oa.data=.seq #[.str st t,.ref b] na) (k1:s.heap.get? b=am ob) (k2:ob.cls=.type "tuple") (k3:ob.data=.seq #[.int i t1,.int j t2] nb)
  (gY:s.heap.get? a'=am WD) (NR:WD.data=.seq #[.str qo t',.ref b'] na') (Ċ:s.heap.get? b'=am Yu) (ĉ:Yu.cls=.type "tuple") (Ĉ:Yu.data=.seq #[.int i' XQ,.int j' XN] Ć)
  {C:Bool->ci->Prop} (hC:∀b,C b s):db (dL prog w) A (keyLt' (tuples' true) (.ref a) (.ref a')) C (λ_ _=>False) s:=by
 refine PySem.W.kat_lt h1 h3 gY NR (Fi (Dc.str_str st t qo t' prog w _ _ (PySem.W.kat_go (λ_=>PySem.W.kat_yes ?_) λ_=>PySem.W.kat_no ?_)))
 ·refine Fi ?_;have hT:s.heap.IsTuple b #[.int i t1,.int j t2]:=⟨ob,k1,k2,nb,k3⟩;have hT':s.heap.IsTuple b' #[.int i' XQ,.int j' XN]:=⟨Yu,Ċ,ĉ,Ć,Ĉ⟩;have go:∀e,PySem.W.KatGo prog w A true (decide ((#[Bd st t,.ref b]:Array bn).size < (#[Bd qo t',.ref b']:Array bn).size)) C (.ref b) (.ref b') [] 1 e s:=λe=>PySem.W.kat_go (λ_=>PySem.W.kat_yes (PySem.W.kat_nil (hC _))) λ_=>PySem.W.kat_no (PySem.W.kat_one _ _ (HT.GB hT hT' (.cons i t1 (.cons j t2 .nil)) (.cons i' XQ (.cons j' XN .nil)) ∅ (hC _)));by_cases c:b=b'
  ·subst c;exact Fp (.ref b) prog w _ _ (go _)
  ·refine Fc c (Fe (e:=λk=>if k=0 then i==i' else j==j') hT hT' ∅ λk g1 g2=>?_) prog w _ _ (go _);have:k=0\/k=1:=by simp at g1;omega
   rcases this with rfl | rfl
   ·exact DP i t1 i' XQ
   ·exact DP j t2 j' XN
 ·exact oneLt_str (hC _)
section
def Ur (K:Ab):List V->Hp->VK->Prop:=λxs H Q=>∃(p:ce) (vs:List V) (l:List PV),xs=[.ref p]/\dP K H p vs/\aB K [] H vs l/\l.length < 64/\l.all pd=true/\∀m:List PV,m.Perm l->∀ws,aB K [] H ws m->ke H (.lst ws) Q
def Mw {vs:List V}{out:List bn} (r:Vals vs us) (v:aB K [] H vs l) (p:out.Perm us):∃ws m,Vals ws out/\aB K [] H ws m/\m.Perm l:=by
 induction p generalizing vs l with
 | nil=>cases r;cases v;exact⟨[],[],.nil,.nil,.refl _⟩
 | cons x p ih=>
  cases r with
  | cons r1 r2=>
  cases v with
  | cons v1 v2=>
  obtain⟨ws,m,a,b,c⟩:=ih r2 v2;exact⟨_::ws,_::m,.cons r1 a,.cons v1 b,.cons _ c⟩
 | swap x y l'=>
  cases r with
  | cons r1 r2=>
  cases r2 with
  | cons r2 r3=>
  cases v with
  | cons v1 v2=>
  cases v2 with
  | cons v2 v3=>exact⟨_::_::_,_::_::_,.cons r2 (.cons r1 r3),.cons v2 (.cons v1 v3),.swap _ _ _⟩
 | trans p1 p2 Rj Ri=>
  obtain⟨ws,m,a,b,c⟩:=Ri r v;obtain⟨oB,m',a',b',c'⟩:=Rj a b;exact⟨oB,m',a',b',c'.trans c⟩
theorem HA (hK:X.K=K) (hu:X.A.units+200 < ss):bN X (.builtin "sorted") (Ur K):=by
 subst hK;intro Z s σ H xs us Q I r h;obtain⟨p,vs,l,rfl,hq,hv,Zp,hd,q⟩:=h;obtain⟨u,rfl,rx⟩:=vals1 r;cases rx;obtain⟨ak,r',pl,hz⟩:=I.list hq;have hl:=r'.length;have O9:=hv.length;have el:∀i,i < ak.length->∃(a b:ce) (st:Str) (i1 j1:Int) (t t1 t2:Tok) (oa ob:Obj) (na nb:Nat),ak.getD i AO=.ref a/\s.heap.get? a=am oa/\oa.cls=.type "tuple"/\oa.data=.seq #[.str st t,.ref b] na/\s.heap.get? b=am ob/\ob.cls=.type "tuple"/\ob.data=.seq #[.int i1 t1,.int j1 t2] nb:=λi hi=>by
  have e1:vs[i]?=am vs[i]:=Ad ∅;obtain⟨x,ex,vx⟩:=hv.Zq e1;have hx:=CJ.mp hd x (Bt ex);have ru:RelV vs[i] (ak.getD i AO):=by
   obtain⟨u,hu1,hu2⟩:=Vals.get r' e1;rw [Af,hu1];exact hu2
  exact RQ I vx ru hx
 refine PN (κ:=tuples' true) pl.isList ∅ (λh2 h' kp=>?_) (λh' kp i j hi hj C hC=>?_) λout hp=>?_
 ·have Þ:∀l:List bn,(∀v∈l,∃(a:ce) (x:bn) (st:Str) (t:Tok) (oa:Obj) (na:Nat),v=.ref a/\h'.get? a=am oa/\oa.cls=.type "tuple"/\oa.data=.seq #[.str st t,x] na)->∃fs,PySem.W.KatTups h' l fs/\fs.length=l.length/\∀v∈fs,∃st t,v=Bd st t:=by
   intro l
   induction l with
   | nil=>intro _;exact⟨[],trivial,rfl,by simp⟩
   | cons v l ih=>
    intro hl;obtain⟨fs,f1,f2,f3⟩:=ih λy hy=>hl y (.tail _ hy);obtain⟨a,x,st,t,oa,na,rfl,g1,g2,g3⟩:=hl v (.head _);refine⟨.str st t::fs,PySem.W.KatTups.cons g1 g2 g3 rfl f1,by simp [f2],λy hy=>?_⟩;rcases Aw.mp hy with rfl | hy
    ·exact⟨st,t,rfl⟩
    ·exact f3 y hy
  obtain⟨fs,f1,f2,f3⟩:=Þ ak λv hv=>by
   obtain⟨i,hi,rfl⟩:=DC hv;obtain⟨a,b,st,i1,j1,t,t1,t2,oa,ob,na,nb,e,h1,h2,h3,_⟩:=el i hi;rw [Af,Ad hi] at e;exact⟨a,.ref b,st,t,oa,na,e,kp _ _ h1,h2,h3⟩
  refine PySem.W.kat_kind (T:=.type "str") f1 ∅ (λv hv=>?_) ⋯ ⟨rfl,rfl⟩;obtain⟨st,t,rfl⟩:=f3 v hv;exact PySem.W.Looks.now
 ·obtain⟨a,b,st,i1,j1,t,t1,t2,oa,ob,na,nb,e,h1,h2,h3,k1,k2,k3⟩:=el i hi;obtain⟨a',b',qo,i1',j1',t',XQ,XN,WD,Yu,na',Ć,e',gY,qD,NR,Ċ,ĉ,Ĉ⟩:=el j hj;rw [e,e'];exact RO (s:={s with heap:=h'}) (by show X.A.units+1+1+1 < _;omega) (kp _ _ h1) h3 (kp _ _ k1) k2 k3 (kp _ _ gY) NR (kp _ _ Ċ) ĉ Ĉ hC
 ·obtain⟨ws,m,a1,a2,a3⟩:=Mw r' hv hp;obtain⟨e,he⟩:=sortedAll_at s.heap ak out.toArray;refine⟨.ref (s.heap.objs.size+1),_,I.laid (t':=s.toks) (λ_ _=>sortedAll_old) (Ds _) (show bb X.prog X.w _ _ _ (.lst ws) from⟨?_,out,e,a1,he⟩),rfl,(q m a3 ws a2).at _ (I.bu.fresh (Ds _))⟩;rw [a2.length,a3.length_eq];rw [<- O9];exact hz
def LV (l:List PV):W (List PV):=.eQ (l.length < 64/\l.all pd=true) (.any λm=>m.Perm l)
def QW (hK:X.K=K) (hu:X.A.units+200 < ss) (hg:Gl X "sorted") (hm:X.mg "sorted"=bm) (ha:Lf X K fs e wl) (he:gs X e []:=by rfl) (dW:lq X pos []:=by rfl):LF X K fs (.Call (.Name "sorted" p) [e] [] pos) (.bind wl LV):=
 ⟨PE.imp (eT (HA hK hu) hg hm boot_sorted (aU ha.p bP he) ⋯ ⋯ he dW) λσ H Q ⟨sr,q⟩=>⟨sr,wl.mono (λl q1 u1 H1 g1 s1 _ v1=>by
  obtain⟨⟨c1,c2⟩,q2⟩:=q1;obtain⟨a,vs,rfl,h1,r1⟩:=v1 H1 .refl s1;exact⟨a,vs,l,rfl,h1,r1,c1,c2,λm hm ws hw=>IP g1 s1 hw (q2 m hm)⟩) q⟩⟩
end
end
end FL
variable {x z:BB}{ts:List BB}{t3:PySem.Tok}
namespace FL
section
open PySem PySem.Spec PyProof.Rows L2 PL
variable {K:Ab}
structure OW (K:Ab) (a:ce) (ts:List Str):Prop where
 ex:∃(o:Obj) (ak:Array bn) (n:Nat),K.lookup a=am o/\o.cls=.type "tuple"/\o.data=.seq ak n/\ak.size<=sizeLine/\Vals (ts.map V.str) ak.toList
 tn:∃o:Obj,K.lookup a=am o/\o.cls=.type "tuple"/\o.dict=bm
def tup3K {t2:Tok} (h:K.lookup a=am ⟨.type "tuple",bm,.seq #[.str x t1,.str y t2,.str z t3] n,O5⟩):OW K a [x,y,z]:=⟨⟨_,_,_,h,rfl,rfl,bS (by show 3<=_;decide),.cons ⟨_,rfl⟩ (.cons ⟨_,rfl⟩ (.cons ⟨_,rfl⟩ .nil))⟩,_,h,rfl,rfl⟩
section
theorem Ik (H:Hp):∀ts:List Str,aB K [] H (ts.map V.str) (ts.map PV.str)
 | []=>.nil
 | t::ts=>.cons (.str t) (Ik H ts)
end
section
variable {a:gt}
def Xw (hK:X.K=K) (hu:X.A.units+200 < ss) {ad:ce} (ha:EF X K fs a wa) (hm:X.mg x=am (.ref ad)) (T:OW K ad ts) (hg:Gl X x:=by rfl) (hd:jS x:=by decide) (hk:t0 .In (.Name x p)=false:=by rfl) :
  TF X K fs (.Compare a [.In] [.Name x p] pos) (.bind wa λv=>qg false v (ts.map PV.str)):=⟨PT.imp (qp (MH K hK hu) ha.p (qt hg hm (v:=.ref ad) rfl hd) hk) λσ H Q ⟨sr,q⟩=>⟨sr,wa.mono (λv q1 u1 H1 g1 s1 v1=>⟨ad,_,_,v,rfl,.inr (.inr T.ex),Ik H1 ts,v1,q1.1,_,rfl,q1.2 H1 g1 s1⟩) q⟩⟩
end
end
section
open PySem PySem.Spec PyProof.Rows L2 PL
variable {K:Ab}
section
variable {rest:List ul}{S T T2:Type}{hd:ce->S->bp}{s0:S}{wt:PV->W T2}{cW:ce->S->T2->bp}{k:S->W T}{out:T->End}{x:Bool}
def Qp (sr:aP K H σ fs) (hs:fs[i]?=am (am (.ol (am a) l))):∃ws,H a=am (.lst ws)/\aB K [] H ws l:=by
 obtain⟨u,_,⟨v,e,_⟩ | ⟨b,_,z,ws,q1,q2⟩⟩:=sr.at' i _ hs
 ·cases e
 ·cases z a rfl;exact⟨ws,q1,q2⟩
theorem SF.adw (i:Nat) {f:PV->S->W S}{wb:T2->S->W S} (hs:fs[i]?=am (am (.ol q0 l))) (hK:X.K=K) (hN:X.N[i]?=am y) (hv:HK X.env.scope y) (hp:ww (dL X.prog X.w) X.A X.env X.xe) (hc:X.calm=true)
  (hl:∀a,iq (fs.set i (am (.ol (am a) l))) (hd a s0)) (Zk:∀a s,(hd a s)[i]?=am (am (.ol (am a) l))) (hg:∀a s,GF X K (hd a s) tg is wt (cW a s)) (hf:∀p s,f p s=.bind (wt p) λt=>wb t s)
  (hb:∀a s t,SF X K false (cW a s t) body (wb t s) λs'=>.nc (hd a s')) (hr:∀a s,SF X K x ((hd a s).set i (am (.ol bm l))) rest (k s) out) (Zh:jS y:=by decide) (kr:JM y:=by decide) (đ:∀x,foldedSetIterable (.Name y p) X.env x=pure x:=by intro _;rfl) :
  SF X K x fs (.For tg (.Name y p) body [] pos::rest) (.bind (cV l s0 f) k) out:=by
 refine SF.step (Gj (g:=λv σ H Q=>∃a s,fG K (hd a s) is wt (cW a s) v σ H Q) (tb:=λD σ H=>∃a s t,fS K false (cW a s t) (wb t s) (λs'=>.nc (hd a s')) D σ H) hp hc (Mt (K:=K) (hK:=hK) (fe hN hv Zh kr)) (λZ s σ H v u Q I r ⟨a,s1,q⟩=>(hg a s1).p Z s σ H v u Q I r q) (λZ s σ H D I ⟨a,s1,t1,q⟩=>(hb a s1 t1).p Z s σ H D I q) đ) λD σ H ⟨sr,q1⟩=>?_;obtain⟨a,ws,e1,h1,r1⟩:=c9 sr hs;obtain⟨s1,g1⟩:=f7 (t':=.ol (am a) l) sr hs rfl (by simp) e1 (λ_ _ _ h=>h) λ_=>⟨λb z=>Option.some.inj z,ws,h1,r1⟩;refine⟨_,e1,a,rfl,⟨ws,.inl (.inl h1)⟩,?_⟩;refine⟨λi' m σ' H'=>∃s,aP K H' σ' (hd a s)/\cX σ fs H σ' (hd a s) H'/\m=l.length-i'/\i'<=l.length/\(cV (l.drop i') s f).run λs'=>(k s').run λt=>bE K x σ fs H D (out t),⟨l.length,s0,s1.le (hl a),g1.trans (cX.le s1 (hl a)),by simp,Bg _,by simpa using q1⟩,?_⟩;rintro i' m σ2 H2 ⟨s,s2,g2,rfl,hi,q2⟩;obtain⟨us,h2,r2⟩:=Qp s2 (Zk a s);have sq:dP K H2 a us:=.inl (.inl h2);by_cases ig:i' < l.length
 ·obtain⟨v,h3,h4⟩:=r2.get (Ad ig);rw [Bi ig] at q2;refine .inr ⟨⟨us,v,sq,h3⟩,λσ3 H3=>∃s',aP K H3 σ3 (hd a s')/\cX σ fs H σ3 (hd a s') H3/\(cV (l.drop (i'+1)) s' f).run λs'=>(k s').run λt=>bE K x σ fs H D (out t),λσ3 H3 ⟨s',a1,a2,a4⟩=>⟨l.length-(i'+1),by omega,s',a1,a2,rfl,ig,a4⟩,λv2 H3 y=>?_⟩;obtain⟨rfl,y⟩:=y;have:=y us sq;rw [h3] at this;cases this;have q2:(f l[i'] s).run λs'=>(cV (l.drop (i'+1)) s' f).run λs'=>(k s').run λt=>bE K x σ fs H D (out t):=q2;rw [hf] at q2;refine⟨a,s,_,s2,h4,(wt l[i']).mono (λt q4 us g4 s4=>?_) q2⟩;refine⟨a,s,t,s4,(wb t s).mono (λs' q5 σ5 H5 g5 s5=>?_) q4⟩;exact⟨λ_=>⟨s',s5,(g2.trans g4).trans g5,q5⟩,s',s5,(g2.trans g4).trans g5,q5⟩
 ·have e:i'=l.length:=by omega
  subst e;rw [Dl] at q2;obtain⟨a',us',e2,qD,r2'⟩:=c9 s2 (Zk a s);obtain⟨s3,g3⟩:=f7 (t':=.ol bm l) s2 (Zk a s) rfl (by simp) e2 (λ_ _ _ h=>h) λ_=>⟨by simp,us',qD,r2'⟩;exact .inl ⟨⟨us,sq,by rw [r2.length];exact An _⟩,_,k s,hr a s,s3,(k s).mono (λt q3=>q3.go (g2.trans g3) sr s3) q2⟩
def SF.Zz (i:Nat) {f:PV->S->W S} (hs:fs[i]?=am (am (.ol q0 l))) (hK:X.K=K) (hN:X.N[i]?=am y) (hv:HK X.env.scope y) (hp:ww (dL X.prog X.w) X.A X.env X.xe) (hc:X.calm=true)
  (hl:∀a,iq (fs.set i (am (.ol (am a) l))) (hd a s0)) (Zk:∀a s,(hd a s)[i]?=am (am (.ol (am a) l))) (hg:PG X tg (gN j))
  (hb:∀a s p,SF X K false ((hd a s).set j (am (.val p))) body (f p s) λs'=>.nc (hd a s')) (hr:∀a s,SF X K x ((hd a s).set i (am (.ol bm l))) rest (k s) out) (Zh:jS y:=by decide) (kr:JM y:=by decide) (đ:∀x,foldedSetIterable (.Name y p) X.env x=pure x:=by intro _;rfl) :
  SF X K x fs (.For tg (.Name y p) body [] pos::rest) (.bind (cV l s0 f) k) out:=SF.adw (wt:=.ret) (wb:=λp s=>f p s) i hs hK hN hv hp hc hl Zk (λa s=>WY hg) (λ_ _=>rfl) hb hr Zh kr đ
end
end
end FL
variable {kp cp:B9}{kc:Nat}
namespace L2
open PySem PySem.Spec PyProof.Rows
section
variable {R:Result->ci->Prop}{I S:ce}{wr:List ce}{P:Nat->bn->Prop}{St:Nat->kw->Prop}
abbrev dfN:List (Str×bn):=[(BL "default",.none)]
abbrev Z2 (l:List bn) (c:Nat):Obj:={cls:=.type "list",dict:=bm,data:=.seq l.toArray c,slots:=#[]}
def RA {n:Nat} (h:n<=2):n<=sizeLine:=Bw h ⋯
theorem Kh (W:Walks prog w A.in1 I fp wr n P St) (bt:Nat->Nat->Bool) (adb:CmpOf prog w A.in1 .Lt P bt) (hSf:S∉fp) :
  ∀(k j:Nat) (s:ci) (l:List bn) (c:Nat),n-j=k->j<=n->St j s.heap->(j=0/\l=[]\/∃i v,j=i+1/\l=[v,v]/\P (argBest bt i) v)->s.heap.get? S=am (Z2 l c)->
  (∀v h' tk,(n=0/\v=.none\/0 < n/\P (argBest bt (n-1)) v)->(∀b o,b∉wr->b≠S->s.heap.get? b=am o->h'.get? b=am o)->R (.ok (.ret v)) {s with heap:=h',toks:=tk})->
  Ev (dL prog w) A (.builtin "min.loop" ⟨[.ref I,.none,.ref S],dfN⟩) R s:=by
 have hSw:S∉wr:=λh=>hSf (W.sub _ h);have hn:(toString "min"++toString ".loop":String)="min.loop":=by decide
 intro k
 induction k with
 | zero=>
  intro j s l c hk hj pj hl hS hR;have e:j=n:=by omega
  subst e;refine GE F.entry_min_loop ?_;rw [EU Cq _];refine Aa (Bs hS rfl (Aa (DS (W.done s _ _ pj λh' tk VG=>?_))));have VM:=VG S _ hSw hS;rcases hl with⟨e0,rfl⟩ | ⟨i,v,rfl,rfl,hv⟩
  ·exact Aa (CG (Ae (hR _ h' tk (.inl ⟨e0,rfl⟩) λb o hb _ z=>VG b o hb z)))
  ·refine Aa (Cy VM rfl (Aa (Ct (Ae ?_))) (RA (An _)) (Bg _));exact hR v _ tk (.inr ⟨Nat.succ_pos _,hv⟩) λb o hb NP z=>(BM _ _ (BE NP)).trans (VG b o hb z)
 | succ k ih=>
  intro j s l c hk hj pj hl hS hR;have ig:j < n:=by omega
  refine GE F.entry_min_loop ?_;rw [EU Cq _];refine Aa (Bs hS rfl (Aa (DS (W.item j s _ _ ig pj λv h' tk hP Y1 VG=>?_))));have VM:=VG S _ hSw hS;have SV:∀(f:Obj->Obj) b o,b∉wr->b≠S->s.heap.get? b=am o->(h'.update S f).get? b=am o:=λf b o hb NP z=>(BM _ _ (BE NP)).trans (VG b o hb z);have frU:∀(f:Obj->Obj),St (j+1) (h'.update S f):=λf=>W.frame _ _ _ Y1 λb hbf o e=>(BM _ _ (λh:S=b=>hSf (by rw [h];exact hbf))).trans e;refine Aa (Ae ?_);rcases hl with⟨rfl,rfl⟩ | ⟨i,vb,rfl,rfl,hb⟩
  ·refine Aa (Cy VM rfl ?_ (Bg _) (Nat.le_succ_of_le (RA (An _))));rw [hn];refine Ae ⟨v4 Cq _,ih 1 _ [v,v] _ ∅ ig (frU _) (.inr ⟨0,v,rfl,rfl,hP⟩) (BW _ VM rfl) λv' h2 Xu Zo VF=>?_⟩;exact hR v' h2 Xu Zo λb o hb NP z=>VF b o hb NP (SV _ b o hb NP z)
  ·refine Aa (DS (Bb (Aa (adb (i+1) (argBest bt i) v vb _ _ _ hP hb ?_))));refine Aa (Bb (CY (Aa (Ct (Ae ?_)))));cases hbt:bt (i+1) (argBest bt i) with
   | true=>
    refine Aa (Cy VM rfl (Aa (Ct ?_)) (RA (An _)) (Nat.le_succ_of_le (RA (An _))));rw [hn];refine Ae ⟨v4 Cq _,ih (i+2) _ [v,v] _ ∅ ig (frU _) (.inr ⟨i+1,v,rfl,rfl,by simp only [argBest,hbt,if_true];exact hP⟩) (BW _ VM rfl) λv' h2 Xu Zo VF=>?_⟩;exact hR v' h2 Xu Zo λb o hb NP z=>VF b o hb NP (SV _ b o hb NP z)
   | false=>
    refine Aa (Ct ?_);rw [hn];refine Ae ⟨v4 Cq _,ih (i+2) _ [vb,vb] c ∅ ig Y1 (.inr ⟨i+1,vb,rfl,rfl,by simp only [argBest,hbt];exact hb⟩) VM λv' h2 Xu Zo VF=>?_⟩;exact hR v' h2 Xu Zo λb o hb NP z=>VF b o hb NP (VG b o hb z)
def La (a:bn):argsOk "min" ⟨[a],dfN⟩:=by unfold argsOk;kernel_rfl
def QO (ns:List Int) (t:Tok):bn:=if ns=[] then .none else .int (nk ns) t
theorem Gz {l:ce}{Q:bn->ci->Prop} (hh:A.handled=bm) (hl:s.heap.IsList l vs.toArray) (hi:tt vs ns)
  (h:∀(h':kw) (t:Tok) tk,(∀b o,s.heap.get? b=am o->h'.get? b=am o)->Q (QO ns t) {s with heap:=h',toks:=tk}):db (dL prog w) A (call (.builtin "min") [.ref l] dfN) Q E s:=by
 obtain⟨xs,e⟩:=hi.allInts.items;have FW:ns=xs.toList.map (·.1):=by rw [<- hi.numsOf,<- nums_intItems,<- e]
 rw [e] at hl;have hn:(toString "min"++toString ".loop":String)="min.loop":=by decide
 refine kmb_tree F.kind_min F.plain_min F.entry_min (La _) ?_;refine Aa (Cs (show Builtin.Builtins.bindParams "min" ["key","default"] 0 ⟨[],dfN⟩=pure [bm,am .none] from rfl) ?_);refine Aa (Ae ?_);refine Aa (iter_intList hl λs₂ e2 st hfp hlI=>?_);subst e2;refine Aa (AJ ?_);rw [hn];have W:=Walks.list (A:=A.in1) (prog:=prog) (w:=w) hh s.heap.objs.size l hlI (intItems xs);have hsz:(intItems xs).size=ns.length:=by rw [FW];simp [intItems]
 refine Ae ⟨v4 Cq _,Kh W _ (CmpOf.ints_lt (numAt xs) (λ_ _=>intItems_at)) (λhm=>AX _ (hfp _ hm)) _ 0 _ [] 0 rfl (Bg _) (W.frame _ _ _ st λb _ o e=>Ag _ e) (.inl ⟨rfl,rfl⟩) (Ap _ rfl) λv h' tk hP hk=>?_⟩;have kp:∀b o,s.heap.get? b=am o->h'.get? b=am o:=λb o z=>by
  have h1:=Ao z;refine hk b o (λy=>AB h1 (Bk.mp y)) (λy=>?_) (Ag _ (Ag _ z));rw [y,Cp] at h1;exact absurd h1 (Nat.not_lt_of_le (Ds _))
 rcases hP with⟨h0,rfl⟩ | ⟨h0,hP⟩
 ·have e0:ns=[]:=B4 ∅;have:=h h' 0 tk kp;rw [QO,if_pos e0] at this;exact this
 ·obtain⟨t,rfl⟩:=intItems_at hP;have e0:ns≠[]:=λz=>by rw [hsz,z] at h0;exact AX _ h0
  have h2:=h h' t tk kp;rw [QO,if_neg e0,<- IW FW e0] at h2;have ez:(intItems xs).size=xs.size:=by simp [intItems]
  rw [ez];exact h2
end
def X6 (K:Ab):List V->Hp->VK->Prop:=λxs H Q=>∃(p:ce) (ns:List Int),xs=[.ref p]/\dP K H p (ns.map V.int)/\Q (if ns=[] then .aD else .int (nk ns)) H
def Qj {t:TA} (K:Ab) (hK:X.K=K) (hc:X.calm=true) (hg:Gl X "min") (hm:X.mg "min"=bm) (ha:PA X [e] t) (he:wv pos (f8 [e] X.env)=(false,ii e X.env)::wv pos (f8 [] X.env)) (hp:(wv pos (f8 [e] X.env)).any (·.1)=false) :
  PE X (.Call (.Name "min" p) [e] [⟨am (BL "default"),.Constant .none kc cp,kp⟩] pos) (λσ H Q=>t σ H λvs H'=>X6 K vs H' Q):=by
 subst hK;intro Z s σ H Q I h;refine BH (gX I hg hm boot_min ?_ ⋯ ⋯);refine callWith_kw (bR (ha pos Z s σ H _ I h) λus s1 ⟨vs,H1,I1,r1,q1⟩=>?_) he hp;refine kws_cons (bR (MB Z s1 σ H1 (λv H2=>v=.aD/\H2=H1) I1 ⟨rfl,rfl⟩) λv s2 ⟨x,H2,I2,r2,e1,e2⟩=>kws_nil ?_);subst e1 e2;cases r2;obtain⟨a,ns,rfl,hq,q⟩:=q1;obtain⟨u,rfl,rx⟩:=vals1 r1;cases rx;obtain⟨ak,r',pl,hz⟩:=I2.list hq;refine Gz (I2.ok.hd hc) pl.isList (intsAre_of r') λh' t tk hk=>?_;unfold QO;by_cases c:ns=[]
 ·rw [if_pos c] at q ⊢;exact⟨.aD,_,I2.kept (t':=tk) hk,rfl,q⟩
 ·rw [if_neg c] at q ⊢;exact⟨.int _,_,I2.kept (t':=tk) hk,⟨t,rfl⟩,q⟩
end L2
namespace FL
open PySem PySem.Spec PyProof.Rows L2 PL
def IV (l:List PV):W PV:=.bind (lS l) λns=>.ret (if ns=[] then .aD else .int (nk ns))
def V6 {K:Ab} (hK:X.K=K) (hc:X.calm=true) (hg:Gl X "min") (hm:X.mg "min"=bm) (ha:Lf X K fs e wl) (hs:gs X e []:=by rfl) (he:wv pos (f8 [e] X.env)=(false,ii e X.env)::wv pos (f8 [] X.env):=by rfl) (hp:(wv pos (f8 [e] X.env)).any (·.1)=false:=by rfl) :
  EF X K fs (.Call (.Name "min" p) [e] [⟨am (BL "default"),.Constant .none kc cp,kp⟩] pos) (.bind wl IV):=⟨PE.imp (Qj K hK hc hg hm (aU ha.p bP hs) he hp) λσ H Q ⟨sr,q⟩=>⟨sr,wl.mono (λl q1 u1 H1 g1 s1 _ v1=>by
 obtain⟨ns,el,q2⟩:=fH (l:=l) q1;obtain⟨a,vs,rfl,h1,r1⟩:=v1 H1 .refl s1;rw [el] at r1;have:=jh r1;subst this;refine⟨a,ns,rfl,h1,?_⟩;by_cases c:ns=[]
 ·simp only [if_pos c] at q2 ⊢;exact q2 _ H1 g1 s1 .aD
 ·simp only [if_neg c] at q2 ⊢;exact q2 _ H1 g1 s1 (.int _)) q⟩⟩
end FL
namespace L2
open PySem PySem.Spec PyProof.Rows
def WM (x y z q:Str):Nat:=if x=q then 0 else if y=q then 1 else 2
def oY {q:Str}{t2:Tok}:Meets (wn.«tuple.index» ⟨[.ref a,.str q t],[]⟩) (λ_ R s=>(∃o,s.heap.get? a=am o/\o.data=.seq #[.str x t1,.str y t2,.str z t3] n)/\q∈[x,y,z]/\∀u,R (.ok (.ret (.int (WM x y z q:Nat) u))) {s with toks:=s.toks+1}):=by
 refine .of_wp λprog w A R s ⟨⟨o,ho,hd⟩,hq,h⟩=>?_;refine Aa (Ae ?_);refine Aa (Aa (Bs ho hd (Ae ?_)));refine Aa (Ae ?_);refine Aa (Ae ?_);refine Aa ?_;rw [Std.Legacy.Range.forIn_eq_forIn_range'];rw [show List.range' [:min #[Bd x t1,Bd y t2,Bd z t3].size #[Bd x t1,Bd y t2,Bd z t3].size].start [:min #[Bd x t1,Bd y t2,Bd z t3].size #[Bd x t1,Bd y t2,Bd z t3].size].size [:min #[Bd x t1,Bd y t2,Bd z t3].size #[Bd x t1,Bd y t2,Bd z t3].size].step=[0,1,2] from by simp only [Std.Legacy.Range.size,Ah,Ar,Bv];decide];simp only [BS,List.forIn_nil];refine Aa (Aa (Dh ?_));have Ò:∀k:Nat,WM x y z q=k->∃v,ES (.ret (.int (k:Int) s.toks))=ES (.ret v)/\R (.ok (.ret v)) {s with toks:=s.toks+1}:=λk e=>⟨_,rfl,by have:=h s.toks;rw [e] at this;exact this⟩;by_cases c1:x=q
 ·subst c1;rw [decide_eq_true rfl,if_pos rfl];exact Aa (Aa (Aa (wpAny_fresh (Ae (Ae (Ae (Ae (Ae (Ò 0 (if_pos rfl))))))))))
 ·rw [decide_eq_false c1,if_neg ⋯];refine Ae (Aa (Aa (Dh ?_)));by_cases c2:y=q
  ·subst c2;rw [decide_eq_true rfl,if_pos rfl];exact Aa (Aa (Aa (wpAny_fresh (Ae (Ae (Ae (Ae (Ae (Ò 1 (by rw [WM,if_neg c1,if_pos rfl]))))))))))
  ·rw [decide_eq_false c2,if_neg ⋯];refine Ae (Aa (Aa (Dh ?_)));have c3:z=q:=by simp at hq;rcases hq with e | e | e <;> first | exact absurd e.symm c1 | exact absurd e.symm c2 | exact e.symm
   subst c3;rw [decide_eq_true rfl,if_pos rfl];exact Aa (Aa (Aa (wpAny_fresh (Ae (Ae (Ae (Ae (Ae (Ò 2 (by rw [WM,if_neg c1,if_neg c2]))))))))))
def Yb (K:Ab):V->List V->Hp->VK->Prop:=λv vs H Q=>∃a x y z q,v=.ref a/\vs=[.str q]/\dG K H a [.str x,.str y,.str z]/\q∈[x,y,z]/\Q (.int (WM x y z q:Nat)) H
def QL (K:Ab) (hK:X.K=K):HU X "tuple.index" (Yb K):=by
 subst hK;intro Z s σ H v vs u us Q I rx rv h;obtain⟨a,x,y,z,q,rfl,rfl,hq,hm,qq⟩:=h;cases rx;obtain⟨u,rfl,ru⟩:=rv.one;obtain⟨t,rfl⟩:=ru;obtain⟨ak,r,pl,hz⟩:=I.tuple hq;obtain⟨o,ho,hc,n,hd⟩:=pl;cases r with
 | cons q1 r=>cases r with
  | cons q2 r=>cases r with
   | cons q3 r=>
    cases r;obtain⟨t1,rfl⟩:=q1;obtain⟨t2,rfl⟩:=q2;obtain⟨t3,rfl⟩:=q3;exact re F.slot_tuple_index ⟨_,ho,hc⟩ F.entry_tuple_index (F.args_tuple_index_2 _ _) oY ⟨⟨_,ho,hd⟩,hm,λu=>⟨.int _,H,I.tok _,⟨u,rfl⟩,qq⟩⟩
end L2
namespace FL
open PySem PySem.Spec PyProof.Rows L2 PL
def NC (ts:List Str):PV->W PV
 | .str q=>match ts with
  | [x,y,z]=>.eQ (q∈[x,y,z]) (.ret (.int (WM x y z q:Nat)))
  | _=>.fail
 | _=>.fail
def V7 {K:Ab}{w:W PV}{n:Str}{ad:ce} (hK:X.K=K) (he:EF X K fs e w) (hm:X.mg n=am (.ref ad)) (T:OW K ad ts) (hg:Gl X n:=by rfl) (hd:jS n:=by decide)
  (dw:lc (.Name n p) "index" X.env (ii (.Name n p) X.env)=ii (.Name n p) X.env:=by rfl)
  (mj:Tw X bo [e]:=by rfl)
  (du:O3 Ã bo:=by rfl) (pj:gs X e []:=by rfl) (dM:lq X bo []:=by rfl) :
  EF X K fs (.Call (.Attribute (.Name n p) "index" Ã) [e] [] bo) (.bind w (NC ts)):=
 ⟨PE.imp (oV K hK PySem.F.plainAttrs_tuple PySem.F.slot_tuple_index PySem.F.type_tuple_index (QL K hK) (qt hg hm (v:=.ref ad) rfl hd) (aU he.p bP pj) dw mj du pj dM) λσ H Q ⟨sr,q⟩=>
  ⟨.inr (.inl ⟨rfl,T.tn⟩),sr,w.mono (λx q2 u2 H2 g2 s2 v2=>by
   cases v2 <;> first | exact q2.elim | skip
   match ts,T,q2 with
   | [x,y,z],T,q2=>exact⟨ad,x,y,z,_,rfl,rfl,.inr T.ex,q2.1,q2.2 _ H2 g2 s2 (.int _)⟩
   | [],_,q2=>exact q2.elim
   | [_],_,q2=>exact q2.elim
   | [_,_],_,q2=>exact q2.elim
   | _::_::_::_::_,_,q2=>exact q2.elim) q⟩⟩
section
variable {K:Ab}
def vX (l:List PV):PV->W (List PV×PV)
 | .int k=>.bind (.O6 (tq l.length k)) λj=>.bind (.O6 l[j]?) λv=>.eQ (l.length<=sizeLine) (.ret (l.eraseIdx j,v))
 | _=>.fail
theorem aB.erase:∀{ws:List V}{l:List PV} (j:Nat),aB K [] H ws l->aB K [] H (ws.eraseIdx j) (l.eraseIdx j)
 | _,_,_,.nil=>by simp only [List.eraseIdx_nil];exact .nil
 | _,_,0,.cons _ t=>t
 | _,_,j+1,.cons r t=>by rw [Cr,Cr];exact .cons r (aB.erase j t)
section
variable {rest:List ul}{T:Type}{out:T->End}{x:Bool}
theorem SF.ab3 (i j:Nat) {k:List PV×PV->W T} (hs:fs[i]?=am (am (.ol q0 l))) (Zc:j≠i) (hK:X.K=K) (hN:X.N[i]?=am y) (hv:HK X.env.scope y) (Ġ:X.N.Nodup) (hj:X.N[j]?=am z) (hx:Loc X.env.scope z) (he:EF X K fs e we) (hr:∀t:List PV×PV,SF X K x ((fs.set i (am (.ol q0 t.1))).set j (am (.val t.2))) rest (k t) out)
  (hd:jS y:=by decide) (kr:JM y:=by decide) (dw:lc (.Name y p) "pop" X.env (ii (.Name y p) X.env)=ii (.Name y p) X.env:=by rfl)
  (mj:Tw X bo [e]:=by rfl)
  (du:O3 Ã bo:=by rfl) (pj:gs X e []:=by rfl) (dM:lq X bo []:=by rfl)
  (wY:mo (.Call (.Attribute (.Name y p) "pop" Ã) [e] [] bo) (am (.Name z p')) pos.line X.env=pure false:=by rfl) (hf:O0 X z:=by first | exact .inl rfl | exact .inr rfl | assumption) :
  SF X K x fs (.Assign [.Name z p'] (.Call (.Attribute (.Name y p) "pop" Ã) [e] [] bo) pos::rest) (.bind we λn=>.bind (vX l n) k) out:=
 SF.step (vU Ġ hj hx (oV K hK BI EK EJ MZ (fe hN hv hd kr) (aU he.p bP pj) dw mj du pj dM) wY hf) λD σ H ⟨sr,q⟩=>by
  obtain⟨a,ws,e1,h1,r1⟩:=c9 sr hs;refine⟨_,e1,.inl ⟨rfl,_,dP.of h1⟩,sr,we.mono (λn q1 u H1 g1 s1 v1=>?_) q⟩;obtain⟨a',oB,xJ,gY,FU⟩:=c9 s1 hs;rw [e1] at xJ;cases xJ;cases v1 with
  | int kk=>
   have q1:(ap (.O6 (tq l.length kk)) λj=>.bind (.O6 l[j]?) λv=>.eQ (l.length<=sizeLine) (.ret (l.eraseIdx j,v))).run λt=>(k t).run λt=>bE K x σ fs H D (out t):=q1;cases hx:tq l.length kk with
   | none=>rw [hx] at q1;exact q1.elim
   | some m=>
   cases hv:l[m]? with
   | none=>rw [hx] at q1;simp only [BT,ga,hv] at q1;exact q1.elim
   | some v=>
   rw [hx] at q1;simp only [BT,ga,hv] at q1;obtain⟨hz,q1⟩:=q1;obtain⟨uu,hu,ru⟩:=FU.get hv;obtain⟨h3,h4,h5,h6⟩:=wQ hx;have h9:(sizeLine:Int) < 2 ^ 63:=by decide
   refine⟨a,oB,kk,m,uu,rfl,rfl,gY,by omega,by omega,by rw [FU.length];exact h3,hu,?_⟩;have sx:pX a H1 (upd H1 a (.lst (oB.eraseIdx m))):=λz o n hz=>by rw [aw n];exact hz
   obtain⟨s2,g2⟩:=f7 (t':=.ol q0 (l.eraseIdx m)) s1 hs rfl (by simp) e1 sx λtk=>⟨λb hb=>by
    subst hb;obtain⟨u,e2,⟨v,e,_⟩ | ⟨b',e,z,_⟩⟩:=s1.at' i _ hs
    ·cases e
    ·rw [e2] at e1;cases e1;cases e;exact z b rfl,_,aN,aB.tk tk (aB.erase m FU)⟩
   have s3:=s2.jU (g2.vr s1 ru) j;exact⟨_,k _,hr (l.eraseIdx m,v),s3,(k _).mono (λt q2=>q2.go ((g1.f.trans g2).trans (cX.jU s2 _ _ j)) sr s3) q1⟩
  | _=>exact q1.elim
end
end
def gz (ns:List Int):Prop:=∃g s c:Int,ns=[g,s,c]/\0<=g/\0<=s/\s < 2305843009213693951/\0<=c
def drawn (m:Int):W PV:=.any λv=>∃d:Int,v=.int d/\0<=d/\d < m
def bQ:PV->W PV
 | .int m=>.eQ (0 < m/\m<=2000) (drawn m)
 | _=>.fail
end FL
variable {i j:Int}
namespace FL
open PySem PySem.Spec PyProof.Rows L2 PL
def rm:of2 (aI g) (.int i) (.int j)=.ret (g i j):=wT λQ=>⟨CK,λq=>⟨rfl,q⟩⟩
def qu {C:Int->Int->Prop}:of2 (Wr C g) (.int i) (.int j)=.eQ (C i j) (.ret (g i j)):=wT λQ=>⟨λq=>⟨q.1,q.2.2⟩,λq=>⟨q.1,rfl,q.2⟩⟩
section
variable (i j:Int) (a:Bool) (x y:PV) (l m:List PV) (s t:Str)
@[simp] theorem xq:of2 y9 (.int i) (.int j)=.ret (.int (i-j)):=rm
@[simp] theorem Ob:of2 oW (.int i) (.int j)=.eQ (wS i j) (.ret (.int (i*j))):=qu
@[simp] theorem adF:of2 oDiv (.int i) (.int j)=.eQ (Lh i j) (.ret (.int (i / j))):=qu
@[simp] theorem Oc:of2 oMod (.int i) (.int j)=.eQ (0 < j) (.ret (.int (i % j))):=qu
@[simp] theorem Oa:of2 MK (.int i) (.int j)=.eQ (O2 i j) (.ret (.int (i ^ j.toNat))):=qu
@[simp] theorem zQ:of2 oLt (.int i) (.int j)=.ret (.bl (decide (i < j))):=rm
@[simp] theorem ZH:of2 oLe (.int i) (.int j)=.ret (.bl (decide (i<=j))):=rm
@[simp] theorem Th:of2 WE (.int i) (.int j)=.ret (.bl (decide (j < i))):=rm
@[simp] theorem ZI:of2 oGe (.int i) (.int j)=.ret (.bl (decide (j<=i))):=rm
def zR:of2 m6 x y=.eQ (KJ x y) (.ret (.bl (jn x y))):=wT λQ=>⟨λq=>⟨q.1,q.2.2⟩,λq=>⟨q.1,rfl,q.2⟩⟩
def Tg:of2 wd x y=.eQ (KJ x y) (.ret (.bl (!jn x y))):=wT λQ=>⟨λq=>⟨q.1,q.2.2⟩,λq=>⟨q.1,rfl,q.2⟩⟩
@[simp] theorem xv:of2 MP x .aD=.ret (.bl x.kl):=wT λQ=>⟨CK,λq=>⟨rfl,q⟩⟩
@[simp] theorem aaX:of2 uI x .aD=.ret (.bl (!x.kl)):=wT λQ=>⟨CK,λq=>⟨rfl,q⟩⟩
def V2 {c:Nat} (h:dD s.cps.toList i=am c):of2 MN (.str s) (.int i)=.eQ (s.length<=sizeLine) (.ret (.str ⟨#[c]⟩)):=wT λQ=>by
 show (s.length<=sizeLine/\match dD s.cps.toList i with | some c=>_/\_ | none=>False)↔_;rw [h];exact⟨λq=>⟨q.1,q.2.2⟩,λq=>⟨q.1,rfl,q.2⟩⟩
@[simp] theorem d8:addW (.int i) (.int j)=.ret (.int (i+j)):=(rfl)
@[simp] theorem RE:addW (.str s) (.str t)=.eQ (s.length+t.length<=sizeLine) (.ret (.str (s++t))):=(rfl)
@[simp] theorem Jt:addW (.tup l) (.tup m)=.eQ (l.length+m.length<=sizeLine) (.ret (.tup (l++m))):=(rfl)
@[simp] theorem sD:zd (.int i)=.ret (.int (-i)):=(rfl)
@[simp] theorem bX:Z4 (.bl a)=.ret a:=(rfl)
@[simp] theorem W7 (w:W PV):OG (.bl true) w=w:=(rfl)
@[simp] theorem W8 (w:W PV):OG (.bl false) w=.ret (.bl false):=(rfl)
@[simp] theorem RD (w:W PV):R4 (.bl true) w=w:=(rfl)
@[simp] theorem abd (w:W PV):R4 (.bl false) w=.ret (.bl false):=(rfl)
@[simp] theorem cZ:iu (.bl a)=.ret a:=(rfl)
@[simp] theorem aaV:iu (.int i)=.ret (i != 0):=(rfl)
@[simp] theorem aaU:iu .aD=.ret false:=(rfl)
@[simp] theorem aaT:iu (.tup l)=.ret (!l.isEmpty):=(rfl)
@[simp] theorem aaW:iu (.cl l)=.ret (!l.isEmpty):=(rfl)
@[simp] theorem aE:aF (.tup l)=.ret l:=(rfl)
@[simp] theorem cy:aF (.cl l)=.ret l:=(rfl)
@[simp] theorem jo:wu (.cl l)=.ret l:=(rfl)
@[simp] theorem ck:S1 l (.int i)=.O6 (dD l i):=(rfl)
@[simp] theorem xu:zr l=.ret (.int l.length):=(rfl)
@[simp] theorem VW:mQ l=.ret (.tup l):=(rfl)
@[simp] theorem xr:part (.int i)=.ret (am i):=(rfl)
@[simp] theorem pC:yA (.tup [x,y])=.ret (x,y):=(rfl)
@[simp] theorem aa9 (k:Kd):jg k (.int i)=.ret (.bl (k.is (.int i))):=(rfl)
@[simp] theorem qF (k:Kd):jg k (.str s)=.ret (.bl (k.is (.str s))):=(rfl)
@[simp] theorem gR (k:Kd):jg k (.tup l)=.ret (.bl (k.is (.tup l))):=(rfl)
@[simp] theorem aba (k:Kd):jg k (.cl l)=.ret (.bl (k.is (.cl l))):=(rfl)
@[simp] theorem abb (k:Kd):jg k (.bl a)=.ret (.bl (k.is (.bl a))):=(rfl)
@[simp] theorem aa8 (k:Kd):jg k .aD=.ret (.bl (k.is .aD)):=(rfl)
@[simp] theorem kU:qv fD [.tup l]=.ret (.int l.length):=wT λQ=>⟨CK,λq=>⟨rfl,q⟩⟩
@[simp] theorem fy:qv fD [.cl l]=.ret (.int l.length):=wT λQ=>⟨CK,λq=>⟨rfl,q⟩⟩
@[simp] theorem aaY:qv fD [.str s]=.eQ (s.length<=sizeLine) (.ret (.int s.length)):=wT λQ=>⟨λq=>⟨q.1,q.2.2⟩,λq=>⟨q.1,rfl,q.2⟩⟩
@[simp] theorem V3:qv Fz [.int i]=.ret (.int (if i < 0 then -i else i)):=wT λQ=>⟨CK,λq=>⟨rfl,q⟩⟩
@[simp] theorem abc:qv HG [.int i]=.ret (.int i):=wT λQ=>⟨CK,λq=>⟨rfl,q⟩⟩
@[simp] theorem RC:qv HG [.bl a]=.ret (.int (if a then 1 else 0)):=wT λQ=>⟨CK,λq=>⟨rfl,q⟩⟩
@[simp] theorem V1:qv K9 [.int i,.int j]=.ret (.int (if j > i then j else i)):=wT λQ=>⟨CK,λq=>⟨rfl,q⟩⟩
@[simp] theorem V0:qv K8 [.int i,.int j]=.ret (.int (if j < i then j else i)):=wT λQ=>⟨CK,λq=>⟨rfl,q⟩⟩
@[simp] theorem VX (p q:Option Int):LZ (.tup l) p q=.ret (.tup (uh l p q)):=(rfl)
@[simp] theorem Js:Iy (.tup l) bm bm (am (-1))=.ret (.tup l.reverse):=nw ⟨rfl,rfl,rfl⟩
@[simp] theorem fw:jH (.int j)=.eQ (okN 0 j) (.ret (iK 0 j.toNat)):=(rfl)
@[simp] theorem RB (k:Int):L8 (.int i) (.int j) (.int k)=.eQ (k = -1/\okN j i) (.ret (pT i (i-j).toNat)):=(rfl)
@[simp] theorem VZ:yU (l++[x])=.ret (l,x):=by unfold yU;simp
@[simp] theorem VY:P0 l (.int i)=.eQ (-(2 ^ 63)<=i/\i < 2 ^ 63/\l.length*i.toNat<=sizeLine) (.ret (Am i.toNat l).flatten):=(rfl)
@[simp] theorem aa4:Kd.is .int (.int i)=true:=(rfl)
@[simp] theorem aa5:Kd.is .int (.bl a)=true:=(rfl)
@[simp] theorem aa7:Kd.is .bool (.bl a)=true:=(rfl)
@[simp] theorem aa6:Kd.is .bool (.int i)=false:=(rfl)
@[simp] theorem qE:Kd.is .str (.str s)=true:=(rfl)
@[simp] theorem gQ:Kd.is .str (.tup l)=false:=(rfl)
@[simp] theorem aa3:Kd.is .str (.int i)=false:=(rfl)
@[simp] theorem aaZ:Kd.is .tup (.tup l)=true:=(rfl)
@[simp] theorem aa0:Kd.is .tup (.str s)=false:=(rfl)
@[simp] theorem aa1:Kd.is .tup (.int i)=false:=(rfl)
@[simp] theorem aa2:Kd.is .tup (.bl a)=false:=(rfl)
@[simp] theorem c6 (h0:0 < i) (h1:i<=2000):bQ (.int i)=drawn i:=nw ⟨h0,h1⟩
def bB {m:Int} (h:∀d:Int,0<=d->d < m->Q (.int d)):(drawn m).run Q:=λv ⟨d,e,h0,h1⟩=>e▸h d h0 h1
end
namespace W
variable {α β:Type}
def le (a b:W α):Prop:=∀Q,b.run Q->a.run Q
def le.refl (a:W α):a.le a:=λ_ h=>h
def le.of_eq {a b:W α} (h:a=b):a.le b:=h▸le.refl a
def le.ret {a:W α}{v:α}{f:α->W β}{b:W β} (h:a.le (.ret v)) (hf:(f v).le b):(a.bind f).le b:=λQ q=>h _ (hf Q q)
def le.use {a:W α}{v:α}{Q:α->Prop} (h:a.le (.ret v)) (q:Q v):a.run Q:=h _ q
end W
section
variable {S R:Type}
@[simp] theorem Zy (s:S) (f:PV->S->W S):cV [] s f=.ret s:=(rfl)
@[simp] theorem W0 (x:PV) (r:List PV) (s:S) (f:PV->S->W S):cV (x::r) s f=.bind (f x s) λs'=>cV r s' f:=(rfl)
theorem sA {f:PV->S->W S}{Q:S->Prop} (I:List PV->S->Prop):∀{l:List PV}{s:S},I l s->(∀x r s,I (x::r) s->(f x s).run (I r))->(∀s,I [] s->Q s)->(cV l s f).run Q
 | [],s,h0,_,he=>he s h0
 | x::r,s,h0,hs,he=>(f x s).mono (λs' h=>sA I h hs he) (hs x r s h0)
theorem zP {f:PV->S->W (Lp S R)}{Q:Lp S R->Prop} (I:List PV->S->Prop):∀{l:List PV}{s:S},I l s->(∀x r s,I (x::r) s->(f x s).run λo=>match o with | .go s'=>I r s' | .out t=>Q (.out t))->(∀s,I [] s->Q (.go s))->(FL.nR l s f).run Q
 | [],s,h0,_,he=>he s h0
 | x::r,s,h0,hs,he=>(f x s).mono (λo h=>match o,h with
  | .go s',h=>zP I h hs he
  | .out t,h=>h) (hs x r s h0)
theorem gP {f:PV->S->W S}{Q:S->Prop} (I:Nat->S->Prop) {s:S} (h0:I 0 s) (hs:∀(i:Nat) (x:PV) s,l[i]?=am x->I i s->(f x s).run (I (i+1))) (he:∀s,I l.length s->Q s):(cV l s f).run Q:=by
 refine sA (λr s=>∃i,i<=l.length/\r=l.drop i/\I i s) ⟨0,Bg _,rfl,h0⟩ (λx r s ⟨i,hi,e,h⟩=>?_) (λs ⟨i,hi,e,h⟩=>?_)
 ·have ig:i < l.length:=by
   rcases C3 i l.length with h | h
   ·exact h
   ·rw [Ew h] at e;cases e
  rw [Bi ig] at e;injection e with e1 e2;subst e1;exact (f _ s).mono (λs' h'=>⟨i+1,ig,e2,h'⟩) (hs i _ s (Ad ig) h)
 ·have:i=l.length:=by
   have:=congrArg Cj e;rw [Ek] at this;simp at this;omega
  subst this;exact he s h
theorem Jq {f:PV->S->W (Lp S R)}{Q:Lp S R->Prop} (I:Nat->S->Prop) {s:S} (h0:I 0 s) (hs:∀(i:Nat) (x:PV) s,l[i]?=am x->I i s->(f x s).run λo=>match o with | .go s'=>I (i+1) s' | .out t=>Q (.out t)) (he:∀s,I l.length s->Q (.go s)):(FL.nR l s f).run Q:=by
 refine zP (λr s=>∃i,i<=l.length/\r=l.drop i/\I i s) ⟨0,Bg _,rfl,h0⟩ (λx r s ⟨i,hi,e,h⟩=>?_) (λs ⟨i,hi,e,h⟩=>?_)
 ·have ig:i < l.length:=by
   rcases C3 i l.length with h | h
   ·exact h
   ·rw [Ew h] at e;cases e
  rw [Bi ig] at e;injection e with e1 e2;subst e1;exact (f _ s).mono (λo h'=>match o,h' with
   | .go s',h'=>⟨i+1,ig,e2,h'⟩
   | .out t,h'=>h') (hs i _ s (Ad ig) h)
 ·have:i=l.length:=by
   have:=congrArg Cj e;simp at this;omega
  subst this;exact he s h
def nQ {f:PV->S->W S}{Q:S->Prop} (I:Nat->S->Prop) {s:S} (h0:I 0 s) (hs:∀(i:Nat) s,i < n->I i s->(f (.int (i:Int)) s).run (I (i+1))) (he:∀s,I n s->Q s):(cV (iK 0 n) s f).run Q:=
 gP I h0 (λi x s hx h=>by obtain⟨hi,rfl⟩:=ph hx;rw [Ex];exact hs i s hi h) (λs h=>he s (by rw [iJ] at h;exact h))
def NX {f:PV->S->W (Lp S R)}{Q:Lp S R->Prop} (I:Nat->S->Prop) {s:S} (h0:I 0 s) (hs:∀(i:Nat) s,i < n->I i s->(f (.int (i:Int)) s).run λo=>match o with | .go s'=>I (i+1) s' | .out t=>Q (.out t)) (he:∀s,I n s->Q (.go s)):(FL.nR (iK 0 n) s f).run Q:=
 Jq I h0 (λi x s hx h=>by obtain⟨hi,rfl⟩:=ph hx;rw [Ex];exact hs i s hi h) (λs h=>he s (by rw [iJ] at h;exact h))
theorem F0 {c:S->W Bool}{b:S->W S}{Q:S->Prop} (I:Nat->S->Prop) {s:S} (h0:I n s) (hs:∀n s,I n s->(c s).run λk=>if k=true then (b s).run (λs'=>∃m,m < n/\I m s') else Q s):(F1 c b s).run Q:=by
 refine⟨n+1,?_⟩;have:∀k n s,n < k->I n s->(lZ c b k s).run Q:=by
  intro k
  induction k with
  | zero=>intro n s h;omega
  | succ k ih=>
   intro n s hn h;refine (c s).mono (λz q=>?_) (hs n s h);cases z with
   | true=>exact (b s).mono (λs' ⟨m,hm,h'⟩=>ih m s' ∅ h') (show (b s).run _ from q)
   | false=>exact q
 exact this (n+1) n s ∅ h0
theorem IZ {f:PV->W PV}{g:PV->PV}:∀{l:List PV},(∀x∈l,f x=.ret (g x))->cv l f=.ret (l.map g)
 | [],_=>rfl
 | x::r,h=>by
  show ap (f x) (λy=>ap (cv r f) λl=>bd (y::l))=_;rw [h x (.head _),IZ λy hy=>h y (.tail _ hy)];rfl
theorem wD {g:PV->Option PV}:∀{l:List PV},(∀x∈l,f x=.ret (g x))->mH l f=.ret (l.filterMap g)
 | [],_=>rfl
 | x::r,h=>by
  show ap (f x) (λo=>ap (mH r f) λl=>bd (o.toList++l))=_;rw [h x (.head _),wD λy hy=>h y (.tail _ hy),A6];cases g x <;> rfl
end
section
variable (i j:Int) (a b:Bool) (x y:PV) (l m:List PV) (s t:Str)
@[simp] theorem Td:jn (.int i) (.int j)=(i==j):=by rw [jn]
@[simp] theorem N7:jn (.str s) (.str t)=(s==t):=by rw [jn]
@[simp] theorem Te:jn (.bl a) (.bl b)=(a==b):=by rw [jn]
@[simp] theorem aeW:jn (.tup l) (.tup m)=fv l m:=by rw [jn]
@[simp] theorem aeX:jn (.cl l) (.cl m)=fv l m:=by rw [jn]
@[simp] theorem adB:fv [] []=true:=by rw [fv]
@[simp] theorem adA:fv (x::l) (y::m)=(jn x y&&fv l m):=by rw [fv]
@[simp] theorem aaP:PV.jm (.int i)=true:=by rw [PV.jm] <;> simp
@[simp] theorem ady:PV.jm (.bl a)=true:=by rw [PV.jm] <;> simp
@[simp] theorem aaN:PV.jm (.str s)=true:=by rw [PV.jm] <;> simp
@[simp] theorem aaO:PV.jm .aD=true:=by rw [PV.jm] <;> simp
@[simp] theorem aaM:PV.jm (.tup l)=eJ l:=by rw [PV.jm]
@[simp] theorem adx:PV.jm (.cl l)=eJ l:=by rw [PV.jm]
@[simp] theorem ZA:eJ []=true:=by rw [eJ]
@[simp] theorem W2:eJ (x::l)=(PV.jm x&&eJ l):=by rw [eJ]
@[simp] theorem ZG:PV.gC (.int i)=0:=by rw [PV.gC] <;> simp
@[simp] theorem aaS:PV.gC (.bl a)=0:=by rw [PV.gC] <;> simp
@[simp] theorem ZE:PV.gC (.str s)=0:=by rw [PV.gC] <;> simp
@[simp] theorem ZF:PV.gC .aD=0:=by rw [PV.gC] <;> simp
@[simp] theorem ZD:PV.gC (.tup l)=dB l+1:=by rw [PV.gC]
@[simp] theorem aaR:PV.gC (.cl l)=dB l+1:=by rw [PV.gC]
@[simp] theorem W4:dB []=0:=by rw [dB]
@[simp] theorem VU:dB (x::l)=max (PV.gC x) (dB l):=by rw [dB]
def zS:KJ (.int i) (.int j):=⟨by simp,by simp,by simp⟩
@[simp] theorem mq:of2 m6 (.int i) (.int j)=.ret (.bl (i==j)):=by rw [zR,nw (zS i j),Td]
@[simp] theorem xt:of2 wd (.int i) (.int j)=.ret (.bl (!(i==j))):=by rw [Tg,nw (zS i j),Td]
@[simp] theorem adE:of2 m6 (.bl a) (.bl b)=.ret (.bl (a==b)):=by rw [zR,nw ⟨by simp,by simp,by simp⟩,Te]
@[simp] theorem adD:of2 wd (.bl a) (.bl b)=.ret (.bl (!(a==b))):=by rw [Tg,nw ⟨by simp,by simp,by simp⟩,Te]
end
theorem iL:∀{l:List PV},eJ l=true↔∀x∈l,PV.jm x=true
 | []=>by simp
 | x::l=>by rw [eJ,AE,iL (l:=l)];simp
theorem iM:∀{l:List PV},(∀x∈l,PV.gC x<=n)->dB l<=n
 | [],_=>by simp
 | x::l,h=>by
  have h1:=h x (.head _);have h2:=iM (l:=l) λy hy=>h y (.tail _ hy);rw [dB];omega
structure EV where
 P:sK
 w:ut
 K:Ab
 mg:Str->Option bn
 base:kw
structure DF where
 x:Str
 s:ul
 ps:List Str
 k:Nat
 sp:Ab->Sp
abbrev DF.C (d:DF) (v:EV):=Sk v.P v.w v.K v.mg v.base d.x d.k d.ps (d.sp v.K)
structure DI (v:EV) (d:DF) where
 f:ce
 fd:FB
 fn:Pc v.K d.x d.x d.s f fd
 bi:Binds v.K fd d.ps []
 at':v.mg d.x=am (.ref f)
abbrev DI.O {v:EV}{d:DF} (D:DI v d):Prop:=gG v.P v.w v.K v.mg v.base lj d.k D.f D.fd d.ps (d.sp v.K)
def DI.c {v:EV}{d:DF} (D:DI v d) (h:D.O):d.C v:=⟨D.f,D.fd,h,D.bi,D.fn.kp,D.at'⟩
def DI.cN {v:EV}{d:DF} (D:DI v d) (h:gG v.P v.w v.K v.mg v.base lj k D.f D.fd d.ps sp):Sk v.P v.w v.K v.mg v.base d.x k d.ps sp:=⟨D.f,D.fd,h,D.bi,D.fn.kp,D.at'⟩
structure DX (K:Ab) (x:Str) (st:ul):Prop where
 ex:∃f fd,AD K ev x=am (am (.ref f))/\Pc K x x st f fd
def dx {K:Ab}{st:ul}{f:ce}{kV:bn} (a:AD K ev x=am (am (.ref f))) (l:K.lookup f=am ⟨oc,od,.func (B1 x x (fB st) (aV st) (af st) .none kV È pm an bO ct),O5⟩)
  (c:DN K bO x=true) (k:DM K (.ref f)=true):DX K x st:=⟨f,_,a,VQ l c k⟩
def ik {N P:List Str} (h1:sc.kind=.function:=by rfl) (h2:sc.isCoroutine=false:=by rfl) (h3:sc.isGenerator=false:=by rfl) (h4:N.Nodup:=by decide +kernel) (h5:N.take P.length=P:=by rfl) (h6:∀x∈P,sc.names.lookup x=am .local\/sc.names.lookup x=am .cell:=by decide +kernel) (h7:∀y∈sc.names,y.2≠.free:=by decide +kernel):aq N P sc:=⟨h1,h2,h3,h4,h5,h6,h7⟩
def lcs {N:List Str} (h1:sc.kind=.function:=by rfl) (h2:∀y∈sc.names,y.2≠.cell:=by decide +kernel) (h3:∀y∈sc.names,y.2=.local->sc.names.lookup y.1=am .local:=by decide +kernel) (h4:∀y∈sc.names,y.2=.free->(Xs.names.lookup y.1=am .cell\/Xs.names.lookup y.1=am .free):=by decide +kernel) (h5:N'.Nodup:=by decide +kernel) (h6:ix.length=N'.length:=by rfl)
  (h7:((ix.zip N').all λp=>match p.1 with | none=>true | some j=>decide (N[j]?=am p.2)&&decide (sc.names.lookup p.2=am .free))=true:=by decide +kernel):aA Xs N sc N' ix:=⟨h1,h2,h3,h4,h5,h6,h7⟩
abbrev tM (l:List (Str×wP)):r9:={kind:=.function,names:=(BL ".0",.local)::l,isGenerator:=false,isCoroutine:=false,more:=[]}
abbrev lo:wP:=.local
abbrev gi:wP:=.globalImplicit
abbrev fr:wP:=.free
section
variable {v:EV}{st:ul}{N:List Str}
def WJ {m:Pd PV n} (D:DI v ⟨x,st,ps,k+1,λK=>fV K ks (cn n m)⟩) (S:aq N ps (af st)) (Â:∀l:List PV,l.length=n->∀(bO:bn) (A:nn) (outer:List Env) (s:ci) (H:Hp) (E:XK),cB k (A.deeper (pc x (af st) s.heap.objs.size D.f bO))->SF (gD lj v.P v.w v.K v.mg v.base N x (af st) D.f bO A outer s H E).uJ v.K false (gE ks l N.length) (aV st) (cn n m l) .rt)
  (nK:ks.length=ps.length:=by rfl) (one:iR ks:=by repeat' first | exact cq | exact ar (n:=0) | exact ar (n:=1) | exact ar (n:=2) | exact ar (n:=3) | exact ar (n:=4) | exact ar (n:=5) | exact ar (n:=6) | apply eU | apply jJ):D.O:=fnV D.fn S nK one Â
def YC {m:Pd (List PV) n} (D:DI v ⟨x,st,ps,k+1,λK=>fh K ks (cn n m)⟩) (S:aq N ps (af st)) (Â:∀l:List PV,l.length=n->∀(bO:bn) (A:nn) (outer:List Env) (s:ci) (H:Hp) (E:XK),cB k (A.deeper (pc x (af st) s.heap.objs.size D.f bO))->SF (gD lj v.P v.w v.K v.mg v.base N x (af st) D.f bO A outer s H E).uJ v.K false (gE ks l N.length) (aV st) (cn n m l) .rl)
  (nK:ks.length=ps.length:=by rfl) (one:iR ks:=by repeat' first | exact cq | exact ar (n:=0) | exact ar (n:=1) | exact ar (n:=2) | exact ar (n:=3) | exact ar (n:=4) | exact ar (n:=5) | exact ar (n:=6) | apply eU | apply jJ):D.O:=fnL D.fn S nK one Â
def acd {m:W PV} (D:DI v ⟨x,st,ps,k+1,λK=>fV K ks (cn 0 m)⟩) (S:aq N ps (af st)) (Â:∀(bO:bn) (A:nn) (outer:List Env) (s:ci) (H:Hp) (E:XK),cB k (A.deeper (pc x (af st) s.heap.objs.size D.f bO))->SF (gD lj v.P v.w v.K v.mg v.base N x (af st) D.f bO A outer s H E).uJ v.K false (gE ks [] N.length) (aV st) (m) .rt)
  (nK:ks.length=ps.length:=by rfl) (one:iR ks:=by repeat' first | exact cq | exact ar (n:=0) | exact ar (n:=1) | exact ar (n:=2) | exact ar (n:=3) | exact ar (n:=4) | exact ar (n:=5) | exact ar (n:=6) | apply eU | apply jJ):D.O:=WJ (n:=0) (m:=m) D S (λl hl=>match l,hl with | [],_=>Â) nK one
def rF {m:PV->W PV} (D:DI v ⟨x,st,ps,k+1,λK=>fV K ks (cn 1 m)⟩) (S:aq N ps (af st)) (Â:∀(x0:PV) (bO:bn) (A:nn) (outer:List Env) (s:ci) (H:Hp) (E:XK),cB k (A.deeper (pc x (af st) s.heap.objs.size D.f bO))->SF (gD lj v.P v.w v.K v.mg v.base N x (af st) D.f bO A outer s H E).uJ v.K false (gE ks [x0] N.length) (aV st) (m x0) .rt)
  (nK:ks.length=ps.length:=by rfl) (one:iR ks:=by repeat' first | exact cq | exact ar (n:=0) | exact ar (n:=1) | exact ar (n:=2) | exact ar (n:=3) | exact ar (n:=4) | exact ar (n:=5) | exact ar (n:=6) | apply eU | apply jJ):D.O:=WJ (n:=1) (m:=m) D S (λl hl=>match l,hl with | [x0],_=>Â x0) nK one
def Gy {m:PV->PV->W PV} (D:DI v ⟨x,st,ps,k+1,λK=>fV K ks (cn 2 m)⟩) (S:aq N ps (af st)) (Â:∀(x0:PV) (x1:PV) (bO:bn) (A:nn) (outer:List Env) (s:ci) (H:Hp) (E:XK),cB k (A.deeper (pc x (af st) s.heap.objs.size D.f bO))->SF (gD lj v.P v.w v.K v.mg v.base N x (af st) D.f bO A outer s H E).uJ v.K false (gE ks [x0,x1] N.length) (aV st) (m x0 x1) .rt)
  (nK:ks.length=ps.length:=by rfl) (one:iR ks:=by repeat' first | exact cq | exact ar (n:=0) | exact ar (n:=1) | exact ar (n:=2) | exact ar (n:=3) | exact ar (n:=4) | exact ar (n:=5) | exact ar (n:=6) | apply eU | apply jJ):D.O:=WJ (n:=2) (m:=m) D S (λl hl=>match l,hl with | [x0,x1],_=>Â x0 x1) nK one
def M0 {m:PV->PV->PV->W PV} (D:DI v ⟨x,st,ps,k+1,λK=>fV K ks (cn 3 m)⟩) (S:aq N ps (af st)) (Â:∀(x0:PV) (x1:PV) (x2:PV) (bO:bn) (A:nn) (outer:List Env) (s:ci) (H:Hp) (E:XK),cB k (A.deeper (pc x (af st) s.heap.objs.size D.f bO))->SF (gD lj v.P v.w v.K v.mg v.base N x (af st) D.f bO A outer s H E).uJ v.K false (gE ks [x0,x1,x2] N.length) (aV st) (m x0 x1 x2) .rt)
  (nK:ks.length=ps.length:=by rfl) (one:iR ks:=by repeat' first | exact cq | exact ar (n:=0) | exact ar (n:=1) | exact ar (n:=2) | exact ar (n:=3) | exact ar (n:=4) | exact ar (n:=5) | exact ar (n:=6) | apply eU | apply jJ):D.O:=WJ (n:=3) (m:=m) D S (λl hl=>match l,hl with | [x0,x1,x2],_=>Â x0 x1 x2) nK one
def YA {m:PV->PV->PV->PV->W PV} (D:DI v ⟨x,st,ps,k+1,λK=>fV K ks (cn 4 m)⟩) (S:aq N ps (af st)) (Â:∀(x0:PV) (x1:PV) (x2:PV) (x3:PV) (bO:bn) (A:nn) (outer:List Env) (s:ci) (H:Hp) (E:XK),cB k (A.deeper (pc x (af st) s.heap.objs.size D.f bO))->SF (gD lj v.P v.w v.K v.mg v.base N x (af st) D.f bO A outer s H E).uJ v.K false (gE ks [x0,x1,x2,x3] N.length) (aV st) (m x0 x1 x2 x3) .rt)
  (nK:ks.length=ps.length:=by rfl) (one:iR ks:=by repeat' first | exact cq | exact ar (n:=0) | exact ar (n:=1) | exact ar (n:=2) | exact ar (n:=3) | exact ar (n:=4) | exact ar (n:=5) | exact ar (n:=6) | apply eU | apply jJ):D.O:=WJ (n:=4) (m:=m) D S (λl hl=>match l,hl with | [x0,x1,x2,x3],_=>Â x0 x1 x2 x3) nK one
def acb {m:PV->PV->PV->PV->PV->W PV} (D:DI v ⟨x,st,ps,k+1,λK=>fV K ks (cn 5 m)⟩) (S:aq N ps (af st)) (Â:∀(x0:PV) (x1:PV) (x2:PV) (x3:PV) (x4:PV) (bO:bn) (A:nn) (outer:List Env) (s:ci) (H:Hp) (E:XK),cB k (A.deeper (pc x (af st) s.heap.objs.size D.f bO))->SF (gD lj v.P v.w v.K v.mg v.base N x (af st) D.f bO A outer s H E).uJ v.K false (gE ks [x0,x1,x2,x3,x4] N.length) (aV st) (m x0 x1 x2 x3 x4) .rt)
  (nK:ks.length=ps.length:=by rfl) (one:iR ks:=by repeat' first | exact cq | exact ar (n:=0) | exact ar (n:=1) | exact ar (n:=2) | exact ar (n:=3) | exact ar (n:=4) | exact ar (n:=5) | exact ar (n:=6) | apply eU | apply jJ):D.O:=WJ (n:=5) (m:=m) D S (λl hl=>match l,hl with | [x0,x1,x2,x3,x4],_=>Â x0 x1 x2 x3 x4) nK one
def U6 {m:PV->W (List PV)} (D:DI v ⟨x,st,ps,k+1,λK=>fh K ks (cn 1 m)⟩) (S:aq N ps (af st)) (Â:∀(x0:PV) (bO:bn) (A:nn) (outer:List Env) (s:ci) (H:Hp) (E:XK),cB k (A.deeper (pc x (af st) s.heap.objs.size D.f bO))->SF (gD lj v.P v.w v.K v.mg v.base N x (af st) D.f bO A outer s H E).uJ v.K false (gE ks [x0] N.length) (aV st) (m x0) .rl)
  (nK:ks.length=ps.length:=by rfl) (one:iR ks:=by repeat' first | exact cq | exact ar (n:=0) | exact ar (n:=1) | exact ar (n:=2) | exact ar (n:=3) | exact ar (n:=4) | exact ar (n:=5) | exact ar (n:=6) | apply eU | apply jJ):D.O:=YC (n:=1) (m:=m) D S (λl hl=>match l,hl with | [x0],_=>Â x0) nK one
def QN {m:PV->PV->W (List PV)} (D:DI v ⟨x,st,ps,k+1,λK=>fh K ks (cn 2 m)⟩) (S:aq N ps (af st)) (Â:∀(x0:PV) (x1:PV) (bO:bn) (A:nn) (outer:List Env) (s:ci) (H:Hp) (E:XK),cB k (A.deeper (pc x (af st) s.heap.objs.size D.f bO))->SF (gD lj v.P v.w v.K v.mg v.base N x (af st) D.f bO A outer s H E).uJ v.K false (gE ks [x0,x1] N.length) (aV st) (m x0 x1) .rl)
  (nK:ks.length=ps.length:=by rfl) (one:iR ks:=by repeat' first | exact cq | exact ar (n:=0) | exact ar (n:=1) | exact ar (n:=2) | exact ar (n:=3) | exact ar (n:=4) | exact ar (n:=5) | exact ar (n:=6) | apply eU | apply jJ):D.O:=YC (n:=2) (m:=m) D S (λl hl=>match l,hl with | [x0,x1],_=>Â x0 x1) nK one
def YB {m:PV->PV->PV->W (List PV)} (D:DI v ⟨x,st,ps,k+1,λK=>fh K ks (cn 3 m)⟩) (S:aq N ps (af st)) (Â:∀(x0:PV) (x1:PV) (x2:PV) (bO:bn) (A:nn) (outer:List Env) (s:ci) (H:Hp) (E:XK),cB k (A.deeper (pc x (af st) s.heap.objs.size D.f bO))->SF (gD lj v.P v.w v.K v.mg v.base N x (af st) D.f bO A outer s H E).uJ v.K false (gE ks [x0,x1,x2] N.length) (aV st) (m x0 x1 x2) .rl)
  (nK:ks.length=ps.length:=by rfl) (one:iR ks:=by repeat' first | exact cq | exact ar (n:=0) | exact ar (n:=1) | exact ar (n:=2) | exact ar (n:=3) | exact ar (n:=4) | exact ar (n:=5) | exact ar (n:=6) | apply eU | apply jJ):D.O:=YC (n:=3) (m:=m) D S (λl hl=>match l,hl with | [x0,x1,x2],_=>Â x0 x1 x2) nK one
def acf {m:PV->PV->PV->PV->W (List PV)} (D:DI v ⟨x,st,ps,k+1,λK=>fh K ks (cn 4 m)⟩) (S:aq N ps (af st)) (Â:∀(x0:PV) (x1:PV) (x2:PV) (x3:PV) (bO:bn) (A:nn) (outer:List Env) (s:ci) (H:Hp) (E:XK),cB k (A.deeper (pc x (af st) s.heap.objs.size D.f bO))->SF (gD lj v.P v.w v.K v.mg v.base N x (af st) D.f bO A outer s H E).uJ v.K false (gE ks [x0,x1,x2,x3] N.length) (aV st) (m x0 x1 x2 x3) .rl)
  (nK:ks.length=ps.length:=by rfl) (one:iR ks:=by repeat' first | exact cq | exact ar (n:=0) | exact ar (n:=1) | exact ar (n:=2) | exact ar (n:=3) | exact ar (n:=4) | exact ar (n:=5) | exact ar (n:=6) | apply eU | apply jJ):D.O:=YC (n:=4) (m:=m) D S (λl hl=>match l,hl with | [x0,x1,x2,x3],_=>Â x0 x1 x2 x3) nK one
def ace {m:PV->PV->PV->PV->PV->W (List PV)} (D:DI v ⟨x,st,ps,k+1,λK=>fh K ks (cn 5 m)⟩) (S:aq N ps (af st)) (Â:∀(x0:PV) (x1:PV) (x2:PV) (x3:PV) (x4:PV) (bO:bn) (A:nn) (outer:List Env) (s:ci) (H:Hp) (E:XK),cB k (A.deeper (pc x (af st) s.heap.objs.size D.f bO))->SF (gD lj v.P v.w v.K v.mg v.base N x (af st) D.f bO A outer s H E).uJ v.K false (gE ks [x0,x1,x2,x3,x4] N.length) (aV st) (m x0 x1 x2 x3 x4) .rl)
  (nK:ks.length=ps.length:=by rfl) (one:iR ks:=by repeat' first | exact cq | exact ar (n:=0) | exact ar (n:=1) | exact ar (n:=2) | exact ar (n:=3) | exact ar (n:=4) | exact ar (n:=5) | exact ar (n:=6) | apply eU | apply jJ):D.O:=YC (n:=5) (m:=m) D S (λl hl=>match l,hl with | [x0,x1,x2,x3,x4],_=>Â x0 x1 x2 x3 x4) nK one
end
section
variable {K:Ab}{W':W PV}{WL:W (List PV)}
theorem eC {m:List PV->W PV} (G:Sk X.prog X.w X.K X.mg X.base x k ps (fV K ks m)) (hr:cB k' X.A) (ha:AF X K fs (e::es) ks B) (hk:k<=k':=by first | exact EL rfl | exact An _ | omega) (hg:Gl X x:=by rfl) (hW:W'=B m:=by rfl) (nM:jS x:=by decide)
  (he:gs X e es:=by rfl) (dW:lq X pos es:=by rfl):EF X K fs (.Call (.Name x p) (e::es) [] pos) W':=RN G hr hk hg ha hW nM he dW
theorem lC {m:List PV->W (List PV)}{B:(List PV->W (List PV))->W (List PV)} (G:Sk X.prog X.w X.K X.mg X.base x k ps (fh K ks m)) (hr:cB k' X.A) (ha:AF X K fs (e::es) ks B) (hk:k<=k':=by first | exact EL rfl | exact An _ | omega) (hg:Gl X x:=by rfl) (hW:WL=B m:=by rfl) (nM:jS x:=by decide)
  (he:gs X e es:=by rfl) (dW:lq X pos es:=by rfl):LF X K fs (.Call (.Name x p) (e::es) [] pos) WL:=QY G hr hk hg ha hW nM he dW
def f6 (i:Nat) (hN:X.N.Nodup) (hi:X.N[i]?=am x:=by rfl) (hx:Loc X.env.scope x:=by first | exact .inl rfl | exact .inr rfl) (hf:O0 X x:=by first | exact .inl rfl | exact .inr rfl | assumption):PG X (.Name x pos) (gN i):=Qe hN hi hx hf
variable {T:Type}{out:T->End}{rest:List ul}
def sv (i:Nat) {k:PV->W T} (hN:X.N.Nodup) (he:EF X K fs e we) (hr:∀v,SF X K b (fs.set i (am (.val v))) rest (k v) out) (hi:X.N[i]?=am y:=by rfl) (hx:Loc X.env.scope y:=by first | exact .inl rfl | exact .inr rfl) (hs:mo e (am (.Name y p')) pos.line X.env=pure false:=by rfl)
  (hf:O0 X y:=by first | exact .inl rfl | exact .inr rfl | assumption):SF X K b fs (.Assign [.Name y p'] e pos::rest) (.bind we k) out:=SF.set hN hi hx he hr hs hf
def sl (i:Nat) {k:List PV->W T} (hN:X.N.Nodup) (he:LF X K fs e wl) (hr:∀l,SF X K b (fs.set i (am (.ol bm l))) rest (k l) out) (hi:X.N[i]?=am y:=by rfl) (hx:Loc X.env.scope y:=by first | exact .inl rfl | exact .inr rfl) (hs:mo e (am (.Name y p')) pos.line X.env=pure false:=by rfl)
  (hf:O0 X y:=by first | exact .inl rfl | exact .inr rfl | assumption):SF X K b fs (.Assign [.Name y p'] e pos::rest) (.bind wl k) out:=SF.abV hN hi hx he hr hs hf
end
end FL
variable {P:List A4->Prop}{d:FL.DF}
namespace FL
open PySem PySem.Spec PyProof.Rows L2 PL
def us1 (h:∀a,P [a]):∀us:List bn,us.length=1->P us
 | [_],_=>h _
def us2 (h:∀a b,P [a,b]):∀us:List bn,us.length=2->P us
 | a::_,e=>us1 (P:=λl=>P (a::l)) (h _) _ (Ft.inj e)
def us3 (h:∀a b c,P [a,b,c]):∀us:List bn,us.length=3->P us
 | a::_,e=>us2 (P:=λl=>P (a::l)) (h _) _ (Ft.inj e)
def us4 (h:∀a b c d,P [a,b,c,d]):∀us:List bn,us.length=4->P us
 | a::_,e=>us3 (P:=λl=>P (a::l)) (h _) _ (Ft.inj e)
def us5 (h:∀a b c d e,P [a,b,c,d,e]):∀us:List bn,us.length=5->P us
 | a::_,e=>us4 (P:=λl=>P (a::l)) (h _) _ (Ft.inj e)
def DX.mk2 {v:EV} (D:DX v.K d.x d.s) (X:v.K.In h) (G:h.Ns ev v.mg)
  (hb:∀(kV È pm:bn) (an:Option ce) (bO ct:bn) (us:List bn),us.length=d.ps.length->bindArgs (B1 d.x d.x (fB d.s) (aV d.s) (af d.s) .none kV È pm an bO ct) ⟨us,[]⟩=pure (d.ps.zip us):=by
   first
    | exact λ_ _ _ _ _ _=>us1 λ_=>rfl
    | exact λ_ _ _ _ _ _=>us2 λ_ _=>rfl
    | exact λ_ _ _ _ _ _=>us3 λ_ _ _=>rfl
    | exact λ_ _ _ _ _ _=>us4 λ_ _ _ _=>rfl
    | exact λ_ _ _ _ _ _=>us5 λ_ _ _ _ _=>rfl
    | exact λ_ _ _ _ _ _=>us6 λ_ _ _ _ _ _=>rfl
    | exact λ_ _ _ _ _ _=>us7 λ_ _ _ _ _ _ _=>rfl
    | exact λ_ _ _ _ _ _=>us8 λ_ _ _ _ _ _ _ _=>rfl):Nonempty (DI v d):=by
 obtain⟨f,fd,a,F⟩:=D.ex;exact⟨⟨f,fd,F,F.binds hb,BK X G a⟩⟩
def DX.go {v:EV} (D:DX v.K d.x d.s) (X:v.K.In h) (G:h.Ns ev v.mg) {P:Prop} (k:∀D:DI v d,D.O) (r:d.C v->P)
  (hb:∀(kV È pm:bn) (an:Option ce) (bO ct:bn) (us:List bn),us.length=d.ps.length->bindArgs (B1 d.x d.x (fB d.s) (aV d.s) (af d.s) .none kV È pm an bO ct) ⟨us,[]⟩=pure (d.ps.zip us):=by
   first
    | exact λ_ _ _ _ _ _=>us1 λ_=>rfl
    | exact λ_ _ _ _ _ _=>us2 λ_ _=>rfl
    | exact λ_ _ _ _ _ _=>us3 λ_ _ _=>rfl
    | exact λ_ _ _ _ _ _=>us4 λ_ _ _ _=>rfl
    | exact λ_ _ _ _ _ _=>us5 λ_ _ _ _ _=>rfl
    | exact λ_ _ _ _ _ _=>us6 λ_ _ _ _ _ _=>rfl
    | exact λ_ _ _ _ _ _=>us7 λ_ _ _ _ _ _ _=>rfl
    | exact λ_ _ _ _ _ _=>us8 λ_ _ _ _ _ _ _ _=>rfl):P:=by
 obtain⟨D⟩:=D.mk2 X G hb;exact r (D.c (k D))
def Ir (K:Ab):Sp:=λvs H Q _=>∃(a:ce) (ns:List Int),vs=[.ref a]/\Sb H/\dP K H a (ns.map V.int)/\ns.length<=63/\∀H',Q (.bl true) H'
def QU {K:Ab}{m:PV->W PV} (ok:∀ns:List Int,ns.length<=63->(m (.cl (ns.map PV.int))).run (·=.bl true)):∀vs H Q E,Ir K vs H Q E->fV K [.v] (cn 1 m) vs H Q E:=λvs H Q E ⟨a,ns,e,hO,hS,hl,q⟩=>by
 subst e;have fz:Tx K H a (ns.map V.int):=by
  rcases hS with (h | ⟨o,h⟩) | h
  ·rcases hO a with z | ⟨o,xs,z⟩
   ·rw [h] at z;cases z
   ·rw [h] at z;cases z
  ·exact .inl ⟨o,h⟩
  ·exact .inr h
 refine⟨[.cl (ns.map PV.int)],.v (.cl fz (nJ _ _ ns)) .nil,(m (.cl (ns.map PV.int))).mono (λv e u H' _ r=>?_) (ok ns hl)⟩;subst e;cases r;exact q H'
structure aab (K:Ab) (mg:Str->Option bn) (d:DF):Prop where
 f:∀v:EV,v.K=K->v.mg=mg->∀D:DI v d,D.O
def mkAll {l:EB}{K:Ab}{fa:ce}{st:ul}{m:PV->W PV} (ok:∀ns:List Int,ns.length<=63->(m (.cl (ns.map PV.int))).run (·=.bl true)) (X:K.In h) (G:h.Ns ev mg) (hfa:mg "law"=am (.ref fa)) (ZQ:DX K "law" st)
  (hb:∀(kV È pm:bn) (an:Option ce) (bO ct:bn) (us:List bn),us.length=1->bindArgs (B1 "law" "law" (fB st) (aV st) (af st) .none kV È pm an bO ct) ⟨us,[]⟩=pure (([("_law_script":Str)]:List Str).zip us))
  (F:aab K mg ⟨"law",st,["_law_script"],k,λK=>fV K [.v] (cn 1 m)⟩) :
  ∃fd:FB,(∀(s:ci) (v:bn),BindsTo s fd ⟨[v],[]⟩ [("_law_script",v)])/\∀base:kw,K.In base->base.Ns ev mg->gG l.prog w K mg base lj k fa fd ["_law_script"] (Ir K):=by
 obtain⟨f,fd,a,F'⟩:=ZQ.ex;have e:=hfa.symm.trans (BK X G a);cases e;have fb:=F'.binds (ps:=["_law_script"]) hb;obtain⟨oc,od,kV,È,pm,an,bO,ct,O5,rfl,_⟩:=id F'.ex;exact⟨B1 "law" "law" (fB st) (aV st) (af st) .none kV È pm an bO ct,λs v=>.of_eq (hb kV È pm an bO ct [v] rfl),λbase _ _=>(F.f ⟨l.prog,w,K,mg,base⟩ rfl rfl ⟨_,_,F',fb,hfa⟩).imp (QU ok)⟩
end FL
namespace My
open PySem PySem.Spec PyProof.Rows L2 PL FL
def je (aY:PV):W (List PV):=
 []\λmE=>
 ap (aY\λx3=>bd [x3]) λoC=>
 ap (F1 (λs4=>(s4.2\λl5=>bd (!l5.isEmpty))) (λs4=>(
 ap (yU s4.2) λt7=>
 t7.2\λx9=>ap (kF s4.1 x9) λmD=>
 eH (LB (ap (ap (bd t7.2) (jg .str)) iu)) (
 ap (ap (bd t7.2) aF) λl11=>ap (VV t7.1 l11) λqS=>
 bd (mD,qS)) (
 bd (mD,t7.1)))) (mE,oC)) λs4=>
 (s4.1\λVk=>bd Vk.reverse)
def gL (aY:PV):W PV:=
 []\λiW=>
 []\λwy=>
 ap (aY\λx3=>je x3) λl30=>ap (cV l30 (iW,wy) λvY s4=>(
 ap (ap (ap (bd vY) (jg .str)) iu) λb=>ap (if b=true then (
 vY\λLu=>ap (kF s4.1 Lu) λIc=>
 bd (Ic,s4.2)) else (
 ap (yU s4.2) λt20=>
 ap (yU t20.1) λt22=>
 ap (t22.2\λTK=>t20.2\λTJ=>bd (.tup [TK,TJ])) λXn=>ap (kF s4.1 Xn) λIb=>
 bd (Ib,t22.1))) λUk=>
 ap (b2 y9 (ap (bd Uk.1) zr) (bd (.int 1))) λXm=>ap (kF Uk.2 Xm) λzm=>
 bd (Uk.1,zm))) λs4=>
 (ap (bd s4.1) mQ)
def cz (eD:PV):W PV:=
 (eH (ap (ap (bd eD) (jg .str)) iu) (bd (.tup [])) (bd eD))
def eF (aY:PV):W PV:=
 ap (aY\λx2=>gL x2) λiW=>
 ap (ap (ap (bd iW) aF) λl4=>cv l4 λp5=>(bd .aD)) λxV=>
 ap (ap (ap (bd iW) aF) λl6=>.eQ (l6.length<=sizeLine) (.ret (dC 0 l6))) λVi=>ap (cV Vi xV λp8 s7=>ap (yA p8) λt9=>(
 ap (ap (t9.2\λmK=>cz mK) aF) λVj=>ap (cV Vj s7 λJm Ul=>(
 t9.1\λFY=>Jm\λvq=>ap (jT Ul vq FY) λFD=>
 bd FD)) λUl=>
 bd Ul)) λs7=>
 (ap (bd s7) mQ)
def dU (eN:PV) (ko:PV):W PV:=
 (eH (ap (ap (c7 (ap (bd eN) aF) (bd ko)) (jg .str)) iu) (c7 (ap (bd eN) aF) (bd ko)) (bd ko))
def gh (da:PV):W (List PV):=
 ap (da\λx2=>eF x2) λdF=>
 ap (ap (ap (bd dF) aF) λl4=>cv l4 λp5=>(bd (.tup []))) λkQ=>
 ap (ap (b2 y9 (c1 fD (bd dF)) (bd (.int 1))) λx6=>ap (ap (bd (.int 1)) zd) λx7=>ap (ap (bd (.int 1)) zd) λx8=>L8 x6 x7 x8) λVj=>ap (cV Vj kQ λkn s9=>(
 ap (eH (t2 MP (c7 (ap (bd dF) aF) (bd kn)) (bd .aD)) (bd (.tup [])) (c7 (bd s9) (c7 (ap (bd dF) aF) (bd kn)))) λFE=>
 ap (w2 addW (kn\λFZ=>bd (.tup [FZ])) (bd FE)) λFY=>kn\λvq=>ap (jT s9 vq FY) λzq=>
 bd zq)) λs9=>
 bd s9
def d6 (wA:PV) (ko:PV):W PV:=
 (ap (ap (ap (c1 fD (bd wA)) jH) λl2=>mH l2 λp3=>O7 (LG (Ny true (bd p3) (ap (c7 (ap (bd wA) aF) (bd ko)) aF)) (Ny true (bd ko) (ap (c7 (ap (bd wA) aF) (bd p3)) aF))) (bd p3)) mQ)
def eX (da:PV):W PV:=
 ap (da\λx2=>gL x2) λbr=>
 ap (da\λx4=>gh x4) λkQ=>
 (ap (ap (ap (c1 fD (bd br)) jH) λl6=>cv l6 λp7=>(ap (br\λx8=>p7\λx9=>dU x8 x9) λmK=>(.int 0)\λvz=>ap (ap (c7 (ap (bd br) aF) (bd p7)) λvt=>cz vt) λFZ=>ap ((.cl kQ)\λFY=>p7\λvq=>d6 FY vq) λJO=>bd (.tup [mK,vz,FZ,JO]))) mQ)
def dj (eN:PV) (dc:PV):W (List PV):=
 (ap (ap (ap (bd eN) aF) λl1=>ap (ap (bd dc) aF) λl2=>JN l1 l2) λl3=>mH l3 λp4=>ap (yA p4) λt5=>O7 (LB (ap (ap (bd t5.1) (jg .str)) iu)) (bd t5.2))
def bJ (uD:PV):W PV:=
 (c7 (ap (bd uD) aF) (ap (c1 fD (bd uD)) λx1=>bQ x1))
def gb (da:PV) (dc:PV) (jC:PV):W (List PV):=
 ap (da\λx2=>eF x2) λdF=>
 []\λv5=>
 ap (ap (ap (bd jC) aF) λl4=>.eQ (l4.length<=sizeLine) (.ret (dC 0 l4))) λVi=>ap (cV Vi v5 λp6 s5=>ap (yA p6) λt7=>(
 ap (ap (ap (bd dc) aF) λl8=>.eQ (l8.length<=sizeLine) (.ret (dC 0 l8))) λVj=>ap (cV Vj s5 λą s9=>ap (yA ą) λXO=>(
 eH (LG (t2 oLe (bd XO.2) (bd t7.2)) (tor (t2 MP (c7 (ap (bd dF) aF) (bd XO.1)) (bd .aD)) (t2 oLt (bd t7.2) (c7 (ap (bd dc) aF) (c7 (ap (bd dF) aF) (bd XO.1)))))) (
 ap (XO.1\λFZ=>t7.1\λFY=>bd (.tup [FZ,FY])) λvq=>ap (kF s9 vq) λyZ=>
 bd yZ) (
 bd s9))) λs9=>
 bd s9)) λs5=>
 bd s5
def iG (eN:PV) (dc:PV) (jC:PV) (m7:PV) (MF:PV):W PV:=
 ap (c7 (ap (bd MF) aF) (bd (.int 0))) λkR=>
 ap (c7 (ap (bd MF) aF) (bd (.int 1))) λnF=>
 ap (b2 oLt (c7 (ap (bd dc) aF) (bd kR)) (c7 (ap (bd jC) aF) (bd nF))) λuY=>
 ap (eH (ap (bd uY) iu) (kR\λx5=>bd (.tup [x5])) (ap (c7 (ap (bd eN) aF) (bd kR)) λx6=>cz x6)) λbelow_4=>
 ap (ap (ap (ap (bd below_4) aF) λl8=>cv l8 λp9=>(ZV (bd m7) (p9\λmK=>ap (b2 y9 (bd nF) (bd (.int 1))) λvz=>bd (.tup [mK,vz])))) mQ) λH9=>
 ap (ap (ap (ap (bd m7) Nf) λl13=>mH l13 λYm=>O7 (LG (t2 m6 (c7 (ap (bd Ym) aF) (bd (.int 1))) (bd nF)) (t2 wd (c7 (ap (bd Ym) aF) (bd (.int 0))) (bd kR))) (ZV (bd m7) (bd Ym))) mQ) λvk=>
 (ap (eN\λvq=>kR\λJO=>dU vq JO) λPh=>nF\λLu=>H9\λPg=>vk\λLs=>bd (.tup [Ph,Lu,Pg,Ls]))
def kO (da:PV) (dc:PV):W PV:=
 ap (da\λx2=>gL x2) λbr=>
 ap (ap ((.int 0)\λx4=>bd [x4]) λl7=>ap (ap (br\λx5=>dc\λx6=>dj x5 x6) vK) λl8=>nW l7 l8) λsU=>
 ap (da\λmK=>dc\λvz=>(.cl sU)\λvt=>gb mK vz vt) λvZ=>
 ap (ap (ap (ap (ap (bd (.cl vZ)) aF) λl14=>.eQ (l14.length<=sizeLine) (.ret (dC 0 l14))) λl15=>cv l15 λp16=>ap (yA p16) λĀ=>(Ā.2\λLu=>Ā.1\λPg=>bd (.tup [Lu,Pg]))) Hw) λrz=>
 (ap (ap (ap (bd (.cl vZ)) aF) λl20=>cv l20 λp21=>(br\λTN=>dc\λTL=>(.cl sU)\λTK=>rz\λTJ=>p21\λXn=>iG TN TL TK TJ Xn)) mQ)
def cO (fc:PV) (bh:PV):W PV:=
 (c7 (ap (c7 (ap (bd fc) aF) (bd bh)) aF) (bd (.int 2)))
def eY (fc:PV) (bh:PV):W PV:=
 (c7 (ap (c7 (ap (bd fc) aF) (bd bh)) aF) (bd (.int 3)))
def iH (fc:PV) (bh:PV) (Sn:PV):W PV:=
 (adL (b2 m6 (fc\λx1=>bh\λx2=>cO x1 x2) (bd (.tup []))) (b2 m6 (c7 (ap (c7 (ap (bd fc) aF) (bd bh)) aF) (bd (.int 0))) (bd Sn)))
def eW (aH:PV) (bh:PV):W (List PV):=
 ap (aH\λx2=>bh\λx3=>cO x2 x3) λmO=>
 (eH (t2 m6 (c1 fD (bd mO)) (bd (.int 2))) (mO\λx4=>ap (ap (c7 (ap (bd mO) aF) (bd (.int 1))) λx5=>ap (c7 (ap (bd mO) aF) (bd (.int 0))) λx6=>bd (.tup [x5,x6])) λx7=>bd [x4,x7]) (bd []))
def gc (aH:PV) (bh:PV):W (List PV):=
 ap (aH\λx2=>bh\λx3=>eY x2 x3) λsT=>
 (ap (ap (ap (bd sT) aF) λl4=>cv l4 λp5=>(bh\λx6=>p5\λx7=>bd (.tup [x6,x7]))) λVk=>ap (ap (ap (bd sT) aF) λl8=>cv l8 λp9=>(p9\λmK=>bh\λvz=>bd (.tup [mK,vz]))) λl13=>nW Vk l13)
def eE (aH:PV) (eD:PV) (bh:PV):W (List PV):=
 eH (ap (ap (bd eD) (jg .str)) iu) (
 (eH (ap (aH\λx1=>bh\λx2=>eD\λx3=>iH x1 x2 x3) iu) (ap ((.str "found")\λx4=>(.tup [])\λx5=>bd (.tup [x4,x5])) λx6=>bd [x6]) (bd []))) (
 ap (ap (aH\λx8=>bh\λx9=>eW x8 x9) λl10=>cv l10 λê=>((.str "split")\λvt=>ê\λFZ=>bd (.tup [vt,FZ]))) λIq=>
 ap (ap (aH\λvq=>bh\λJO=>gc vq JO) λVj=>cv Vj λp18=>((.str "over")\λPg=>p18\λLs=>bd (.tup [Pg,Ls]))) λIJ=>
 (ap (ap (ap (ap ((.str "doubled")\λTR=>ap (bh\λTN=>bh\λTL=>bd (.tup [TN,TL])) λTK=>bd (.tup [TR,TK])) λTJ=>bd [TJ]) λl26=>ap (ap (bd (.cl Iq)) wu) λl27=>nW l26 l27) λl28=>ap (ap (bd (.cl IJ)) wu) λl29=>nW l28 l29) LV))
def iE (pG:PV):W PV:=
 (eH (Ny false (bd .aD) (ap (bd pG) aF)) (bd .aD) (ap (ap (bd pG) wu) Ij))
def cQ (pG:PV):W PV:=
 (ap (ap (ap (bd pG) aF) λl1=>mH l1 λp2=>O7 (t2 uI (bd p2) (bd .aD)) (bd p2)) IV)
def dJ (aR:PV) (sJ:PV):W PV:=
 (eH (sJ\λx1=>qg false x1 ([("split":Str),("doubled":Str),("over":Str)].map PV.str)) (c7 (ap (bd aR) aF) (ap (bd sJ) (NC ["split","doubled","over"]))) (bd (.int 0)))
def cP (aR:PV) (mX:PV) (eD:PV) (sJ:PV):W PV:=
 ap (ap (ap (ap (eD\λx2=>cz x2) aF) λl3=>ap (ap (c7 (ap (bd sJ) aF) (bd (.int 1))) aF) λl4=>JN l3 l4) λl5=>cv l5 λp6=>ap (yA p6) λt7=>(c7 (ap (c7 (ap (bd mX) aF) (bd t7.1)) aF) (bd t7.2))) λy8=>
 (ap (He (ap (ap (aR\λx8=>ap (c7 (ap (bd sJ) aF) (bd (.int 0))) λx9=>dJ x8 x9) λmK=>bd [mK]) λl11=>ap (ap (bd (.cl y8)) wu) λVk=>nW l11 Vk)) λFZ=>iE FZ)
def d5 (aH:PV) (aR:PV) (mX:PV) (eD:PV) (bh:PV):W (List PV):=
 (ap (aH\λx1=>eD\λx2=>bh\λx3=>eE x1 x2 x3) λl4=>cv l4 λp5=>(aR\λx6=>mX\λx7=>eD\λx8=>p5\λx9=>cP x6 x7 x8 x9))
def eV (aH:PV) (aR:PV) (bh:PV):W PV:=
 (eH (t2 m6 (c1 fD (aH\λx1=>bh\λx2=>cO x1 x2)) (bd (.int 2))) (c7 (ap (bd aR) aF) (bd (.int 3))) (bd (.int 0)))
def d4 (aH:PV) (aR:PV) (XY:PV) (bh:PV):W (List PV):=
 ap (aH\λx2=>aR\λx3=>bh\λx4=>eV x2 x3 x4) λSJ=>
 (ap (ap (aH\λx5=>bh\λx6=>cO x5 x6) aF) λl7=>cv l7 λp8=>(ap (He (SJ\λx9=>ap (c7 (ap (bd XY) aF) (bd p8)) λmK=>bd [x9,mK])) λvz=>iE vz))
def kf (aH:PV) (aR:PV) (mX:PV) (eD:PV):W PV:=
 []\λL7=>
 ap (ap (c1 fD (bd aH)) jH) λl21=>ap (cV l21 L7 λGa s3=>(
 ap (ap (ap (aH\λx6=>aR\λx7=>mX\λx8=>eD\λx9=>Ga\λmK=>d5 x6 x7 x8 x9 mK) λl15=>ap (aH\λvz=>aR\λvt=>(.cl s3)\λFZ=>Ga\λFY=>d4 vz vt FZ FY) λl16=>nW l15 l16) LD) λJB=>
 ap ((.cl JB)\λLu=>cQ Lu) λPg=>ap (kF s3 Pg) λL6=>
 bd L6)) λs3=>
 (ap (bd s3) mQ)
def kN (aH:PV) (oJ:PV) (aR:PV):W PV:=
 []\λGh=>
 ap (ap (oJ\λx2=>gL x2) aF) λVk=>ap (cV Vk Gh λMU s3=>(
 ap (ap (aH\λx6=>aR\λx7=>(.cl s3)\λx8=>MU\λx9=>kf x6 x7 x8 x9) LC) λmK=>ap (kF s3 mK) λL5=>
 bd L5)) λs3=>
 (ap (bd s3) mQ)
def eZ (eM:PV) (k_:PV):W (List PV):=
 ap (eH (t2 oLt (bd k_) (c1 fD (bd eM))) (c7 (ap (bd eM) aF) (bd k_)) (bd (.int 0))) λkD=>
 ap (b2 oW (c1 Fz (bd kD)) (c1 HG (b2 oGe (c1 Fz (bd kD)) (b2 MK (bd (.int 10)) (bd (.int 18)))))) λfq=>
 (fq\λx3=>ap (b2 oMod (b2 oW (w2 addW (w2 addW (b2 oMod (bd kD) (bd (.int 2147483629))) (b2 oW (b2 oW (bd (.int 7919)) (bd k_)) (bd k_))) (bd (.int 11))) (bd (.int 48271))) (bd (.int 2147483647))) λx4=>(.int 0)\λx5=>bd [x3,x4,x5])
def dm (gn:List PV) (nt:PV):W (PV×List PV):=
 ap (w2 addW (c7 (bd gn) (bd (.int 2))) (bd (.int 1))) λx2=>(.int 2)\λx3=>ap (jT gn x3 x2) λbL=>
 eH (LG (t2 WE (c7 (bd bL) (bd (.int 0))) (bd (.int 0))) (t2 oLe (c7 (bd bL) (bd (.int 2))) (bd (.int 60)))) (
 ap (b2 oMod (c7 (bd bL) (bd (.int 0))) (bd nt)) λJz=>
 ap (b2 oDiv (c7 (bd bL) (bd (.int 0))) (bd nt)) λx6=>(.int 0)\λx7=>ap (jT bL x7 x6) λku=>
 Jz\λx8=>bd (x8,ku)) (
 ap (b2 oMod (w2 addW (w2 addW (b2 oW (c7 (bd bL) (bd (.int 1))) (bd (.int 48271))) (bd (.int 12345))) (c7 (bd bL) (bd (.int 2)))) (bd (.int 2147483647))) λmK=>(.int 1)\λvz=>ap (jT bL vz mK) λe6=>
 ap (b2 oMod (b2 oDiv (b2 oMod (b2 oW (c7 (bd e6) (bd (.int 1))) (w2 addW (b2 oMod (c7 (bd e6) (bd (.int 1))) (bd (.int 40009))) (bd (.int 3)))) (bd (.int 2147483629))) (bd (.int 7))) (bd nt)) λvt=>bd (vt,e6))
def bV (nt:PV):W (List PV):=
 (.str "abcdefghijklmnopqrstuvwxyz")\λuN=>
 ap (ap ((.int 26)\λx2=>bQ x2) λx3=>ap (ap (He ((.int 1)\λx4=>(.int 3)\λx5=>(.int 5)\λx6=>(.int 7)\λx7=>(.int 9)\λx8=>(.int 11)\λx9=>bd [x4,x5,x6,x7,x8,x9])) λmK=>bJ mK) λvz=>bd (.tup [x3,vz])) λvt=>ap (yA vt) λvH=>
 ap (ap (He ((.str "")\λvq=>(.str "")\λJO=>(.str "a")\λPh=>(.str "zq")\λLu=>(.str "mnopqrs")\λPg=>bd [vq,JO,Ph,Lu,Pg])) λLs=>bJ Ls) λIe=>
 (ap (ap (bd nt) jH) λl22=>cv l22 λp23=>(w2 addW (b2 MN (bd uN) (b2 oMod (w2 addW (bd vH.1) (b2 oW (bd vH.2) (bd p23))) (bd (.int 26)))) (bd Ie)))
def cE (uD:PV):W PV:=
 ap (ap (bd uD) aF) λma=>
 ap (ap (b2 y9 (ap (bd ma) zr) (bd (.int 1))) jH) λl23=>ap (cV l23 ma λT5 s3=>(
 ap (ap (ap (bd s3) zr) λx6=>bQ x6) λx7=>ap (vX s3 x7) λt8=>
 ap (ap (ap (bd t8.1) zr) λmK=>bQ mK) λWk=>
 ap (t8.2\λvt=>ap (c7 (bd t8.1) (bd Wk)) λFZ=>bd (.tup [vt,FZ])) λv8=>
 ap (eH (t2 m6 ((.int 2)\λvq=>bQ vq) (bd (.int 0))) (bd v8) (v8\λJO=>bm\λi17=>bm\λj18=>ap (ap (ap (bd (.int 1)) zd) part) λk19=>Iy JO i17 j18 k19)) λLs=>Wk\λTR=>ap (jT t8.1 TR Ls) λIw=>
 bd Iw)) λs3=>
 (c7 (bd s3) (bd (.int 0)))
def cR (zg:PV):W PV:=
 ap (ap (w2 addW (bd (.int 1)) (zg\λx2=>bQ x2)) λx3=>bV x3) λiT=>
 (ap ((.cl iT)\λx4=>cE x4) λx5=>(.cl iT)\λx6=>bd (.tup [x5,x6]))
def bW (bx:PV) (zg:PV):W PV:=
 ap (ap (ap (w2 addW (bd (.int 1)) (zg\λx2=>bQ x2)) jH) λl4=>cv l4 λp5=>(bx\λx6=>bJ x6)) λma=>
 ((.cl ma)\λx7=>cE x7)
def aX:Nat->PV->W (List PV)
 | 0,_=>W.fail
 | n+1,aY=>
 eH (ap (ap (bd aY) (jg .str)) iu) (
 (aY\λx1=>bd [x1])) (
 ap (He (ap (c7 (ap (bd aY) aF) (bd (.int 0))) λx2=>aX n x2)) λpM=>ap (He (ap (c7 (ap (bd aY) aF) (bd (.int 1))) λx3=>aX n x3)) λm5=>
 []\λoM=>
 ap (ap (bd m5) aF) λl26=>ap (cV l26 oM λrC s7=>(
 ap (LB (ap (ap (bd rC) (jg .str)) iu)) λb=>ap (if b=true then (
 ap (ap (w2 addW (c7 (ap (bd rC) aF) (bd (.int 0))) (c1 fD (bd pM))) λFY=>ap (w2 addW (c7 (ap (bd rC) aF) (bd (.int 1))) (c1 fD (bd pM))) λvq=>bd (.tup [FY,vq])) λIM=>
 bd IM) else (
 bd rC)) λé=>
 é\λPh=>ap (kF s7 Ph) λqX=>
 bd qX)) λs7=>
 (ap (ap (ap (bd pM) wu) λl18=>s7\λVi=>nW l18 Vi) λl23=>ap (ap (ap (b2 y9 (c1 fD (bd pM)) (bd (.int 1))) λLs=>ap (b2 y9 (w2 addW (c1 fD (bd pM)) (c1 fD (bd m5))) (bd (.int 1))) λTR=>bd (.tup [Ls,TR])) λTN=>bd [TN]) λl24=>nW l23 l24))
def cS (gM:PV):W PV:=
 ap (gM\λx2=>aX 12 x2) λbr=>
 ap (ap ((.int 0)\λx4=>bd [x4]) λl5=>ap (c1 fD (bd (.cl br))) λx6=>P0 l5 x6) λxk=>
 (.int 0)\λHz=>
 ap (ap (ap (ap (bd (.cl br)) aF) λl9=>.eQ (l9.length<=sizeLine) (.ret (dC 0 l9))) λl10=>mH l10 λê=>ap (yA ê) λç=>O7 (LB (ap (ap (bd ç.2) (jg .str)) iu)) (bd ç.1)) λkH=>
 ap (ap (ap (bd kH) zr) jH) λl32=>ap (cV l32 (xk,Hz,kH) λIa yO=>(
 []\λxi=>
 ap (cV yO.2.2 xi λJG Sx=>(
 eH (LG (Ny true (c7 (ap (c7 (ap (bd (.cl br)) aF) (bd JG)) aF) (bd (.int 0))) (bd yO.2.2)) (Ny true (c7 (ap (c7 (ap (bd (.cl br)) aF) (bd JG)) aF) (bd (.int 1))) (bd yO.2.2))) (
 JG\λTR=>ap (kF Sx TR) λJp=>
 bd Jp) (
 bd Sx))) λSx=>
 ap ((.cl Sx)\λTL=>bJ TL) λOP=>
 ap (w2 addW (w2 addW (bd yO.2.1) (bd (.int 1))) ((.int 12)\λTJ=>bQ TJ)) λxN=>
 xN\λx27=>OP\λXm=>ap (jT yO.1 Xm x27) λzN=>
 OP\λx30=>ap (Uq yO.2.2 x30) λqR=>
 bd (zN,xN,qR))) λyO=>
 (ap (bd yO.1) mQ)
def cA:W PV:=
 []\λxl=>
 ap (ap (bd (.int 4)) jH) λl25=>ap (cV l25 xl λk_4 s3=>(
 ap ((.int 0)\λx6=>(.int 1)\λx7=>(.int 2)\λx8=>(.int 3)\λx9=>(.int 10)\λmK=>ap ((.int 10)\λvz=>bQ vz) λvt=>ap ((.int 1001)\λFZ=>bQ FZ) λFY=>bd [x6,x7,x8,x9,mK,vt,FY]) λLX=>
 ap (ap (ap (bd (.cl LX)) wu) λVi=>ap ((.int 1000)\λJO=>ap (w2 addW (b2 MK (bd (.int 10)) (bd (.int 28))) ((.int 1000)\λPh=>bQ Ph)) λLu=>bd [JO,Lu]) λl20=>nW Vi l20) λIv=>
 ap ((.cl Iv)\λTN=>bJ TN) λTL=>ap (kF s3 TL) λzO=>
 bd zO)) λs3=>
 (ap (bd s3) mQ)
def bI (aH:PV) (oJ:PV) (aR:PV):W PV:=
 (ap (c7 (ap (aH\λx1=>oJ\λx2=>aR\λx3=>kN x1 x2 x3) aF) (ap (bd (.int 1)) zd)) λx4=>cQ x4)
def aW:Nat->PV->W PV
 | 0,_=>W.fail
 | n+1,aY=>
 eH (ap (ap (bd aY) (jg .str)) iu) (
 (bd aY)) (
 ap (ap (ap (c7 (ap (bd aY) aF) (bd (.int 0))) λx2=>aW n x2) λx3=>ap (ap (c7 (ap (bd aY) aF) (bd (.int 1))) λx4=>aW n x4) λx5=>bd (.tup [x3,x5])) λGp=>
 (eH (t2 m6 ((.int 2)\λx6=>bQ x6) (bd (.int 0))) (bd Gp) (Gp\λx7=>bm\λi8=>bm\λj9=>ap (ap (ap (bd (.int 1)) zd) part) λk10=>Iy x7 i8 j9 k10)))
def aL:Nat->PV->PV->PV->W PV
 | 0,_,_,_=>W.fail
 | n+1,aY,bx,i7=>
 eH (ap (ap (bd aY) (jg .str)) iu) (
 (c7 (ap (bd i7) aF) (ap (ap (bd bx) wu) λl1=>aY\λx2=>Rl l1 x2))) (
 (ap (ap (c7 (ap (bd aY) aF) (bd (.int 0))) λx3=>bx\λx4=>i7\λx5=>aL n x3 x4 x5) λx6=>ap (ap (c7 (ap (bd aY) aF) (bd (.int 1))) λx7=>bx\λx8=>i7\λx9=>aL n x7 x8 x9) λmK=>bd (.tup [x6,mK])))
def dq (fc:PV) (pK:PV) (mZ:PV):W PV:=
 (ap (ap (ap (c7 (ap (fc\λx1=>pK\λx2=>mZ\λx3=>kN x1 x2 x3) aF) (ap (bd (.int 1)) zd)) aF) λl4=>mH l4 λp5=>O7 (t2 uI (bd p5) (bd .aD)) (bd p5)) IT)
def nv (eM:PV):W PV:=
 ap (ap ((.int 1)\λx3=>ap ((.int 3)\λx1=>ap (c1 fD (bd eM)) λx2=>qv K8 [x1,x2]) λx4=>qv K9 [x3,x4]) jH) λacp=>ap (nR acp () λî s6=>(
 ap (eM\λx9=>î\λmK=>eZ x9 mK) λpO=>Yg gz pO (
 ap ((.int 6)\λvz=>cR vz) λvt=>ap (yA vt) λvH=>
 ap (vH.2\λFY=>(.int 7)\λvq=>bW FY vq) λaM=>ap (vH.2\λJO=>(.int 3)\λPh=>bW JO Ph) λj8=>
 ap (cA) λaQ=>ap (He (ap (c1 fD (bd vH.2)) λLs=>bV Ls)) λiB=>
 ap (vH.1\λTK=>eX TK) λbU=>
 ap (bU\λXn=>aM\λx27=>aQ\λXm=>bI Xn x27 Xm) λjB=>
 eH (t2 wd (bU\λx29=>aM\λx30=>aQ\λx31=>dq x29 x30 x31) (bd jB)) (
 (.bl false)\λx32=>bd (Lp.out x32)) (
 ap (ap (vH.1\λx34=>aW 12 x34) λx35=>eX x35) λyI=>
 eH (t2 wd (yI\λx36=>ap (aM\λx37=>aW 12 x37) λx38=>aQ\λx39=>bI x36 x38 x39) (bd jB)) (
 (.bl false)\λx40=>bd (Lp.out x40)) (
 ap (aM\λx42=>vH.2\λx43=>iB\λx44=>aL 12 x42 x43 x44) λwR=>
 eH (t2 wd (ap (ap (vH.1\λx45=>vH.2\λx46=>iB\λx47=>aL 12 x45 x46 x47) λx48=>eX x48) λx49=>wR\λx50=>aQ\λx51=>bI x49 x50 x51) (bd jB)) (
 (.bl false)\λx52=>bd (Lp.out x52)) (
 ap (vH.1\λx54=>ap (vH.1\λx55=>cS x55) λx56=>kO x54 x56) λdr=>
 eH (t2 oLt (dr\λx57=>aM\λx58=>aQ\λx59=>bI x57 x58 x59) (bd jB)) (
 (.bl false)\λx60=>bd (Lp.out x60)) (
 ap (ap (bU\λx61=>dr\λx62=>bd (.tup [x61,x62])) aF) λacq=>ap (nR acq () λfR è=>(
 ap (LB (ap (ap (bd aM) (jg .str)) iu)) λb=>ap (if b=true then (
 ap (c7 (ap (bd aM) aF) ((.int 2)\λx76=>bQ x76)) λIG=>
 eH (t2 WE (fR\λx77=>IG\λx78=>aQ\λx79=>bI x77 x78 x79) (fR\λx80=>aM\λx81=>aQ\λx82=>bI x80 x81 x82)) (
 (.bl false)\λx83=>bd (Lp.out x83)) (
 bd (.go ()))) else (
 bd (.go ()))) (Ln (λs74=>
 ap (w2 addW (aQ\λXl=>bm\λYV=>ap (ap (bd (.int 3)) part) λYQ=>LZ Xl YV YQ) ((.int 0)\λXk=>bd (.tup [Xk]))) λeO=>
 ap (w2 addW (fR\λx90=>aM\λx91=>eO\λx92=>bI x90 x91 x92) (fR\λx93=>j8\λx94=>eO\λx95=>bI x93 x94 x95)) λqK=>
 eH (t2 WE (fR\λx96=>ap (aM\λx97=>j8\λx98=>bd (.tup [x97,x98])) λx99=>eO\λabx=>bI x96 x99 abx) (w2 addW (bd qK) (c7 (ap (bd eO) aF) (bd (.int 1))))) (
 (.bl false)\λTU=>bd (Lp.out TU)) (
 bd (.go ()))) Lp.out))) (Ln (λè=>
 bd (.go ())) Lp.out)))))))) (Ln (λs6=>
 (bd (.bl true))) id)
end My
variable {x:PL.PV}{Q:List PL.PV->Prop}{t:My.Tr}
namespace My
open PySem PySem.Spec PyProof.Rows L2 PL FL
def Tr.pv:Tr->PV
 | .leaf x=>.str x
 | .node l r=>.tup [l.pv,r.pv]
def Ent.pv:Ent->PV
 | .word x=>.str x
 | .pair a b=>.tup [.int (a:Int),.int (b:Int)]
def PQ {l:List α} (h:l≠[]):∃a x,l=a++[x]:=⟨l.dropLast,l.getLast h,(List.dropLast_concat_getLast h).symm⟩
def L0 {a b:List Tr} (h:iA a++b=t.post):eB a+b.length=t.size:=by
 have h1:=congrArg Cj h;rw [Ak,t.j7] at h1;have h2:∀l:List Tr,(iA l).length=eB l:=by
  intro l
  induction l with
  | nil=>rfl
  | cons x l ih=>
   have e1:iA (x::l)=x.post++iA l:=rfl;have e2:eB (x::l)=x.size+eB l:=rfl;rw [e1,e2,Ak,ih,x.j7]
 rw [h2] at h1;exact h1
theorem gr (h:l.length < 1000):kF l x=.ret (l++[x]):=nw (by have:=bS (n:=1000) (An _);omega)
theorem MD (t:Tr) (hz:t.size<=900):(je t.pv).le (.ret (t.post.map Tr.pv)):=λQ q=>by
 refine F0 (λn s=>∃ts bs:List Tr,n=eB ts/\s=(bs.map Tr.pv,ts.map Tr.pv)/\iA ts++bs.reverse=t.post) ⟨[t],[],rfl,rfl,by rw [oT];simp⟩ ?_;rintro n s ⟨ts,bs,rfl,rfl,hp⟩;have hs:=L0 hp;rw [BP] at hs;by_cases he:ts=[]
 ·subst he;have ĕ:bs.reverse=t.post:=hp;simp;rw [<- List.map_reverse,ĕ];exact q
 ·obtain⟨us,u,rfl⟩:=PQ he;have O9:=uO us;rw [fi,oK] at hs;simp;rw [gr (by rw [Ai];omega)];cases u with
  | leaf x=>
   simp [Tr.pv];refine⟨_,?_,us,rfl,bs++[.leaf x],⟨by simp [Tr.pv],rfl⟩,?_⟩
   ·rw [fi,oK];show eB us < eB us+1;omega
   ·rw [i5,oT] at hp;rw [E6,<- hp];simp [Tr.post]
  | node c d=>
   have e1:VV (us.map Tr.pv) [c.pv,d.pv]=.ret (us.map Tr.pv++[c.pv,d.pv]):=nw (bS (by
    have:(Tr.node c d).size=c.size+d.size+1:=rfl;simp;omega))
   simp [Tr.pv,e1];refine⟨_,?_,us++[c,d],rfl,bs++[.node c d],⟨by simp [Tr.pv],by simp⟩,?_⟩
   ·have e2:eB [Tr.node c d]=c.size+d.size+1:=by rw [oK];rfl
    have e3:eB [c,d]=c.size+d.size:=by simp [eB]
    rw [fi,fi,e2,e3];omega
   ·rw [i5,oT] at hp;rw [E6,<- hp,i5,J7];simp [Tr.post]
def aO (l:List Nat):List PV:=l.map λ(n:Nat)=>.int (n:Int)
@[simp] theorem f9 (l:List Nat):(aO l).length=l.length:=Ai _
@[simp] theorem Yz (a b:List Nat):aO (a++b)=aO a++aO b:=A3
@[simp] theorem oX (a:Nat) (l:List Nat):aO (a::l)=.int (a:Int)::aO l:=rfl
@[simp] theorem rE:aO []=[]:=rfl
def pe (n:Nat):iK 0 n=aO (AG n):=by
 refine BA λi _=>?_;rw [Ex]
theorem Na {p:Nat->Bool}:∀{l:List Nat},(∀k∈l,f (.int ((k:Nat):Int))=.ret (if p k=true then am (.int ((k:Nat):Int)) else bm))->mH (aO l) f=.ret (aO (l.filter p))
 | [],_=>rfl
 | k::l,h=>by
  show ap (f _) (λo=>ap (mH (aO l) f) λm=>bd (o.toList++m))=_;rw [h k (.head _),Na λy hy=>h y (.tail _ hy),Dk];cases p k <;> rfl
theorem nr {f:PV->W PV}{g:Nat->PV}:∀{l:List Nat},(∀k∈l,f (.int ((k:Nat):Int))=.ret (g k))->cv (aO l) f=.ret (l.map g)
 | [],_=>rfl
 | k::l,h=>by
  show ap (f _) (λy=>ap (cv (aO l) f) λm=>bd (y::m))=_;rw [h k (.head _),nr λy hy=>h y (.tail _ hy)];rfl
def YF (g:PV->Option PV) (h:∀x∈l,f x=.ret (g x)) (q:Q (l.filterMap g)):(mH l f).run Q:=by rw [wD h];exact q
def M4 {f:PV->W PV} (g:PV->PV) (h:∀x∈l,f x=.ret (g x)) (q:Q (l.map g)):(cv l f).run Q:=by rw [IZ h];exact q
def M9 {l:List Nat} (p:Nat->Bool) (h:∀k∈l,f (.int ((k:Nat):Int))=.ret (if p k=true then am (.int ((k:Nat):Int)) else bm)) (q:Q (aO (l.filter p))):(mH (aO l) f).run Q:=by rw [Na h];exact q
def Ki {l:List Nat}{f:PV->W PV} (g:Nat->PV) (h:∀k∈l,f (.int ((k:Nat):Int))=.ret (g k)) (q:Q (l.map g)):(cv (aO l) f).run Q:=by rw [nr h];exact q
theorem nh (t:Tr) (hz:t.size<=900):(gL t.pv).le (.ret (.tup ((t.nd 0).map Ent.pv))):=λQ q=>by
 unfold gL;simp only [ga,cr];refine W.le.use (MD t hz) ?_;refine sA (λr s=>∃(k:List Tr) (À:List Ent) (ls:List Nat),r=k.map Tr.pv/\s=(À.map Ent.pv,aO ls.reverse)/\run k À ls=am (t.nd 0,[t.size-1])/\À.length+k.length<=900/\ls.length<=À.length) ⟨t.post,[],[],rfl,rfl,J4 t,by simp [t.j7];omega,An _⟩ ?_ ?_
 ·rintro x r s ⟨k,À,ls,e,rfl,h,hl,Y8⟩;cases k with
  | nil=>cases e
  | cons p k=>
   injection e with e1 e2;subst e1;subst e2;rw [Ar] at hl;cases p with
   | leaf x=>
    have a1:∀y,kF (aO ls.reverse) y=.ret (aO ls.reverse++[y]):=λy=>gr (by simp;omega);simp [Tr.pv,gr (l:=À.map Ent.pv) (by simp;omega),a1];refine⟨k,rfl,À++[Ent.word x],À.length::ls,⟨by simp [Ent.pv],by simp⟩,h,by simp;omega,by simp;omega⟩
   | node c d=>
    match ls,h,Y8 with
    | b::a::ls,h,Y8=>
     rw [Ar,Ar] at Y8;have a0:aO (b::a::ls).reverse=(aO ls.reverse++[.int (a:Int)])++[.int (b:Int)]:=by simp
     have a1:∀y,kF (aO ls.reverse) y=.ret (aO ls.reverse++[y]):=λy=>gr (by simp;omega);rw [a0];simp only [Tr.pv,ga,gR,gQ,cZ,Aq,if_false,VZ];simp [gr (l:=À.map Ent.pv) (by simp;omega),a1];refine⟨k,rfl,À++[Ent.pair a b],À.length::ls,⟨by simp [Ent.pv],by simp⟩,h,by simp;omega,by simp;omega⟩
 ·rintro s ⟨k,À,ls,e,rfl,h,hl,Y8⟩;cases k with
  | nil=>
   cases h;simpa using q
  | cons p k=>cases e
end My
variable {a b:Int}
namespace My
open PySem PySem.Spec PyProof.Rows L2 PL FL
theorem mulL (h:-1000000000<=a/\a<=1000000000):wS a b:=SN ∅ ∅
theorem mulR (h:-1000000000<=b/\b<=1000000000):wS a b:=mul_r ∅ ∅
theorem Wq (i:Int):0<=(if i < 0 then -i else i):=by split <;> omega
theorem cD (h:-1000<=i/\i<=1000/\-1000<=j/\j<=1000) (h2:j-i<=1000):okN i j:=⟨by omega,by omega,by omega,by omega,bS ∅⟩
structure FQ (t:Tr):Prop where
 ws:t.Ws
 nd:t.av.Nodup
 few:t.av.length<=8
 sg:∃b,b<=1/\(t.av.map λx=>x.cps[b]?).Nodup
end My
variable {a i j:Nat}{ds:List Int}{d:Int}{left:List Nat}
namespace My
open PySem PySem.Spec PyProof.Rows L2 PL FL
def tU:Ent->Bool
 | .word _=>false
 | .pair _ _=>true
structure Dt (t:Tr) (ds:List Int) (left:List Nat) (d:Int):Prop where
 len:ds.length=t.size
 zero:∀j,j < t.size->(tU (en t 0 j)=false\/j∈left)->ds.getD j 0=0
 up:∀j,j < t.size->j∉left->∀a b,en t 0 j=.pair a b->a∉left/\b∉left/\ds.getD a 0 < ds.getD j 0/\ds.getD b 0 < ds.getD j 0/\1<=ds.getD j 0/\ds.getD j 0<=d
 inj:∀i j,i < t.size->j < t.size->i∉left->j∉left->tU (en t 0 i)=true->tU (en t 0 j)=true->ds.getD i 0=ds.getD j 0->i=j
 pos:0<=d
 WK:∀j∈left,j < t.size/\tU (en t 0 j)=true
 ris:left.Pairwise (· < ·)
def gZ {l:List Int}{v:Int} (h:i < l.length):(l.set i v).getD i 0=v:=by rw [Af,Cw h];rfl
def bz {l:List Int}{v:Int} (h:i≠j):(l.set i v).getD j 0=l.getD j 0:=by rw [Af,B3 h,<- Af]
def tJ {l:List Nat} (h:l.Pairwise (· < ·)) {x y:Nat}:y∈l.erase x↔y∈l/\y≠x:=by
 have nd:l.Nodup:=h.imp (λz=>AB z);rw [nd.mem_erase_iff];exact⟨λz=>⟨z.2,z.1⟩,λz=>⟨z.2,z.1⟩⟩
theorem fM (t:Tr) {b:Nat} (h:j < t.size) (e:en t 0 j=.pair a b):a < j/\b < j:=by
 rcases OM t 0 j h with⟨x,e1,_⟩ | ⟨a',b',e1,e2,e3,_⟩
 ·rw [e1] at e;cases e
 ·rw [e1] at e;injection e with h1 h2;omega
theorem Dt.next {x:Int}{b:Nat} (D:Dt t ds left d) (hj:j∈left) (e:en t 0 j=.pair a b) (ha:a∉left) (hb:b∉left) (hx:0<=x):Dt t (ds.set j (d+1+x)) (left.erase j) (d+1+x):=by
 obtain⟨hjs,hjp⟩:=D.WK j hj;obtain⟨haj,hbj⟩:=fM t hjs e;have WS:j < ds.length:=by rw [D.len];exact hjs
 have hm:∀y,y∈left.erase j↔y∈left/\y≠j:=λy=>tJ D.ris;have Ô:∀y,y < t.size->y∉left->ds.getD y 0<=d:=λy hy ð=>by
  cases ey:en t 0 y with
  | word w=>rw [D.zero y hy (.inl (by rw [ey];rfl))];exact D.pos
  | pair p q=>exact (D.up y hy ð p q ey).2.2.2.2.2
 refine⟨by rw [BR];exact D.len,λy hy hc=>?_,λy hy ð p q ey=>?_,λu v hu hv č hvl pu pv NF=>?_,by have:=D.pos;omega,λy hy=>D.WK y ((hm y).mp hy).1,List.Pairwise.sublist List.erase_sublist D.ris⟩
 ·have YY:j≠y:=λz=>by
   subst z;rcases hc with hc | hc
   ·rw [hjp] at hc;cases hc
   ·exact ((hm j).mp hc).2 rfl
  rw [bz YY];exact D.zero y hy (hc.imp id λz=>((hm y).mp z).1)
 ·by_cases YY:j=y
  ·subst YY;rw [e] at ey;injection ey with h1 h2;subst h1 h2;have la:=Ô a ∅ ha;have lb:=Ô b ∅ hb;rw [gZ WS,bz ∅,bz ∅];have:=D.pos;exact⟨λz=>ha ((hm a).mp z).1,λz=>hb ((hm b).mp z).1,by omega,by omega,by omega,by omega⟩
  ·have acB:y∉left:=λz=>ð ((hm y).mpr ⟨z,BE YY⟩);obtain⟨p1,p2,p3,p4,p5,p6⟩:=D.up y hy acB p q ey;have np:j≠p:=λz=>p1 (z▸hj);have nq:j≠q:=λz=>p2 (z▸hj);rw [bz YY,bz np,bz nq];exact⟨λz=>p1 ((hm p).mp z).1,λz=>p2 ((hm q).mp z).1,p3,p4,p5,by omega⟩
 ·by_cases c1:j=u
  ·by_cases c2:j=v
   ·exact c1.symm.trans c2
   ·exfalso;subst c1;have Vz:v∉left:=λz=>hvl ((hm v).mpr ⟨z,BE c2⟩);rw [gZ WS,bz c2] at NF;have:=Ô v hv Vz;omega
  ·have Y0:u∉left:=λz=>č ((hm u).mpr ⟨z,BE c1⟩);by_cases c2:j=v
   ·exfalso;subst c2;rw [gZ WS,bz c1] at NF;have:=Ô u hu Y0;omega
   ·have Vz:v∉left:=λz=>hvl ((hm v).mpr ⟨z,BE c2⟩);rw [bz c1,bz c2] at NF;exact D.inj u v hu hv Y0 Vz pu pv NF
def splits (t:Tr):List Nat:=(AG t.size).filter λj=>tU (en t 0 j)
def Dt.first (t:Tr):Dt t (Am t.size 0) (splits t) 0:=by
 have z:∀j,(Am t.size (0:Int)).getD j 0=0:=λj=>by
  rw [Af,Bq]
  split <;> rfl
 have mem:∀j,j∈splits t↔j < t.size/\tU (en t 0 j)=true:=λj=>by unfold splits;rw [AR,AW]
 refine⟨Bn,λj _ _=>z j,λj hj hn a b e=>absurd ((mem j).mpr ⟨hj,by rw [e];rfl⟩) hn,λi j hi hj hni _ pi _ _=>absurd ((mem i).mpr ⟨hi,pi⟩) hni,BU _,λj hj=>(mem j).mp hj,?_⟩;exact List.Pairwise.filter _ C4
theorem Ju (t:Tr):dC 0 ((t.nd 0).map Ent.pv)=(AG t.size).map λj=>PV.tup [.int ((j:Nat):Int),(en t 0 j).pv]:=by
 have hl:(dC 0 ((t.nd 0).map Ent.pv)).length=t.size:=by rw [bZ,Ai,t.a9]
 apply Ck;intro i;by_cases hi:i < t.size
 ·have h1:(dC 0 ((t.nd 0).map Ent.pv))[i]?=am ((dC 0 ((t.nd 0).map Ent.pv))[i]'∅):=Ad _;obtain⟨y,hy,e⟩:=fK h1;rw [Aj,iD t 0 i hi] at hy;have Vy:=Option.some.inj hy;rw [h1,e,<- Vy,Aj,B8 hi,Ax];rfl
 ·rw [AZ ∅,AZ (by rw [Ai,C5];omega)]
def QR:PV->Option PV
 | .tup [_,.str _]=>bm
 | .tup [k,_]=>am k
 | _=>bm
def Vb (t:Tr):(dC 0 ((t.nd 0).map Ent.pv)).filterMap QR=aO (splits t):=by
 rw [Ju];unfold splits;generalize AG t.size=l
 induction l with
 | nil=>rfl
 | cons j l ih=>
  rw [Au,A6,Dk];cases e:en t 0 j with
  | word w=>exact ih
  | pair a b=>
   rw [ih];rfl
def uK (l:List Nat):aO l=(l.map λn=>((n:Nat):Int)).map PV.int:=by unfold aO;rw [AN];rfl
theorem sE (y:Nat):∀l:List Nat,(l.map λn=>((n:Nat):Int)).erase (y:Int)=(l.erase y).map λn=>((n:Nat):Int)
 | []=>rfl
 | a::l=>by
  rw [Au,List.erase_cons,List.erase_cons,sE y l];by_cases c:a=y
  ·subst c;simp
  ·have c1:(((a:Nat):Int)==(y:Int))=false:=by simp;omega
   have c2:(a==y)=false:=by simpa using c
   rw [c1,c2];simp
theorem IA:∀(l:List Nat) (k n:Nat),l.Pairwise (· < ·)->(∀x∈l,k<=x/\x < n)->l.length<=n-k
 | [],_,_,_,_=>Bg _
 | a::l,k,n,h,hb=>by
  have h1:=(DY.mp h);have h2:=hb a Bu;have ih:=IA l (a+1) n h1.2 λx hx=>⟨h1.1 x hx,(hb x (AU _ hx)).2⟩;rw [Ar];omega
def Ui (s:Nat):Ent->Ent
 | .word x=>.word x
 | .pair p q=>.pair (p+s) (q+s)
theorem Gu:∀(t:Tr) (o s:Nat),t.nd (o+s)=(t.nd o).map (Ui s)
 | .leaf _,_,_=>rfl
 | .node a b,o,s=>by
  have ha:=a.size_pos;rw [Tr.nd,Tr.nd,Gu a o s,show o+s+a.size=o+a.size+s by omega,Gu b (o+a.size) s,A3,A3];congr 2;congr 1 <;> omega
def hX {m:List PV} (h:l.length+m.length<=1000):nW l m=.ret (l++m):=nw (bS h)
theorem pick_run (h0:l≠[]) (h1:l.length<=1000) {Q:PV->Prop} (q:∀x∈l,Q x):(bJ (.cl l)).run Q:=by
 unfold bJ;have hp:0 < l.length:=Co.mpr h0;simp only [ga,cr,cy,fy,c6 (l.length:Int) ∅ ∅,gl];refine bB λd d0 d1=>?_;obtain⟨v,hv,hv2⟩:=OQ (xs:=l) d0 d1;simp only [ck,hv,BT,gl];exact q v (Bt hv2)
theorem Nx (k:Nat) (l:List Nat) (b:Bool):qg b (.int (k:Int)) (aO l)=.ret (if b then !decide (k∈l) else decide (k∈l)):=by
 have h1:G1 (.int (k:Int)) (aO l):=⟨by simp,iL.mpr λx hx=>by
  obtain⟨n,_,rfl⟩:=Av.mp hx;simp,iM λx hx=>by
  obtain⟨n,_,rfl⟩:=Av.mp hx;simp⟩
 have h2:lz (.int (k:Int)) (aO l)=decide (k∈l):=by
  unfold lz aO;rw [Fg]
  induction l with
  | nil=>simp
  | cons a l ih=>
   have ih:=ih ⟨by simp,iL.mpr λx hx=>by
    obtain⟨n,_,rfl⟩:=Av.mp hx;simp,iM λx hx=>by
    obtain⟨n,_,rfl⟩:=Av.mp hx;simp⟩
   rw [Cn,ih];by_cases c:a=k
   ·subst c;simp
   ·have c1:(((a:Nat):Int)==(k:Int))=false:=by simp;omega
    have c2:¬k=a:=λz=>c z.symm;simp [c1,c2]
 unfold qg;rw [nw h1,h2]
def a7 (ds:List Int):List PV:=ds.map PV.int
@[simp] theorem d7 (ds:List Int):(a7 ds).length=ds.length:=Ai _
def Nw (ds:List Int) (y:Nat) (v:Int):(a7 ds).set y (.int v)=a7 (ds.set y v):=by unfold a7;rw [Er]
def Li (t:Tr) (left:List Nat) (j:Nat):Bool:=match en t 0 j with
 | .pair a b=>!decide (a∈left)&&!decide (b∈left)
 | _=>false
theorem Jg (h:k < n):tq n (k:Int)=am k:=by
 unfold tq;rw [if_pos ∅,if_pos ∅];simp
def mT (h:k < l.length):jT l (.int (k:Int)) v=.ret (l.set k v):=by
 unfold jT;simp [Jg h]
def U4 (t:Tr) (h:j < t.size):dD ((t.nd 0).map Ent.pv) (j:Int)=am (en t 0 j).pv:=eg (by rw [Aj,iD t 0 j h];rfl)
theorem Dt.X2 (D:Dt t ds left d) (he:left≠[]):aO (left.filter (Li t left))≠[]:=by
 obtain⟨l0,l1,rfl⟩:∃l0 l1,left=l0::l1:=by cases left with | nil=>exact absurd rfl he | cons a l=>exact⟨a,l,rfl⟩
 have hr2:Li t (l0::l1) l0=true:=by
  obtain⟨h1,h2⟩:=D.WK l0 (.head _);unfold Li;cases e:en t 0 l0 with
  | word w=>rw [e] at h2;cases h2
  | pair a b=>
   obtain⟨g1,g2⟩:=fM t h1 e;have Ô:∀y∈l0::l1,l0<=y:=λy hy=>by
    rcases Aw.mp hy with rfl | hy
    ·exact An _
    ·exact DK ((DY.mp D.ris).1 y hy)
   have na:a∉l0::l1:=λz=>by have:=Ô a z;omega
   have nb:b∉l0::l1:=λz=>by have:=Ô b z;omega
   show (!decide _&&!decide _)=true;rw [decide_eq_false na,decide_eq_false nb];rfl
 intro z;have:=congrArg Cj z;rw [f9] at this;have m:=AR.mpr ⟨show l0∈l0::l1 from .head _,hr2⟩;rw [List.length_eq_zero_iff.mp this] at m;cases m
theorem FQ.size (g:FQ t):t.size<=15:=by have:=t.size_eq;have:=g.few;omega
theorem FQ.depth (g:FQ t):t.depth < 8:=by have:=t.nU;have:=g.few;omega
def Ys (t:Tr) (ds:List Int) (j:Nat):Bool:=match en t 0 j with
 | .word _=>ds.getD j 0==0
 | .pair a b=>decide (ds.getD a 0 < ds.getD j 0)&&decide (ds.getD b 0 < ds.getD j 0)&&decide (1<=ds.getD j 0)&&decide (ds.getD j 0<=99)
def JX (t:Tr) (ds:List Int):List Int:=(splits t).map (ds.getD · 0)
def Rf (t:Tr) (ds:List Int):Bool:=decide (ds.length=t.size)&&(decide (JX t ds).Nodup&&(AG t.size).all (Ys t ds))
def int_at (h:j < ds.length):dD (a7 ds) (j:Int)=am (.int (ds.getD j 0)):=eg (by
 unfold a7;rw [Aj,Ad h,Af,Ad h];rfl)
theorem TB (t:Tr) (ds:List Int) (h:ds.length=t.size):oA ((t.nd 0).map Ent.pv) (a7 ds)=(AG t.size).map λj=>PV.tup [(en t 0 j).pv,.int (ds.getD j 0)]:=by
 refine Ck λj=>?_;by_cases hj:j < t.size
 ·have hl:j < (oA ((t.nd 0).map Ent.pv) (a7 ds)).length:=by rw [mJ];simp [t.a9,h];exact hj
  obtain⟨x,y,hx,hy,e⟩:=qP (Ad hl);rw [Aj,iD t 0 j hj] at hx;have uX:=Option.some.inj hx;have WS:j < ds.length:=by omega
  unfold a7 at hy;rw [Aj,Ad WS] at hy;have Vy:=Option.some.inj hy;rw [Ad hl,e,<- uX,<- Vy,Aj,B8 hj];show _=am (PV.tup [_,.int (ds.getD j 0)]);rw [Af,Ad WS];rfl
 ·rw [AZ (by rw [mJ];simp [t.a9,h];omega),AZ (by simp;omega)]
theorem split_le (t:Tr) (ds:List Int) (h:ds.length=t.size) (hz:t.size<=900):dj (.tup ((t.nd 0).map Ent.pv)) (.tup (a7 ds))=.ret (a7 (JX t ds)):=by
 unfold dj;have c:((t.nd 0).map Ent.pv).length<=sizeLine:=bS (by rw [Ai,t.a9];omega);simp only [ga,aE,JN,nw c,TB t ds h];rw [wD (g:=λx=>match x with | .tup [.str _,_]=>bm | .tup [_,y]=>am y | _=>bm) λx hx=>?_]
 ·congr 1;unfold JX splits a7;generalize AG t.size=l
  induction l with
  | nil=>rfl
  | cons j l ih=>
   rw [Au,A6,Dk,ih];cases e:en t 0 j with
   | word w=>rfl
   | pair a b=>rfl
 ·obtain⟨j,hj,rfl⟩:=Av.mp hx;cases en t 0 j with
  | word w=>simp [Ent.pv]
  | pair a b=>simp [Ent.pv]
end My
variable {e:My.Ent}{es:List My.Ent}{p:Nat×Nat}{bs:List Int}
namespace My
open PySem PySem.Spec PyProof.Rows L2 PL FL
section
variable {α β:Type}
theorem M3 {c:α->PV}{f:PV->W PV}{g:α->PV}:∀{l:List α},(∀x∈l,(f (c x)).le (.ret (g x)))->(cv (l.map c) f).le (.ret (l.map g))
 | [],_=>W.le.refl _
 | x::r,h=>W.le.ret (h x (.head _)) (W.le.ret (M3 λy hy=>h y (.tail _ hy)) (W.le.refl _))
theorem SO {c:α->PV}{g:α->Option PV}:∀{l:List α},(∀x∈l,(f (c x)).le (.ret (g x)))->(mH (l.map c) f).le (.ret (l.filterMap g))
 | [],_=>W.le.refl _
 | x::r,h=>W.le.ret (h x (.head _)) (W.le.ret (SO λy hy=>h y (.tail _ hy)) (W.le.of_eq (by rw [A6];cases g x <;> rfl)))
def jd {c:α->PV}{f:PV->W PV} (g:α->PV) {l:List α} (h:∀x∈l,(f (c x)).le (.ret (g x))) (q:Q (l.map g)):(cv (l.map c) f).run Q:=M3 h Q q
def Vc {c:α->PV} (g:α->Option PV) {l:List α} (h:∀x∈l,(f (c x)).le (.ret (g x))) (q:Q (l.filterMap g)):(mH (l.map c) f).run Q:=SO h Q q
theorem Tc {p:α->Bool}{g:α->β}:∀l:List α,l.filterMap (λx=>if p x=true then am (g x) else bm)=(l.filter p).map g
 | []=>rfl
 | x::l=>by
  rw [A6,Dk,Tc l];cases p x <;> rfl
end
def Oh (c:α->PV) (l:List α) (k:Nat):dC k (l.map c)=(l.zipIdx k).map λp=>PV.tup [.int ((p.2:Nat):Int),c p.1]:=by
 induction l generalizing k with
 | nil=>rfl
 | cons a l ih=>rw [Au,dC,ih,List.zipIdx_cons,Au]
def vp:V->PV
 | .int i=>.int i
 | .str x=>.str x
 | .bl b=>.bl b
 | _=>.aD
def Xa (t:Tr):List PV:=(ah (t.nd 0) 0 (Am t.size V.aD)).map vp
@[simp] theorem JI (t:Tr):(Xa t).length=t.size:=by unfold Xa;rw [Ai,HH,Bn]
def JJ (t:Tr) (h:j < t.size):(Xa t)[j]?=am (vp (ip t 0 j .aD)):=by unfold Xa;rw [Aj,Wn t h];rfl
def fF (t:Tr):((t.nd 0).map Ent.pv).length=t.size:=by rw [Ai,t.a9]
theorem FC (t:Tr) (hz:t.size<=900):(eF t.pv).le (.ret (.tup (Xa t))):=λQ q=>by
 unfold eF;have c:((t.nd 0).map Ent.pv).length<=sizeLine:=bS (by rw [fF];omega);simp only [ga,cr];refine W.le.use (nh t hz) ?_;simp only [aE,gl];refine M4 (λ_=>.aD) (λx hx=>rfl) ?_;simp only [nw c,gl];have e0:((t.nd 0).map Ent.pv).map (λ_=>PV.aD)=(ah ((t.nd 0).take 0) 0 (Am t.size V.aD)).map vp:=by
  rw [List.take_zero,ah,List.map_replicate,List.map_const',fF];rfl
 rw [e0];refine gP (λi s=>s=(ah ((t.nd 0).take i) 0 (Am t.size V.aD)).map vp) rfl (λi x s hx hs=>?_) (λs hs=>?_)
 ·subst hs;have hi:i < t.size:=by have:=(Al.mp hx).1;rw [bZ,fF] at this;exact this
  obtain⟨y,hy,rfl⟩:=fK hx;have e:=iD t 0 i hi;rw [Aj,e] at hy;have hy:=Option.some.inj hy;subst hy;have et:(t.nd 0).take (i+1)=(t.nd 0).take i++[en t 0 i]:=by rw [EX,e];rfl
  have ea:ah ((t.nd 0).take (i+1)) 0 (Am t.size V.aD)=OU (ah ((t.nd 0).take i) 0 (Am t.size V.aD)) (0+i) (en t 0 i):=by
   rw [et,xW,Dj,t.a9];congr 1;omega
  have hal:(ah ((t.nd 0).take i) 0 (Am t.size V.aD)).length=t.size:=by rw [HH,Bn]
  rw [ea];generalize hA:ah ((t.nd 0).take i) 0 (Am t.size V.aD)=A at hal ⊢;unfold cz;cases en':en t 0 i with
  | word w=>simp [Ent.pv,cV,OU]
  | pair a b=>
   obtain⟨ha,hb⟩:=fM t hi en';have s1:jT (A.map vp) (.int (a:Int)) (.int ((0+i:Nat):Int))=.ret ((A.map vp).set a (.int ((0+i:Nat):Int))):=mT (by rw [Ai];omega);have s2:jT ((A.map vp).set a (.int ((0+i:Nat):Int))) (.int (b:Int)) (.int ((0+i:Nat):Int))=.ret (((A.map vp).set a (.int ((0+i:Nat):Int))).set b (.int ((0+i:Nat):Int))):=mT (by rw [BR,Ai];omega);simp only [Ent.pv,pC,gl,gR,gQ,cZ,cr,Aq,if_false,aE,cV,ga,s1,s2];show _=Fu vp ((A.set a _).set b _);rw [Er,Er];rfl
 ·subst hs;simp only [bZ,Ai];rw [List.take_length];exact q
def wj (e:Ent) (j:Nat):PV:=match e with | .word x=>.str x | .pair _ _=>.int (j:Int)
def ym (t:Tr) (ds:List Int) (b:Int) (j:Nat):Bool:=decide (ds.getD j 0<=b)&&(match ip t 0 j .aD with | .int a=>decide (b < ds.getD a.toNat 0) | _=>true)
def yK (t:Tr) (ds:List Int) (b:Int) (n j:Nat):List (Nat×Nat):=((AG j).filter (ym t ds b)).map λk=>(k,n)
def ay (t:Tr) (ds bs:List Int):Nat->List (Nat×Nat)
 | 0=>[]
 | i+1=>ay t ds bs i++yK t ds (bs.getD i 0) i t.size
def Lj (l:List (Nat×Nat)):List PV:=l.map λp=>.tup [.int (p.1:Int),.int (p.2:Int)]
def vJ (t:Tr) (ds:List Int) (b:Int) (n j:Nat):(yK t ds b n j).length<=j:=by
 unfold yK;rw [Ai];refine Bw (BC _ _) ?_;rw [C5];exact An _
theorem iY (t:Tr) (ds bs:List Int):∀i,(ay t ds bs i).length<=i*t.size
 | 0=>Bg _
 | i+1=>by
  rw [ay,Ak];have h1:=iY t ds bs i;have h2:=vJ t ds (bs.getD i 0) i t.size;rw [Ff];omega
def LQ (t:Tr) (ds:List Int) (b:Int) (n j:Nat):yK t ds b n (j+1)=yK t ds b n j++(if ym t ds b j then [(j,n)] else []):=by
 unfold yK;rw [List.range_succ,D1,A3];congr 1;by_cases c:ym t ds b j <;> simp [c]
def rT (p:Nat×Nat):List Key:=[.inl (p.1:Int),.inl (p.2:Int)]
theorem zv {q:Nat×Nat} (h:rT p=rT q):p=q:=by
 obtain⟨a,b⟩:=p;obtain⟨c,d⟩:=q;simp [rT] at h;obtain⟨h1,h2⟩:=h;exact Prod.ext (by show a=c;omega) (by show b=d;omega)
def mf:Nat->List (Nat×Nat)->List (List Key×PV)
 | _,[]=>[]
 | k,p::l=>(rT p,.int (k:Int))::mf (k+1) l
theorem kM:∀(k:Nat) (l:List (Nat×Nat)),(mf k l).map (·.1)=l.map rT
 | _,[]=>rfl
 | k,p::l=>by rw [mf,Au,Au,kM (k+1) l]
def za (k:Nat) (l:List (Nat×Nat)):(mf k l).length=l.length:=by have:=congrArg Cj (kM k l);simpa using this
theorem rA:∀(k:Nat) (l:List (Nat×Nat)) (p:Nat×Nat),p∈l->lA (mf k l) (rT p)=am (.int ((k+l.idxOf p:Nat):Int))
 | k,q::l,p,h=>by
  rw [EG];by_cases c:q=p
  ·subst c;simp [mf,lA]
  ·have hp:p∈l:=(Aw.mp h).elim (λz=>absurd z.symm c) id;have ih:=rA (k+1) l p hp;have c2:rT q≠rT p:=λz=>c (zv z);have c3:(q==p)=false:=by simpa using c
   have e:lA (mf k (q::l)) (rT p)=lA (mf (k+1) l) (rT p):=by simp [mf,lA,c2]
   rw [e,ih,c3];congr 2;show ((k+1+l.idxOf p:Nat):Int)=((k+(l.idxOf p+1):Nat):Int);omega
def qk (e:Ent) (j:Nat) (d b:Int):List Nat:=if d < b then [j] else match e with | .word _=>[] | .pair x y=>[x,y]
def RV (l:List (Nat×Nat)) (j n:Nat):List Nat:=(l.filter λp=>decide (p.2=n)&&!decide (p.1=j)).map λp=>l.idxOf p
def Jx (e:Ent) (l:List (Nat×Nat)) (j n:Nat) (d b:Int):PV:=.tup [wj e j,.int (n:Int),.tup (aO ((qk e j d b).map λx=>l.idxOf (x,n-1))),.tup (aO (RV l j n))]
def IQ {f:α->β} (hf:∀x y,f x=f y->x=y) {l:List α} (h:l.Nodup):(l.map f).Nodup:=List.Pairwise.map f (λa b n z=>n (hf a b z)) h
def JV (t:Tr) (ds:List Int) (b:Int) (n j:Nat):(yK t ds b n j).Nodup:=by
 exact IQ (λx y h=>(Prod.mk.inj h).1) (List.Pairwise.filter _ List.nodup_range)
theorem fU:∀{i:Nat}{p:Nat×Nat},p∈ay t ds bs i->p.2 < i/\p.1 < t.size
 | 0,_,h=>by simp [ay] at h
 | i+1,p,h=>by
  rw [ay] at h;rcases Bm.mp h with h | h
  ·have:=fU h;omega
  ·obtain⟨k,hk,rfl⟩:=Av.mp h;have:=AW.mp (AR.mp hk).1;exact⟨Eh _,this⟩
theorem iX (t:Tr) (ds bs:List Int):∀i,(ay t ds bs i).Nodup
 | 0=>EY
 | i+1=>by
  rw [ay];refine List.nodup_append.mpr ⟨iX t ds bs i,JV _ _ _ _ _,λa ha b hb z=>?_⟩;subst z;have h1:=(fU ha).1;obtain⟨k,_,rfl⟩:=Av.mp hb;exact AX _ h1
def ki (h:l[k]?=am v):S1 l (.int (k:Int))=.ret v:=by
 rw [ck,eg h];rfl
def zT (ds:List Int) (h:(dC 0 (a7 ds))[i]?=am x):i < ds.length/\x=.tup [.int (i:Int),.int (ds.getD i 0)]:=by
 have hi:i < ds.length:=by have:=(Al.mp h).1;rw [bZ,d7] at this;exact this
 obtain⟨y,hy,rfl⟩:=fK h;unfold a7 at hy;rw [Aj,Ad hi] at hy;have hy:=Option.some.inj hy;subst hy;refine⟨hi,?_⟩;rw [Ax,Af,Ad hi];rfl
theorem yJ (t:Tr) (ds bs:List Int) (hd:ds.length=t.size) (hz:t.size<=100) (hb:bs.length*t.size<=900) (hb2:bs.length<=900):(gb t.pv (.tup (a7 ds)) (.cl (a7 bs))).le (.ret (Lj (ay t ds bs bs.length))):=λQ q=>by
 unfold gb;have c1:(a7 bs).length<=sizeLine:=bS (by rw [d7];omega);have c2:(a7 ds).length<=sizeLine:=bS (by rw [d7];omega);simp only [ga,cr];refine W.le.use (FC t ∅) ?_;simp only [cy,gl,nw c1];refine gP (λi s=>s=Lj (ay t ds bs i)) rfl (λi x s hx hs=>?_) (λs hs=>?_)
 ·subst hs;obtain⟨hi,rfl⟩:=zT bs hx;simp only [pC,gl,cr,aE,nw c2];have hl:=iY t ds bs i;have hm:i*t.size+t.size<=900:=by
   have:(i+1)*t.size<=bs.length*t.size:=Nat.mul_le_mul_right _ hi;rw [Ff] at this;omega
  refine gP (λj s=>s=Lj (ay t ds bs i++yK t ds (bs.getD i 0) i j)) (by simp [yK]) (λj x s hx hs=>?_) (λs hs=>?_)
  ·subst hs;obtain⟨hj,rfl⟩:=zT ds hx;have O9:=vJ t ds (bs.getD i 0) i j;simp only [pC,gl,cr];rw [LQ];have WR:j < t.size:=by omega
   have þ:ym t ds (bs.getD i 0) j=true->(kF (Lj (ay t ds bs i++yK t ds (bs.getD i 0) i j)) (PV.tup [.int (j:Int),.int (i:Int)])).run λs=>s=Lj (ay t ds bs i++(yK t ds (bs.getD i 0) i j++if ym t ds (bs.getD i 0) j=true then [(j,i)] else [])):=λc=>by
    rw [gr (by unfold Lj;rw [Ai,Ak];omega),if_pos c];unfold Lj;rw [<- AL,A3 (l₂:=[(j,i)])];rfl
   have no:ym t ds (bs.getD i 0) j=false->Lj (ay t ds bs i++yK t ds (bs.getD i 0) i j)=Lj (ay t ds bs i++(yK t ds (bs.getD i 0) i j++if ym t ds (bs.getD i 0) j=true then [(j,i)] else [])):=λc=>by rw [c];simp
   generalize eb:bs.getD i 0=b at þ no ⊢;generalize ed:ds.getD j 0=d at *;simp only [ga,cr,ZH,gl,bX,aE,ki (JJ t WR)];by_cases c:d<=b
   ·simp only [c,decide_true,if_true,cr,gl];rcases fN t 0 j .aD [] WR with⟨_,e,_⟩ | ⟨a,_,ha,e,_⟩
    ·have sb:ym t ds b j=true:=by unfold ym;rw [e,ed];simp [c]
     rw [e];simp only [vp,xv,gl,bX,PV.kl,if_true];exact þ sb
    ·rw [Ax] at e;have sb:ym t ds b j=decide (b < ds.getD a 0):=by unfold ym;rw [e,ed];simp [c]
     rw [e];have i2:dD (a7 ds) (a:Int)=am (.int (ds.getD a 0)):=int_at ∅;simp only [vp,xv,gl,bX,PV.kl,Aq,if_false,ck,i2,BT,zQ,ga];by_cases c2:b < ds.getD a 0
     ·rw [decide_eq_true c2] at sb ⊢;exact þ sb
     ·rw [decide_eq_false c2] at sb ⊢;exact no sb
   ·have sb:ym t ds b j=false:=by unfold ym;rw [ed];simp [c]
    simp only [c,decide_false,Aq,if_false,gl];exact no sb
  ·subst hs;rw [bZ,d7,hd];rfl
 ·subst hs;rw [bZ,d7];exact q
def QH {l:List (Nat×Nat)} (h:l≠[]) (k:Nat):mf k l≠[]:=by cases l with | nil=>exact absurd rfl h | cons a l=>simp [mf]
def Gs (k:Nat) (l:List (Nat×Nat)):((mf k l).map λkv=>PV.tup (kv.1.map kP))=l.map λp=>PV.tup [.int (p.1:Int),.int (p.2:Int)]:=by
 have:=congrArg (Fu λx:List Key=>PV.tup (x.map kP)) (kM k l);rw [AN,AN] at this;exact this
theorem PF {l:List (Nat×Nat)} (h1:es[j]?=am e) (h2:j < ds.length) (h3:n < bs.length) (hl:l.length<=1000) (h0:l≠[])
  (hb:∀x∈qk e j (ds.getD j 0) (bs.getD n 0),1<=n/\(x,n-1)∈l) :
  (iG (.tup (es.map Ent.pv)) (.tup (a7 ds)) (.cl (a7 bs)) (Oy (mf 0 l)) (.tup [.int (j:Int),.int (n:Int)])).le (.ret (Jx e l j n (ds.getD j 0) (bs.getD n 0))):=λQ q=>by
 unfold iG;have i0:dD [PV.int (j:Int),PV.int (n:Int)] 0=am (.int j):=rfl;have i1:dD [PV.int (j:Int),PV.int (n:Int)] 1=am (.int n):=rfl;have i2:dD (a7 ds) (j:Int)=am (.int (ds.getD j 0)):=int_at h2;have i3:dD (a7 bs) (n:Int)=am (.int (bs.getD n 0)):=int_at h3;have i4:dD (es.map Ent.pv) (j:Int)=am e.pv:=eg (by rw [Aj,h1];rfl);simp only [ga,cr,aE,cy,ck,i0,i1,i2,i3,i4,BT,gl,zQ,cZ];generalize hdj:ds.getD j 0=d at *;generalize hbn:bs.getD n 0=b at *;have below:∀{R:PV->Prop},R (.tup (aO (qk e j d b)))->(if decide (d < b)=true then bd (PV.tup [PV.int (j:Int)]) else cz e.pv).run R:=λ{R} r=>by
  unfold qk at r;unfold cz;by_cases c:d < b
  ·rw [if_pos c] at r;simpa [c] using r
  ·cases e with
   | word w=>simpa [c,Ent.pv] using r
   | pair a b=>simpa [c,Ent.pv] using r
 refine below ?_;refine jd (λx=>.int ((l.idxOf (x,n-1):Nat):Int)) (λk hk=>?_) ?_
 ·obtain⟨g1,g2⟩:=hb k hk;intro R r;have en1:(n:Int)-1=((n-1:Nat):Int):=by omega
  simp only [ZV,ga,cr,xq,gl,en1];rw [show PV.tup [.int (k:Int),.int ((n-1:Nat):Int)]=.tup ((rT (k,n-1)).map kP) from rfl];refine JA (rA 0 l (k,n-1) g2) ?_;rw [Ax];exact r
 simp only [cr,VW,gl];refine Kn (QH h0 0) (by rw [za];exact hl) ?_;rw [Gs];refine Vc (λp=>if (decide (p.2=n)&&!decide (p.1=j))=true then am (.int ((l.idxOf p:Nat):Int)) else bm) (λp hp=>?_) ?_
 ·intro R r;obtain⟨u,v⟩:=p;have j0:dD [PV.int (u:Int),PV.int (v:Int)] 0=am (.int u):=rfl;have j1:dD [PV.int (u:Int),PV.int (v:Int)] 1=am (.int v):=rfl;simp only [ZV,ga,cr,aE,ck,j0,j1,BT,gl,mq,xt,bX];have get:∀{R:PV->Prop},R (.int ((l.idxOf (u,v):Nat):Int))->(dgW (Oy (mf 0 l)) (PV.tup [.int (u:Int),.int (v:Int)])).run R:=λ{R} r=>by
   refine JA (rA 0 l (u,v) hp) ?_;rw [Ax];exact r
  by_cases c1:v=n
  ·subst c1;by_cases c2:u=j
   ·subst c2;simp only [beq_self_eq_true,CA,if_true,gl,Aq,if_false];simpa using r
   ·have c3:((u:Int)==(j:Int))=false:=by simp;omega
    simp only [beq_self_eq_true,c3,D2,if_true,gl,cr];refine get ?_;simpa [c2] using r
  ·have c3:((v:Int)==(n:Int))=false:=by simp;omega
   simp only [c3,Aq,if_false,gl];simpa [c1] using r
 rw [Tc];have nm:∀{R:PV->Prop},R (wj e j)->(dU (.tup (es.map Ent.pv)) (.int (j:Int))).run R:=λ{R} r=>by
  unfold dU;simp only [ga,cr,aE,ck,i4,BT,gl];cases e with
  | word w=>simpa [Ent.pv,wj] using r
  | pair a b=>simpa [Ent.pv,wj] using r
 refine nm ?_;have e1:(l.filter λp=>decide (p.2=n)&&!decide (p.1=j)).map (λp=>PV.int ((l.idxOf p:Nat):Int))=aO (RV l j n):=by
  unfold aO RV;rw [AN];rfl
 have e2:(qk e j d b).map (λx=>PV.int ((l.idxOf (x,n-1):Nat):Int))=aO ((qk e j d b).map λx=>l.idxOf (x,n-1)):=by
  unfold aO;rw [AN];rfl
 rw [e1,e2];exact q
def W9 (t:Tr) (ds bs:List Int):List PV:=(ay t ds bs bs.length).map λp=>Jx (en t 0 p.1) (ay t ds bs bs.length) p.1 p.2 (ds.getD p.1 0) (bs.getD p.2 0)
def okD (t:Tr) (ds bs:List Int):Prop:=∀p∈ay t ds bs bs.length,∀x∈qk (en t 0 p.1) p.1 (ds.getD p.1 0) (bs.getD p.2 0),1<=p.2/\(x,p.2-1)∈ay t ds bs bs.length
theorem rB:∀(k:Nat) (l:List (Nat×Nat)),(l.zipIdx k).map (λp=>PV.tup [PV.tup [.int (p.1.1:Int),.int (p.1.2:Int)],.int ((p.2:Nat):Int)])=(mf k l).map IH
 | _,[]=>rfl
 | k,p::l=>by rw [List.zipIdx_cons,Au,rB (k+1) l];rfl
def az (t:Tr) (ds:List Int):List Int:=0::sortI (JX t ds)
def Iu (t:Tr) (ds:List Int):(JX t ds).length<=t.size:=by
 unfold JX splits;rw [Ai];have:=BC (λj=>tU (en t 0 j)) (AG t.size);rw [C5] at this;exact this
def uM {x:Int}{l:List Int}:x∈sortI l↔x∈l:=(CN l _).mem_iff
def oI (l:List Int):(sortI l).length=l.length:=(CN l _).length_eq
theorem OB (t:Tr) (ds:List Int) (hd:ds.length=t.size) (hz:t.size<=25) (h0:ay t ds (az t ds) (az t ds).length≠[]) (ok:okD t ds (az t ds)):(kO t.pv (.tup (a7 ds))).le (.ret (.tup (W9 t ds (az t ds)))):=λQ q=>by
 unfold kO;simp only [ga,cr];refine W.le.use (nh t ∅) ?_;have hs:=Iu t ds;have hl:(az t ds).length<=t.size+1:=by unfold az;rw [Ar,oI];omega
 have e2:vK (a7 (JX t ds))=.ret (a7 (sortI (JX t ds))):=by
  unfold vK a7;rw [fJ];show W.eQ _ _=_;rw [nw ∅]
 have e3:nW [PV.int 0] (a7 (sortI (JX t ds)))=.ret (a7 (az t ds)):=by
  rw [hX (by rw [d7,oI];simp;omega)];rfl
 simp only [split_le t ds hd ∅,gl,e2,e3];have hb:(az t ds).length*t.size<=900:=by
  have:(az t ds).length*t.size<=26*25:=Nat.mul_le_mul ∅ hz;omega
 refine W.le.use (yJ t ds (az t ds) hd ∅ hb ∅) ?_;generalize hL:ay t ds (az t ds) (az t ds).length=L at *;have hLl:L.length<=900:=by rw [<- hL];exact Bw (iY _ _ _ _) hb
 have hLm:∀p∈L,p.2 < (az t ds).length/\p.1 < t.size:=λp hp=>fU (hL▸hp);have c:(Lj L).length<=sizeLine:=bS (by unfold Lj;rw [Ai];omega);simp only [cy,gl,nw c,ga];unfold Lj;rw [Oh];refine jd (λp:(Nat×Nat)×Nat=>PV.tup [PV.tup [.int (p.1.1:Int),.int (p.1.2:Int)],.int ((p.2:Nat):Int)]) (λp _ R r=>by simpa using r) ?_;rw [rB];refine KQ ?_ (by rw [za];omega) ?_
 ·rw [kM];exact IQ (λ_ _ h=>zv h) (hL▸iX t ds _ _)
 refine jd (λp:Nat×Nat=>Jx (en t 0 p.1) L p.1 p.2 (ds.getD p.1 0) ((az t ds).getD p.2 0)) (λp hp=>?_) ?_
 ·obtain⟨g1,g2⟩:=hLm p hp;refine PF (iD t 0 p.1 g2) ∅ g1 ∅ h0 λx hx=>?_;have:=ok p (by rw [hL];exact hp) x hx;rw [hL] at this;exact this
 ·have:W9 t ds (az t ds)=L.map λp:Nat×Nat=>Jx (en t 0 p.1) L p.1 p.2 (ds.getD p.1 0) ((az t ds).getD p.2 0):=by unfold W9;rw [hL]
  rw [<- this];exact q
theorem eL:∀(t:Tr) (o x:Nat) (p:V),x < t.size->(x=t.size-1/\ip t o x p=p)\/∃a u v,x < a/\a < t.size/\ip t o x p=.int ((o+a:Nat):Int)/\en t o a=.pair u v/\(u=o+x\/v=o+x)
 | .leaf _,o,x,p,h=>.inl ⟨by have:x < 1:=h;show x=0;omega,rfl⟩
 | .node l r,o,x,p,h=>by
  have es:(Tr.node l r).size=l.size+r.size+1:=rfl;have top:en (.node l r) o (l.size+r.size)=.pair (o+l.size-1) (o+l.size+r.size-1):=by rw [en,if_neg ∅,if_neg ∅]
  by_cases c1:x < l.size
  ·rw [show ip (.node l r) o x p=ip l o x (.int (o+l.size+r.size:Nat)) by rw [ip,if_pos c1]];rcases eL l o x (.int (o+l.size+r.size:Nat)) c1 with⟨h1,h2⟩ | ⟨a,u,v,h1,h2,h3,h4,h5⟩
   ·exact .inr ⟨l.size+r.size,_,_,by omega,by omega,by rw [h2,Bc],top,.inl ∅⟩
   ·exact .inr ⟨a,u,v,h1,by omega,h3,by rw [en,if_pos h2];exact h4,h5⟩
  ·by_cases c2:x < l.size+r.size
   ·rw [show ip (.node l r) o x p=ip r (o+l.size) (x-l.size) (.int (o+l.size+r.size:Nat)) by rw [ip,if_neg c1,if_pos c2]];rcases eL r (o+l.size) (x-l.size) (.int (o+l.size+r.size:Nat)) ∅ with⟨h1,h2⟩ | ⟨a,u,v,h1,h2,h3,h4,h5⟩
    ·exact .inr ⟨l.size+r.size,_,_,by omega,by omega,by rw [h2,Bc],top,.inr ∅⟩
    ·refine .inr ⟨l.size+a,u,v,by omega,by omega,by rw [h3,Bc],?_,by omega⟩;rw [en,if_neg ∅,if_pos ∅,B5];exact h4
   ·exact .inl ⟨by omega,by rw [ip,if_neg c1,if_neg c2]⟩
theorem jq:∀(t:Tr) (o j:Nat) (p:V) (a b:Nat),j < t.size->en t o j=.pair a b->o<=a/\o<=b/\a < o+j/\b < o+j/\a < b/\ip t o (a-o) p=.int ((o+j:Nat):Int)/\ip t o (b-o) p=.int ((o+j:Nat):Int)
 | .leaf _,o,j,p,a,b,h,e=>by rw [en] at e;cases e
 | .node l r,o,j,p,a,b,h,e=>by
  have es:(Tr.node l r).size=l.size+r.size+1:=rfl;have lp:=l.size_pos;have rp:=r.size_pos;by_cases c1:j < l.size
  ·rw [en,if_pos c1] at e;obtain⟨h1,h2,h3,h4,h5,h6,h7⟩:=jq l o j (.int (o+l.size+r.size:Nat)) a b c1 e;refine⟨h1,h2,h3,h4,h5,?_,?_⟩
   ·rw [ip,if_pos ∅];exact h6
   ·rw [ip,if_pos ∅];exact h7
  ·by_cases c2:j < l.size+r.size
   ·rw [en,if_neg c1,if_pos c2] at e;obtain⟨h1,h2,h3,h4,h5,h6,h7⟩:=jq r (o+l.size) (j-l.size) (.int (o+l.size+r.size:Nat)) a b ∅ e;refine⟨by omega,by omega,by omega,by omega,h5,?_,?_⟩
    ·rw [ip,if_neg ∅,if_pos ∅,EW,h6,show o+l.size+(j-l.size)=o+j by omega]
    ·rw [ip,if_neg ∅,if_pos ∅,EW,h7,show o+l.size+(j-l.size)=o+j by omega]
   ·rw [en,if_neg c1,if_neg c2] at e;injection e with e1 e2;subst e1;subst e2;have hj:j=l.size+r.size:=by omega
    subst hj;have á:∀(t:Tr) (o:Nat) (p:V),ip t o (t.size-1) p=p:=λt o p=>by
     have tp:=t.size_pos;rcases eL t o (t.size-1) p ∅ with⟨_,h⟩ | ⟨a,_,_,h1,h2,_⟩
     ·exact h
     ·omega
    refine⟨by omega,by omega,by omega,by omega,by omega,?_,?_⟩
    ·rw [ip,if_pos ∅,show o+l.size-1-o=l.size-1 by omega,á,Bc]
    ·rw [ip,if_neg ∅,if_pos ∅,show o+l.size+r.size-1-o-l.size=r.size-1 by omega,á,Bc]
structure DD (t:Tr) (ds:List Int):Prop where
 len:ds.length=t.size
 leaf:∀j w,j < t.size->en t 0 j=.word w->ds.getD j 0=0
 pair:∀j a b,j < t.size->en t 0 j=.pair a b->ds.getD a 0 < ds.getD j 0/\ds.getD b 0 < ds.getD j 0/\1<=ds.getD j 0
 nd:(JX t ds).Nodup
def DD.of (h:Rf t ds=true):DD t ds:=by
 unfold Rf at h;rw [AE,AE,decide_eq_true_iff,decide_eq_true_iff] at h;obtain⟨h1,h2,h3⟩:=h;have h4:∀j,j < t.size->Ys t ds j=true:=λj hj=>CJ.mp h3 j (AW.mpr hj);refine⟨h1,λj w hj e=>?_,λj a b hj e=>?_,h2⟩
 ·have:=h4 j hj;unfold Ys at this;rw [e] at this;exact eq_of_beq this
 ·have:=h4 j hj;unfold Ys at this;rw [e] at this;rw [AE,AE,AE,decide_eq_true_iff,decide_eq_true_iff,decide_eq_true_iff,decide_eq_true_iff] at this;exact⟨this.1.1.1,this.1.1.2,this.1.2⟩
def DD.mem (D:DD t ds) (hj:j < t.size):ds.getD j 0∈az t ds:=by
 cases e:en t 0 j with
 | word w=>rw [D.leaf j w hj e];exact .head _
 | pair a b=>
  refine AU _ (uM.mpr ?_);exact Av.mpr ⟨j,AR.mpr ⟨AW.mpr hj,by rw [e];rfl⟩,rfl⟩
theorem LU (l:List Int):(sortI l).Pairwise (·<=·):=(Ei (le:=λa b=>decide (a<=b)) (λa b c=>by simp;omega) (λa b=>by simp;omega) l).imp (by simp)
theorem DD.inc (D:DD t ds):(az t ds).Pairwise (· < ·):=by
 unfold az;refine DY.mpr ⟨λx hx=>?_,?_⟩
 ·have hx:=uM.mp hx;unfold JX splits at hx;obtain⟨j,hj,rfl⟩:=Av.mp hx;obtain⟨h1,h2⟩:=AR.mp hj;cases e:en t 0 j with
  | word w=>rw [e] at h2;cases h2
  | pair a b=>have:=(D.pair j a b (AW.mp h1) e).2.2;omega
 ·have nd:(sortI (JX t ds)).Nodup:=(CN _ _).nodup_iff.mpr D.nd;exact (List.Pairwise.and (LU _) nd).imp λ⟨h1,h2⟩=>Int.lt_iff_le_and_ne.mpr ⟨h1,h2⟩
theorem rZ {l:List Int} (h:l.Pairwise (· < ·)) (hn:n < l.length) {x:Int} (hx:x∈l) (lt:x < l.getD n 0):1<=n/\x<=l.getD (n-1) 0:=by
 obtain⟨i,hi,rfl⟩:=DC hx;have gd:∀{k} (hk:k < l.length),l.getD k 0=l[k]:=λ{k} hk=>by rw [Af,Ad hk];rfl
 rw [gd hn] at lt;have c:i < n:=by
  rcases C3 i n with c | c
  ·exact c
  ·rcases DW c with c | c
   ·subst c;omega
   ·have:=BV.mp h _ _ hn hi c;omega
 refine⟨by omega,?_⟩;rw [gd ∅];rcases DW (show i<=n-1 by omega) with c2 | c2
 ·subst c2;exact BU _
 ·have:=BV.mp h _ _ hi ∅ c2;omega
theorem wW {l:List Int} (h:l.Pairwise (· < ·)) (hn:n < l.length) (hi:i < n):l.getD i 0 < l.getD n 0:=by
 have gd:∀{k} (hk:k < l.length),l.getD k 0=l[k]:=λ{k} hk=>by rw [Af,Ad hk];rfl
 rw [gd hn,gd ∅];exact BV.mp h _ _ ∅ hn hi
theorem bC {t:Tr}{ds bs:List Int}:∀{m:Nat}{j n:Nat},(j,n)∈ay t ds bs m↔n < m/\j < t.size/\ym t ds (bs.getD n 0) j=true
 | 0,j,n=>by simp [ay]
 | m+1,j,n=>by
  rw [ay,Bm,bC];unfold yK;rw [Av]
  constructor
  ·rintro (⟨h1,h2,h3⟩ | ⟨k,hk,e⟩)
   ·exact⟨by omega,h2,h3⟩
   ·obtain⟨h1,h2⟩:=AR.mp hk;injection e with e1 e2;subst e1;subst e2;exact⟨by omega,AW.mp h1,h2⟩
  ·rintro⟨h1,h2,h3⟩;by_cases c:n=m
   ·subst c;exact .inr ⟨j,AR.mpr ⟨AW.mpr h2,h3⟩,rfl⟩
   ·exact .inl ⟨by omega,h2,h3⟩
theorem d3 (hj:j < t.size):ym t ds b j=true↔ds.getD j 0<=b/\∀a,ip t 0 j .aD=.int ((a:Nat):Int)->b < ds.getD a 0:=by
 unfold ym;rw [AE,decide_eq_true_iff];rcases eL t 0 j .aD hj with⟨_,e⟩ | ⟨a,u,v,_,ha,e,_,_⟩
 ·rw [e];exact⟨λh=>⟨h.1,λa z=>by cases z⟩,λh=>⟨h.1,rfl⟩⟩
 ·rw [Ax] at e;rw [e];refine⟨λh=>⟨h.1,λa' z=>?_⟩,λh=>⟨h.1,?_⟩⟩
  ·injection z with z;have:a=a':=by omega
   subst this;simpa using h.2
  ·simpa using h.2 a rfl
theorem DD.ok (D:DD t ds):okD t ds (az t ds):=by
 rintro⟨j,n⟩ hp x hx;obtain⟨hn,hj,hs⟩:=bC.mp hp;obtain⟨FV,qC⟩:=(d3 hj).mp hs;have inc:=D.inc;show 1<=n/\(x,n-1)∈_;unfold qk at hx;by_cases c:ds.getD j 0 < (az t ds).getD n 0
 ·rw [if_pos c] at hx;have:x=j:=by simpa using hx
  subst this;obtain⟨g1,g2⟩:=rZ inc hn (D.mem hj) c;have lt:=wW inc hn (show n-1 < n by omega);exact⟨g1,bC.mpr ⟨by omega,hj,(d3 hj).mpr ⟨g2,λa e=>by have:=qC a e;omega⟩⟩⟩
 ·rw [if_neg c] at hx;cases e:en t 0 j with
  | word w=>rw [e] at hx;cases hx
  | pair a b=>
   rw [e] at hx;obtain⟨p1,p2,p3⟩:=D.pair j a b hj e;obtain⟨_,_,a1,a2,_,a3,a4⟩:=jq t 0 j .aD a b hj e;rw [Ax,C2] at *;have hx:x=a\/x=b:=by simpa using hx
   have key:x < t.size/\ds.getD x 0 < ds.getD j 0/\ip t 0 x .aD=.int ((j:Nat):Int):=by
    rcases hx with rfl | rfl
    ·exact⟨by omega,p1,a3⟩
    ·exact⟨by omega,p2,a4⟩
   obtain⟨k1,k2,k3⟩:=key;obtain⟨g1,g2⟩:=rZ inc hn (D.mem k1) ∅;have lt:=wW inc hn (show n-1 < n by omega);refine⟨g1,bC.mpr ⟨by omega,k1,(d3 k1).mpr ⟨g2,λa' e'=>?_⟩⟩⟩;rw [k3] at e';injection e' with e';have:j=a':=by omega
   subst this;omega
theorem Jv:∀(t:Tr) (o:Nat),∃w,en t o 0=.word w
 | .leaf w,o=>⟨w,rfl⟩
 | .node l r,o=>by rw [en,if_pos (show 0 < l.size from l.size_pos)];exact Jv l o
theorem DD.ne (D:DD t ds):ay t ds (az t ds) (az t ds).length≠[]:=by
 intro z;have:(0,0)∈ay t ds (az t ds) (az t ds).length:=by
  obtain⟨w,e⟩:=Jv t 0;refine bC.mpr ⟨by simp [az],t.size_pos,(d3 t.size_pos).mpr ⟨?_,λa ea=>?_⟩⟩
  ·rw [D.leaf 0 w t.size_pos e];exact BU _
  ·rcases eL t 0 0 .aD t.size_pos with⟨_,e⟩ | ⟨a',u,v,_,ha,e,ep,_⟩
   ·rw [e] at ea;cases ea
   ·rw [e,Ax] at ea;injection ea with ea;have:a'=a:=by omega
    subst this;have:=(D.pair a' u v ha ep).2.2;show (0:Int) < _;omega
 rw [z] at this;cases this
def OA (D:DD t ds) (hz:t.size<=25):(kO t.pv (.tup (a7 ds))).le (.ret (.tup (W9 t ds (az t ds)))):=OB t ds D.len hz D.ne D.ok
def TZ (t:Tr):List PV:=(AG t.size).map λj=>.tup (aO (up t 0 j []))
@[simp] theorem Pp (t:Tr):(TZ t).length=t.size:=by unfold TZ;simp
def H0 (t:Tr) (h:j < t.size):(TZ t)[j]?=am (.tup (aO (up t 0 j []))):=by unfold TZ;simp [h]
theorem TY (t:Tr):∀(k j:Nat),j+k+1=t.size->(up t 0 j []).length<=k+1:=λk=>by
 induction k using Bl with
 | ind k ih=>
  intro j hj;rcases fN t 0 j .aD [] ∅ with⟨q1,q2,q3⟩ | ⟨a,q1,q2,q3,q4⟩
  ·rw [q3];show 1<=k+1;omega
  ·rw [q4,Ar];have:=ih (t.size-a-1) ∅ a ∅;omega
theorem Xq (t:Tr) (h:j < t.size):(up t 0 j []).length<=t.size:=by
 have:=TY t (t.size-j-1) j ∅;omega
def F3 (t:Tr) (i:Nat):List PV:=(AG t.size).map λj=>if j+i < t.size then .tup [] else .tup (aO (up t 0 j []))
def ql (t:Tr) (i:Nat):(F3 t i).length=t.size:=by unfold F3;simp
def HZ (t:Tr) (i:Nat) (h:j < t.size) (c:¬j+i < t.size):(F3 t i)[j]?=am (.tup (aO (up t 0 j []))):=by unfold F3;simp [h,c]
theorem Pn (t:Tr) (i j:Nat) (h:j+i+1=t.size):(F3 t i).set j (.tup (aO (up t 0 j [])))=F3 t (i+1):=by
 apply Ck;intro k;by_cases hk:k < t.size
 ·by_cases e:j=k
  ·subst e;rw [Cw (by rw [ql];exact hk),HZ t (i+1) hk ∅]
  ·rw [B3 e];unfold F3;simp only [Aj,B8 hk,Cf];by_cases c:k+i < t.size
   ·rw [if_pos c,if_pos ∅]
   ·rw [if_neg c,if_neg ∅]
 ·rw [AZ (by rw [BR,ql];omega),AZ (by rw [ql];omega)]
def Xr (t:Tr):F3 t 0=Am t.size (.tup []):=by
 apply Ck;intro k;unfold F3;by_cases hk:k < t.size
 ·simp [hk]
 ·simp [hk]
theorem Po (t:Tr):F3 t t.size=TZ t:=by
 apply BA;intro j _;rw [if_neg ∅]
theorem M8 (t:Tr) (hz:t.size<=900):(gh t.pv).le (.ret (TZ t)):=λQ q=>by
 unfold gh;simp only [ga,cr];refine W.le.use (FC t hz) ?_;simp only [aE,gl];refine M4 (λ_=>.tup []) (λx hx=>rfl) ?_;have e0:(Xa t).map (λ_=>PV.tup [])=F3 t 0:=by rw [List.map_const',JI,Xr]
 have en:(((t.size:Nat):Int)-1 - -1).toNat=t.size:=by omega
 rw [e0];simp only [kU,JI,ga,xq,gl,sD,RB,en];refine⟨⟨trivial,cD ∅ ∅⟩,?_⟩;show (cV _ _ _).run _;refine gP (λi s=>s=F3 t i) rfl (λi x s hx hs=>?_) (λs hs=>?_)
 ·subst hs;obtain⟨hi,rfl⟩:=vc hx;obtain⟨j,hj⟩:∃j:Nat,j=t.size-1-i:=⟨_,rfl⟩;have ej:(((t.size:Nat):Int)-1-(i:Int))=(j:Int):=by omega
  rw [ej];have WR:j < t.size:=by omega
  have fin:∀l:List PV,l.length<=900->.int (j:Int)::l=aO (up t 0 j [])->(ap (addW (.tup [.int (j:Int)]) (.tup l)) λx=>jT (F3 t i) (.int (j:Int)) x).run λs=>s=F3 t (i+1):=λl hl he=>by
   rw [Jt,nw (bS (by simp;omega))];show (jT _ _ (.tup (.int (j:Int)::l))).run _;rw [he,mT (by rw [ql];exact WR),Pn t i j ∅];rfl
  simp only [ga,cr,ki (JJ t WR),gl];rcases fN t 0 j .aD [] WR with⟨_,e,e2⟩ | ⟨a,ha1,ha,e,e2⟩
  ·rw [e];simp only [vp,xv,PV.kl,bX,gl,if_true];have:=fin [] (by simp) (by rw [e2,Ax];rfl);simpa using this
  ·rw [Ax] at e;rw [e];have i2:S1 (F3 t i) (.int (a:Int))=.ret (.tup (aO (up t 0 a []))):=ki (HZ t i ha ∅);simp only [vp,xv,PV.kl,bX,gl,Aq,if_false,i2,ga];have ua:=Xq t ha;have:=fin (aO (up t 0 a [])) (by rw [f9];omega) (by rw [e2];simp);simpa using this
 ·subst hs;have el:(pT (((t.size:Nat):Int)-1) t.size).length=t.size:=by unfold pT;simp
  rw [el,Po];exact q
def R3 (t:Tr) (j:Nat):List Nat:=(AG t.size).filter λk=>!decide (k∈up t 0 j [])&&!decide (j∈up t 0 k [])
theorem OS (t:Tr) (hz:t.size<=900) (hj:j < t.size):(d6 (.cl (TZ t)) (.int (j:Int))).le (.ret (.tup (aO (R3 t j)))):=λQ q=>by
 unfold d6;simp only [ga,cr,fy,Pp,fw,nw (cD (i:=0) (j:=(t.size:Int)) ∅ ∅),gl,Bp,pe];refine M9 (λk=>!decide (k∈up t 0 j [])&&!decide (j∈up t 0 k [])) (λk hk=>?_) q;have hk:=AW.mp hk;simp only [ga,cy,ki (H0 t hj),ki (H0 t hk),aE,Nx,if_true];by_cases c1:k∈up t 0 j []
 ·simp [c1]
 ·by_cases c2:j∈up t 0 k []
  ·simp [c1,c2]
  ·simp [c1,c2]
def yo:Ent->List Nat
 | .word _=>[]
 | .pair a b=>[a,b]
def pq (e:Ent):cz e.pv=.ret (.tup (aO (yo e))):=by
 unfold cz;cases e with
 | word w=>simp [Ent.pv,yo]
 | pair a b=>simp [Ent.pv,yo]
def QI (h:es[j]?=am e):dU (.tup (es.map Ent.pv)) (.int (j:Int))=.ret (wj e j):=by
 have i1:S1 (es.map Ent.pv) (.int (j:Int))=.ret e.pv:=ki (by rw [Aj,h];rfl);unfold dU;cases e with
 | word w=>simp only [ga,aE,i1];rfl
 | pair a b=>simp only [ga,aE,i1];rfl
def grS (t:Tr) (j:Nat):PV:=.tup [wj (en t 0 j) j,.int 0,.tup (aO (yo (en t 0 j))),.tup (aO (R3 t j))]
def grL (t:Tr):List PV:=(AG t.size).map (grS t)
theorem KD (t:Tr) (hz:t.size<=900):(eX t.pv).le (.ret (.tup (grL t))):=λQ q=>by
 unfold eX;simp only [ga,cr];refine W.le.use (nh t hz) ?_;refine W.le.use (M8 t hz) ?_;simp only [kU,fF,gl,fw,nw (cD (i:=0) (j:=(t.size:Int)) ∅ ∅),Bp,pe];unfold aO;refine jd (grS t) (λj hj R r=>?_) q;have hj:=AW.mp hj;have i1:S1 ((t.nd 0).map Ent.pv) (.int (j:Int))=.ret (en t 0 j).pv:=ki (by rw [Aj,iD t 0 j hj];rfl);simp only [QI (iD t 0 j hj),ga,aE,i1,pq,cr,gl];exact W.le.use (OS t hz hj) r
end My
variable {ws:List BB}
namespace My
open PySem PySem.Spec PyProof.Rows L2 PL FL
structure Sy where
 nm:PV
 lv:Nat
 un:List Nat
 be:List Nat
def Sy.pv (s:Sy):PV:=.tup [s.nm,.int (s.lv:Int),.tup (aO s.un),.tup (aO s.be)]
def oz (g:List Sy):PV:=.tup (g.map Sy.pv)
def sy (g:List Sy) (i:Nat):Sy:=g.getD i ⟨.aD,0,[],[]⟩
def Ub {g:List Sy} (h:i < g.length):g[i]?=am (sy g i):=by
 unfold sy;rw [Af,Ad h];rfl
def VP {g:List Sy} (h:i < g.length):S1 (g.map Sy.pv) (.int (i:Int))=.ret (sy g i).pv:=ki (by rw [Aj,Ub h];rfl)
def zE (w:Str):PV->Bool
 | .str s=>s==w
 | _=>false
def hm (g:List Sy) (i:Nat) (w:Str):Bool:=(sy g i).un.isEmpty&&zE w (sy g i).nm
inductive Ld (g:List Sy):Nat->Nat->Prop
 | refl (i:Nat):Ld g i i
 | step {i u j:Nat}:u∈(sy g i).un->Ld g u j->Ld g i j
structure WG (g:List Sy) (ws:List Str):Prop where
 pos:0 < g.length
 len:g.length<=300
 dn:∀i,i < g.length->∀u∈(sy g i).un,u < i
 yA:∀i,i < g.length->(sy g i).un.length<=2
 be:∀i,i < g.length->∀u∈(sy g i).be,u < g.length
 Z3:∀i,i < g.length->(sy g i).be.length<=30
 nm:∀i,i < g.length->(∃s,(sy g i).nm=.str s)\/∃n,(sy g i).nm=.int n
 acU:∀w∈ws,∃i,i < g.length/\Ld g (g.length-1) i/\hm g i w=true
 rch:∀i,i < g.length->Ld g (g.length-1) i
def mN {g:List Sy} (h:i < g.length):cO (oz g) (.int (i:Int))=.ret (.tup (aO (sy g i).un)):=by
 unfold cO oz;simp only [ga,aE,VP h];rfl
def K7 {g:List Sy} (h:i < g.length):eY (oz g) (.int (i:Int))=.ret (.tup (aO (sy g i).be)):=by
 unfold eY oz;simp only [ga,aE,VP h];rfl
theorem eq_nil (l:List Nat) (h:l.length<=1000):of2 m6 (.tup (aO l)) (.tup [])=.ret (.bl l.isEmpty):=by
 have fk:eJ (aO l)=true:=iL.mpr λx hx=>by
  obtain⟨n,_,rfl⟩:=Av.mp hx;simp
 have fd:dB (aO l)<=1:=iM λx hx=>by
  obtain⟨n,_,rfl⟩:=Av.mp hx;simp
 rw [zR,nw ⟨by simp [fk],by simp,by simp;omega⟩];cases l with
 | nil=>simp
 | cons a l=>simp [fv]
def ZJ (h:(∃s,x=.str s)\/∃n,x=.int n) (w:Str):of2 m6 x (.str w)=.ret (.bl (zE w x)):=by
 rcases h with⟨s,rfl⟩ | ⟨n,rfl⟩
 ·rw [zR,nw ⟨by simp,by simp,by simp⟩,N7];rfl
 ·rw [zR,nw ⟨by simp,by simp,by simp⟩];simp [jn,zE]
theorem Rp {g:List Sy} (G:WG g ws) (h:i < g.length) (w:Str):iH (oz g) (.int (i:Int)) (.str w)=.ret (.bl (hm g i w)):=by
 unfold iH;have l2:=G.yA i h;have i0:dD [(sy g i).nm,PV.int ((sy g i).lv:Int),.tup (aO (sy g i).un),.tup (aO (sy g i).be)] 0=am (sy g i).nm:=rfl;simp only [ga,mN h,eq_nil _ (show (sy g i).un.length<=1000 by omega)];unfold oz hm;cases e:(sy g i).un.isEmpty with
 | false=>simp
 | true=>simp only [RD,aE,ga,VP h,Sy.pv,ck,i0,BT,ZJ (G.nm i h) w,E8]
abbrev Dd:=Str×Nat×Nat
def d2 (d:Dd):PV:=.tup [.str d.1,.tup [.int (d.2.1:Int),.int (d.2.2:Int)]]
abbrev dbl (i:Nat):Dd:=("doubled",i,i)
abbrev ovr (i o:Nat):List Dd:=[("over",i,o),("over",o,i)]
def tm:List Nat->List Dd
 | [a,b]=>[("split",a,b),("split",b,a)]
 | _=>[]
def Tq (g:List Sy) (i:Nat):List Dd:=dbl i::(tm (sy g i).un++(sy g i).be.flatMap (ovr i))
def PJ (l:List Nat):(tm l).length<=2:=by unfold tm;split <;> simp
theorem Wc {g:List Sy} (G:WG g ws) (h:i < g.length) {d:Dd} (hd:d∈Tq g i):d.2.1 < g.length/\d.2.2 < g.length:=by
 rcases Aw.mp hd with rfl | hd
 ·exact⟨h,h⟩
 rcases Bm.mp hd with hd | hd
 ·have hu:=G.dn i h;revert hu hd;generalize (sy g i).un=l;intro hd hu
  match l with
  | [a,b]=>
   have h1:=hu a (by simp);have h2:=hu b (by simp);simp [tm] at hd;rcases hd with rfl | rfl
   ·exact⟨by show a < _;omega,by show b < _;omega⟩
   ·exact⟨by show b < _;omega,by show a < _;omega⟩
  | []=>simp [tm] at hd
  | [_]=>simp [tm] at hd
  | _::_::_::_=>simp [tm] at hd
 ·obtain⟨o,ho,hd⟩:=Ej.mp hd;have:=G.be i h o ho;simp at hd;rcases hd with rfl | rfl
  ·exact⟨h,this⟩
  ·exact⟨this,h⟩
def fa (F:List (List Bool)) (j i:Nat):Bool:=(F.getD j []).getD i false
def lD (g:List Sy) (F:List (List Bool)) (e:Ent) (i:Nat):List Dd:=match e with
 | .word w=>if hm g i w=true then [("found",i,i)] else []
 | .pair a b=>(Tq g i).filter λd=>fa F a d.2.1&&fa F b d.2.2
def FR (n:Nat):Ent->Prop
 | .word _=>True
 | .pair a b=>a < n/\b < n
def pA {l m:List α}{d:α} (h:i < l.length):(l++m).getD i d=l.getD i d:=by
 rw [Af,AM h,<- Af]
def pw {l m:List α}{d:α} (h:l.length<=i):(l++m).getD i d=m.getD (i-l.length) d:=by
 rw [Af,AQ h,<- Af]
def RF (es:List Ent) (j:Nat):Ent:=es.getD j (.word "")
def ht:Tr->Nat->Nat
 | .leaf _,_=>0
 | .node l r,j=>if j < l.size then ht l j else if j < l.size+r.size then ht r (j-l.size) else (Tr.node l r).depth
theorem Jk (t:Tr):ht t (t.size-1)=t.depth:=by
 cases t with
 | leaf _=>rfl
 | node l r=>
  have es:(Tr.node l r).size=l.size+r.size+1:=rfl;rw [ht,if_neg ∅,if_neg ∅]
theorem S4:∀(t:Tr) (o j a b:Nat),j < t.size->en t o j=.pair a b->ht t (a-o) < ht t j/\ht t (b-o) < ht t j
 | .leaf _,o,j,a,b,h,e=>by rw [en] at e;cases e
 | .node l r,o,j,a,b,h,e=>by
  have es:(Tr.node l r).size=l.size+r.size+1:=rfl;have lp:=l.size_pos;have rp:=r.size_pos;by_cases c1:j < l.size
  ·rw [en,if_pos c1] at e;obtain⟨h1,h2,h3,h4,_⟩:=jq l o j .aD a b c1 e;have:=S4 l o j a b c1 e;have q1:∀x,x < l.size->ht (.node l r) x=ht l x:=λx hx=>by rw [ht,if_pos hx]
   rw [q1 (a-o) ∅,q1 (b-o) ∅,q1 j c1];exact this
  ·by_cases c2:j < l.size+r.size
   ·rw [en,if_neg c1,if_pos c2] at e;obtain⟨h1,h2,h3,h4,_⟩:=jq r (o+l.size) (j-l.size) .aD a b ∅ e;have:=S4 r (o+l.size) (j-l.size) a b ∅ e;have q1:∀x,¬x < l.size->x < l.size+r.size->ht (.node l r) x=ht r (x-l.size):=λx h1 h2=>by rw [ht,if_neg h1,if_pos h2]
    rw [q1 (a-o) ∅ ∅,q1 (b-o) ∅ ∅,q1 j c1 c2,EW,EW];exact this
   ·rw [en,if_neg c1,if_neg c2] at e;injection e with e1 e2;subst e1;subst e2;have er:(Tr.node l r).depth=max l.depth r.depth+1:=rfl;have ej:ht (.node l r) j=(Tr.node l r).depth:=by rw [ht,if_neg c1,if_neg c2]
    have e3:ht (.node l r) (o+l.size-1-o)=l.depth:=by rw [ht,if_pos ∅,show o+l.size-1-o=l.size-1 by omega,Jk]
    have e4:ht (.node l r) (o+l.size+r.size-1-o)=r.depth:=by rw [ht,if_neg ∅,if_pos ∅,show o+l.size+r.size-1-o-l.size=r.size-1 by omega,Jk]
    omega
theorem xx:∀(t:Tr) (o j:Nat) (w:Str),j < t.size->en t o j=.word w->w∈t.av
 | .leaf x,o,j,w,h,e=>by
  rw [en] at e;injection e with e;subst e;simp [Tr.av]
 | .node l r,o,j,w,h,e=>by
  have es:(Tr.node l r).size=l.size+r.size+1:=rfl;by_cases c1:j < l.size
  ·rw [en,if_pos c1] at e;exact A9 _ (xx l o j w c1 e)
  ·by_cases c2:j < l.size+r.size
   ·rw [en,if_neg c1,if_pos c2] at e;exact Ay _ (xx r _ (j-l.size) w ∅ e)
   ·rw [en,if_neg c1,if_neg c2] at e;cases e
def Ti (t:Tr) (h:j < t.size):FR j (en t 0 j):=by
 cases e:en t 0 j with
 | word w=>trivial
 | pair a b=>exact fM t h e
end My
variable {g:List My.Sy}
namespace My
open PySem PySem.Spec PyProof.Rows L2 PL FL
def dl (g:List Sy) (i:Nat):List Dd:=dbl i::(tm (sy g i).un++((sy g i).be.map (λo=>(("over",i,o):Dd))++(sy g i).be.map (λo=>(("over",o,i):Dd))))
theorem Oz (G:WG g ws) (h:i < g.length):(dl g i).length<=63:=by
 unfold dl;simp only [Ar,Ak,Ai];have:=PJ (sy g i).un;have:=G.Z3 i h;omega
theorem RP (d:Dd):pd (d2 d)=true:=rfl
def Kw (p:Nat×Nat):PV:=.tup [.int (p.1:Int),.int (p.2:Int)]
def LR (G:WG g ws) (h:i < g.length):eW (oz g) (.int (i:Int))=.ret ((tm (sy g i).un).map λd=>Kw (d.2.1,d.2.2)):=by
 unfold eW;simp only [ga,mN h];have hu:=G.yA i h;revert hu;generalize (sy g i).un=l;intro hu
 match l,hu with
 | [],_=>simp only [kU,oX,rE,Ar,Bv,mq,ga,bX];rfl
 | [a],_=>simp only [kU,oX,rE,Ar,Bv,mq,ga,bX];rfl
 | [a,b],_=>
  have i0:dD [PV.int (a:Int),PV.int (b:Int)] 0=am (.int (a:Int)):=rfl;have i1:dD [PV.int (a:Int),PV.int (b:Int)] 1=am (.int (b:Int)):=rfl;simp only [kU,oX,rE,Ar,Bv,mq,ga,bX,aE,ck,i0,i1,BT];rfl
theorem Qr (G:WG g ws) (h:i < g.length):gc (oz g) (.int (i:Int))=.ret ((sy g i).be.map (λo=>Kw (i,o))++(sy g i).be.map (λo=>Kw (o,i))):=by
 unfold gc;have l3:=G.Z3 i h;simp only [ga,K7 h,aE];rw [nr (g:=λo=>Kw (i,o)) λk hk=>rfl];rw [nr (g:=λo=>Kw (o,i)) λk hk=>rfl];simp only [ga];rw [hX (by simp;omega)]
theorem KR (G:WG g ws) {b:Nat} (h:i < g.length) (q:∀m:List PV,m.Perm ((dl g i).map d2)->Q m):(eE (oz g) (Ent.pair a b).pv (.int (i:Int))).run Q:=by
 have l63:=Oz G h;unfold eE;simp only [Ent.pv,ga,cr,gR,gQ,cZ,gl,Aq,if_false,LR G h,Qr G h];refine jd (λd:Dd=>.tup [.str "split",Kw (d.2.1,d.2.2)]) (λd _ R r=>r) ?_;have em:(sy g i).be.map (λo=>Kw (i,o))++(sy g i).be.map (λo=>Kw (o,i))=((sy g i).be.map (λo=>((i,o):Nat×Nat))++(sy g i).be.map (λo=>(o,i))).map Kw:=by
  rw [A3,AN,AN];rfl
 rw [em];refine jd (λp:Nat×Nat=>.tup [.str "over",Kw p]) (λp _ R r=>r) ?_;simp only [gl,jo,ga];have es:(tm (sy g i).un).map (λd=>PV.tup [.str "split",Kw (d.2.1,d.2.2)])=(tm (sy g i).un).map d2:=by
  refine BA λd hd=>?_;have:d.1=("split":Str):=by
   revert hd;generalize (sy g i).un=l;intro hd;unfold tm at hd
   split at hd
   ·simp at hd;rcases hd with rfl | rfl <;> rfl
   ·cases hd
  unfold d2 Kw;rw [this]
 have eo:((sy g i).be.map (λo=>((i,o):Nat×Nat))++(sy g i).be.map (λo=>(o,i))).map (λp=>PV.tup [.str "over",Kw p])=((sy g i).be.map (λo=>(("over",i,o):Dd))++(sy g i).be.map (λo=>(("over",o,i):Dd))).map d2:=by
  simp only [A3,AN];rfl
 rw [es,eo];have ll:(dl g i).length=1+(tm (sy g i).un).length+((sy g i).be.map (λo=>(("over",i,o):Dd))++(sy g i).be.map (λo=>(("over",o,i):Dd))).length:=by
  unfold dl;simp only [Ar,Ak];omega
 rw [hX (by simp only [Ai,Ar,Bv];omega)];simp only [gl];rw [hX (by simp only [Ai,Ak,Ar,Bv] at *;omega)];have e:([PV.tup [.str "doubled",.tup [.int (i:Int),.int (i:Int)]]]++(tm (sy g i).un).map d2)++((sy g i).be.map (λo=>(("over",i,o):Dd))++(sy g i).be.map (λo=>(("over",o,i):Dd))).map d2=(dl g i).map d2:=by
  unfold dl;simp only [Au,A3,AL];rfl
 simp only [gl];rw [e];refine⟨⟨by rw [Ai];omega,CJ.mpr λx hx=>?_⟩,λm hm=>q m hm⟩;obtain⟨d,_,rfl⟩:=Av.mp hx;exact RP d
theorem Dt.isD (D:Dt t ds [] d) (h:d<=99):Rf t ds=true:=by
 unfold Rf;rw [AE,AE,decide_eq_true_iff,decide_eq_true_iff];refine⟨D.len,?_,CJ.mpr λj hj=>?_⟩
 ·unfold JX;have hp:(splits t).Pairwise (· < ·):=by unfold splits;exact List.Pairwise.filter _ C4
  rw [List.nodup_iff_pairwise_ne,Ea];refine List.Pairwise.imp_of_mem (λ{x y} hx hy lt e=>?_) hp;obtain⟨x1,x2⟩:=AR.mp hx;obtain⟨y1,y2⟩:=AR.mp hy;have:=D.inj x y (AW.mp x1) (AW.mp y1) (by simp) (by simp) x2 y2 e;omega
 ·have hj':=AW.mp hj;unfold Ys;cases e:en t 0 j with
  | word w=>
   rw [D.zero j hj' (.inl (by rw [e];rfl))];rfl
  | pair a b=>
   obtain⟨_,_,h1,h2,h3,h4⟩:=D.up j hj' (by simp) a b e;show (decide (ds.getD a 0 < ds.getD j 0)&&decide (ds.getD b 0 < ds.getD j 0)&&decide (1<=ds.getD j 0)&&decide (ds.getD j 0<=99))=true;rw [decide_eq_true h1,decide_eq_true h2,decide_eq_true h3,decide_eq_true ∅];rfl
def We (h:a<=ds.length):uh (a7 ds) bm (am (a:Int))=a7 (ds.take a):=by
 unfold uh;rw [HT.L4,HT.PX,d7,List.drop_zero,C2,Nat.min_eq_left h];unfold a7;rw [List.map_take]
theorem sN:∀(t:Tr) (o:Nat),(t.nd o).countP tU+1=t.av.length
 | .leaf _,_=>rfl
 | .node l r,o=>by
  have h1:=sN l o;have h2:=sN r (o+l.size);rw [Tr.nd,List.countP_append,List.countP_append];show _+(List.countP tU [Ent.pair _ _])+1=(l.av++r.av).length;simp [tU];omega
theorem U3 (t:Tr):t.nd 0=(AG t.size).map (en t 0):=by
 refine Ck λj=>?_;by_cases h:j < t.size
 ·rw [iD t 0 j h,Aj,B8 h];rfl
 ·rw [AZ (by rw [t.a9];omega),AZ (by simp;omega)]
def Gb (t:Tr):(splits t).length+1=t.av.length:=by
 rw [<- sN t 0,U3 t,List.countP_map];unfold splits;rw [<- List.countP_eq_length_filter];rfl
end My
variable {u:Nat}
namespace My
open PySem PySem.Spec PyProof.Rows L2 PL FL
def Ld.snoc (r:Ld g i j) (hu:u∈(sy g j).un):Ld g i u:=by
 induction r with
 | refl i=>exact .step hu (.refl _)
 | step h _ ih=>exact .step h (ih hu)
def gS (t:Tr):List Sy:=(AG t.size).map λj=>⟨wj (en t 0 j) j,0,yo (en t 0 j),R3 t j⟩
def gq (t:Tr) (h:j < t.size):sy (gS t) j=⟨wj (en t 0 j) j,0,yo (en t 0 j),R3 t j⟩:=by
 unfold sy gS;rw [Af,Aj,B8 h];rfl
@[simp] theorem eI (t:Tr):(gS t).length=t.size:=by unfold gS;simp
def Zt (t:Tr):oz (gS t)=.tup (grL t):=by
 unfold oz gS grL;rw [AN];congr 1
def SK (e:Ent) (j:Nat):(∃s,wj e j=.str s)\/∃n,wj e j=.int n:=by
 cases e with
 | word w=>exact .inl ⟨w,rfl⟩
 | pair a b=>exact .inr ⟨_,rfl⟩
def VA (e:Ent):(yo e).length<=2:=by cases e <;> simp [yo]
theorem qz:∀(s:Tr) (t:Tr) (o:Nat) (w:Str),(∀k,k < s.size->en t 0 (o+k)=en s o k)->o+s.size<=t.size->w∈s.av->∃i,i < t.size/\Ld (gS t) (o+s.size-1) i/\en t 0 i=.word w
 | .leaf x,t,o,w,hs,hz,hw=>by
  have e0:en t 0 o=.word x:=hs 0 (by show 0 < 1;decide);have hz:o+1<=t.size:=hz;have:w=x:=by simpa [Tr.av] using hw
  subst this;exact⟨o,by omega,.refl _,e0⟩
 | .node l r,t,o,w,hs,hz,hw=>by
  have es:(Tr.node l r).size=l.size+r.size+1:=rfl;have er:en t 0 (o+(l.size+r.size))=.pair (o+l.size-1) (o+l.size+r.size-1):=by rw [hs _ ∅,en,if_neg ∅,if_neg ∅]
  have ei:o+(Tr.node l r).size-1=o+(l.size+r.size):=by omega
  have hl:∀k,k < l.size->en t 0 (o+k)=en l o k:=λk hk=>by rw [hs k ∅,en,if_pos hk]
  have hr:∀k,k < r.size->en t 0 (o+l.size+k)=en r (o+l.size) k:=λk hk=>by rw [Bc,hs _ ∅,en,if_neg ∅,if_pos ∅,B5]
  have un:(sy (gS t) (o+(l.size+r.size))).un=[o+l.size-1,o+l.size+r.size-1]:=by rw [gq t ∅,er];rfl
  rw [ei];rcases Bm.mp (show w∈l.av++r.av from hw) with hw | hw
  ·obtain⟨i,h1,h2,h3⟩:=qz l t o w hl ∅ hw;exact⟨i,h1,.step (by rw [un];simp) h2,h3⟩
  ·obtain⟨i,h1,h2,h3⟩:=qz r t (o+l.size) w hr ∅ hw;exact⟨i,h1,.step (by rw [un];simp) h2,h3⟩
theorem bA (hz:t.size<=30):WG (gS t) t.av:=by
 have tp:=t.size_pos;have Ð:∀k i,i+k+1=t.size->Ld (gS t) (t.size-1) i:=λk=>by
  induction k using Bl with
  | ind k ih=>
   intro i hk;rcases eL t 0 i .aD ∅ with⟨e,_⟩ | ⟨a,u,v,ia,ha,_,ep,NF⟩
   ·rw [<- e];exact .refl _
   ·refine (ih (t.size-a-1) ∅ a ∅).snoc ?_;rw [gq t ha,ep];rw [Ax] at NF;rcases NF with rfl | rfl <;> simp [yo]
 refine⟨by rw [eI];omega,by rw [eI];omega,λi hi u hu=>?_,λi hi=>?_,λi hi u hu=>?_,λi hi=>?_,λi hi=>?_,λw hw=>?_,λi hi=>by rw [eI] at hi ⊢;exact Ð (t.size-i-1) i ∅⟩
 ·rw [eI] at hi;rw [gq t hi] at hu;cases e:en t 0 i with
  | word w=>rw [e] at hu;cases hu
  | pair a b=>
   rw [e] at hu;have:=fM t hi e;have hu:u=a\/u=b:=by simpa [yo] using hu
   omega
 ·rw [eI] at hi;rw [gq t hi];exact VA _
 ·rw [eI] at hi ⊢;rw [gq t hi] at hu;exact AW.mp (AR.mp hu).1
 ·rw [eI] at hi;rw [gq t hi];have:=BC (λk=>!decide (k∈up t 0 i [])&&!decide (i∈up t 0 k [])) (AG t.size);rw [C5] at this;show (R3 t i).length<=30;unfold R3;omega
 ·rw [eI] at hi;rw [gq t hi];exact SK _ _
 ·obtain⟨i,h1,h2,h3⟩:=qz t t 0 w (λk hk=>by rw [Ax]) ∅ hw;rw [Ax] at h2;refine⟨i,by rw [eI];exact h1,by rw [eI];exact h2,?_⟩;unfold hm;rw [gq t h1,h3];simp [yo,wj,zE]
def dS (t:Tr) (ds bs:List Int):List Sy:=(ay t ds bs bs.length).map λp=>⟨wj (en t 0 p.1) p.1,p.2,(qk (en t 0 p.1) p.1 (ds.getD p.1 0) (bs.getD p.2 0)).map λx=>(ay t ds bs bs.length).idxOf (x,p.2-1),RV (ay t ds bs bs.length) p.1 p.2⟩
def ZW (t:Tr) (ds bs:List Int):oz (dS t ds bs)=.tup (W9 t ds bs):=by
 unfold oz dS W9;rw [AN];congr 1
@[simp] theorem OD (t:Tr) (ds bs:List Int):(dS t ds bs).length=(ay t ds bs bs.length).length:=by unfold dS;rw [Ai]
theorem pJ (t:Tr) (ds bs:List Int):∀m,(ay t ds bs m).Pairwise λp q=>p.2<=q.2
 | 0=>.nil
 | m+1=>by
  rw [ay];have JW:∀p∈yK t ds (bs.getD m 0) m t.size,p.2=m:=λp hp=>by
   obtain⟨k,_,rfl⟩:=Av.mp hp;rfl
  refine List.pairwise_append.mpr ⟨pJ t ds bs m,?_,λa ha b hb=>?_⟩
  ·exact BV.mpr λi j hi hj _=>by rw [JW _ (Ca hi),JW _ (Ca hj)];exact An _
  ·have h1:=(fU ha).1;rw [JW b hb];omega
theorem uQ (t:Tr) (ds bs:List Int) (n:Nat):∀m,((ay t ds bs m).filter λp=>decide (p.2=n)).length<=t.size
 | 0=>Bg _
 | m+1=>by
  rw [ay,D1,Ak];have ih:=uQ t ds bs n m;by_cases c:n=m
  ·subst c;have z:(ay t ds bs n).filter (λp=>decide (p.2=n))=[]:=by
    rw [Eu];intro p hp;have:=(fU hp).1;simp;omega
   rw [z];have h1:=BC (λp:Nat×Nat=>decide (p.2=n)) (yK t ds (bs.getD n 0) n t.size);have h2:=vJ t ds (bs.getD n 0) n t.size;simp only [Bv];omega
  ·have z:(yK t ds (bs.getD m 0) m t.size).filter (λp=>decide (p.2=n))=[]:=by
    rw [Eu];intro p hp;obtain⟨k,_,rfl⟩:=Av.mp hp;simp;omega
   rw [z];simpa using ih
section
theorem DD.above (D:DD t ds) (h:(j,n)∈ay t ds (az t ds) (az t ds).length) (hn:n+1 < (az t ds).length):∃a,(a,n+1)∈ay t ds (az t ds) (az t ds).length/\j∈qk (en t 0 a) a (ds.getD a 0) ((az t ds).getD (n+1) 0):=by
 obtain⟨hnl,hj,hs⟩:=bC.mp h;obtain⟨s1,s2⟩:=(d3 hj).mp hs;have inc:=D.inc;have lt:=wW inc hn (show n < n+1 by omega);have Ù:(∀a,ip t 0 j .aD=.int ((a:Nat):Int)->(az t ds).getD (n+1) 0 < ds.getD a 0)->∃a,(a,n+1)∈ay t ds (az t ds) (az t ds).length/\j∈qk (en t 0 a) a (ds.getD a 0) ((az t ds).getD (n+1) 0):=λhx=>
  ⟨j,bC.mpr ⟨hn,hj,(d3 hj).mpr ⟨by omega,hx⟩⟩,by unfold qk;rw [if_pos ∅];exact .head _⟩
 rcases eL t 0 j .aD hj with⟨_,e⟩ | ⟨a,u,v,ja,ha,e,ep,NF⟩
 ·exact Ù λa z=>by rw [e] at z;cases z
 ·rw [Ax] at e NF;by_cases c:(az t ds).getD (n+1) 0 < ds.getD a 0
  ·refine Ù λa' z=>?_;rw [e] at z;injection z with z;have:a=a':=by omega
   subst this;exact c
  ·have sa:=s2 a e;have eq:ds.getD a 0=(az t ds).getD (n+1) 0:=by
    rcases Int.lt_or_eq_of_le (show ds.getD a 0<=(az t ds).getD (n+1) 0 by omega) with c2 | c2
    ·have:=(rZ inc hn (D.mem ha) c2).2;rw [Nat.add_sub_cancel] at this;omega
    ·exact c2
   refine⟨a,bC.mpr ⟨hn,ha,(d3 ha).mpr ⟨by omega,λa2 e2=>?_⟩⟩,?_⟩
   ·rcases eL t 0 a .aD ha with⟨_,e3⟩ | ⟨a3,u3,v3,_,h3,e3,ep3,ND⟩
    ·rw [e3] at e2;cases e2
    ·rw [e3] at e2;injection e2 with e2;rw [Ax] at e2 ND;have:a3=a2:=by omega
     subst this;have:=D.pair a3 u3 v3 h3 ep3;rcases ND with rfl | rfl <;> omega
   ·unfold qk;rw [if_neg ∅,ep];rcases NF with rfl | rfl <;> simp
theorem DD.last (D:DD t ds) (h:(j,n)∈ay t ds (az t ds) (az t ds).length) (hn:n+1=(az t ds).length):j=t.size-1:=by
 obtain⟨hnl,hj,hs⟩:=bC.mp h;obtain⟨s1,s2⟩:=(d3 hj).mp hs;rcases eL t 0 j .aD hj with⟨e,_⟩ | ⟨a,u,v,ja,ha,e,ep,NF⟩
 ·exact e
 ·exfalso;rw [Ax] at e;have sa:=s2 a e;have inc:=D.inc;obtain⟨i,hi,ei⟩:=DC (D.mem ha);have gd:(az t ds).getD i 0=ds.getD a 0:=by rw [Af,Ad hi];exact ei
  rcases C3 i n with c | c
  ·have:=wW inc hnl c;omega
  ·have:i=n:=by omega
   subst this;omega
def wX [BEq α] [LawfulBEq α] {l:List α} (nd:l.Nodup) {x:α} (h:l[i]?=am x):l.idxOf x=i:=by
 obtain⟨hi,e⟩:=Al.mp h;rw [<- e];exact nd.idxOf_getElem i hi
def pH [BEq α] [LawfulBEq α] {l:List α}{x:α} (h:x∈l):l[l.idxOf x]?=am x:=by
 have:=Bf h;rw [Ad this,List.getElem_idxOf this]
theorem Lw (D:DD t ds) (hz:t.size<=15) (hb:(az t ds).length<=16):WG (dS t ds (az t ds)) t.av:=by
 have nd:=iX t ds (az t ds) (az t ds).length;have Ă:=pJ t ds (az t ds) (az t ds).length;have lay:=λn=>uQ t ds (az t ds) n (az t ds).length;have ok:=D.ok;have ne:=D.ne;have ll:=iY t ds (az t ds) (az t ds).length;have above:=λj n=>D.above (j:=j) (n:=n);have last:=λj n=>D.last (j:=j) (n:=n);have ß:=@bC t ds (az t ds) (az t ds).length;unfold okD at ok;have hS:∀i p,(ay t ds (az t ds) (az t ds).length)[i]?=am p->sy (dS t ds (az t ds)) i=⟨wj (en t 0 p.1) p.1,p.2,(qk (en t 0 p.1) p.1 (ds.getD p.1 0) ((az t ds).getD p.2 0)).map λx=>(ay t ds (az t ds) (az t ds).length).idxOf (x,p.2-1),RV (ay t ds (az t ds) (az t ds).length) p.1 p.2⟩:=λi p hp=>by
  unfold sy dS;rw [Af,Aj,hp];rfl
 have hL:(dS t ds (az t ds)).length=(ay t ds (az t ds) (az t ds).length).length:=OD t ds _;have hmul:=Nat.mul_le_mul hb hz;generalize ay t ds (az t ds) (az t ds).length=L at *;have get:∀i,i < (dS t ds (az t ds)).length->∃p,L[i]?=am p/\p∈L:=λi hi=>by
  rw [hL] at hi;exact⟨L[i],Ad hi,Ca hi⟩
 have pos:=Co.mpr ne;have Ô:∀(i a:Nat) (p r:Nat×Nat),L[i]?=am p->L[a]?=am r->r.2 < p.2->a < i:=λi a p r h1 h2 lt=>by
  rcases C3 a i with c | c
  ·exact c
  ·exfalso;obtain⟨g1,e1⟩:=Al.mp h1;obtain⟨g2,e2⟩:=Al.mp h2;rcases DW c with c | c
   ·subst c;rw [h1] at h2;cases h2;omega
   ·have:=BV.mp Ă i a g1 g2 c;rw [e1,e2] at this;omega
 have Ð:∀k i,i+k+1=L.length->Ld (dS t ds (az t ds)) (L.length-1) i:=λk=>by
  induction k using Bl with
  | ind k ih=>
   intro i hk;obtain⟨⟨j,n⟩,hp,hm⟩:=get i (by rw [hL];omega);have nl:=(ß.mp hm).1;by_cases c:n+1 < (az t ds).length
   ·obtain⟨a,ha,hb⟩:=above j n hm c;have ia:=pH ha;have lt:=Ô _ i (a,n+1) (j,n) ia hp (by show n < n+1;omega);have il:=Bf ha;have r:=ih (L.length-L.idxOf (a,n+1)-1) ∅ (L.idxOf (a,n+1)) ∅;refine r.snoc ?_;rw [hS _ _ ia];refine Av.mpr ⟨j,hb,?_⟩;exact wX nd hp
   ·have hj:=last j n hm ∅;have:i=L.length-1:=by
     obtain⟨⟨j2,n2⟩,w4,Ll⟩:=get (L.length-1) (by rw [hL];omega);have n2l:=(ß.mp Ll).1;rcases C3 n2 n with c2 | c2
     ·have:=Ô i (L.length-1) _ _ hp w4 c2;omega
     ·have en2:n2=n:=by omega
      have VH:=last j2 n2 Ll ∅;subst en2;rw [VH,<- hj] at w4;exact (wX nd hp).symm.trans (wX nd w4)
    rw [this];exact .refl _
 refine⟨by rw [hL];exact pos,by rw [hL];omega,λi hi u hu=>?_,λi hi=>?_,λi hi u hu=>?_,λi hi=>?_,λi hi=>?_,λw hw=>?_,λi hi=>by rw [hL] at hi ⊢;exact Ð (L.length-i-1) i ∅⟩
 ·obtain⟨p,hp,hm⟩:=get i hi;rw [hS i p hp] at hu;obtain⟨x,hx,rfl⟩:=Av.mp hu;obtain⟨n1,xm⟩:=ok p hm x hx;exact Ô i _ p (x,p.2-1) hp (pH xm) (by show p.2-1 < p.2;omega)
 ·obtain⟨p,hp,hm⟩:=get i hi;rw [hS i p hp];unfold qk
  split
  ·simp
  ·cases en t 0 p.1 <;> simp
 ·obtain⟨p,hp,hm⟩:=get i hi;rw [hS i p hp] at hu;unfold RV at hu;obtain⟨x,hx,rfl⟩:=Av.mp hu;rw [hL];exact Bf (AR.mp hx).1
 ·obtain⟨p,hp,hm⟩:=get i hi;rw [hS i p hp];unfold RV;rw [Ai];have h1:=lay p.2;have h2:(L.filter λq=>decide (q.2=p.2)&&!decide (q.1=p.1)).length<=(L.filter λq=>decide (q.2=p.2)).length:=by
   have e:L.filter (λq=>decide (q.2=p.2)&&!decide (q.1=p.1))=(L.filter λq=>decide (q.2=p.2)).filter λq=>!decide (q.1=p.1):=by
    rw [List.filter_filter];refine congrArg (λf=>L.filter f) (funext λq=>Bool.and_comm _ _)
   rw [e];exact BC _ _
  omega
 ·obtain⟨p,hp,hm⟩:=get i hi;rw [hS i p hp];exact SK _ _
 ·obtain⟨j,hj,_,ej⟩:=qz t t 0 w (λk hk=>by rw [Ax]) ∅ hw;have b0:(az t ds).getD 0 0=0:=rfl;have mem:(j,0)∈L:=ß.mpr ⟨by simp [az],hj,(d3 hj).mpr ⟨by rw [D.leaf j w hj ej,b0];exact BU _,λa ea=>by
   rcases eL t 0 j .aD hj with⟨_,e⟩ | ⟨a',u,v,_,ha,e,ep,_⟩
   ·rw [e] at ea;cases ea
   ·rw [e,Ax] at ea;injection ea with ea;have:a'=a:=by omega
    subst this;have:=(D.pair a' u v ha ep).2.2;rw [b0];omega⟩⟩
  have il:=Bf mem;refine⟨L.idxOf (j,0),by rw [hL];exact il,by rw [hL];exact Ð (L.length-L.idxOf (j,0)-1) _ ∅,?_⟩;unfold hm;rw [hS _ _ (pH mem)];unfold qk;rw [b0,D.leaf j w hj ej,if_neg ∅,ej];simp [wj,zE]
end
theorem zj {f:PV->W PV}{S:PV->Prop}:∀{l:List PV},(∀x∈l,∀R:PV->Prop,(∀v,S v->R v)->(f x).run R)->∀{Q:List PV->Prop},(∀m,m.length=l.length->(∀v∈m,S v)->Q m)->(cv l f).run Q
 | [],_,Q,q=>q [] rfl (λ_ h=>nomatch h)
 | x::l,h,Q,q=>by
  show (ap (f x) λy=>ap (cv l f) λm=>bd (y::m)).run Q;simp only [cr];refine h x (.head _) _ λv hv=>?_;refine zj (λy hy=>h y (.tail _ hy)) λm hm hs=>?_;exact q (v::m) (by simp [hm]) λu hu=>by
   rcases Aw.mp hu with rfl | hu
   ·exact hv
   ·exact hs u hu
theorem Il:∀{m:List PV}{ls:List Str},(∀v∈m,∃w∈ls,v=PV.str w)->∃ws:List Str,m=ws.map PV.str/\∀w∈ws,w∈ls
 | [],_,_=>⟨[],rfl,λ_ h=>nomatch h⟩
 | v::m,ls,h=>by
  obtain⟨w,hw,rfl⟩:=h v (.head _);obtain⟨ws,rfl,h2⟩:=Il (m:=m) (ls:=ls) λu hu=>h u (.tail _ hu);exact⟨w::ws,rfl,λx hx=>by
   rcases Aw.mp hx with rfl | hx
   ·exact hw
   ·exact h2 x hx⟩
inductive WT where
 | lf (p:List Nat) (i:Nat)
 | nd (p:List Nat) (i:Nat) (nm:Str) (a b:WT)
def oE (g:List Sy) (i:Nat):Bool:=decide ((sy g i).un.length=2)
end My
variable {g':List My.Sy}{f:Nat->Nat}{ω:BB->BB}
namespace My
open PySem PySem.Spec PyProof.Rows L2 PL FL
structure Hm (g' g:List Sy) (f:Nat->Nat) (ω:Str->Str):Prop where
 lt:∀i,i < g'.length->f i < g.length
 un:∀i,i < g'.length->(∃u,(sy g' i).un=[u]/\f u=f i)\/(sy g (f i)).un=(sy g' i).un.map f\/(sy g (f i)).un=((sy g' i).un.map f).reverse
 dn:∀i,i < g.length->∀u∈(sy g i).un,u < i
 be:∀i,i < g'.length->∀o∈(sy g' i).be,f o∈(sy g (f i)).be
 hom:∀i,i < g'.length->∀w,hm g' i w=true->hm g (f i) (ω w)=true
def pf (f:Nat->Nat):List Nat->Nat->List Nat
 | [],_=>[]
 | x::r,i=>if f x=f (r.headD i) then pf f r i else f x::pf f r i
theorem Hm.step {g' g:List Sy}{f:Nat->Nat}{ω:Str->Str} (M:Hm g' g f ω) {x n:Nat} (hx:x < g'.length) (hn:n∈(sy g' x).un):(f x=f n/\oE g' x=false)\/(f x≠f n/\f n∈(sy g (f x)).un/\oE g' x=oE g (f x)):=by
 have key:(sy g' x).un.map f ⊆ (sy g (f x)).un->(sy g (f x)).un.length=(sy g' x).un.length->(f x=f n/\oE g' x=false)\/(f x≠f n/\f n∈(sy g (f x)).un/\oE g' x=oE g (f x)):=λe1 e2=>by
  have h:f n∈(sy g (f x)).un:=e1 (Av.mpr ⟨n,hn,rfl⟩);have:=M.dn _ (M.lt x hx) _ h;exact .inr ⟨by omega,h,by unfold oE;rw [e2]⟩
 rcases M.un x hx with⟨u,e1,e2⟩ | e | e
 ·rw [e1] at hn;rw [Bk.mp hn,e2];exact .inl ⟨rfl,by unfold oE;rw [e1];rfl⟩
 ·exact key (by rw [e];exact λ_ h=>h) (by rw [e,Ai])
 ·exact key (by rw [e];exact λ_ h=>List.mem_reverse.mpr h) (by rw [e,BP,Ai])
theorem Hm.Tq (M:Hm g' g f ω) {x y:Nat}{nm:Str} (hi:i < g'.length) (h:(nm,x,y)∈Tq g' i):(nm,f x,f y)∈Tq g (f i):=by
 unfold My.Tq at h ⊢;rcases Aw.mp h with h | h
 ·cases h;exact .head _
 refine AU _ ?_;rcases Bm.mp h with h | h
 ·refine A9 _ ?_;have hu:=M.un i hi;revert h hu;generalize (sy g' i).un=l;generalize (sy g (f i)).un=m;intro h hu
  match l,h,hu with
  | [a,b],h,hu=>
   simp [tm] at h;rcases hu with⟨u,e,_⟩ | e | e
   ·cases e
   ·rw [e];rcases h with⟨rfl,rfl,rfl⟩ | ⟨rfl,rfl,rfl⟩ <;> simp [tm]
   ·rw [e];rcases h with⟨rfl,rfl,rfl⟩ | ⟨rfl,rfl,rfl⟩ <;> simp [tm]
  | [],h,_=>simp [tm] at h
  | [_],h,_=>simp [tm] at h
  | _::_::_::_,h,_=>simp [tm] at h
 ·obtain⟨o,ho,h⟩:=Ej.mp h;refine Ay _ (Ej.mpr ⟨f o,M.be i hi o ho,?_⟩);simp at h;rcases h with⟨rfl,rfl,rfl⟩ | ⟨rfl,rfl,rfl⟩ <;> simp
def wm (f:Nat->Nat):WT->WT
 | .lf p i=>.lf (pf f p i) (f i)
 | .nd p i nm a b=>.nd (pf f p i) (f i) nm (wm f a) (wm f b)
def cm (ω:Str->Str):Tr->Tr
 | .leaf w=>.leaf (ω w)
 | .node l r=>.node (cm ω l) (cm ω r)
theorem vd:∀t:Tr,cm id t=t
 | .leaf _=>rfl
 | .node l r=>by rw [cm,vd l,vd r]
section
theorem DD.up (D:DD t ds):∀(k j:Nat),j+k+1=t.size->∀x∈up t 0 j [],ds.getD j 0<=ds.getD x 0:=λk=>by
 induction k using Bl with
 | ind k ih=>
  intro j hk x hx;rcases fN t 0 j .aD [] ∅ with⟨_,_,e⟩ | ⟨a,ja,at',ea,e⟩
  ·rw [e,Ax] at hx;rw [Bk.mp hx];exact BU _
  ·rw [e,Ax] at hx;rcases Aw.mp hx with rfl | hx
   ·exact BU _
   ·have h1:=ih (t.size-a-1) ∅ a ∅ x hx;rcases eL t 0 j .aD ∅ with⟨_,e3⟩ | ⟨a3,u3,v3,_,h3,e3,ep3,ND⟩
    ·rw [e3] at ea;cases ea
    ·rw [e3] at ea;injection ea with ea;rw [Ax] at ea ND;have:a3=a:=by omega
     subst this;have:=D.pair a3 u3 v3 h3 ep3;rcases ND with rfl | rfl <;> omega
theorem DD.apart (D:DD t ds) (hj:j < t.size) (hk:k < t.size) (sj:ym t ds b j=true) (sk:ym t ds b k=true) (ne:k≠j):k∉My.up t 0 j []:=λhx=>by
 obtain⟨_,s2⟩:=(d3 hj).mp sj;obtain⟨k1,_⟩:=(d3 hk).mp sk;rcases fN t 0 j .aD [] hj with⟨_,_,e⟩ | ⟨a,ja,at',ea,e⟩
 ·rw [e,Ax] at hx;exact ne (Bk.mp hx)
 ·rw [e,Ax] at hx;rcases Aw.mp hx with h | hx
  ·exact ne h
  ·have h1:=D.up (t.size-a-1) a ∅ k hx;have h2:=s2 a (by rw [ea,Ax]);omega
def O8 (L:List (Nat×Nat)) (i:Nat):Nat:=(L.map (·.1)).getD i 0
def G4 {L:List (Nat×Nat)} (h:L[i]?=am p):O8 L i=p.1:=by
 unfold O8;rw [Af,Aj,h];rfl
theorem NH (D:DD t ds) (hz:t.size<=15):Hm (dS t ds (az t ds)) (gS t) (O8 (ay t ds (az t ds) (az t ds).length)) id:=by
 have ok:=D.ok;have ß:=@bC t ds (az t ds) (az t ds).length;have apart:=λb j k=>D.apart (b:=b) (j:=j) (k:=k);unfold okD at ok;have hS:∀i p,(ay t ds (az t ds) (az t ds).length)[i]?=am p->sy (dS t ds (az t ds)) i=⟨wj (en t 0 p.1) p.1,p.2,(qk (en t 0 p.1) p.1 (ds.getD p.1 0) ((az t ds).getD p.2 0)).map λx=>(ay t ds (az t ds) (az t ds).length).idxOf (x,p.2-1),RV (ay t ds (az t ds) (az t ds).length) p.1 p.2⟩:=λi p hp=>by
  unfold sy dS;rw [Af,Aj,hp];rfl
 have hL:(dS t ds (az t ds)).length=(ay t ds (az t ds) (az t ds).length).length:=OD t ds _;generalize ay t ds (az t ds) (az t ds).length=L at *;have get:∀i,i < (dS t ds (az t ds)).length->∃p,L[i]?=am p/\p∈L:=λi hi=>by
  rw [hL] at hi;exact⟨L[i],Ad hi,Ca hi⟩
 refine⟨λi hi=>?_,λi hi=>?_,(bA (show t.size<=30 by omega)).dn,λi hi o ho=>?_,λi hi w hw=>?_⟩ <;> obtain⟨⟨j,n⟩,hp,hmL⟩:=get i hi <;> obtain⟨nl,hj,sj⟩:=ß.mp hmL <;> rw [G4 hp]
 ·rw [eI];exact hj
 ·have okp:=ok _ hmL;rw [hS i _ hp,gq t hj];have fx:∀x,x∈qk (en t 0 j) j (ds.getD j 0) ((az t ds).getD n 0)->O8 L (L.idxOf (x,n-1))=x:=λx hx=>G4 (pH (okp x hx).2);revert fx;show (∀x,x∈qk (en t 0 j) j (ds.getD j 0) ((az t ds).getD n 0)->O8 L (L.idxOf (x,n-1))=x)->(∃u,(qk (en t 0 j) j (ds.getD j 0) ((az t ds).getD n 0)).map (λx=>L.idxOf (x,n-1))=[u]/\O8 L u=j)\/yo (en t 0 j)=((qk (en t 0 j) j (ds.getD j 0) ((az t ds).getD n 0)).map λx=>L.idxOf (x,n-1)).map (O8 L)\/yo (en t 0 j)=(((qk (en t 0 j) j (ds.getD j 0) ((az t ds).getD n 0)).map λx=>L.idxOf (x,n-1)).map (O8 L)).reverse;unfold qk
  split
  ·exact λfx=>.inl ⟨_,rfl,fx j (.head _)⟩
  ·cases en t 0 j with
   | word w=>exact λ_=>.inr (.inl rfl)
   | pair x y=>
    intro fx
    right;left
    show [x,y]=[O8 L (L.idxOf (x,n-1)),O8 L (L.idxOf (y,n-1))];rw [fx x (by simp),fx y (by simp)]
 ·rw [hS i _ hp] at ho;obtain⟨⟨k,m⟩,hx,rfl⟩:=Av.mp (show o∈RV L j n from ho);obtain⟨xL,h2⟩:=AR.mp hx;simp at h2;obtain⟨rfl,kj⟩:=h2;obtain⟨_,hk,sk⟩:=ß.mp xL;rw [G4 (pH xL),gq t hj];refine AR.mpr ⟨AW.mpr hk,?_⟩;have a1:=apart _ _ _ hj hk sj sk kj;have a2:=apart _ _ _ hk hj sk sj (BE kj);simp [a1,a2]
 ·unfold hm at hw ⊢;rw [hS i _ hp] at hw;rw [gq t hj];revert hw;show ((((qk (en t 0 j) j (ds.getD j 0) ((az t ds).getD n 0)).map λx=>L.idxOf (x,n-1)).isEmpty&&zE w (wj (en t 0 j) j))=true)->((yo (en t 0 j)).isEmpty&&zE w (wj (en t 0 j) j))=true;unfold qk
  split
  ·intro h;cases h
  ·cases en t 0 j with
   | word x=>exact id
   | pair x y=>intro h;cases h
end
theorem LH:∀ns l Q,gz ns->((cn 1 bQ) l).run Q->((λlo l=>cn 1 (dm lo) l) (ns.map PV.int) l).run λt=>Q t.1/\∃zb:List Int,t.2=zb.map PV.int/\gz zb:=by
 rintro ns l Q ⟨g,s,c,rfl,g0,s0,s1,c0⟩ q
 match l,q with
 | [],q=>exact q.elim
 | _::_::_,q=>exact q.elim
 | [x],q=>
  show (dm _ x).run _;have q:=q;cases x with
  | int m=>
   obtain⟨⟨m0,m1⟩,q⟩:=q;have q:∀d:Int,0<=d->d < m->Q (.int d):=λd h0 h1=>q _ ⟨d,rfl,h0,h1⟩;unfold dm;generalize hA:(2147483647:Int)=A;generalize hB:(2147483629:Int)=B;generalize hD:(40009:Int)=D;have A0:0 < A:=by omega
   have B0:0 < B:=by omega
   have D0:0 < D:=by omega
   have e1:wS s 48271:=mulR ∅;have nx:∀N,N=(s*48271+12345+(c+1)) % A->(wS N (N % D+3))/\((Q (PV.int (N*(N % D+3) % B / 7 % m))))/\∃zb:List Int,[PV.int g,PV.int N,PV.int (c+1)]=zb.map PV.int/\gz zb:=λN hN=>by
    have N0:0<=N:=by rw [hN];exact Cz _ ∅
    have N1:N < A:=by rw [hN];exact Cd _ A0
    exact⟨SN ∅ ∅,q _ (Cz _ ∅) (Cd _ m0),[g,N,c+1],rfl,_,_,_,rfl,g0,N0,by omega,by omega⟩
   obtain⟨k1,k2,k3⟩:=nx _ rfl;by_cases hg:0 < g
   ·by_cases hc:c+1<=60
    ·simp [dD,tq,hg,hc,m0,jT,Lh];refine⟨by omega,q _ (Cz _ ∅) (Cd _ m0),[g / m,s,c+1],rfl,_,_,_,rfl,Int.ediv_nonneg g0 ∅,s0,s1,by omega⟩
    ·simp [dD,tq,hg,hc,m0,jT,e1,A0,B0,D0,Lh];exact⟨k1,k2,k3⟩
   ·simp [dD,tq,hg,m0,jT,e1,A0,B0,D0,Lh];exact⟨k1,k2,k3⟩
  | _=>exact q.elim
theorem NQ {k:Int} (k0:0<=k) (k1:k<=1000) (q:∀l,(∃ms:List Int,l=ms.map PV.int/\gz ms)->Q l):(eZ (.cl (ns.map PV.int)) (.int k)).run Q:=by
 unfold eZ;generalize hA:(2147483647:Int)=A;generalize hB:(2147483629:Int)=B;have A0:0 < A:=by omega
 have B0:0 < B:=by omega
 have fin:∀x:Int,((PV.int x)\λkD=>ap (b2 oW (c1 Fz (bd kD)) (c1 HG (b2 oGe (c1 Fz (bd kD)) (b2 MK (bd (.int 10)) (bd (.int 18)))))) λfq=>
  (fq\λx3=>ap (b2 oMod (b2 oW (w2 addW (w2 addW (b2 oMod (bd kD) (bd (.int B))) (b2 oW (b2 oW (bd (.int 7919)) (bd (.int k))) (bd (.int k)))) (bd (.int 11))) (bd (.int 48271))) (bd (.int A))) λx4=>(.int 0)\λx5=>bd [x3,x4,x5])).run Q:=by
  intro x;have p2:O2 10 18:=⟨by decide,by decide,by decide⟩;simp only [ga,V3,Oa,nw p2,Ob,Oc,ZI,RC,d8,W.OE,W.PY,gl,nw (mulL (show -1000000000<=(7919:Int)/\(7919:Int)<=1000000000 by decide)),nw A0,nw B0];refine⟨?_,mulR ∅,mulR ∅,?_⟩
  ·split
   ·exact mulR ∅
   ·exact mulR ∅
  ·refine q _ ⟨[_,_,_],rfl,_,_,_,rfl,Int.mul_nonneg (Wq _) ?_,Cz _ ∅,by have:=Cd ((x % B+7919*k*k+11)*48271) A0;omega,BU _⟩
   split <;> split <;> decide
 by_cases ig:k < (ns.length:Int)
 ·obtain⟨v,e,e2⟩:=OQ (xs:=ns.map PV.int) k0 (by rw [Ai];exact ig);rw [Aj] at e2;obtain⟨c,rfl⟩:∃c,v=.int c:=by
   cases z:ns[k.toNat]? with
   | none=>rw [z] at e2;cases e2
   | some c=>rw [z] at e2;exact⟨c,(Option.some.inj e2).symm⟩
  simp only [ga,fy,zQ,Ai,ig,decide_true,bX,if_true,cy,ck,e,BT];exact fin c
 ·simp only [ga,fy,zQ,Ai,ig,decide_false,bX,Aq,if_false];exact fin 0
def YD (h:x∈[PV.str "",PV.str "",PV.str "a",PV.str "zq",PV.str "mnopqrs"]):∃y:Str,x=.str y/\Part y 7:=by
 simp at h;rcases h with rfl | rfl | rfl | rfl
 ·exact⟨"",rfl,by decide +kernel,by decide +kernel⟩
 ·exact⟨"a",rfl,by decide +kernel,by decide +kernel⟩
 ·exact⟨"zq",rfl,by decide +kernel,by decide +kernel⟩
 ·exact⟨"mnopqrs",rfl,by decide +kernel,by decide +kernel⟩
def YE (h:x∈[PV.int 1,PV.int 3,PV.int 5,PV.int 7,PV.int 9,PV.int 11]):∃st:Int,x=.int st/\(st=1\/st=3\/st=5\/st=7\/st=9\/st=11):=by
 simp at h;rcases h with rfl | rfl | rfl | rfl | rfl | rfl <;> exact⟨_,rfl,by decide⟩
theorem Lv {c:Nat} (b:Part y 7) (h0:97<=c) (h1:c < 123):Wd ((⟨#[c]⟩:Str)++y):=by
 have hl:((⟨#[c]⟩:Str)++y).length=1+y.length:=by rw [Str.length_append];rfl
 have:=b.1;refine⟨by omega,by omega,λd hd=>?_⟩;have e:((⟨#[c]⟩:Str)++y).cps.toList=c::y.cps.toList:=by
  show ((⟨#[c]⟩:Str).cps++y.cps).toList=_;simp
 rw [e] at hd;rcases Aw.mp hd with rfl | hd
 ·exact⟨h0,h1⟩
 ·exact b.2 d hd
theorem qQ (m1:m<=26) (q:∀ws:List Str,ws.length=m->(∀x∈ws,Wd x)->ws.Nodup->(ws.map λx=>x.cps[0]?).Nodup->Q (ws.map PV.str)):(bV (.int m)).run Q:=by
 unfold bV;simp only [ga,cr,c6 26 ⋯ ⋯];refine bB λd a b=>?_;refine pick_run (by simp) (by simp) λx hx=>?_;obtain⟨st,rfl,pj⟩:=YE hx;simp only [gl,pC];refine pick_run (by simp) (by simp) λy hy=>?_;obtain⟨tl,rfl,ht⟩:=YD hy;simp only [fw,nw (cD (i:=0) (j:=(m:Int)) ∅ ∅),gl,Bp];rw [pe]
 let w:Nat->Str:=λk=>⟨#[97+((d+st*(0+(k:Int))) % 26).toNat]⟩++tl
 refine Ki (λk=>.str (w k)) (λk hk=>?_) ?_
 ·have e0:0<=(d+st*(0+(k:Int))) % 26:=Cz _ ⋯;have e1:(d+st*(0+(k:Int))) % 26 < 26:=Cd _ ⋯;have e2:(d+st*(k:Int))=d+st*(0+(k:Int)):=by rw [Ex]
  have c1:wS st (k:Int):=mulL ∅;have c2:("abcdefghijklmnopqrstuvwxyz":Str).length<=sizeLine:=by decide +kernel
  have c3:(⟨#[97+((d+st*(0+(k:Int))) % 26).toNat]⟩:Str).length+tl.length<=sizeLine:=bS (by have:=ht.1;show 1+tl.length<=1000;omega);simp only [ga,Ob,nw c1,d8,Oc,nw (show (0:Int) < 26 by decide),e2,V2 _ _ (Km e0 e1),nw c2,RE,nw c3];rfl
 ·have e:(AG m).map (λk=>PV.str (w k))=((AG m).map w).map PV.str:=by rw [AN];rfl
  have nd:(((AG m).map w).map λx=>x.cps[0]?).Nodup:=by
   have:=tP (d:=d) pj m1;rw [AN];have e2:((λx:Str=>x.cps[0]?)∘w)=λk:Nat=>am (97+((d+st*(0+(k:Int))) % 26).toNat):=by
    funext k;show ((⟨#[97+((d+st*(0+(k:Int))) % 26).toNat]⟩:Str).cps++tl.cps)[0]?=_;rw [Array.getElem?_append_left (by simp)];rfl
   rw [e2];exact this
  rw [e];refine q _ (by simp) (λx hx=>?_) (wg (g:=λx:Str=>x.cps[0]?) nd) nd;obtain⟨k,_,rfl⟩:=Av.mp hx;have e0:0<=(d+st*(0+(k:Int))) % 26:=Cz _ ⋯;have e1:(d+st*(0+(k:Int))) % 26 < 26:=Cd _ ⋯;exact Lv ht ∅ ∅
def Mr (h:l[j]?=am v) (hl:l.length<=1000):vX l (.int (j:Int))=.ret (l.eraseIdx j,v):=by
 have hj:=(Al.mp h).1;unfold vX;simp only [Jg hj,BT,ga,h,nw (bS hl)]
def N2 {l:List Tr}{x p y:Tr} (h:l[j]?=am y) (hp:p.av.Perm (x.av++y.av)):((l.set j p).flatMap Tr.av).Perm (x.av++l.flatMap Tr.av):=by
 induction l generalizing j with
 | nil=>simp at h
 | cons a l ih=>cases j with
  | zero=>
   simp at h;subst h;simp only [List.set_cons_zero,C6];rw [<- AL];exact hp.append_right _
  | succ j=>
   simp only [List.set_cons_succ,C6];have:=(ih (j:=j) (by simpa using h)).append_left a.av;refine this.trans ?_;rw [<- AL,<- AL];exact CC.append_right _
def Hf {l:List Tr}{x:Tr} (h:l[j]?=am x):(x.av++(l.eraseIdx j).flatMap Tr.av).Perm (l.flatMap Tr.av):=by
 induction l generalizing j with
 | nil=>simp at h
 | cons a l ih=>cases j with
  | zero=>simp at h;subst h;simp
  | succ j=>
   simp only [Cr,C6];have:=(ih (j:=j) (by simpa using h)).append_left a.av;refine List.Perm.trans ?_ this;rw [<- AL,<- AL];exact CC.append_right _
def Kj {l:List Tr}:(l.map Tr.pv).eraseIdx j=(l.eraseIdx j).map Tr.pv:=by
 induction l generalizing j with
 | nil=>simp
 | cons a l ih=>cases j with
  | zero=>simp
  | succ j=>simp [ih]
theorem rV (hw:ws≠[]) (h8:ws.length<=100) {Q:PV->Prop} (q:∀t:Tr,t.av.Perm ws->Q t.pv):(cE (.cl (ws.map PV.str))).run Q:=by
 have hp:0 < ws.length:=Co.mpr hw;unfold cE;simp only [ga,cr,cy,gl,xu,xq,Ai,fw,nw (cD (i:=0) (j:=(ws.length:Int)-1) ∅ ∅)];refine nQ (λi s=>∃ts:List Tr,s=ts.map Tr.pv/\ts.length+i=ws.length/\(ts.flatMap Tr.av).Perm ws) ⟨ws.map Tr.leaf,by simp [Tr.pv],by simp,?_⟩ ?_ ?_
 ·rw [List.flatMap_map];have:ws.flatMap (λx=>(Tr.leaf x).av)=ws:=by simp [Tr.av,List.flatMap_singleton']
  rw [this]
 ·rintro i s hi ⟨ts,rfl,hl,hp⟩;have h2:2<=ts.length:=by omega
  simp only [ga,cr,xu,Ai,c6 (ts.length:Int) ∅ ∅,gl];refine bB λd d0 d1=>?_;obtain⟨j,rfl⟩:∃j:Nat,d=(j:Int):=⟨d.toNat,by omega⟩;obtain⟨x,hx⟩:∃x,ts[j]?=am x:=⟨_,Ad ∅⟩;have ĝ:(ts.eraseIdx j).length=ts.length-1:=by rw [EZ];simp;omega
  simp only [Mr (l:=ts.map Tr.pv) (v:=x.pv) (by rw [Aj,hx];rfl) (by rw [Ai];omega),gl,Kj,xu,Ai,ĝ,c6 ((ts.length-1:Nat):Int) ∅ ∅];refine bB λe e0 e1=>?_;obtain⟨m,rfl⟩:∃m:Nat,e=(m:Int):=⟨e.toNat,by omega⟩;obtain⟨y,hy⟩:∃y,(ts.eraseIdx j)[m]?=am y:=⟨_,Ad ∅⟩;have i0:dD ((ts.eraseIdx j).map Tr.pv) (m:Int)=am y.pv:=eg (by rw [Aj,hy];rfl);have hm:m < ((ts.eraseIdx j).map Tr.pv).length:=by rw [Ai,ĝ];omega
  simp only [ga,ck,i0,BT,gl,c6 2 ⋯ ⋯];refine bB λf _ _=>?_;have fin:∀p:Tr,p.av.Perm (x.av++y.av)->(jT ((ts.eraseIdx j).map Tr.pv) (.int (m:Int)) p.pv).run λs=>∃ts:List Tr,s=ts.map Tr.pv/\ts.length+(i+1)=ws.length/\(ts.flatMap Tr.av).Perm ws:=λp Ĕ=>by
   rw [mT hm];exact⟨(ts.eraseIdx j).set m p,by rw [Er],by rw [BR,ĝ];omega,(N2 hy Ĕ).trans ((Hf hx).trans hp)⟩
  simp only [mq,bX,gl];cases c:f==0 with
  | true=>exact fin (.node x y) (List.Perm.refl _)
  | false=>
   simp only [Aq,if_false,ga,sD,xr,Js,cr,gl];exact fin (.node y x) CC
 ·rintro s ⟨ts,rfl,hl,hp⟩
  match ts,hl,hp with
  | [],hl,_=>simp at hl;omega
  | [t],_,hp=>
   have:t.av.Perm ws:=by simpa using hp
   exact q t this
  | _::_::_,hl,_=>simp at hl;omega
end My
variable {Q:PL.PV->Prop}
namespace My
open PySem PySem.Spec PyProof.Rows L2 PL FL
theorem G7 {n:Int} (n0:0 < n) (n1:n<=8) (q:∀(t:Tr) (ws:List Str),FQ t->t.av.Perm ws->Q (.tup [t.pv,.cl (ws.map PV.str)])):(cR (.int n)).run Q:=by
 unfold cR;simp only [ga,cr,c6 n n0 ∅];refine bB λk k0 k1=>?_;obtain⟨m,hm⟩:∃m:Nat,1+k=(m:Int):=⟨(1+k).toNat,by omega⟩;simp only [d8,gl,hm];refine qQ ∅ λws hl hw hd hb=>?_;refine rV (λz=>by rw [z] at hl;simp at hl;omega) ∅ λt ht=>?_;exact q t ws ⟨λx hx=>hw x (ht.mem_iff.mp hx),ht.nodup_iff.mpr hd,by rw [ht.length_eq,hl];omega,0,by decide,(ht.map _).nodup_iff.mpr hb⟩ ht
theorem qW (hw:ws≠[]) (h8:ws.length<=100) {n:Int} (n0:0 < n) (n1:n<=10) (q:∀s:Tr,(∀w∈s.av,w∈ws)->s.av.length<=n->Q s.pv):(bW (.cl (ws.map PV.str)) (.int n)).run Q:=by
 unfold bW;simp only [ga,cr,c6 n n0 ∅];refine bB λk k0 k1=>?_;obtain⟨m,hm⟩:∃m:Nat,1+k=(m:Int):=⟨(1+k).toNat,by omega⟩;simp only [d8,gl,hm,fw,nw (cD (i:=0) (j:=(m:Int)) ∅ ∅),Bp];refine zj (S:=λv=>∃w∈ws,v=PV.str w) (λx _ R r=>pick_run (by simpa using hw) (by rw [Ai];omega) λv hv=>r v (let ⟨w,h1,h2⟩:=Av.mp hv;⟨w,h1,h2.symm⟩)) λms hl hs=>?_;obtain⟨us,rfl,hu⟩:=Il hs;rw [iJ,Ai] at hl;exact rV (λz=>by rw [z] at hl;simp at hl;omega) ∅ λs hp=>q s (λw h=>hu w (hp.mem_iff.mp h)) (by rw [hp.length_eq];omega)
theorem mh:∀(n:Nat) (t:Tr),t.depth < n->t.size<=400->(aX n t.pv).le (.ret ((t.nd 0).map Ent.pv))
 | 0,_,h,_=>by omega
 | n+1,.leaf w,_,_=>λQ q=>by
  unfold aX;simp [Tr.pv];exact q
 | n+1,.node a b,h,hz=>λQ q=>by
  have hs:(Tr.node a b).size=a.size+b.size+1:=rfl;have hpa:=a.size_pos;have hpb:=b.size_pos;have hd:a.depth < n/\b.depth < n:=by simp [Tr.depth] at h;omega
  unfold aX;have i0:dD [a.pv,b.pv] 0=am a.pv:=rfl;have i1:dD [a.pv,b.pv] 1=am b.pv:=rfl;simp only [Tr.pv,ga,cr,gR,gQ,cZ,Aq,if_false,aE,ck,i0,i1,BT];refine W.le.use (mh n a hd.1 ∅) ?_;simp only [gl];refine W.le.use (mh n b hd.2 ∅) ?_;simp only [gl,cy];refine gP (λi s=>s=(((b.nd 0).take i).map (Ui a.size)).map Ent.pv) (by simp) (λi x s hx hs=>?_) (λs hs=>?_)
  ·subst hs;rw [Aj] at hx;cases e:(b.nd 0)[i]? with
   | none=>rw [e] at hx;cases hx
   | some en=>
    rw [e] at hx;have ex:=Option.some.inj hx;subst ex;have hi:i < b.size:=by have:=(Al.mp e).1;rw [b.a9] at this;exact this
    have et:(b.nd 0).take (i+1)=(b.nd 0).take i++[en]:=by rw [EX,e];rfl
    have al:∀y,kF ((((b.nd 0).take i).map (Ui a.size)).map Ent.pv) y=.ret ((((b.nd 0).take i).map (Ui a.size)).map Ent.pv++[y]):=λy=>gr (by simp;omega);cases en with
    | word w=>
     simp only [Ent.pv,ga,cr,qF,qE,cZ,al,gl,et,CA,Aq,if_false];simp [Ui,Ent.pv]
    | pair u v=>
     have j0:dD [PV.int (u:Int),PV.int (v:Int)] 0=am (.int u):=rfl;have j1:dD [PV.int (u:Int),PV.int (v:Int)] 1=am (.int v):=rfl;simp only [Ent.pv,ga,cr,gR,gQ,cZ,D2,if_true,aE,ck,j0,j1,BT,d8,fy,Ai,a.a9,al,gl,et];simp [Ui,Ent.pv]
  ·subst hs;rw [Ep (by rw [Ai];exact An _)];have es:(b.nd 0).map (Ui a.size)=b.nd a.size:=by rw [<- Gu b 0 a.size,Ax]
   rw [es];simp only [ga,cr,jo,xq,fy,d8,Ai,a.a9,b.a9,gl,hX (l:=(a.nd 0).map Ent.pv) (m:=(b.nd a.size).map Ent.pv) (by simp [a.a9,b.a9];omega)];rw [hX (by simp [a.a9,b.a9];omega)];have e:(Tr.node a b).nd 0=a.nd 0++b.nd a.size++[.pair (a.size-1) (a.size+b.size-1)]:=by rw [Tr.nd];simp
   rw [e] at q;have e1:((a.size:Int)-1)=((a.size-1:Nat):Int):=by omega
   have e2:((a.size:Int)+(b.size:Int)-1)=((a.size+b.size-1:Nat):Int):=by omega
   rw [e1,e2];simpa [Ent.pv] using q
def P1 (h:j∈left):Uq (aO left) (.int (j:Int))=.ret (aO (left.erase j)):=by
 show ap (lS (aO left)) _=_;rw [uK,fJ];show W.eQ _ _=_;rw [nw (Av.mpr ⟨j,h,rfl⟩),sE,<- uK]
def MY {l:List Nat} (h:(aO l)[i]?=am x):∃k,l[i]?=am k/\x=.int (k:Int):=by
 unfold aO at h;rw [Aj] at h;cases e:l[i]? with
 | none=>rw [e] at h;cases h
 | some k=>rw [e] at h;exact⟨k,rfl,(Option.some.inj h).symm⟩
theorem Hy (t:Tr) (hz:t.size<=400) (hd:t.depth < 12) (q:∀ds d,Dt t ds [] d->d<=13*((splits t).length:Int)->Q (.tup (a7 ds))):(cS t.pv).run Q:=by
 unfold cS;have e1:P0 [PV.int 0] (.int ((t.nd 0).map Ent.pv).length)=.ret (a7 (Am t.size 0)):=by
  rw [VY,nw ⟨by omega,by rw [Ai,t.a9];omega,bS (by simp [t.a9];omega)⟩];congr 1;rw [Ai,t.a9,Bp]
  induction t.size with
  | zero=>rfl
  | succ n ih=>rw [Bz,B6,ih];rfl
 have e3:((t.nd 0).map Ent.pv).length<=sizeLine:=bS (by rw [Ai,t.a9];omega);simp only [ga,cr];refine W.le.use (mh 12 t hd hz) ?_;simp only [ga,fy,e1,cy,nw e3,gl];refine YF QR (λx hx=>?_) ?_
 ·rw [Ju] at hx;obtain⟨j,hj,rfl⟩:=Av.mp hx;cases en t 0 j with
  | word w=>simp [Ent.pv,QR]
  | pair u v=>simp [Ent.pv,QR]
 rw [Vb t];have hsl:(splits t).length<=t.size:=by
  have:=IA (splits t) 0 t.size (Dt.first t).ris λx hx=>⟨Bg _,((Dt.first t).WK x hx).1⟩;omega
 simp only [gl,xu,f9,fw,nw (cD (i:=0) (j:=((splits t).length:Int)) ∅ ∅),Bp];refine nQ (λi s=>∃(ds:List Int) (left:List Nat) (d:Int),s=(a7 ds,PV.int d,aO left)/\left.length+i=(splits t).length/\Dt t ds left d/\d+13*(left.length:Int)<=13*((splits t).length:Int)) ⟨_,_,0,rfl,rfl,Dt.first t,by omega⟩ ?_ ?_
 ·rintro i s hi ⟨ds,left,d,rfl,hl,D,hd⟩;have he:left≠[]:=λz=>by rw [z] at hl;simp at hl;omega
  have Y8:left.length<=t.size:=by omega
  simp only [ga,cr,gl];refine gP (λi s=>s=aO ((left.take i).filter (Li t left))) (by simp [aO]) (λi x s hx hs=>?_) (λs hs=>?_)
  ·obtain⟨k,hk,rfl⟩:=MY hx;subst hs;have hkm:=Bt hk;have et:left.take (i+1)=left.take i++[k]:=by rw [EX,hk];rfl
   have WU:=(Al.mp hk).1;have fl:((left.take i).filter (Li t left)).length<=i:=by
    have:=BC (Li t left) (left.take i);have:=List.length_take_le i left;omega
   have al:kF (aO ((left.take i).filter (Li t left))) (.int (k:Int))=.ret (aO ((left.take i).filter (Li t left))++[.int (k:Int)]):=gr (by rw [f9];omega);obtain⟨h1,h2⟩:=D.WK k hkm;cases e:en t 0 k with
   | word w=>rw [e] at h2;cases h2
   | pair a b=>
    have j0:dD [PV.int (a:Int),PV.int (b:Int)] 0=am (.int a):=rfl;have j1:dD [PV.int (a:Int),PV.int (b:Int)] 1=am (.int b):=rfl;have hr:Li t left k=(!decide (a∈left)&&!decide (b∈left)):=by unfold Li;rw [e]
    rw [et,D1];simp only [ga,cy,ck,U4 t h1,e,Ent.pv,BT,aE,j0,j1,Nx,if_true];by_cases ca:a∈left
    ·simp [ca,hr,aO]
    ·by_cases cb:b∈left
     ·simp [ca,cb,hr,aO]
     ·simp [ca,cb,hr,al]
  ·subst hs;rw [f9,List.take_length];have ne:=D.X2 he;refine pick_run ne (by rw [f9];have:=BC (Li t left) left;omega) λx hx=>?_;obtain⟨j,hj,rfl⟩:=Av.mp hx;obtain⟨VI,VH⟩:=AR.mp hj;obtain⟨js,jp⟩:=D.WK j VI;cases ej:en t 0 j with
   | word w=>rw [ej] at jp;cases jp
   | pair a b=>
   unfold Li at VH;rw [ej] at VH;simp at VH;simp only [d8,gl,c6 12 ⋯ ⋯,ga];refine bB λy y0 y1=>?_;simp only [d8,gl,mT (l:=a7 ds) (k:=j) (by rw [d7,D.len];exact js),P1 VI,Nw,ga];refine⟨_,left.erase j,_,rfl,by rw [Ee VI];have:=Et VI;omega,D.next VI ej VH.1 VH.2 y0,?_⟩;rw [Ee VI];have:=Et VI;omega
 ·rintro s ⟨ds,left,d,rfl,hl,D,hd⟩;have:left=[]:=B4 ∅;subst this;simp;exact q ds d D (by simpa using hd)
theorem yS (q:∀ps:List Int,ps.length=4->(∀p∈ps,0<=p)->Q (.tup (a7 ps))):cA.run Q:=by
 unfold cA;have p2:O2 10 28:=⟨by decide,by decide,by decide⟩;simp only [ga,cr,gl,fw,nw (cD (i:=0) (j:=4) ∅ ∅)];refine nQ (n:=4) (λi s=>∃ps:List Int,s=a7 ps/\ps.length=i/\∀p∈ps,0<=p) ⟨[],rfl,rfl,by simp⟩ ?_ ?_
 ·rintro i s hi ⟨ps,rfl,hl,hp⟩;simp only [ga,cr,gl,c6 10 ⋯ ⋯];refine bB λa a0 a1=>?_;simp only [c6 1001 ⋯ ⋯];refine bB λb b0 b1=>?_;simp only [jo,gl,Oa,nw p2,c6 1000 ⋯ ⋯];refine bB λc c0 c1=>?_;simp only [d8,gl];rw [hX (by simp)];refine pick_run (by simp) (by simp) λx hx=>?_;have ą:(0:Int)<=10 ^ Int.toNat 28:=by decide +kernel
  obtain⟨v,rfl,hv⟩:∃v:Int,x=.int v/\0<=v:=by
   simp at hx;rcases hx with rfl | rfl | rfl | rfl | rfl | rfl | rfl | rfl | rfl
   all_goals first | exact⟨_,rfl,by omega⟩ | exact⟨_,rfl,by have:=ą;simp at this;omega⟩
  rw [gr (by rw [d7];omega)];exact⟨ps++[v],by simp [a7],by simp [hl],λp h=>by rcases Bm.mp h with h | h;exact hp p h;rw [Bk.mp h];exact hv⟩
 ·rintro s ⟨ps,rfl,hl,hp⟩;exact q ps hl hp
end My
variable {ps:List Int}{d:BB}
namespace My
open PySem PySem.Spec PyProof.Rows L2 PL FL
abbrev OI:=Option Int
def oP:OI->PV
 | none=>.aD
 | some i=>.int i
def yn (l:List OI):List Int:=l.filterMap id
def gw (l:List OI):OI:=if bm∈l then bm else am (yn l).sum
def gB (l:List OI):OI:=if yn l=[] then bm else am (nk (yn l))
theorem IL:∀{l:List OI},bm∉l->l.map oP=(yn l).map PV.int
 | [],_=>rfl
 | none::l,h=>absurd (.head _) h
 | some a::l,h=>by
  have:=IL (l:=l) λz=>h (.tail _ z);rw [Au,this];rfl
def VT (l:List OI):(l.map oP).filterMap (λx=>if x matches .aD then bm else am x)=(yn l).map PV.int:=by
 induction l with
 | nil=>rfl
 | cons a l ih=>cases a with
  | none=>rw [Au,A6];exact ih
  | some i=>rw [Au,A6];exact congrArg _ ih
def Vv (l:List OI):qg false .aD (l.map oP)=.ret (decide (bm∈l)):=by
 have h0:∀x∈l.map oP,PV.jm x=true/\PV.gC x<=150:=λx hx=>by
  obtain⟨o,_,rfl⟩:=Av.mp hx;cases o <;> simp [oP]
 have h1:G1 .aD (l.map oP):=⟨by simp,iL.mpr λx hx=>(h0 x hx).1,iM λx hx=>(h0 x hx).2⟩;have h2:lz .aD (l.map oP)=decide (bm∈l):=by
  unfold lz;rw [Fg];clear h0 h1
  induction l with
  | nil=>rfl
  | cons a l ih=>
   rw [Cn,ih];cases a <;> simp [oP,jn]
 unfold qg;rw [nw h1,h2];simp
def oH (l:List OI):iE (.cl (l.map oP))=.ret (oP (gw l)):=by
 unfold iE gw;simp only [ga,cy,Vv];by_cases h:bm∈l
 ·simp [h,oP]
 ·rw [if_neg h];simp only [h,decide_false,Aq,if_false,jo,ga,IL h,Ij,fJ];rfl
def IU (l:List OI):IV ((yn l).map PV.int)=.ret (oP (gB l)):=by
 unfold IV gB;rw [fJ,ga]
 split <;> rfl
def sP (l:List OI):(mH (l.map oP) λp2=>O7 (ap (of2 uI p2 .aD) Z4) (bd p2))=.ret ((yn l).map PV.int):=by
 rw [<- VT];refine wD λx hx=>?_;obtain⟨o,_,rfl⟩:=Av.mp hx;cases o <;> simp [oP,PV.kl]
def Fx (l:List OI):cQ (.cl (l.map oP))=.ret (oP (gB l)):=by
 unfold cQ;simp only [ga,cy,sP,IU]
def xR (l:List OI):cQ (.tup (l.map oP))=.ret (oP (gB l)):=by
 unfold cQ;simp only [ga,aE,sP,IU]
def Kg {a b:List Int} (h:a.Perm b):nk a=nk b:=by
 by_cases c:a=[]
 ·subst c;rw [List.nil_perm.mp h]
 ·have c2:b≠[]:=λz=>c (by subst z;exact List.perm_nil.mp h);exact EH (qx (h.mem_iff.mpr (nj c2))) (qx (h.mem_iff.mp (nj c)))
def uL {a b:List OI} (h:a.Perm b):gB a=gB b:=by
 have h2:(yn a).Perm (yn b):=h.filterMap _;unfold gB;rw [Kg h2];have:(yn a=[])=(yn b=[]):=propext ⟨λz=>List.nil_perm.mp (z▸h2),λz=>List.perm_nil.mp (z▸h2)⟩;simp only [this]
def OC (l:List OI):ug (l.map oP)=true:=Fw.mpr λx hx=>by
 obtain⟨o,_,rfl⟩:=Av.mp hx;cases o <;> (rw [oP,PV.dat] <;> simp)
def Wa (d:Str):Nat:=if d="split" then 0 else if d="doubled" then 1 else 2
def vW (ps:List Int) (d:Str):Int:=ps.getD (Wa d) 0
theorem V9 (d:Str):Wa d < 3:=by unfold Wa;split;omega;split <;> omega
theorem OO (h:ps.length=4) (hk:k < 4):dD (a7 ps) (k:Int)=am (.int (ps.getD k 0)):=eg (by
 unfold a7;rw [Aj,Ad ∅,Af,Ad ∅];rfl)
def Vu (d:Str):Prop:=d="split"\/d="doubled"\/d="over"
def Jh:qg false (.str d) ([("split":Str),("doubled":Str),("over":Str)].map PV.str)=.ret (decide (d∈[("split":Str),("doubled":Str),("over":Str)])):=by
 unfold qg;rw [nw ⟨by simp,by simp [eJ],by simp [dB]⟩];congr 1;simp only [lz,Au,Es,Cn,List.any_nil,N7,Bool.or_false,Aq,if_false];have e:∀a:Str,(a==d)=decide (d=a):=λa=>by
  by_cases c:a=d
  ·subst c;simp
  ·have c2:¬d=a:=λz=>c z.symm;simp [c,c2]
 simp [e,Aw]
theorem Mq (h:ps.length=4) (hd:Vu d):dJ (.tup (a7 ps)) (.str d)=.ret (.int (vW ps d)):=by
 unfold dJ;have hm:d∈[("split":Str),("doubled":Str),("over":Str)]:=by rcases hd with rfl | rfl | rfl <;> simp
 have hi:NC ["split","doubled","over"] (.str d)=.ret (.int ((Wa d:Nat):Int)):=by
  show W.eQ _ _=_;rw [nw hm];rcases hd with rfl | rfl | rfl <;> rfl
 have:=V9 d;simp only [ga,Jh,hm,decide_true,if_true,aE,hi,ck,OO h (k:=Wa d) ∅,BT];rfl
def yT:dJ (.tup (a7 ps)) (.str "found")=.ret (.int 0):=by
 unfold dJ;have hm:("found":Str)∉[("split":Str),("doubled":Str),("over":Str)]:=by decide +kernel
 simp only [ga,Jh,hm,decide_false,Aq,if_false]
end My
variable {T:List (List My.OI)}{d:My.Dd}
namespace My
open PySem PySem.Spec PyProof.Rows L2 PL FL
def rg (T:List (List OI)) (j i:Nat):OI:=(T.getD j []).getD i bm
def rP (T:List (List OI)):List PV:=T.map λr=>.tup (r.map oP)
def pU (ps:List Int) (R:Nat->Nat->OI) (a b:Nat) (d:Dd):OI:=gw [am (vW ps d.1),R a d.2.1,R b d.2.2]
def KU (g:List Sy) (ps:List Int) (R:Nat->Nat->OI) (e:Ent) (i:Nat):List OI:=match e with
 | .word w=>if hm g i w=true then [am 0] else []
 | .pair a b=>(dl g i).map (pU ps R a b)
def gA (g:List Sy) (ps:List Int) (i:Nat):Int:=if (sy g i).un.length=2 then ps.getD 3 0 else 0
def Sw (g:List Sy) (ps:List Int) (row:List OI) (i:Nat):List OI:=(sy g i).un.map λu=>gw [am (gA g ps i),row.getD u bm]
def dh (g:List Sy) (ps:List Int) (R:Nat->Nat->OI) (e:Ent):Nat->List OI
 | 0=>[]
 | k+1=>dh g ps R e k++[gB (KU g ps R e k++Sw g ps (dh g ps R e k) k)]
def bH (g:List Sy) (ps:List Int) (es:List Ent):Nat->List (List OI)
 | 0=>[]
 | j+1=>bH g ps es j++[dh g ps (rg (bH g ps es j)) (RF es j) g.length]
theorem fY (g:List Sy) (ps:List Int) (R:Nat->Nat->OI) (e:Ent):∀k,(dh g ps R e k).length=k
 | 0=>rfl
 | k+1=>by rw [dh,Ak,fY g ps R e k];rfl
theorem eR (g:List Sy) (ps:List Int) (es:List Ent):∀j,(bH g ps es j).length=j
 | 0=>rfl
 | j+1=>by rw [bH,Ak,eR g ps es j];rfl
structure Wide (g:List Sy) (T:List (List OI)) (n:Nat):Prop where
 len:T.length=n
 row:∀j,j < n->(T.getD j []).length=g.length
theorem oG (g:List Sy) (ps:List Int) (es:List Ent):∀j,Wide g (bH g ps es j) j
 | 0=>⟨rfl,λj h=>absurd h (Nat.not_lt_zero j)⟩
 | j+1=>⟨eR g ps es _,λk hk=>by
  have W:=oG g ps es j;rw [bH];by_cases c:k < j
  ·rw [pA (by rw [W.len];exact c)];exact W.row k c
  ·have:k=j:=by omega
   subst this;rw [pw (by rw [W.len];exact An _),W.len,DJ];exact fY _ _ _ _ _⟩
def SE (W':Wide g T n) (hj:j < n) (hi:i < g.length):(c7 (ap (c7 (bd (rP T)) (bd (.int (j:Int)))) aF) (bd (.int (i:Int))))=.ret (oP (rg T j i)):=by
 have hl:=W'.row j hj;have h1:dD (rP T) (j:Int)=am (.tup ((T.getD j []).map oP)):=eg (by
  unfold rP;rw [Aj,Ad (by rw [W'.len];exact hj),Af,Ad (by rw [W'.len];exact hj)];rfl)
 have h2:dD ((T.getD j []).map oP) (i:Int)=am (oP (rg T j i)):=eg (by
  unfold rg;rw [Aj,Ad (by rw [hl];exact hi),Af (l:=T.getD j []),Ad (by rw [hl];exact hi)];rfl)
 simp only [ga,ck,h1,BT,aE,h2]
def ZU (h:d∈dl g i):Vu d.1:=by
 unfold dl at h;rcases Aw.mp h with rfl | h
 ·exact .inr (.inl rfl)
 rcases Bm.mp h with h | h
 ·unfold tm at h
  split at h
  ·simp at h;rcases h with rfl | rfl <;> exact .inl rfl
  ·cases h
 ·rcases Bm.mp h with h | h <;> obtain⟨o,_,rfl⟩:=Av.mp h <;> exact .inr (.inr rfl)
def Mx {f:α->β}{a b:List β} (h:a.Perm b):∀{l:List α},b=l.map f->∃ds:List α,a=ds.map f/\ds.Perm l:=by
 induction h with
 | nil=>intro l e;exact⟨[],rfl,by rw [List.map_eq_nil_iff.mp e.symm]⟩
 | cons x _ ih=>
  intro l e;cases l with
  | nil=>cases e
  | cons y l=>
   injection e with e1 e2;obtain⟨ds,h1,h2⟩:=ih e2;exact⟨y::ds,by rw [Au,e1,h1],h2.cons y⟩
 | swap x y r=>
  intro l e
  match l,e with
  | u::v::l,e=>
   injection e with e1 e2;injection e2 with e2 e3;exact⟨v::u::l,by rw [Au,Au,e1,e2,e3],.swap u v l⟩
 | trans _ _ Rj Ri=>
  intro l e;obtain⟨ds,h1,h2⟩:=Ri e;obtain⟨es,h3,h4⟩:=Rj h1;exact⟨es,h3,h4.trans h2⟩
theorem uZ (f h:α->β):∀l:List α,(l.map f++l.map h).Perm (l.flatMap λo=>[f o,h o])
 | []=>.nil
 | a::l=>by
  rw [Au,Au,C6,List.cons_append];exact ((List.perm_middle).trans ((uZ f h l).cons _)).cons _
def xK (g:List Sy) (i:Nat):(dl g i).Perm (Tq g i):=((uZ (λo=>(("over",i,o):Dd)) (λo=>(("over",o,i):Dd)) (sy g i).be).append_left _).cons _
def Jy (G:WG g ws) (h:i < g.length) (hd:d∈dl g i):d.2.1 < g.length/\d.2.2 < g.length:=Wc G h ((xK g i).mem_iff.mp hd)
theorem KZ (p4:ps.length=4) {b:Nat} (W':Wide g T n) (ha:a < n) (hb:b < n) (hd:Vu d.1) (hx:d.2.1 < g.length) (hy:d.2.2 < g.length):cP (.tup (a7 ps)) (.cl (rP T)) (Ent.pair a b).pv (d2 d)=.ret (oP (pU ps (rg T) a b d)):=by
 unfold cP;have i0:dD [PV.str d.1,PV.tup [.int (d.2.1:Int),.int (d.2.2:Int)]] 0=am (.str d.1):=rfl;have i1:dD [PV.str d.1,PV.tup [.int (d.2.1:Int),.int (d.2.2:Int)]] 1=am (.tup [.int (d.2.1:Int),.int (d.2.2:Int)]):=rfl;have ez:JN [PV.int (a:Int),.int (b:Int)] [.int (d.2.1:Int),.int (d.2.2:Int)]=.ret [.tup [.int (a:Int),.int (d.2.1:Int)],.tup [.int (b:Int),.int (d.2.2:Int)]]:=nw (by simp;exact bS ∅);have ec:nW [PV.int (vW ps d.1)] [oP (rg T a d.2.1),oP (rg T b d.2.2)]=.ret ([am (vW ps d.1),rg T a d.2.1,rg T b d.2.2].map oP):=by rw [hX (by simp)];rfl
 have em:(cv [PV.tup [.int (a:Int),.int (d.2.1:Int)],.tup [.int (b:Int),.int (d.2.2:Int)]] λp6=>ap (yA p6) λt7=>(c7 (ap (c7 (bd (rP T)) (bd t7.1)) aF) (bd t7.2)))=.ret [oP (rg T a d.2.1),oP (rg T b d.2.2)]:=by
  simp only [cv,pC,ga];have h1:=SE W' ha hx;have h2:=SE W' hb hy;simp only [ga] at h1 h2;simp only [h1,h2,ga]
 simp only [ga] at em;simp only [d2,ga,pq,yo,aO,Au,Es,aE,ck,i0,i1,BT,ez,em,Mq p4 hd,cy,jo,ec];exact oH [am (vW ps d.1),rg T a d.2.1,rg T b d.2.2]
def Hx (G:WG g ws) (p4:ps.length=4) (W':Wide g T n) (he:FR n e) (hi:i < g.length) {Q:List PV->Prop} (q:∀L:List OI,L.Perm (KU g ps (rg T) e i)->Q (L.map oP)):(d5 (oz g) (.tup (a7 ps)) (.cl (rP T)) e.pv (.int (i:Int))).run Q:=by
 unfold d5;simp only [ga,cr];cases e with
 | word w=>
  unfold eE;simp only [Ent.pv,ga,cr,qF,qE,cZ,gl,if_true,Rp G hi];unfold KU at q;cases h:hm g i w with
  | false=>
   simp only [h,Aq,if_false] at q ⊢;exact q [] (List.Perm.refl _)
  | true=>
   simp only [h,if_true] at q ⊢;have ef:cP (.tup (a7 ps)) (.cl (rP T)) (.str w) (.tup [.str "found",.tup []])=.ret (.int 0):=by
    unfold cP;have i0:dD [PV.str "found",PV.tup []] 0=am (.str "found"):=rfl;have i1:dD [PV.str "found",PV.tup []] 1=am (.tup []):=rfl;have hv:cz (.str w)=.ret (.tup []):=pq (.word w);have ez:JN [] []=.ret []:=nw (by simp);have ec:nW [PV.int 0] []=.ret ([am (0:Int)].map oP):=by rw [hX (by simp)];rfl
    simp only [ga,hv,aE,ck,i0,i1,BT,ez,cv,yT,jo,ec,oH];rfl
   simp only [gl,cv,ga,ef];exact q [am 0] (List.Perm.refl _)
 | pair a b=>
  refine KR G hi λm hm=>?_;obtain⟨ds,rfl,hp⟩:∃ds:List Dd,m=ds.map d2/\ds.Perm (dl g i):=Mx hm rfl;refine jd (λd=>oP (pU ps (rg T) a b d)) (λd hd=>?_) ?_
  ·have hdl:=hp.mem_iff.mp hd;obtain⟨h1,h2⟩:=Jy G hi hdl;rw [KZ p4 W' he.1 he.2 (ZU hdl) h1 h2];exact λQ q=>q
  ·have e:ds.map (λd=>oP (pU ps (rg T) a b d))=(ds.map (pU ps (rg T) a b)).map oP:=by rw [AN];rfl
   rw [e];exact q _ (hp.map _)
theorem UN (p4:ps.length=4) (hi:i < g.length):eV (oz g) (.tup (a7 ps)) (.int (i:Int))=.ret (.int (gA g ps i)):=by
 unfold eV gA;simp only [ga,mN hi,kU,f9,mq,bX,aE,ck];by_cases c:(sy g i).un.length=2
 ·have h3:=OO p4 (k:=3) ∅;have c2:(((sy g i).un.length:Int)==2)=true:=by simp [c]
  rw [if_pos c,c2];simp only [if_true];rw [show ((3:Nat):Int)=3 from rfl] at h3;rw [h3];rfl
 ·have c2:(((sy g i).un.length:Int)==2)=false:=by simp;omega
  rw [if_neg c,c2];rfl
theorem LP (G:WG g ws) (p4:ps.length=4) {row:List OI} (hi:i < g.length) (hr:row.length=i):d4 (oz g) (.tup (a7 ps)) (.cl (row.map oP)) (.int (i:Int))=.ret ((Sw g ps row i).map oP):=by
 unfold d4 Sw;simp only [ga,UN p4 hi,mN hi,aE];rw [AN];refine nr λu hu=>?_;have hu:=G.dn i hi u hu;have h1:dD (row.map oP) (u:Int)=am (oP (row.getD u bm)):=eg (by rw [Aj,Ad ∅,Af,Ad ∅];rfl);have e:[PV.int (gA g ps i),oP (row.getD u bm)]=[am (gA g ps i),row.getD u bm].map oP:=rfl;simp only [ga,cy,ck,h1,BT,e,oH];rfl
theorem Up (G:WG g ws) (p4:ps.length=4) (W':Wide g T n) (he:FR n e):(kf (oz g) (.tup (a7 ps)) (.cl (rP T)) e.pv).le (.ret (.tup ((dh g ps (rg T) e g.length).map oP))):=λQ q=>by
 unfold kf;have hg:=G.len;have el:qv fD [oz g]=.ret (.int (g.length:Int)):=by simp [oz]
 simp only [ga,cr,gl];simp only [el,gl,fw,nw (cD (i:=0) (j:=(g.length:Int)) ∅ ∅),Bp];refine nQ (λi s=>s=(dh g ps (rg T) e i).map oP) rfl (λi s hi hs=>?_) (λs hs=>?_)
 ·subst hs;have hrl:=fY g ps (rg T) e i;refine Hx G p4 W' he hi λL hL=>?_;rw [LP G p4 hi hrl];have h1:L.length<=63:=by
   rw [hL.length_eq];cases e with
   | word w=>show (if hm g i w=true then [am 0] else []).length<=63;split <;> simp
   | pair a b=>show ((dl g i).map _).length<=63;rw [Ai];exact Oz G hi
  have h2:(Sw g ps (dh g ps (rg T) e i) i).length<=2:=by unfold Sw;rw [Ai];exact G.yA i hi
  simp only [ga,cr];rw [hX (by rw [Ai,Ai];omega),<- A3];have et:LD ((L++Sw g ps (dh g ps (rg T) e i) i).map oP)=.ret ((L++Sw g ps (dh g ps (rg T) e i) i).map oP):=nw (OC _);simp only [gl,et,Fx];rw [gr (by rw [Ai];omega)];show _=_;rw [dh,A3,uL (hL.append_right _)];rfl
 ·subst hs;exact q
theorem yD (G:WG g ws) (p4:ps.length=4) (hz:t.size<=400):(kN (oz g) t.pv (.tup (a7 ps))).le (.ret (.tup (rP (bH g ps (t.nd 0) t.size)))):=λQ q=>by
 unfold kN;simp only [ga,cr,gl];refine W.le.use (nh t ∅) ?_;simp only [aE,gl];refine gP (λi s=>s=rP (bH g ps (t.nd 0) i)) rfl (λi x s hx hs=>?_) (λs hs=>?_)
 ·subst hs;have hi:i < t.size:=by have:=(Al.mp hx).1;rw [fF] at this;exact this
  rw [Aj,iD t 0 i hi] at hx;have ex:=(Option.some.inj hx).symm;subst ex;simp only [cr];refine W.le.use (Up G p4 (oG g ps (t.nd 0) i) (Ti t hi)) ?_;have ed:RF (t.nd 0) i=en t 0 i:=by unfold RF;rw [Af,iD t 0 i hi];rfl
  have et:LC (.tup ((dh g ps (rg (bH g ps (t.nd 0) i)) (en t 0 i) g.length).map oP))=.ret (.tup ((dh g ps (rg (bH g ps (t.nd 0) i)) (en t 0 i) g.length).map oP)):=nw (by rw [PV.dat];exact OC _);simp only [et,gl];rw [gr (by unfold rP;rw [Ai,eR];omega)];show _=_;rw [bH,ed];unfold rP;rw [A3];rfl
 ·subst hs;rw [fF];exact q
abbrev kk (j i:Nat):List Key:=[.inl (j:Int),.inl (i:Int)]
end My
variable {o:My.OI}{w:BB}{v y m:Int}{R R':Nat->Nat->My.OI}{l:List My.OI}
namespace My
open PySem PySem.Spec PyProof.Rows L2 PL FL
section
theorem fX (R:Nat->Nat->OI) (e:Ent):∀{k:Nat},i < k->(dh g ps R e k).getD i bm=gB (KU g ps R e i++Sw g ps (dh g ps R e i) i)
 | k+1,h=>by
  rw [dh];by_cases c:i < k
  ·rw [pA (by rw [fY];exact c)];exact fX R e c
  ·have:i=k:=by omega
   subst this;rw [pw (by rw [fY];exact An _),fY,DJ];rfl
theorem iw:∀{k:Nat},j < k->(bH g ps es k).getD j []=dh g ps (rg (bH g ps es j)) (RF es j) g.length
 | k+1,h=>by
  rw [bH];by_cases c:j < k
  ·rw [pA (by rw [eR];exact c)];exact iw c
  ·have:j=k:=by omega
   subst this;rw [pw (by rw [eR];exact An _),eR,DJ];rfl
theorem Gi (h:j<=k) {x:Nat} (ha:a < j):rg (bH g ps es j) a x=rg (bH g ps es k) a x:=by
 unfold rg;rw [iw ha,iw (show a < k by omega)]
def KS (he:FR n e) (h:∀a x,a < n->R a x=R' a x):KU g ps R e i=KU g ps R' e i:=by
 cases e with
 | word w=>rfl
 | pair a b=>exact BA λd _=>by unfold pU;rw [h a _ he.1,h b _ he.2]
def stC (g:List Sy) (ps:List Int) (f:Nat->OI) (i:Nat):List OI:=(sy g i).un.map λu=>gw [am (gA g ps i),f u]
theorem XZ (G:WG g ws) (hj:j < n) (hi:i < g.length) (he:FR j (RF es j)):rg (bH g ps es n) j i=gB (KU g ps (rg (bH g ps es n)) (RF es j) i++stC g ps (rg (bH g ps es n) j) i):=by
 have e0:∀x,rg (bH g ps es n) j x=(dh g ps (rg (bH g ps es j)) (RF es j) g.length).getD x bm:=λx=>by unfold rg;rw [iw hj];rfl
 rw [e0,fX _ _ hi,KS he λa x ha=>Gi (k:=n) ∅ ha];congr 2;refine BA λu hu=>?_;have hu:=G.dn i hi u hu;rw [e0,fX _ _ hu,fX _ _ (show u < g.length by omega)]
end
def IX:v∈yn l↔am v∈l:=by
 unfold yn;rw [DZ];exact⟨λ⟨o,h1,h2⟩=>by rw [id] at h2;rw [<- h2];exact h1,λh=>⟨_,h,rfl⟩⟩
def fm (h:am v∈l):∃m,gB l=am m/\m<=v:=by
 have h:=IX.mpr h;unfold gB;rw [if_neg (λz=>by rw [z] at h;cases h)];exact⟨_,rfl,qx h⟩
def rG (h:gB l=am m):am m∈l:=by
 unfold gB at h
 split at h
 ·cases h
 ·next c=>
  cases h;exact IX.mp (nj c)
def sum2 {a:Int}:gw [am a,am b]=am (a+b):=by simp [gw,yn]
def Uc {a c:Int}:gw [am a,am b,am c]=am (a+(b+c)):=by simp [gw,yn]
def Px {a:Int} (h:gw [am a,o]=am v):∃b,o=am b/\v=a+b:=by
 cases o with
 | none=>simp [gw] at h
 | some b=>rw [sum2] at h;exact⟨b,rfl,(Option.some.inj h).symm⟩
def Pw {a:Int}{p:OI} (h:gw [am a,o,p]=am v):∃b c,o=am b/\p=am c/\v=a+(b+c):=by
 cases o with
 | none=>simp [gw] at h
 | some b=>cases p with
  | none=>simp [gw] at h
  | some c=>rw [Uc] at h;exact⟨b,c,rfl,rfl,(Option.some.inj h).symm⟩
section
def xw (h:j < t.size):RF (t.nd 0) j=en t 0 j:=by unfold RF;rw [Af,iD t 0 j h];rfl
def F8 (G:WG g ws) (ps:List Int) (hj:j < t.size) (hi:i < g.length):rg (bH g ps (t.nd 0) t.size) j i=gB (KU g ps (rg (bH g ps (t.nd 0) t.size)) (en t 0 j) i++stC g ps (rg (bH g ps (t.nd 0) t.size) j) i):=by
 have:=XZ (es:=t.nd 0) (ps:=ps) G hj hi (by rw [xw hj];exact Ti t hj);rw [xw hj] at this;exact this
def LI (G:WG g ws) (ps:List Int) (hj:j < t.size) (hi:i < g.length) (e:en t 0 j=.word w) (h:hm g i w=true):∃m,rg (bH g ps (t.nd 0) t.size) j i=am m/\m<=0:=by
 rw [F8 G ps hj hi,e];refine fm (A9 _ ?_);show am 0∈(if hm g i w=true then [am 0] else []);rw [if_pos h];exact .head _
def LK (G:WG g ws) (ps:List Int) {b:Nat}{x:Int} (hj:j < t.size) (hi:i < g.length) (e:en t 0 j=.pair a b) (hd:d∈dl g i) (h1:rg (bH g ps (t.nd 0) t.size) a d.2.1=am x) (h2:rg (bH g ps (t.nd 0) t.size) b d.2.2=am y):∃m,rg (bH g ps (t.nd 0) t.size) j i=am m/\m<=vW ps d.1+(x+y):=by
 rw [F8 G ps hj hi,e];refine fm (A9 _ (Av.mpr ⟨d,hd,?_⟩));unfold pU;rw [h1,h2,Uc]
def LJ (G:WG g ws) (ps:List Int) {x:Int} (hj:j < t.size) (hi:i < g.length) (hu:u∈(sy g i).un) (h1:rg (bH g ps (t.nd 0) t.size) j u=am x):∃m,rg (bH g ps (t.nd 0) t.size) j i=am m/\m<=gA g ps i+x:=by
 rw [F8 G ps hj hi];refine fm (Ay _ (Av.mpr ⟨u,hu,?_⟩));rw [h1,sum2]
theorem Pt (G:WG g ws) (ps:List Int) (hj:j < t.size) (r:Ld g i k):i < g.length->∀{x},rg (bH g ps (t.nd 0) t.size) j k=am x->∃m,rg (bH g ps (t.nd 0) t.size) j i=am m:=by
 induction r with
 | refl=>intro _ x h;exact⟨x,h⟩
 | step hu r ih=>
  intro hi x h;obtain⟨y,hy⟩:=ih (by have:=G.dn _ hi _ hu;omega) h;obtain⟨m,hm,_⟩:=LJ G ps hj hi hu hy;exact⟨m,hm⟩
theorem Pr (G:WG g ws) (ps:List Int) (hw:∀w∈t.av,w∈ws):∀j,j < t.size->∃m,rg (bH g ps (t.nd 0) t.size) j (g.length-1)=am m:=by
 have hp:=G.pos;intro j
 induction j using Bl with
 | ind j ih=>
  intro hj;cases e:en t 0 j with
  | word w=>
   obtain⟨i,hi,hr,hh⟩:=G.acU w (hw w (xx t 0 j w hj e));obtain⟨m,hm,_⟩:=LI G ps hj hi e hh;exact Pt G ps hj hr ∅ hm
  | pair a b=>
   obtain⟨h1,h2⟩:=fM t hj e;obtain⟨x,hx⟩:=ih a h1 ∅;obtain⟨y,hy⟩:=ih b h2 ∅;obtain⟨m,hm,_⟩:=LK G ps hj (show g.length-1 < g.length by omega) e (d:=dbl (g.length-1)) (.head _) hx hy;exact⟨m,hm⟩
end
def lP (g:List Sy) (ps:List Int) (t:Tr):List OI:=(bH g ps (t.nd 0) t.size).getD (t.size-1) []
section
theorem o9:(lP g ps t).length=g.length:=(oG g ps (t.nd 0) t.size).row _ (by have:=t.size_pos;omega)
theorem zu (i:Nat):(lP g ps t).getD i bm=rg (bH g ps (t.nd 0) t.size) (t.size-1) i:=rfl
def Nc:am v∈lP g ps t↔∃i,i < g.length/\rg (bH g ps (t.nd 0) t.size) (t.size-1) i=am v:=by
 constructor
 ·intro h;obtain⟨i,hi⟩:=CI h;refine⟨i,by have:=(Al.mp hi).1;rw [o9] at this;exact this,?_⟩;rw [<- zu,Af,hi];rfl
 ·rintro⟨i,hi,h⟩;rw [<- zu,Af,Ad (by rw [o9];exact hi)] at h;have h:(lP g ps t)[i]'(by rw [o9];exact hi)=am v:=h;rw [<- h];exact Ca _
theorem least_le (G:WG g ws) (p4:ps.length=4) (hz:t.size<=400):(bI (oz g) t.pv (.tup (a7 ps))).le (.ret (oP (gB (lP g ps t)))):=λQ q=>by
 unfold bI;simp only [ga,cr];refine W.le.use (yD G p4 hz) ?_;have hp:=t.size_pos;have hl:=eR g ps (t.nd 0) t.size;have hx:dD (rP (bH g ps (t.nd 0) t.size)) (-1)=am (.tup ((lP g ps t).map oP)):=by
  unfold dD tq;have e:(rP (bH g ps (t.nd 0) t.size)).length=t.size:=by unfold rP;rw [Ai,hl]
  rw [e,if_neg ∅,if_pos ∅];show (rP (bH g ps (t.nd 0) t.size))[(-1+(t.size:Int)).toNat]?=_;rw [show (-1+(t.size:Int)).toNat=t.size-1 by omega];unfold rP lP;rw [Aj,Ad ∅,Af,Ad ∅];rfl
 simp only [aE,gl,sD,ck,hx,BT,xR];exact q
theorem GN (G:WG g ws) (hw:∀w∈t.av,w∈ws):∃m,gB (lP g ps t)=am m:=by
 have hp:=t.size_pos;have hg:=G.pos;obtain⟨v,hv⟩:=Pr G ps hw (t.size-1) ∅;obtain⟨m,hm,_⟩:=fm (Nc.mpr ⟨g.length-1,by omega,hv⟩);exact⟨m,hm⟩
end
inductive TQ where
 | lf (w:Str) | nd (b:Bool) (l r:TQ)
def TQ.of:TQ->Tr
 | .lf w=>.leaf w
 | .nd _ l r=>.node l.of r.of
def TQ.to (ω:Str->Str):TQ->Tr
 | .lf w=>.leaf (ω w)
 | .nd true l r=>.node (r.to ω) (l.to ω)
 | .nd false l r=>.node (l.to ω) (r.to ω)
abbrev TQ.sz (T:TQ):Nat:=T.of.size
def TQ.di:TQ->Nat->Nat
 | .lf _,_=>0
 | .nd b l r,j=>if j < l.sz then (if b then r.sz else 0)+l.di j else if j < l.sz+r.sz then (if b then 0 else l.sz)+r.di (j-l.sz) else l.sz+r.sz
section
theorem TQ.cF:∀T:TQ,(T.to ω).size=T.sz
 | .lf _=>rfl
 | .nd true l r=>by
  show (r.to ω).size+(l.to ω).size+1=l.sz+r.sz+1;rw [l.cF,r.cF];omega
 | .nd false l r=>by
  show (l.to ω).size+(r.to ω).size+1=l.sz+r.sz+1;rw [l.cF,r.cF]
theorem TQ.fZ:∀(T:TQ) (j:Nat),j < T.sz->T.di j < T.sz
 | .lf _,_,_=>Nat.one_pos
 | .nd b l r,j,h=>by
  have es:(TQ.nd b l r).sz=l.sz+r.sz+1:=rfl;rw [TQ.di];by_cases c:j < l.sz
  ·rw [if_pos c];have:=l.fZ j c;cases b <;> simp <;> omega
  ·rw [if_neg c];by_cases c2:j < l.sz+r.sz
   ·rw [if_pos c2];have:=r.fZ (j-l.sz) ∅;cases b <;> simp <;> omega
   ·rw [if_neg c2];omega
theorem TQ.rj:∀T:TQ,T.di (T.sz-1)=T.sz-1
 | .lf _=>rfl
 | .nd b l r=>by
  have es:(TQ.nd b l r).sz=l.sz+r.sz+1:=rfl;rw [TQ.di,es,if_neg ∅,if_neg ∅];omega
theorem TQ.vS:∀(T:TQ) (j k:Nat),j < T.sz->k < T.sz->T.di j=T.di k->j=k
 | .lf _,j,k,h1,h2,_=>by have:j < 1:=h1;have:k < 1:=h2;omega
 | .nd b l r,j,k,h1,h2,e=>by
  have es:(TQ.nd b l r).sz=l.sz+r.sz+1:=rfl;have key:∀x,x < l.sz+r.sz+1->(x < l.sz/\(TQ.nd b l r).di x=(if b then r.sz else 0)+l.di x/\l.di x < l.sz)\/(l.sz<=x/\x < l.sz+r.sz/\(TQ.nd b l r).di x=(if b then 0 else l.sz)+r.di (x-l.sz)/\r.di (x-l.sz) < r.sz)\/(x=l.sz+r.sz/\(TQ.nd b l r).di x=l.sz+r.sz):=λx hx=>by
   by_cases c:x < l.sz
   ·exact .inl ⟨c,by rw [TQ.di,if_pos c],l.fZ x c⟩
   ·by_cases c2:x < l.sz+r.sz
    ·exact .inr (.inl ⟨by omega,c2,by rw [TQ.di,if_neg c,if_pos c2],r.fZ _ ∅⟩)
    ·exact .inr (.inr ⟨by omega,by rw [TQ.di,if_neg c,if_neg c2]⟩)
  rcases key j ∅ with⟨a1,a2,a3⟩ | ⟨a0,a1,a2,a3⟩ | ⟨a1,a2⟩ <;> rcases key k ∅ with⟨b1,b2,b3⟩ | ⟨b0,b1,b2,b3⟩ | ⟨b1,b2⟩ <;> rw [a2,b2] at e
  ·exact l.vS j k a1 b1 ∅
  ·cases b <;> simp at e <;> omega
  ·cases b <;> simp at e <;> omega
  ·cases b <;> simp at e <;> omega
  ·have:=r.vS _ _ ∅ ∅ (show r.di (j-l.sz)=r.di (k-l.sz) by omega);omega
  ·cases b <;> simp at e <;> omega
  ·cases b <;> simp at e <;> omega
  ·cases b <;> simp at e <;> omega
  ·omega
def EnR (ω:Str->Str) (m:Nat->Nat) (e e':Ent):Prop:=match e with
 | .word w=>e'=.word (ω w)
 | .pair a b=>e'=.pair (m a) (m b)\/e'=.pair (m b) (m a)
theorem Oj:∀(T:TQ) (o o' j:Nat),j < T.sz->EnR ω (λa=>o'+T.di (a-o)) (en T.of o j) (en (T.to ω) o' (T.di j))
 | .lf _,o,o',j,h=>rfl
 | .nd b l r,o,o',j,h=>by
  have es:(TQ.nd b l r).sz=l.sz+r.sz+1:=rfl;have lp:0 < l.sz:=l.of.size_pos;have rp:0 < r.sz:=r.of.size_pos;have l1:=l.cF (ω:=ω);have r1:=r.cF (ω:=ω);obtain⟨ol,hol⟩:∃ol,ol=(if b then r.sz else 0):=⟨_,rfl⟩;obtain⟨Ú,hor⟩:∃Ú,Ú=(if b then 0 else l.sz):=⟨_,rfl⟩;have rl:∀{x},x < l.sz->(TQ.nd b l r).di x=ol+l.di x:=λhx=>by rw [TQ.di,if_pos hx,hol]
  have rr:∀{x},¬x < l.sz->x < l.sz+r.sz->(TQ.nd b l r).di x=Ú+r.di (x-l.sz):=λh1 h2=>by rw [TQ.di,if_neg h1,if_pos h2,hor]
  have el:∀x,x < l.sz->en ((TQ.nd b l r).to ω) o' (ol+x)=en (l.to ω) (o'+ol) x:=λx hx=>by
   subst hol;cases b with
   | true=>show en (.node (r.to ω) (l.to ω)) o' (r.sz+x)=_;rw [en,if_neg ∅,if_pos ∅,r1,B5];rfl
   | false=>show en (.node (l.to ω) (r.to ω)) o' (0+x)=_;rw [en,if_pos ∅,Ax];rfl
  have er:∀x,x < r.sz->en ((TQ.nd b l r).to ω) o' (Ú+x)=en (r.to ω) (o'+Ú) x:=λx hx=>by
   subst hor;cases b with
   | true=>show en (.node (r.to ω) (l.to ω)) o' (0+x)=_;rw [en,if_pos ∅,Ax];rfl
   | false=>show en (.node (l.to ω) (r.to ω)) o' (l.sz+x)=_;rw [en,if_neg ∅,if_pos ∅,l1,B5];rfl
  have eo:∀j,en (TQ.nd b l r).of o j=if j < l.sz then en l.of o j else if j < l.sz+r.sz then en r.of (o+l.sz) (j-l.sz) else .pair (o+l.sz-1) (o+l.sz+r.sz-1):=λj=>rfl
  rw [eo];by_cases c:j < l.sz
  ·rw [rl c,if_pos c,el _ (l.fZ j c)];have ih:=Oj l o (o'+ol) j c;cases e:en l.of o j with
   | word w=>rw [e] at ih;exact ih
   | pair u v=>
    obtain⟨h1,h2,h3,h4,_⟩:=jq l.of o j .aD u v c e;rw [e] at ih;have e1:∀x,x-o < l.sz->o'+ol+l.di (x-o)=o'+(TQ.nd b l r).di (x-o):=λx hx=>by rw [rl hx];omega
    rcases ih with ih | ih
    ·left;rw [ih];dsimp only;rw [e1 u ∅,e1 v ∅]
    ·right;rw [ih];dsimp only;rw [e1 u ∅,e1 v ∅]
  ·rw [if_neg c];by_cases c2:j < l.sz+r.sz
   ·rw [rr c c2,if_pos c2,er _ (r.fZ _ ∅)];have ih:=Oj r (o+l.sz) (o'+Ú) (j-l.sz) ∅;cases e:en r.of (o+l.sz) (j-l.sz) with
    | word w=>rw [e] at ih;exact ih
    | pair u v=>
     obtain⟨h1,h2,h3,h4,_⟩:=jq r.of (o+l.sz) (j-l.sz) .aD u v (show j-l.sz < r.sz by omega) e;rw [e] at ih;have e1:∀x,o+l.sz<=x->x < o+l.sz+r.sz->o'+Ú+r.di (x-(o+l.sz))=o'+(TQ.nd b l r).di (x-o):=λx h1 h2=>by
      rw [rr ∅ ∅,show x-o-l.sz=x-(o+l.sz) by omega];omega
     rcases ih with ih | ih
     ·left;rw [ih];dsimp only;rw [e1 u h1 ∅,e1 v h2 ∅]
     ·right;rw [ih];dsimp only;rw [e1 u h1 ∅,e1 v h2 ∅]
   ·have ej:(TQ.nd b l r).di j=l.sz+r.sz:=by rw [TQ.di,if_neg c,if_neg c2]
    have ea:(TQ.nd b l r).di (o+l.sz-1-o)=ol+(l.sz-1):=by rw [rl ∅,show o+l.sz-1-o=l.sz-1 by omega,l.rj]
    have eb:(TQ.nd b l r).di (o+l.sz+r.sz-1-o)=Ú+(r.sz-1):=by rw [rr ∅ ∅,show o+l.sz+r.sz-1-o-l.sz=r.sz-1 by omega,r.rj]
    rw [if_neg c2,ej];show _=Ent.pair (o'+(TQ.nd b l r).di (o+l.sz-1-o)) (o'+(TQ.nd b l r).di (o+l.sz+r.sz-1-o))\/_=Ent.pair (o'+(TQ.nd b l r).di (o+l.sz+r.sz-1-o)) (o'+(TQ.nd b l r).di (o+l.sz-1-o));rw [ea,eb,hol,hor];cases b with
    | true=>
     right
     show en (.node (r.to ω) (l.to ω)) o' (l.sz+r.sz)=_;rw [en,if_neg ∅,if_neg ∅,r1,l1];simp;omega
    | false=>
     left
     show en (.node (l.to ω) (r.to ω)) o' (l.sz+r.sz)=_;rw [en,if_neg ∅,if_neg ∅,r1,l1];simp;omega
end
section
def Hj (T:TQ) (h:j < T.sz):EnR ω T.di (en T.of 0 j) (en (T.to ω) 0 (T.di j)):=by
 have:=Oj (ω:=ω) T 0 0 j h;cases e:en T.of 0 j with
 | word w=>rw [e] at this;exact this
 | pair a b=>rw [e] at this;simpa [EnR] using this
theorem Wm (T:TQ) (h:j < T.sz):(ip T.of 0 j .aD=.aD/\ip (T.to ω) 0 (T.di j) .aD=.aD)\/∃a,j < a/\a < T.sz/\ip T.of 0 j .aD=.int (a:Int)/\ip (T.to ω) 0 (T.di j) .aD=.int (T.di a:Int):=by
 have ts:=T.cF (ω:=ω);rcases eL T.of 0 j .aD h with⟨h1,h2⟩ | ⟨a,u,v,h1,h2,h3,h4,h5⟩
 ·refine .inl ⟨h2,?_⟩;have hp:0 < T.sz:=T.of.size_pos;rw [h1];show ip (T.to ω) 0 (T.di (T.sz-1)) .aD=_;rw [T.rj];rcases eL (T.to ω) 0 (T.sz-1) .aD (by rw [ts];omega) with⟨_,k⟩ | ⟨a,u,v,k1,k2,_⟩
  ·exact k
  ·omega
 ·rw [Ax] at h3 h5;refine .inr ⟨a,h1,h2,h3,?_⟩;have e:=Hj (ω:=ω) T h2;rw [h4] at e;have hra:=T.fZ a h2;rcases e with e | e
  ·obtain⟨_,_,_,_,_,k6,k7⟩:=jq (T.to ω) 0 (T.di a) .aD _ _ (by rw [ts];exact hra) e;rw [Ax,C2] at k6 k7;rcases h5 with rfl | rfl
   ·exact k6
   ·exact k7
  ·obtain⟨_,_,_,_,_,k6,k7⟩:=jq (T.to ω) 0 (T.di a) .aD _ _ (by rw [ts];exact hra) e;rw [Ax,C2] at k6 k7;rcases h5 with rfl | rfl
   ·exact k7
   ·exact k6
theorem Xp (T:TQ):∀(k j:Nat),j+k+1=T.sz->up (T.to ω) 0 (T.di j) []=(up T.of 0 j []).map T.di:=λk=>by
 have ts:=T.cF (ω:=ω)
 induction k using Bl with
 | ind k ih=>
  intro j hk;have hr:=T.fZ j ∅;rcases Wm (ω:=ω) T (show j < T.sz by omega) with⟨h1,h2⟩ | ⟨a,ja,ha,h1,h2⟩
  ·rcases fN T.of 0 j .aD [] (show j < T.sz by omega) with⟨_,_,e⟩ | ⟨a,_,_,e,_⟩
   ·rcases fN (T.to ω) 0 (T.di j) .aD [] (by rw [ts];exact hr) with⟨_,_,e'⟩ | ⟨a,_,_,e',_⟩
    ·rw [e,e'];simp
    ·rw [h2] at e';cases e'
   ·rw [h1] at e;cases e
  ·rcases fN T.of 0 j .aD [] (show j < T.sz by omega) with⟨_,e,_⟩ | ⟨a1,_,_,e,u1⟩
   ·rw [h1] at e;cases e
   ·rcases fN (T.to ω) 0 (T.di j) .aD [] (by rw [ts];exact hr) with⟨_,e',_⟩ | ⟨a2,_,_,e',u2⟩
    ·rw [h2] at e';cases e'
    ·rw [h1] at e;rw [h2] at e';injection e with e;injection e' with e';have x1:a1=a:=by omega
     have x2:a2=T.di a:=by omega
     subst x1;subst x2;rw [u1,u2,ih (T.sz-a1-1) ∅ a1 ∅];simp
theorem Wl (T:TQ) (hj:j < T.sz) (h:k∈R3 T.of j):T.di k∈R3 (T.to ω) (T.di j):=by
 obtain⟨h1,h2⟩:=AR.mp h;have hk:k < T.sz:=AW.mp h1;simp at h2;refine AR.mpr ⟨AW.mpr (by rw [T.cF];exact T.fZ k hk),?_⟩;have key:∀{j k:Nat},j < T.sz->k < T.sz->k∉up T.of 0 j []->T.di k∉up (T.to ω) 0 (T.di j) []:=λ{j k} hj hk hn hx=>by
  rw [Xp T (T.sz-j-1) j ∅] at hx;obtain⟨x,hx,e⟩:=Av.mp hx;have ċ:x < T.sz:=by
   rcases Lz T.of 0 j [] x hx with z | z
   ·show x < T.of.size;omega
   ·cases z
  rw [T.vS x k ċ hk e] at hx;exact hn hx
 simp [key hj hk h2.1,key hk hj h2.2]
def Jl (T:TQ) (hz:T.sz<=30):Hm (gS T.of) (gS (T.to ω)) T.di ω:=by
 have ts:=T.cF (ω:=ω);have G:=bA (t:=T.to ω) (by rw [ts];exact hz);have s1:∀{i},i < (gS T.of).length->i < T.sz:=λ{i} h=>by rw [eI] at h;exact h
 have sr:∀{i},i < T.sz->sy (gS (T.to ω)) (T.di i)=⟨wj (en (T.to ω) 0 (T.di i)) (T.di i),0,yo (en (T.to ω) 0 (T.di i)),R3 (T.to ω) (T.di i)⟩:=λ{i} h=>gq _ (by rw [ts];exact T.fZ i h);refine⟨λi hi=>by rw [eI,ts];exact T.fZ i (s1 hi),λi hi=>?_,G.dn,λi hi o ho=>?_,λi hi w hw=>?_⟩
 ·rw [gq _ (s1 hi),sr (s1 hi)];have e:=Hj (ω:=ω) T (s1 hi);cases h:en T.of 0 i with
  | word w=>rw [h] at e;rw [show en (T.to ω) 0 (T.di i)=.word (ω w) from e];exact .inr (.inl rfl)
  | pair a b=>
   rw [h] at e;rcases e with e | e <;> rw [e]
   ·exact .inr (.inl rfl)
   ·exact .inr (.inr rfl)
 ·rw [gq _ (s1 hi)] at ho;rw [sr (s1 hi)];exact Wl T (s1 hi) ho
 ·have e:=Hj (ω:=ω) T (s1 hi);unfold hm at hw ⊢;rw [gq _ (s1 hi)] at hw;rw [sr (s1 hi)];cases h:en T.of 0 i with
  | word u=>
   rw [h] at e hw;rw [show en (T.to ω) 0 (T.di i)=.word (ω u) from e];simp [yo,wj,zE] at hw ⊢;rw [hw]
  | pair a b=>rw [h] at hw;simp [yo] at hw
end
def TQ.flip:TQ->TQ
 | .lf w=>.lf w
 | .nd true l r=>.nd true r.flip l.flip
 | .nd false l r=>.nd false l.flip r.flip
def TQ.kS:∀T:TQ,T.flip.of=T.to id
 | .lf _=>rfl
 | .nd true l r=>by show Tr.node _ _=Tr.node _ _;rw [r.kS,l.kS]
 | .nd false l r=>by show Tr.node _ _=Tr.node _ _;rw [r.kS,l.kS]
def TQ.nS:∀T:TQ,T.flip.to id=T.of
 | .lf _=>rfl
 | .nd true l r=>by show Tr.node _ _=Tr.node _ _;rw [r.nS,l.nS]
 | .nd false l r=>by show Tr.node _ _=Tr.node _ _;rw [r.nS,l.nS]
def TQ.pl:Tr->TQ
 | .leaf w=>.lf w
 | .node l r=>.nd false (TQ.pl l) (TQ.pl r)
theorem TQ.uH:∀t:Tr,(TQ.pl t).of=t
 | .leaf _=>rfl
 | .node l r=>by show Tr.node _ _=_;rw [TQ.uH l,TQ.uH r]
theorem TQ.IC (ω:Str->Str):∀t:Tr,(TQ.pl t).to ω=cm ω t
 | .leaf _=>rfl
 | .node l r=>by show Tr.node _ _=Tr.node _ _;rw [TQ.IC ω l,TQ.IC ω r]
end My
variable {x:Int}{s l r:My.Tr}{e':My.Ent}
namespace My
open PySem PySem.Spec PyProof.Rows L2 PL FL
def vR (g:List Sy) (ps:List Int):Tr->List OI
 | .leaf w=>dh g ps (λ_ _=>bm) (.word w) g.length
 | .node l r=>dh g ps (λa x=>if a=0 then (vR g ps l).getD x bm else (vR g ps r).getD x bm) (.pair 0 1) g.length
abbrev vv (g:List Sy) (ps:List Int) (s:Tr) (i:Nat):OI:=(vR g ps s).getD i bm
def vD (g:List Sy) (ps:List Int):Tr->Nat->List OI
 | .leaf w,i=>if hm g i w=true then [am 0] else []
 | .node l r,i=>(dl g i).map λd=>gw [am (vW ps d.1),vv g ps l d.2.1,vv g ps r d.2.2]
section
theorem md (h:∀i,KU g ps R e i=KU g ps R' e' i):∀k,dh g ps R e k=dh g ps R' e' k
 | 0=>rfl
 | k+1=>by rw [dh,dh,md h k,h]
def F2 (s:Tr):(vR g ps s).length=g.length:=by cases s <;> exact fY _ _ _ _ _
theorem HX (G:WG g ws) (s:Tr) (hi:i < g.length):vv g ps s i=gB (vD g ps s i++stC g ps (vv g ps s) i):=by
 have key:∀(R:Nat->Nat->OI) (e:Ent),vR g ps s=dh g ps R e g.length->KU g ps R e i=vD g ps s i->vv g ps s i=gB (vD g ps s i++stC g ps (vv g ps s) i):=λR e h1 h2=>by
  have e0:∀x,vv g ps s x=(dh g ps R e g.length).getD x bm:=λx=>by unfold vv;rw [h1]
  rw [e0,fX _ _ hi,h2];congr 2;refine BA λu hu=>?_;have hu:=G.dn i hi u hu;rw [e0,fX _ _ hu,fX _ _ (show u < g.length by omega)]
 cases s with
 | leaf w=>exact key _ _ rfl rfl
 | node l r=>exact key _ _ rfl rfl
theorem vQ:∀(s:Tr) (o:Nat),(∀k,k < s.size->en t 0 (o+k)=en s o k)->o+s.size<=t.size->(bH g ps (t.nd 0) t.size).getD (o+s.size-1) []=vR g ps s
 | .leaf w,o,h,hl=>by
  have hs:(Tr.leaf w).size=1:=rfl;rw [hs] at hl ⊢;have e:=h 0 (by rw [hs];omega);rw [Nat.add_zero] at e;rw [show o+1-1=o by omega,iw (show o < t.size by omega),xw (show o < t.size by omega),e];show dh g ps _ (.word w) g.length=dh g ps (λ_ _=>bm) (.word w) g.length;refine md (λi=>?_) _;rfl
 | .node l r,o,h,hl=>by
  have es:(Tr.node l r).size=l.size+r.size+1:=rfl;have lp:=l.size_pos;have rp:=r.size_pos;have Rj:=vQ l o (λk hk=>by rw [h k ∅,en,if_pos hk]) ∅;have Ri:=vQ r (o+l.size) (λk hk=>by rw [Bc,h (l.size+k) ∅,en,if_neg ∅,if_pos ∅,B5]) ∅;have er:=h (l.size+r.size) ∅;rw [en,if_neg ∅,if_neg ∅] at er;rw [es,show o+(l.size+r.size+1)-1=o+(l.size+r.size) by omega,iw (show o+(l.size+r.size) < t.size by omega),xw (show o+(l.size+r.size) < t.size by omega),er];refine md (λi=>?_) _;refine BA λd _=>?_;unfold pU;rw [Gi (k:=t.size) ∅ (show o+l.size-1 < o+(l.size+r.size) by omega),Gi (k:=t.size) ∅ (show o+l.size+r.size-1 < o+(l.size+r.size) by omega)];unfold rg;rw [Rj,Ri];rfl
theorem qV:(bH g ps (t.nd 0) t.size).getD (t.size-1) []=vR g ps t:=by
 have:=vQ (g:=g) (ps:=ps) (t:=t) t 0 (λk _=>by rw [Ax]) ∅;rw [Ax] at this;exact this
def yu (G:WG g ws) (hi:i < g.length) (h:vv g ps s i=am v):(∃w,s=.leaf w/\hm g i w=true/\v=0)\/(∃l r d x y,s=.node l r/\d∈dl g i/\vv g ps l d.2.1=am x/\vv g ps r d.2.2=am y/\v=vW ps d.1+(x+y))\/∃u x,u∈(sy g i).un/\vv g ps s u=am x/\v=gA g ps i+x:=by
 rw [HX G s hi] at h;rcases Bm.mp (rG h) with h | h
 ·cases s with
  | leaf w=>
   have h:am v∈(if hm g i w=true then [am 0] else []):=h
   split at h
   ·next c=>exact .inl ⟨w,rfl,c,Option.some.inj (Bk.mp h)⟩
   ·cases h
  | node l r=>
   obtain⟨d,hd,h⟩:=Av.mp h;obtain⟨x,y,h1,h2,h3⟩:=Pw h;exact .inr (.inl ⟨l,r,d,x,y,rfl,hd,h1,h2,h3⟩)
 ·obtain⟨u,hu,h⟩:=Av.mp h;obtain⟨x,h1,h2⟩:=Px h;exact .inr (.inr ⟨u,x,hu,h1,h2⟩)
def Pk (G:WG g ws) (ps:List Int) (hi:i < g.length) (h:hm g i w=true):∃m,vv g ps (.leaf w) i=am m/\m<=0:=by
 rw [HX G _ hi];refine fm (A9 _ ?_);show am 0∈(if hm g i w=true then [am 0] else []);rw [if_pos h];exact .head _
def HV (G:WG g ws) (ps:List Int) (hi:i < g.length) (hd:d∈dl g i) (h1:vv g ps l d.2.1=am x) (h2:vv g ps r d.2.2=am y):∃m,vv g ps (.node l r) i=am m/\m<=vW ps d.1+(x+y):=by
 rw [HX G _ hi];refine fm (A9 _ (Av.mpr ⟨d,hd,?_⟩));rw [h1,h2,Uc]
def vA (G:WG g ws) (ps:List Int) (hi:i < g.length) (hu:u∈(sy g i).un) (h1:vv g ps s u=am x):∃m,vv g ps s i=am m/\m<=gA g ps i+x:=by
 rw [HX G _ hi];refine fm (Ay _ (Av.mpr ⟨u,hu,?_⟩));rw [h1,sum2]
end
def II (h:oE g' i=oE g k):gA g' ps i=gA g ps k:=by
 unfold gA;unfold oE at h;by_cases c:(sy g' i).un.length=2
 ·by_cases d:(sy g k).un.length=2
  ·rw [if_pos c,if_pos d]
  ·simp [c,d] at h
 ·by_cases d:(sy g k).un.length=2
  ·simp [c,d] at h
  ·rw [if_neg c,if_neg d]
theorem Hm.vv {oB:List Str} (M:Hm g' g f ω) (G':WG g' oB) (G:WG g ws) (ps:List Int):∀(s:Tr) (i:Nat),i < g'.length->∀v,vv g' ps s i=am v->∃m,My.vv g ps (cm ω s) (f i)=am m/\m<=v:=by
 intro s
 induction s with
 | leaf w=>
  intro i
  induction i using Bl with
  | ind i ih=>
   intro hi v hv;rcases yu G' hi hv with⟨w',e,hh,rfl⟩ | ⟨l,r,d,x,y,e,_⟩ | ⟨u,x,hu,h1,rfl⟩
   ·cases e;exact Pk G ps (M.lt i hi) (M.hom i hi _ hh)
   ·cases e
   ·have Ď:=G'.dn i hi u hu;obtain⟨m,hm,lm⟩:=ih u Ď ∅ x h1;rcases M.step hi hu with⟨e,tw⟩ | ⟨e,hf,tw⟩
    ·refine⟨m,by rw [e];exact hm,?_⟩;have:gA g' ps i=0:=by unfold gA;unfold oE at tw;rw [if_neg (by simpa using tw)]
     omega
    ·obtain⟨m',Y7,lm'⟩:=vA G ps (M.lt i hi) hf hm;exact⟨m',Y7,by rw [II tw];omega⟩
 | node l r Rj Ri=>
  intro i
  induction i using Bl with
  | ind i ih=>
   intro hi v hv;rcases yu G' hi hv with⟨w',e,_⟩ | ⟨l',r',d,x,y,e,hd,h1,h2,rfl⟩ | ⟨u,x,hu,h1,rfl⟩
   ·cases e
   ·cases e;obtain⟨k1,k2⟩:=Jy G' hi hd;obtain⟨x',hx,lx⟩:=Rj _ k1 x h1;obtain⟨y',hy,ly⟩:=Ri _ k2 y h2;have Zi:((d.1,f d.2.1,f d.2.2):Dd)∈dl g (f i):=(xK g (f i)).mem_iff.mpr (M.Tq hi ((xK g' i).mem_iff.mp hd));obtain⟨m,hm,lm⟩:=HV (l:=cm ω l) (r:=cm ω r) G ps (M.lt i hi) Zi hx hy;exact⟨m,hm,by show m<=vW ps d.1+(x+y);have lm:m<=vW ps d.1+(x'+y'):=lm;omega⟩
   ·have Ď:=G'.dn i hi u hu;obtain⟨m,hm,lm⟩:=ih u Ď ∅ x h1;rcases M.step hi hu with⟨e,tw⟩ | ⟨e,hf,tw⟩
    ·refine⟨m,by rw [e];exact hm,?_⟩;have:gA g' ps i=0:=by unfold gA;unfold oE at tw;rw [if_neg (by simpa using tw)]
     omega
    ·obtain⟨m',Y7,lm'⟩:=vA G ps (M.lt i hi) hf hm;exact⟨m',Y7,by rw [II tw];omega⟩
def lst (g:List Sy) (ps:List Int) (s:Tr):OI:=gB (vR g ps s)
section
variable {g g':List Sy}{ws oB:List Str}{ps:List Int}
def vB:am v∈vR g ps s↔∃i,i < g.length/\vv g ps s i=am v:=by
 constructor
 ·intro h;obtain⟨i,hi⟩:=CI h;refine⟨i,by have:=(Al.mp hi).1;rw [F2] at this;exact this,?_⟩;show (vR g ps s).getD i bm=_;rw [Af,hi];rfl
 ·rintro⟨i,hi,h⟩;have h:(vR g ps s).getD i bm=am v:=h;rw [Af,Ad (by rw [F2];exact hi)] at h;have h:(vR g ps s)[i]'(by rw [F2];exact hi)=am v:=h;rw [<- h];exact Ca _
theorem Hm.lst {f:Nat->Nat}{ω:Str->Str} (M:Hm g' g f ω) (G':WG g' oB) (G:WG g ws) {s:Tr}{v:Int} (h:lst g' ps s=am v):∃m,My.lst g ps (cm ω s)=am m/\m<=v:=by
 obtain⟨i,hi,hv⟩:=vB.mp (rG h);obtain⟨m,hm,lm⟩:=M.vv G' G ps s i hi v hv;obtain⟨m',Y7,lm'⟩:=fm (vB.mpr ⟨f i,M.lt i hi,hm⟩);exact⟨m',Y7,by omega⟩
end
end My
variable {us vs:List BB}
namespace My
open PySem PySem.Spec PyProof.Rows L2 PL FL
section
theorem uE (h:∀i,(KU g ps R e i).Perm (KU g ps R' e' i)):∀k,dh g ps R e k=dh g ps R' e' k
 | 0=>rfl
 | k+1=>by rw [dh,dh,uE h k,uL ((h k).append_right _)]
def swp (d:Dd):Dd:=(d.1,d.2.2,d.2.1)
def Wb (i:Nat):((dl g i).map swp).Perm (dl g i):=by
 unfold dl;rw [Au,A3,A3,AN,AN];refine List.Perm.cons _ (List.Perm.append ?_ CC);unfold tm
 split
 ·exact .swap _ _ _
 ·exact .nil
def JU (a:Int) (x y:OI):gw [am a,x,y]=gw [am a,y,x]:=by
 cases x <;> cases y <;> simp [gw,yn,Int.add_comm,Int.add_left_comm]
def Pm (l r:Tr):vR g ps (.node r l)=vR g ps (.node l r):=by
 refine uE (λi=>?_) _;show ((dl g i).map λd=>gw [am (vW ps d.1),vv g ps r d.2.1,vv g ps l d.2.2]).Perm ((dl g i).map λd=>gw [am (vW ps d.1),vv g ps l d.2.1,vv g ps r d.2.2]);have e:((dl g i).map λd=>gw [am (vW ps d.1),vv g ps r d.2.1,vv g ps l d.2.2])=((dl g i).map swp).map λd=>gw [am (vW ps d.1),vv g ps l d.2.1,vv g ps r d.2.2]:=by
  rw [AN];exact BA λd _=>JU _ _ _
 rw [e];exact (Wb i).map _
def HY {l' r':Tr} (h1:vR g ps l=vR g ps l') (h2:vR g ps r=vR g ps r'):vR g ps (.node l r)=vR g ps (.node l' r'):=by
 rw [vR,vR,h1,h2]
theorem mM:∀T:TQ,vR g ps (T.to id)=vR g ps T.of
 | .lf _=>rfl
 | .nd true l r=>by
  show vR g ps (.node (r.to id) (l.to id))=vR g ps (.node l.of r.of);rw [Pm];exact HY (mM l) (mM r)
 | .nd false l r=>HY (mM l) (mM r)
theorem So (G:WG g ws) (h:∀k,0<=ps.getD k 0):∀(s:Tr) (i:Nat),i < g.length->∀v,vv g ps s i=am v->0<=v:=by
 have h3:∀i,0<=gA g ps i:=λi=>by unfold gA;split;exact h 3;exact BU _
 intro s
 induction s with
 | leaf w=>
  intro i
  induction i using Bl with
  | ind i ih=>
   intro hi v hv;rcases yu G hi hv with⟨w',e,hh,rfl⟩ | ⟨l,r,d,x,y,e,_⟩ | ⟨u,x,hu,h1,rfl⟩
   ·exact BU _
   ·cases e
   ·have:=ih u (G.dn i hi u hu) (by have:=G.dn i hi u hu;omega) x h1;have:=h3 i;omega
 | node l r Rj Ri=>
  intro i
  induction i using Bl with
  | ind i ih=>
   intro hi v hv;rcases yu G hi hv with⟨w',e,_⟩ | ⟨l',r',d,x,y,e,hd,h1,h2,rfl⟩ | ⟨u,x,hu,h1,rfl⟩
   ·cases e
   ·cases e;obtain⟨k1,k2⟩:=Jy G hi hd;have:=Rj _ k1 x h1;have:=Ri _ k2 y h2;have:=h (Wa d.1);unfold vW;omega
   ·have:=ih u (G.dn i hi u hu) (by have:=G.dn i hi u hu;omega) x h1;have:=h3 i;omega
theorem Pl (G:WG g ws) (h:∀k,0<=ps.getD k 0):∀(i:Nat),i < g.length->∀v,vv g ps (.node l r) i=am v->(∃j m,j < g.length/\vv g ps l j=am m/\m<=v)/\∃j m,j < g.length/\vv g ps r j=am m/\m<=v:=by
 have h3:∀i,0<=gA g ps i:=λi=>by unfold gA;split;exact h 3;exact BU _
 intro i
 induction i using Bl with
 | ind i ih=>
  intro hi v hv;rcases yu G hi hv with⟨w',e,_⟩ | ⟨l',r',d,x,y,e,hd,h1,h2,rfl⟩ | ⟨u,x,hu,h1,rfl⟩
  ·cases e
  ·cases e;obtain⟨k1,k2⟩:=Jy G hi hd;have:=So G h _ _ k1 x h1;have:=So G h _ _ k2 y h2;have:=h (Wa d.1);exact⟨⟨_,x,k1,h1,by unfold vW;omega⟩,_,y,k2,h2,by unfold vW;omega⟩
  ·obtain⟨⟨j,m,a1,a2,a3⟩,j',m',b1,b2,b3⟩:=ih u (G.dn i hi u hu) (by have:=G.dn i hi u hu;omega) x h1;have:=h3 i;exact⟨⟨j,m,a1,a2,by omega⟩,j',m',b1,b2,by omega⟩
def wq (h:lst g ps s=am v):∃i,i < g.length/\vv g ps s i=am v:=vB.mp (rG h)
def GG (hi:i < g.length) (h:vv g ps s i=am v):∃m,lst g ps s=am m/\m<=v:=fm (vB.mpr ⟨i,hi,h⟩)
theorem M5 (G:WG g ws) (h:∀k,0<=ps.getD k 0) (hv:lst g ps (.node l r)=am v):(∃m,lst g ps l=am m/\m<=v)/\∃m,lst g ps r=am m/\m<=v:=by
 obtain⟨i,hi,hv⟩:=wq hv;obtain⟨⟨j,m,a1,a2,a3⟩,j',m',b1,b2,b3⟩:=Pl G h i hi v hv;obtain⟨n,c1,c2⟩:=GG a1 a2;obtain⟨n',d1,d2⟩:=GG b1 b2;exact⟨⟨n,c1,by omega⟩,n',d1,by omega⟩
theorem HW (G:WG g ws) (h:ps.getD 3 0=0) (r:Ld g i k):i < g.length->∀{x},vv g ps s k=am x->∃m,vv g ps s i=am m/\m<=x:=by
 induction r with
 | refl=>intro _ x h;exact⟨x,h,BU _⟩
 | @step i u k hu r ih=>
  intro hi x hx;obtain⟨y,hy,ly⟩:=ih (by have:=G.dn _ hi _ hu;omega) hx;obtain⟨m,hm,lm⟩:=vA G ps hi hu hy;have:gA g ps i=0:=by unfold gA;split;exact h;rfl
  exact⟨m,hm,by omega⟩
theorem M6 (G:WG g ws) (h:ps.getD 3 0=0) (hx:lst g ps l=am x) (hy:lst g ps r=am y):∃m,lst g ps (.node l r)=am m/\m<=x+y+ps.getD 1 0:=by
 have hp:=G.pos;obtain⟨i,hi,hx⟩:=wq hx;obtain⟨j,hj,hy⟩:=wq hy;obtain⟨a,ha,la⟩:=HW G h (G.rch i hi) ∅ hx;obtain⟨b,hb,lb⟩:=HW G h (G.rch j hj) ∅ hy;obtain⟨m,hm,lm⟩:=HV G ps (show g.length-1 < g.length by omega) (d:=dbl (g.length-1)) (.head _) ha hb;obtain⟨n,hn,ln⟩:=GG ∅ hm;have e:vW ps (dbl (g.length-1)).1=ps.getD 1 0:=rfl;exact⟨n,hn,by omega⟩
def cY (G:WG g ws) (p4:ps.length=4) (hz:t.size<=400):(bI (oz g) t.pv (.tup (a7 ps))).le (.ret (oP (lst g ps t))):=by
 have:=least_le (ps:=ps) G p4 hz;have e:lP g ps t=vR g ps t:=qV;rw [e] at this;exact this
def kg (G:WG g ws) (hw:∀w∈t.av,w∈ws):∃m,lst g ps t=am m:=by
 obtain⟨m,hm⟩:=GN (ps:=ps) G hw;have e:lP g ps t=vR g ps t:=qV;rw [e] at hm;exact⟨m,hm⟩
theorem Kk (G:WG g ws) (p4:ps.length=4) (hz:t.size<=400) (hm:lst g ps t=am m):(dq (oz g) t.pv (.tup (a7 ps))).le (.ret (.int m)):=λQ q=>by
 unfold dq;simp only [ga,cr];refine W.le.use (yD G p4 hz) ?_;have hp:=t.size_pos;have hl:=eR g ps (t.nd 0) t.size;have hx:dD (rP (bH g ps (t.nd 0) t.size)) (-1)=am (.tup ((vR g ps t).map oP)):=by
  unfold dD tq;have e:(rP (bH g ps (t.nd 0) t.size)).length=t.size:=by unfold rP;rw [Ai,hl]
  rw [e,if_neg ∅,if_pos ∅];show (rP (bH g ps (t.nd 0) t.size))[(-1+(t.size:Int)).toNat]?=_;rw [show (-1+(t.size:Int)).toNat=t.size-1 by omega,<- qV];unfold rP;rw [Aj,Ad ∅,Af,Ad ∅];rfl
 unfold lst at hm;have c:yn (vR g ps t)≠[]:=λz=>by unfold gB at hm;rw [if_pos z] at hm;cases hm
 have e2:nk (yn (vR g ps t))=m:=by unfold gB at hm;rw [if_neg c] at hm;exact Option.some.inj hm
 simp only [aE,gl,sD,ck,hx,BT,sP,IT,fJ,ga,nw c,e2];exact q
end
theorem iV:∀(n:Nat) (t:Tr),t.depth < n->∀{Q:PV->Prop},(∀T:TQ,T.of=t->Q (T.to id).pv)->(aW n t.pv).run Q
 | 0,_,h,_,_=>by omega
 | n+1,.leaf w,_,Q,q=>by
  unfold aW;simp [Tr.pv];exact q (.lf w) rfl
 | n+1,.node a b,h,Q,q=>by
  have hd:a.depth < n/\b.depth < n:=by simp [Tr.depth] at h;omega
  unfold aW;have i0:dD [a.pv,b.pv] 0=am a.pv:=rfl;have i1:dD [a.pv,b.pv] 1=am b.pv:=rfl;simp only [Tr.pv,ga,cr,gR,gQ,cZ,Aq,if_false,aE,ck,i0,i1,BT,gl];refine iV n a hd.1 λA hA=>?_;refine iV n b hd.2 λB hB=>?_;simp only [gl,cr,c6 2 ⋯ ⋯];refine bB λd _ _=>?_;simp only [mq,bX,gl];cases c:d==0 with
  | true=>exact q (.nd false A B) (by rw [<- hA,<- hB];rfl)
  | false=>
   simp only [Aq,if_false,ga,sD,xr,Js];exact q (.nd true A B) (by rw [<- hA,<- hB];rfl)
def sub (us vs:List Str) (w:Str):Str:=vs.getD (us.idxOf w) ""
def Nz (h:w∈us):Rl (us.map PV.str) (.str w)=.ret (.int (us.idxOf w:Nat)):=by
 have h0:∀x∈us.map PV.str,PV.jm x=true/\PV.gC x<=150:=λx hx=>by
  obtain⟨s,_,rfl⟩:=Av.mp hx;simp
 have ok:G1 (.str w) (us.map PV.str):=⟨by simp,iL.mpr λx hx=>(h0 x hx).1,iM λx hx=>(h0 x hx).2⟩;have e:tV (.str w) (us.map PV.str)=us.idxOf w:=by
  unfold tV;clear h h0 ok
  induction us with
  | nil=>rfl
  | cons a us ih=>rw [Au,List.findIdx_cons,EG,ih,N7]
 have hs:lz (.str w) (us.map PV.str)=true:=by
  unfold lz;rw [Fg,List.any_eq_true];exact⟨w,h,by simp⟩
 unfold Rl;rw [nw ⟨ok,hs⟩,e]
theorem k8 (hl:us.length=vs.length):∀(n:Nat) (t:Tr),t.depth < n->(∀w∈t.av,w∈us)->(aL n t.pv (.cl (us.map PV.str)) (.cl (vs.map PV.str))).le (.ret (cm (sub us vs) t).pv)
 | 0,_,h,_=>by omega
 | n+1,.leaf w,_,hw=>λQ q=>by
  have hm:=hw w (by simp [Tr.av]);have hi:=Bf hm;unfold aL;have i0:dD (vs.map PV.str) ((us.idxOf w:Nat):Int)=am (.str (sub us vs w)):=eg (by
   unfold sub;rw [Aj,Ad ∅,Af,Ad ∅];rfl)
  simp only [Tr.pv,ga,qF,qE,cZ,if_true,cy,jo,Nz hm,ck,i0,BT];exact q
 | n+1,.node a b,h,hw=>λQ q=>by
  have hd:a.depth < n/\b.depth < n:=by simp [Tr.depth] at h;omega
  unfold aL;have i0:dD [a.pv,b.pv] 0=am a.pv:=rfl;have i1:dD [a.pv,b.pv] 1=am b.pv:=rfl;simp only [Tr.pv,ga,cr,gR,gQ,cZ,Aq,if_false,aE,ck,i0,i1,BT,gl];refine W.le.use (k8 hl n a hd.1 λw h=>hw w (A9 _ h)) ?_;refine W.le.use (k8 hl n b hd.2 λw h=>hw w (Ay _ h)) ?_;exact q
theorem LO (nd:vs.Nodup) (hl:us.length=vs.length) (h:w∈us):sub vs us (sub us vs w)=w:=by
 have hi:=Bf h;have e1:vs[us.idxOf w]?=am (sub us vs w):=by
  unfold sub;rw [Af,Ad ∅];rfl
 unfold sub at e1 ⊢;rw [wX nd e1,Af,pH h];rfl
theorem qJ (nd:vs.Nodup) (hl:us.length=vs.length):∀t:Tr,(∀w∈t.av,w∈us)->cm (sub vs us) (cm (sub us vs) t)=t
 | .leaf w,h=>by rw [cm,cm,LO nd hl (h w (by simp [Tr.av]))]
 | .node l r,h=>by rw [cm,cm,qJ nd hl l λw hw=>h w (A9 _ hw),qJ nd hl r λw hw=>h w (Ay _ hw)]
theorem kZ (ω:Str->Str):∀t:Tr,(cm ω t).size=t.size
 | .leaf _=>rfl
 | .node l r=>by show (cm ω l).size+(cm ω r).size+1=_;rw [kZ ω l,kZ ω r];rfl
theorem GH (nu:us.Nodup) (nd:vs.Nodup) (hl:us.length=vs.length) (hz:t.size<=30) (ht:∀w∈t.av,w∈us) (hs:∀w∈s.av,w∈us) (hv:lst (gS t) ps s=am v):lst (gS (cm (sub us vs) t)) ps (cm (sub us vs) s)=am v:=by
 have z1:(cm (sub us vs) t).size<=30:=by rw [kZ];exact hz
 have M1:=Jl (ω:=sub us vs) (TQ.pl t) (by rw [TQ.sz,TQ.uH];exact hz);rw [TQ.uH,TQ.IC] at M1;have M2:=Jl (ω:=sub vs us) (TQ.pl (cm (sub us vs) t)) (by rw [TQ.sz,TQ.uH];exact z1);rw [TQ.uH,TQ.IC,qJ nd hl t ht] at M2;obtain⟨m,hm,lm⟩:=M1.lst (bA hz) (bA z1) hv;obtain⟨m2,Ll,lm2⟩:=M2.lst (bA z1) (bA hz) hm;rw [qJ nd hl s hs,hv] at Ll;cases Ll;rw [hm];congr 1;omega
theorem GC {T S:TQ} (hz:T.sz<=30) (hv:lst (gS T.of) ps S.of=am v):lst (gS (T.to id)) ps (S.to id)=am v:=by
 have z1:(T.to id).size<=30:=by rw [T.cF];exact hz
 have M1:=Jl (ω:=id) T hz;have M2:=Jl (ω:=id) T.flip (by rw [TQ.sz,TQ.kS];exact z1);rw [TQ.kS,TQ.nS] at M2;obtain⟨m,hm,lm⟩:=M1.lst (bA hz) (bA z1) hv;obtain⟨m2,Ll,lm2⟩:=M2.lst (bA z1) (bA hz) hm;rw [vd,vd,hv] at Ll;rw [vd] at hm;cases Ll;unfold lst at hm ⊢;rw [mM,hm];congr 1;omega
theorem law31_ok:∀ns:List Int,ns.length<=63->(nv (.cl (ns.map PV.int))).run (·=.bl true):=by
 intro ns hn;unfold nv;obtain⟨m,hm,m0,m1⟩:∃m:Nat,(ap ((PV.int 1)\λx3=>ap ((PV.int 3)\λx1=>ap (c1 fD (bd (PV.cl (ns.map PV.int)))) λx2=>qv K8 [x1,x2]) λx4=>qv K9 [x3,x4]) jH)=.ret (iK 0 m)/\1<=m/\m<=3:=by
  simp only [ga,fy,Ai,V0,V1];generalize hx:(if (if (ns.length:Int) < 3 then (ns.length:Int) else 3) > 1 then (if (ns.length:Int) < 3 then (ns.length:Int) else 3) else 1)=x;have h1:1<=x/\x<=3:=by rw [<- hx];split <;> split <;> omega
  refine⟨x.toNat,?_,by omega,by omega⟩;rw [fw,nw (cD ∅ ∅)]
 rw [hm];simp only [ga,cr];refine NX (λ_ s=>s=()) rfl (λk s hk hs=>?_) (λs hs=>rfl);refine NQ ∅ ∅ λl hl=>?_;refine⟨hl,?_⟩;simp only [ga,cr,gl];refine G7 ⋯ ⋯ λt us Gt hp=>?_;have č:=hp.length_eq;have tz:=Gt.size;have td:=Gt.depth;have tf:=Gt.few;have tlp:=t.gk;have nu:us.Nodup:=hp.nodup_iff.mp Gt.nd;have une:us≠[]:=λz=>by rw [z,Bv] at č;omega
 simp only [pC,gl];refine qW une ∅ ⋯ ⋯ λs hs sn=>?_;refine qW une ∅ ⋯ ⋯ λo ho on=>?_;have sz1:=s.size_eq;have sz2:=o.size_eq;have sd:=s.nU;have slp:=s.gk;refine yS λps p4 p0=>?_;simp only [fy,Ai,gl];refine qQ (m:=us.length) ∅ λvs vl vw vnd _=>?_;have G:=bA (t:=t) ∅;have tw:∀w∈t.av,w∈us:=λw h=>hp.mem_iff.mp h;have sw:∀w∈s.av,w∈t.av:=λw h=>hp.mem_iff.mpr (hs w h);have ow:∀w∈o.av,w∈t.av:=λw h=>hp.mem_iff.mpr (ho w h);have pn:∀k,0<=ps.getD k 0:=λk=>by
  by_cases c:k < ps.length
  ·rw [Af,Ad c];exact p0 _ (Ca _)
  ·rw [Af,AZ ∅];exact BU _
 have gg:∀(t:Tr),t.size<=30->(eX t.pv).le (.ret (oz (gS t))):=λt hz=>by rw [Zt];exact KD t ∅
 obtain⟨c,hc⟩:=kg (ps:=ps) G sw;refine W.le.use (gg t ∅) ?_;refine W.le.use (cY G p4 ∅) ?_;refine W.le.use (Kk G p4 ∅ hc) ?_;simp only [hc,oP,xt,beq_self_eq_true,CA,gl,bX,Aq,if_false,cr];refine iV 12 t ∅ λT hT=>?_;have Tz:T.sz=t.size:=by rw [<- hT]
 refine W.le.use (gg (T.to id) (by rw [T.cF,Tz];omega)) ?_;refine iV 12 s ∅ λS hS=>?_;have Sz:S.sz=s.size:=by rw [<- hS]
 have ht:=GC (T:=T) (S:=S) (ps:=ps) (by rw [Tz];omega) (by rw [hT,hS];exact hc);refine W.le.use (cY (bA (t:=T.to id) (by rw [T.cF,Tz];omega)) p4 (by rw [S.cF,Sz];omega)) ?_;simp only [ht,oP,xt,beq_self_eq_true,CA,gl,bX,Aq,if_false,cr];have ÿ:us.length=vs.length:=vl.symm;refine W.le.use (k8 ÿ 12 s ∅ hs) ?_;refine W.le.use (k8 ÿ 12 t ∅ tw) ?_;refine W.le.use (gg (cm (sub us vs) t) (by rw [kZ];omega)) ?_;have hcl:=GH (ps:=ps) nu vnd ÿ (t:=t) (s:=s) ∅ tw hs hc;refine W.le.use (cY (bA (t:=cm (sub us vs) t) (by rw [kZ];omega)) p4 (by rw [kZ];omega)) ?_;simp only [hcl,oP,xt,beq_self_eq_true,CA,gl,bX,Aq,if_false,cr];refine Hy t ∅ ∅ λds d D ahx=>?_;have Rn:(splits t).length<=7:=by have:=Gb t;omega
 have ħ:=DD.of (D.isD ∅);have hb:(az t ds).length<=16:=by unfold az;rw [Ar,oI];have:=Iu t ds;omega
 refine W.le.use (OA ħ ∅) ?_;rw [<- ZW];have GD:=Lw ħ tz hb;have M:=NH ħ tz;obtain⟨e,he⟩:=kg (ps:=ps) GD sw;have Ö:c<=e:=by
  obtain⟨m,hm,lm⟩:=M.lst GD G he;rw [vd,hc] at hm;cases hm;exact lm
 refine W.le.use (cY GD p4 ∅) ?_;have nlt:¬e < c:=by omega
 simp only [he,oP,zQ,nlt,decide_false,gl,bX,Aq,if_false,cr,aE];refine Jq (λ_ s=>s=()) rfl (λk x s1 hx _=>?_) (λs _=>trivial);obtain⟨g,ws,rfl,Gg,hww⟩:∃(g:List Sy) (ws:List Str),x=oz g/\WG g ws/\ws=t.av:=by
  have:=Bt hx;simp at this;rcases this with rfl | rfl
  ·exact⟨_,_,rfl,G,rfl⟩
  ·exact⟨_,_,rfl,GD,rfl⟩
 subst hww;obtain⟨a,ha⟩:=kg (ps:=ps) Gg sw;have f4:∀{A:Type} (k:PV->W A),(ap (w2 addW (ap (bd (PV.tup (a7 ps))) λXl=>bm\λYV=>ap (ap (bd (PV.int 3)) FL.part) λYQ=>LZ Xl YV YQ) ((PV.int 0)\λXk=>bd (.tup [Xk]))) k)=k (.tup (a7 (ps.take 3++[0]))):=λk=>by
  have e3:uh (a7 ps) bm (am 3)=a7 (ps.take 3):=We (a:=3) ∅;have ea:addW (.tup (a7 (ps.take 3))) (.tup [.int 0])=.ret (.tup (a7 (ps.take 3++[0]))):=by
   rw [Jt,nw (bS (by simp;omega))];simp [a7]
  simp only [ga,xr,VX,e3,ea]
 have fl:(ps.take 3++[0]).length=4:=by simp;omega
 have f3:(ps.take 3++[0]).getD 3 0=0:=by
  rw [Af,AQ (by simp;omega)];have:3-(ps.take 3).length=0:=by simp;omega
  rw [this];rfl
 obtain⟨x1,WO⟩:=kg (ps:=ps.take 3++[0]) Gg sw;obtain⟨x2,ñ⟩:=kg (ps:=ps.take 3++[0]) Gg ow;obtain⟨x3,hx3,lx3⟩:=M6 Gg f3 WO ñ;have at1:=OO fl (k:=1) ∅;rw [show ((1:Nat):Int)=1 from rfl] at at1;have rest:∀(Q:Lp Unit PV->Prop),Q (.go ())->(ap (w2 addW (ap (bd (PV.tup (a7 ps))) λXl=>bm\λYV=>ap (ap (bd (PV.int 3)) FL.part) λYQ=>LZ Xl YV YQ) ((PV.int 0)\λXk=>bd (.tup [Xk]))) λeO=>
   ap (w2 addW (bI (oz g) s.pv eO) (bI (oz g) o.pv eO)) λqK=>
   eH (t2 WE (bI (oz g) (.tup [s.pv,o.pv]) eO) (w2 addW (bd qK) (c7 (ap (bd eO) aF) (bd (.int 1))))) (bd (Lp.out (.bl false))) (bd (.go ()))).run Q:=λQ hQ=>by
  rw [f4];simp only [ga,cr];refine W.le.use (cY Gg fl ∅) ?_;refine W.le.use (cY Gg fl ∅) ?_;simp only [WO,ñ,oP,d8,gl,cr];refine W.le.use (cY (t:=.node s o) Gg fl (by show s.size+o.size+1<=400;omega)) ?_;have ng:¬x3 > x1+x2+(ps.take 3++[0]).getD 1 0:=by omega
  simp only [hx3,oP,aE,gl,ck,at1,BT,d8,Th,ng,decide_false,bX,Aq,if_false];exact hQ
 cases s with
 | leaf w=>
  simp only [Tr.pv,ga,qF,qE,cZ,CA,gl,Aq,if_false,NS,cr];simp only [Tr.pv,ga,cr] at rest;exact rest _ trivial
 | node u v=>
  obtain⟨⟨y1,hy1,ly1⟩,y2,hy2,ly2⟩:=M5 Gg pn ha;have uz:(Tr.node u v).size=u.size+v.size+1:=rfl;simp only [Tr.pv,ga,gR,gQ,cZ,D2,gl,if_true,cr,aE,c6 2 ⋯ ⋯];refine bB λd d0 d1=>?_;obtain⟨p,y,hpv,hpy,ly,pz⟩:∃(p:Tr) (y:Int),dD [u.pv,v.pv] d=am p.pv/\lst g ps p=am y/\y<=a/\p.size<=400:=by
   have:d=0\/d=1:=by omega
   rcases this with rfl | rfl
   ·exact⟨u,y1,rfl,hy1,ly1,by omega⟩
   ·exact⟨v,y2,rfl,hy2,ly2,by omega⟩
  simp only [ck,hpv,BT,gl];refine W.le.use (cY Gg p4 pz) ?_;refine W.le.use (cY (t:=.node u v) Gg p4 ∅) ?_;have ng:¬y > a:=by omega
  simp only [hpy,ha,oP,Th,ng,decide_false,gl,bX,Aq,if_false,NS];simp only [Tr.pv,ga] at rest;exact rest _ trivial
end My
variable {Ig yF LM Ii Ih LL uA LN:PySem.Tok}{qL:BG}
namespace My
section
open PySem PySem.Spec PyProof.Rows L2 PL FL
def top (i:Nat):ul:=PySem.Challenge.pw_treewithin_k31_whole_trees_changed.main.body.getD i (.Pass ⟨0,0,0,0⟩)
def gI:aq ["tree","backward","waiting","part"] ["tree"] (af (top 1)):=ik
def iz:aq ["tree","told","loose","part","other","one"] ["tree"] (af (top 2)):=ik
def J2:aq ["node"] ["node"] (af (top 3)):=ik
abbrev tj:List Str:=["tree","told","node","ahead","number","half"]
def dQ:aq tj ["tree"] (af (top 4)):=ik
abbrev rQ:r9:=tM [("node",lo)]
def lO:aA (af (top 4)) tj rQ ["node"] [bm]:=lcs
def yL:aq ["stays","stay"] ["stays","stay"] (af (top 9)):=ik
def vN:aq ["stays","stay"] ["stays","stay"] (af (top 10)):=ik
def Gf:aq ["stays","stay","word"] ["stays","stay","word"] (af (top 11)):=ik
def Ge:aq ["houses","house"] ["houses","house"] (af (top 12)):=ik
abbrev sY:List Str:=["great","ahead","house","lines","above"]
def eS:aq sY ["great"] (af (top 13)):=ik
abbrev rL:r9:=tM [("house",lo)]
def lK:aA (af (top 13)) sY rL ["house"] [bm]:=lcs
abbrev oo:List Str:=["lines","house"]
def tI:aq oo ["lines","house"] (af (top 14)):=ik
abbrev o5:r9:=tM [("far",lo),("house",fr),("lines",fr)]
def jM:aA (af (top 14)) oo o5 ["far","house","lines"] [bm,am 1,am 0]:=lcs
abbrev FP:List Str:=["great","houses","lines"]
def oO:aq FP ["great"] (af (top 15)):=ik
abbrev wx:r9:=tM [("house",lo),("name_of",gi),("halves",gi),("apart_from",gi),("houses",fr),("lines",fr)]
def pN:aA (af (top 15)) FP wx ["house","houses","lines"] [bm,am 1,am 2]:=lcs
def mU:aq ["ground","stay","under"] ["ground","stay"] (af (top 22)):=ik
abbrev mF:List Str:=["ground","stay","beside"]
def pL:aq mF ["ground","stay"] (af (top 23)):=ik
abbrev rK:r9:=tM [("far",lo),("stay",fr)]
abbrev rJ:r9:=tM [("far",lo),("stay",fr)]
def lJ:aA (af (top 23)) mF rK ["far","stay"] [bm,am 1]:=lcs
def lI:aA (af (top 23)) mF rJ ["far","stay"] [bm,am 1]:=lcs
abbrev mG:List Str:=["ground","node","stay","split","over"]
def jZ:aq mG ["ground","node","stay"] (af (top 24)):=ik
abbrev rN:r9:=tM [("ins",lo),("SPLIT",gi)]
abbrev rM:r9:=tM [("ins",lo),("OVER",gi)]
def lM:aA (af (top 24)) mG rN ["ins"] [bm]:=lcs
def lL:aA (af (top 24)) mG rM ["ins"] [bm]:=lcs
def J1:aq ["costs"] ["costs"] (af (top 27)):=ik
abbrev sZ:List Str:=["costs"]
def yN:aq sZ ["costs"] (af (top 28)):=ik
abbrev rO:r9:=tM [("cost",lo)]
def lN:aA (af (top 28)) sZ rO ["cost"] [bm]:=lcs
def yM:aq ["prices","deed"] ["prices","deed"] (af (top 29)):=ik
abbrev pY:List Str:=["prices","rows","node","deed","onward"]
def mV:aq pY ["prices","rows","node","deed"] (af (top 30)):=ik
abbrev qc:r9:=tM [("half",lo),("stay",lo),("rows",fr)]
def gm:aA (af (top 30)) pY qc ["half","stay","rows"] [bm,bm,am 1]:=lcs
abbrev om:List Str:=["ground","prices","rows","node","stay"]
def tH:aq om ["ground","prices","rows","node","stay"] (af (top 31)):=ik
abbrev o4:r9:=tM [("deed",lo),("deed_cost",gi),("node",fr),("prices",fr),("rows",fr)]
def jL:aA (af (top 31)) om o4 ["deed","node","prices","rows"] [bm,am 3,am 1,am 2]:=lcs
def vM:aq ["ground","prices","stay"] ["ground","prices","stay"] (af (top 32)):=ik
abbrev oj:List Str:=["ground","prices","row","stay","own"]
def lF:aq oj ["ground","prices","row","stay"] (af (top 33)):=ik
abbrev oZ:r9:=tM [("below",lo),("summed",gi),("own",fr),("row",fr)]
def jK:aA (af (top 33)) oj oZ ["below","own","row"] [bm,am 4,am 2]:=lcs
def kK:aq ["ground","prices","rows","node","row","stay","costs"] ["ground","prices","rows","node"] (af (top 34)):=ik
def q8:aq ["ground","small","prices","rows","node"] ["ground","small","prices"] (af (top 35)):=ik
def L3:aq ["ground","small","prices"] ["ground","small","prices"] (af (top 36)):=ik
abbrev lW:List Str:=["houses","dates"]
def q9:aq lW ["houses","dates"] (af (top 38)):=ik
abbrev ny:r9:=tM [("house",lo),("date",lo),("isinstance",gi),("str",gi)]
def eG:aA (af (top 38)) lW ny ["house","date"] [bm,bm]:=lcs
def cK:aq ["great","dates","begins","ahead","pairs","number","begin","house","date"] ["great","dates","begins"] (af (top 39)):=ik
abbrev pI:List Str:=["houses","dates","begins","numbers","pair","house","layer","goes_on","below","under","beside"]
def dH:aq pI ["houses","dates","begins","numbers","pair"] (af (top 40)):=ik
abbrev tL:r9:=tM [("each",lo),("layer",fr),("numbers",fr)]
abbrev tK:r9:=tM [("far",lo),("house",fr),("layer",fr),("numbers",fr)]
def nC:aA (af (top 40)) pI tL ["each","layer","numbers"] [bm,am 6,am 3]:=lcs
def nB:aA (af (top 40)) pI tK ["far","house","layer","numbers"] [bm,am 5,am 6,am 3]:=lcs
abbrev yj:List Str:=["great","dates","houses","begins","pairs","numbers"]
def j3:aq yj ["great","dates"] (af (top 41)):=ik
abbrev zl:r9:=tM [("number",lo),("pair",lo)]
abbrev zk:r9:=tM [("pair",lo),("stay_of",gi),("begins",fr),("dates",fr),("houses",fr),("numbers",fr)]
def mi:aA (af (top 41)) yj zl ["number","pair"] [bm,bm]:=lcs
def rR:aA (af (top 41)) yj zk ["pair","begins","dates","houses","numbers"] [bm,am 3,am 1,am 2,am 5]:=lcs
def iZ:aq ["_law_script","_law_k","_law_cell","_law_great_here"] ["_law_script","_law_k"] (af (top 43)):=ik
def mW:aq ["_law_hand_here","_law_many","_law_digit"] ["_law_hand_here","_law_many"] (af (top 44)):=ik
def vO:aq ["_law_hand_here","_law_some"] ["_law_hand_here","_law_some"] (af (top 45)):=ik
abbrev oq:List Str:=["_law_hand_here","_law_many","_law_letters","_law_first","_law_turn","_law_tail"]
def df:aq oq ["_law_hand_here","_law_many"] (af (top 46)):=ik
abbrev o6:r9:=tM [("_law_k",lo),("_law_first",fr),("_law_letters",fr),("_law_tail",fr),("_law_turn",fr)]
def jN:aA (af (top 46)) oq o6 ["_law_k","_law_first","_law_letters","_law_tail","_law_turn"] [bm,am 3,am 2,am 5,am 4]:=lcs
def bT:aq ["_law_hand_here","_law_some","_law_turn","_law_one","_law_at","_law_pair"] ["_law_hand_here","_law_some"] (af (top 47)):=ik
def lH:aq ["_law_hand_here","_law_most","_law_words_here"] ["_law_hand_here","_law_most"] (af (top 48)):=ik
abbrev ou:List Str:=["_law_hand_here","_law_words_here","_law_most","_law_some"]
def lG:aq ou ["_law_hand_here","_law_words_here","_law_most"] (af (top 49)):=ik
abbrev o7:r9:=tM [("_law_k",lo),("_law_pick",gi),("_law_hand_here",fr),("_law_words_here",fr)]
def jO:aA (af (top 49)) ou o7 ["_law_k","_law_hand_here","_law_words_here"] [bm,am 0,am 1]:=lcs
def dg:aq ["_law_tree","_law_one","_law_other","_law_shifted","_law_node"] ["_law_tree"] (af (top 50)):=ik
abbrev ox:List Str:=["_law_hand_here","_law_great_here","_law_houses","_law_found","_law_date","_law_at","_law_waiting","_law_turn","_law_free"]
def a8:aq ox ["_law_hand_here","_law_great_here"] (af (top 51)):=ik
abbrev o8:r9:=tM [("_law_at",lo),("_law_house",lo),("isinstance",gi),("str",gi)]
def ff:aA (af (top 51)) ox o8 ["_law_at","_law_house"] [bm,bm]:=lcs
def cL:aq ["_law_hand_here","_law_found","_law_k","_law_some"] ["_law_hand_here"] (af (top 52)):=ik
def j5:aq ["_law_hand_here","_law_tree","_law_pair"] ["_law_hand_here","_law_tree"] (af (top 53)):=ik
def rf:aq ["_law_tree","_law_words_here","_law_others"] ["_law_tree","_law_words_here","_law_others"] (af (top 54)):=ik
abbrev lX:List Str:=["_law_stays","_law_small_here","_law_prices_here"]
def rd:aq lX ["_law_stays","_law_small_here","_law_prices_here"] (af (top 55)):=ik
abbrev nA:r9:=tM [("_law_cost",lo)]
def iI:aA (af (top 55)) lX nA ["_law_cost"] [bm]:=lcs
def c8:aq ["_law_script","_law_k","_law_hand_here","_law_great_here","_law_words_here","_law_small_here","_law_other","_law_prices_here","_law_others","_law_plain_stays","_law_cost","_law_stays","_law_its","_law_late_stays","_law_part","_law_free","_law_both"] ["_law_script"] (af (top 56)):=ik
structure NB (v:EV):Prop where
 isinstance:v.mg "isinstance"=bm
 str:v.mg "str"=bm
 list:v.mg "list"=bm
 reversed:v.mg "reversed"=bm
 len:v.mg "len"=bm
 tuple:v.mg "tuple"=bm
 enumerate:v.mg "enumerate"=bm
 range:v.mg "range"=bm
 sorted:v.mg "sorted"=bm
 sum:v.mg "sum"=bm
 min:v.mg "min"=bm
 zip:v.mg "zip"=bm
 dict:v.mg "dict"=bm
 abs:v.mg "abs"=bm
 int:v.mg "int"=bm
 max:v.mg "max"=bm
variable {v:EV}
abbrev mx:DF:=⟨"parts_of",top 1,["tree"],1,λK=>fh K [.v] (cn 1 je)⟩
def GS (D:DI v mx) (q:NB v):D.O:=
 U6 (m:=je) D gI λaY _ _ _ _ _ _ hr=>
 (sl 1 gI.nd (bf (n:=0) ai rfl) λmE=>
 (sl 2 gI.nd (bf (n:=1) (aa (ae 0) ai) rfl) λoC=>
 (SF.Xo (hd:=(λ(s4:List PV×List PV)=>([am (.val aY),am (.ol bm s4.1),am (.ol bm s4.2),bm]:bp))) (s0:=(mE,oC)) A1 (.refl _) (λs4=>(Xv rfl (cg 2) (λ_=>rfl))) (λs4=>
 (SF.Gk 2 3 rfl ⋯ rfl rfl (.inl rfl) gI.nd rfl (Di rfl) λt7=>
 (SF.append 1 rfl rfl rfl (.inl rfl) (ae 3) λmD=>
 (SF.YR (yE (gH rfl (jQ rfl .str rfl q.isinstance (ae 3) rfl q.str wf) (λ_=>rfl)))
 (SF.extend 2 rfl rfl rfl (.inl rfl) (aG (ae 3)) λqS=>
 (SF.jb rfl (.keep (.keep (.keep (.drop (.refl _)))))))
 (SF.jb rfl (.keep (.keep (.keep (.drop (.refl _)))))))))) λs4=>
 (SF.jI (YG rfl rfl rfl q.list rfl q.reversed (Mi 1)) λ_=>rfl))))
abbrev kX:DF:=⟨"nodes",top 2,["tree"],2,λK=>fV K [.v] (cn 1 gL)⟩
def Q4 (D:DI v kX) (q:NB v) (Ha:mx.C v):D.O:=
 rF (m:=gL) D iz λaY _ _ _ _ _ _ hr=>
 (sl 1 iz.nd (bf (n:=0) ai rfl) λiW=>
 (sl 2 iz.nd (bf (n:=0) ai rfl) λwy=>
 (SF.xn (hd:=(λ(s4:List PV×List PV)=>([am (.val aY),am (.ol bm s4.1),am (.ol bm s4.2),bm,bm,bm]:bp))) (s0:=(iW,wy)) A1 rfl (cU rfl (Ji (lC Ha hr (aa (ae 0) ai)))) (.refl _) (f6 3 iz.nd) (λs4 vY=>
 (SF.ifS (out1:=λ(Uk:List PV×List PV)=>.nx ([am (.val aY),am (.ol bm Uk.1),am (.ol bm Uk.2),am (.val vY),bm,bm]:bp)) (gH rfl (jQ rfl .str rfl q.isinstance (ae 3) rfl q.str wf) (λ_=>rfl))
 (SF.append 1 rfl rfl rfl (.inl rfl) (ae 3) λIc=>
 (SF.nil rfl (.refl _)))
 (SF.Gk 2 4 rfl ⋯ rfl rfl (.inl rfl) iz.nd rfl (Di rfl) λt20=>
 (SF.Gk 2 5 rfl ⋯ rfl rfl (.inl rfl) iz.nd rfl (Di rfl) λt22=>
 (SF.append 1 rfl rfl rfl (.inl rfl) (aZ (n:=2) (aa (ae 5) (aa (ae 4) ai)) rfl) λIb=>
 (SF.nil rfl (.keep (.keep (.keep (.keep (.drop (.drop (.refl _)))))))))))
 λUk=>(SF.append 2 rfl rfl rfl (.inl rfl) (u5 (sI rfl rfl q.len (cg 1)) ao) λzm=>
 (SF.jb rfl (.keep (.keep (.keep (.drop (.refl _))))))))) λs4=>
 (SF.dI (d9 rfl rfl q.tuple (cg 1)) λ_=>rfl))))
abbrev iO:DF:=⟨"halves",top 3,["node"],1,λK=>fV K [.v] (cn 1 cz)⟩
def Nl (D:DI v iO) (q:NB v):D.O:=
 rF (m:=cz) D J2 λeD _ _ _ _ _ _ hr=>
 (SF.dI (t6 (gH rfl (jQ rfl .str rfl q.isinstance (ae 0) rfl q.str wf) (λ_=>rfl)) (aZ (n:=0) ai rfl) (ae 0)) λ_=>rfl)
abbrev jw:DF:=⟨"ahead_of",top 4,["tree"],3,λK=>fV K [.v] (cn 1 eF)⟩
def GY (D:DI v jw) (q:NB v) (jk:kX.C v) (gp:iO.C v):D.O:=
 rF (m:=eF) D dQ λaY _ _ _ _ _ _ hr=>
 (sv 1 dQ.nd (eC jk hr (aa (ae 0) ai)) λiW=>
 (SF.mS (i:=3) rfl dQ.nd rfl rfl lO (cU rfl (cH (ae 1))) (λ_ _ _ _ _=>(f6 0 lO.nd)) (λ_ _ _ _ _ p5=>sG) rfl λxV=>
 (SF.VS (hd:=(λ(s7:List PV)=>([am (.val aY),am (.val iW),bm,am (.ol bm s7),bm,bm]:bp))) (s0:=xV) A1 rfl (nI rfl rfl q.enumerate (cH (ae 1))) (.refl _) (λ_=>(Ry rfl (i6 rfl (ba (f6 4 dQ.nd) (ba (f6 2 dQ.nd) fj))))) (λs7 t9=>
 (SF.xn (hd:=(λ(Ul:List PV)=>([am (.val aY),am (.val iW),am (.val t9.2),am (.ol bm Ul),am (.val t9.1),bm]:bp))) (s0:=s7) A1 rfl (cU rfl (cH (eC gp hr (aa (ae 2) ai)))) (.refl _) (f6 5 dQ.nd) (λUl Jm=>
 (SF.Gd 3 rfl rfl (.inl rfl) (ae 4) (ae 5) λFD=>
 (SF.jb rfl (.keep (.keep (.keep (.keep (.keep (.drop (.refl _)))))))))) λUl=>
 (SF.jb rfl (.keep (.keep (.drop (.keep (.drop (.refl _))))))))) λs7=>
 (SF.dI (d9 rfl rfl q.tuple (cg 3)) λ_=>rfl))))
abbrev eK:DF:=⟨"under_at",top 9,["stays","stay"],1,λK=>fV K [.v,.v] (cn 2 cO)⟩
def GP (D:DI v eK) (nX:v.mg "UNDER"=am (.int 2 Ig)):D.O:=
 Gy (m:=cO) D yL λfc bh _ _ _ _ _ _ hr=>
 (SF.dI (a6 rfl (aG (a6 rfl (aG (ae 0)) (ae 1))) (xB nX rfl)) λ_=>rfl)
abbrev kB:DF:=⟨"beside_at",top 10,["stays","stay"],1,λK=>fV K [.v,.v] (cn 2 eY)⟩
def zA (D:DI v kB) (kE:v.mg "BESIDE"=am (.int 3 yF)):D.O:=
 Gy (m:=eY) D vN λfc bh _ _ _ _ _ _ hr=>
 (SF.dI (a6 rfl (aG (a6 rfl (aG (ae 0)) (ae 1))) (xB kE rfl)) λ_=>rfl)
abbrev pF:DF:=⟨"is_home",top 11,["stays","stay","word"],2,λK=>fV K [.v,.v,.v] (cn 3 iH)⟩
def Ks (D:DI v pF) (sR:v.mg "NAME"=am (.int 0 LM)) (dN:eK.C v):D.O:=
 M0 (m:=iH) D Gf λfc bh Sn _ _ _ _ _ _ hr=>
 (SF.dI (ZT (Jw (rX rfl (bF hr)) (eC dN hr (aa (ae 0) (aa (ae 1) ai))) (aZ (n:=0) ai rfl)) (ZN (Jw (rX rfl (bF hr)) (a6 rfl (aG (a6 rfl (aG (ae 0)) (ae 1))) (xB sR rfl)) (ae 2)))) λ_=>rfl)
abbrev kY:DF:=⟨"name_of",top 12,["houses","house"],1,λK=>fV K [.v,.v] (cn 2 dU)⟩
def Kr (D:DI v kY) (q:NB v):D.O:=
 Gy (m:=dU) D Ge λeN ko _ _ _ _ _ _ hr=>
 (SF.dI (t6 (gH rfl (jQ rfl .str rfl q.isinstance (a6 rfl (aG (ae 0)) (ae 1)) rfl q.str wf) (λ_=>rfl)) (a6 rfl (aG (ae 0)) (ae 1)) (ae 1)) λ_=>rfl)
abbrev mz:DF:=⟨"lines_up",top 13,["great"],4,λK=>fh K [.v] (cn 1 gh)⟩
def GV (D:DI v mz) (q:NB v) (mn:jw.C v):D.O:=
 U6 (m:=gh) D eS λda _ _ _ _ _ _ hr=>
 (sv 1 eS.nd (eC mn hr (aa (ae 0) ai)) λdF=>
 (SF.mS (i:=3) rfl eS.nd rfl rfl lK (cU rfl (cH (ae 1))) (λ_ _ _ _ _=>(f6 0 lK.nd)) (λ_ _ _ _ _ p5=>(aZ (n:=0) ai rfl)) rfl λkQ=>
 (SF.xn (hd:=(λ(s9:List PV)=>([am (.val da),am (.val dF),bm,am (.ol bm s9),bm]:bp))) (s0:=kQ) A1 rfl (Rb rfl q.range (u5 (fg rfl rfl q.len (ae 1)) ao) (u9 ao) (u9 ao)) (.refl _) (f6 2 eS.nd) (λs9 kn=>
 (sv 4 eS.nd (t6 (de Nq (a6 rfl (aG (ae 1)) (ae 2)) sG) (aZ (n:=0) ai rfl) (a6 rfl (cg 3) (a6 rfl (aG (ae 1)) (ae 2)))) λFE=>
 (SF.Gd 3 rfl rfl (.inl rfl) (b9 rfl (aZ (n:=1) (aa (ae 2) ai) rfl) (ae 4)) (ae 2) λzq=>
 (SF.jb rfl (.keep (.keep (.drop (.keep (.drop (.refl _)))))))))) λs9=>
 (SF.X0 3 rfl rfl))))
abbrev jv:DF:=⟨"apart_from",top 14,["lines","house"],1,λK=>fV K [.v,.v] (cn 2 d6)⟩
def wJ (D:DI v jv) (q:NB v):D.O:=
 Gy (m:=d6) D tI λwA ko _ _ _ _ _ _ hr=>
 (SF.dI (d9 rfl rfl q.tuple (yP (Jb rfl jM (fo rfl q.range (fg rfl rfl q.len (ae 0))) (λ_ _ _ _ _=>(f6 0 jM.nd)) (λ_ _ _ _ _ p3=>(JL.t (qT (vG rfl (bF hr) (ae 0) (aG (a6 rfl (aG (ae 2)) (ae 1)))) (mP (vG rfl (bF hr) (ae 1) (aG (a6 rfl (aG (ae 2)) (ae 0)))))))) (λ_ _ _ _ _ p3=>(ae 0)) rfl))) λ_=>rfl)
abbrev sM:DF:=⟨"ground",top 15,["great"],5,λK=>fV K [.v] (cn 1 eX)⟩
def Nm (D:DI v sM) (q:NB v) (jk:kX.C v) (Hc:mz.C v) (pB:kY.C v) (gp:iO.C v) (xf:jv.C v):D.O:=
 rF (m:=eX) D oO λda _ _ _ _ _ _ hr=>
 (sv 1 oO.nd (eC jk hr (aa (ae 0) ai)) λbr=>
 (sl 2 oO.nd (lC Hc hr (aa (ae 0) ai)) λkQ=>
 SF.cI 2 rfl (SF.dI (d9 rfl rfl q.tuple (yP (kh rfl pN (fo rfl q.range (fg rfl rfl q.len (ae 1))) (λ_ _ _ _ _=>(f6 0 pN.nd)) (λ_ _ _ _ _ p7=>(aZ (n:=4) (aa (eC pB hr (aa (ae 1) (aa (ae 0) ai))) (aa ao (aa (eC gp hr (aa (a6 rfl (aG (ae 1)) (ae 0)) ai)) (aa (eC xf hr (aa (ae 2) (aa (ae 0) ai))) ai)))) rfl)) rfl))) λ_=>rfl)))
abbrev kz:DF:=⟨"split_ins",top 22,["ground","stay"],2,λK=>fh K [.v,.v] (cn 2 eW)⟩
def zx (D:DI v kz) (q:NB v) (dN:eK.C v):D.O:=
 QN (m:=eW) D mU λaH bh _ _ _ _ _ _ hr=>
 (sv 2 mU.nd (eC dN hr (aa (ae 0) (aa (ae 1) ai))) λmO=>
 (SF.jI (YK (de (rX rfl (bF hr)) (fg rfl rfl q.len (ae 2)) ao) (bf (n:=2) (aa (ae 2) (aa (aZ (n:=2) (aa (a6 rfl (aG (ae 2)) ao) (aa (a6 rfl (aG (ae 2)) ao) ai)) rfl) ai)) rfl) (bf (n:=0) ai rfl)) λ_=>rfl))
abbrev my:DF:=⟨"over_ins",top 23,["ground","stay"],2,λK=>fh K [.v,.v] (cn 2 gc)⟩
def GU (D:DI v my) (zL:kB.C v):D.O:=
 QN (m:=gc) D pL λaH bh _ _ _ _ _ _ hr=>
 (sv 2 pL.nd (eC zL hr (aa (ae 0) (aa (ae 1) ai))) λsT=>
 (SF.jI (nG rfl (cM (kh rfl lJ (cU rfl (cH (ae 2))) (λ_ _ _ _ _=>(f6 0 lJ.nd)) (λ_ _ _ _ _ p5=>(aZ (n:=2) (aa (ae 1) (aa (ae 0) ai)) rfl)) rfl)) (cM (kh rfl lI (cU rfl (cH (ae 2))) (λ_ _ _ _ _=>(f6 0 lI.nd)) (λ_ _ _ _ _ p9=>(aZ (n:=2) (aa (ae 0) (aa (ae 1) ai)) rfl)) rfl))) λ_=>rfl))
abbrev mB:DF:=⟨"deeds_at",top 24,["ground","node","stay"],3,λK=>fh K [.v,.v,.v] (cn 3 eE)⟩
def GW (D:DI v mB) (q:NB v) (nZ:v.mg "FOUND"=am (.str "found" Ii)) (nY:v.mg "SPLIT"=am (.str "split" Ih)) (sQ:v.mg "OVER"=am (.str "over" LL)) (iP:v.mg "DOUBLED"=am (.str "doubled" uA)) (KI:pF.C v) (zJ:kz.C v) (Hb:my.C v):D.O:=
 YB (m:=eE) D jZ λaH eD bh _ _ _ _ _ _ hr=>
 (SF.Rk (gH rfl (jQ rfl .str rfl q.isinstance (ae 1) rfl q.str wf) (λ_=>rfl))
 (SF.jI (YK (gH rfl (eC KI hr (aa (ae 0) (aa (ae 2) (aa (ae 1) ai)))) (λ_=>rfl)) (bf (n:=1) (aa (aZ (n:=2) (aa (xA nZ rfl) (aa (aZ (n:=0) ai rfl) ai)) rfl) ai) rfl) (bf (n:=0) ai rfl)) λ_=>rfl)
 (SF.mS (i:=3) rfl jZ.nd rfl rfl lM (cU rfl (Ji (lC zJ hr (aa (ae 0) (aa (ae 2) ai))))) (λ_ _ _ _ _=>(f6 0 lM.nd)) (λ_ _ _ _ _ ê=>(aZ (n:=2) (aa (xA nY rfl) (aa (ae 0) ai)) rfl)) rfl λIq=>
 SF.cI 3 rfl (SF.mS (i:=4) rfl jZ.nd rfl rfl lL (cU rfl (Ji (lC Hb hr (aa (ae 0) (aa (ae 2) ai))))) (λ_ _ _ _ _=>(f6 0 lL.nd)) (λ_ _ _ _ _ p18=>(aZ (n:=2) (aa (xA sQ rfl) (aa (ae 0) ai)) rfl)) rfl λIJ=>
 SF.cI 4 rfl (SF.jI (QW rfl (bF hr) rfl q.sorted (cM (nG rfl (cM (nG rfl (cM (bf (n:=1) (aa (aZ (n:=2) (aa (xA iP rfl) (aa (aZ (n:=2) (aa (ae 2) (aa (ae 2) ai)) rfl) ai)) rfl) ai) rfl)) (me (ae 3)))) (me (ae 4))))) λ_=>rfl))))
abbrev nV:DF:=⟨"summed",top 27,["costs"],1,λK=>fV K [.v] (cn 1 iE)⟩
def Ni (D:DI v nV) (q:NB v):D.O:=
 rF (m:=iE) D J1 λpG _ _ _ _ _ _ hr=>
 (SF.dI (t6 (Xx rfl (bF hr) sG (aG (ae 0))) sG (V4 rfl rfl rfl q.sum (me (ae 0)))) λ_=>rfl)
abbrev ju:DF:=⟨"cheapest",top 28,["costs"],1,λK=>fV K [.v] (cn 1 cQ)⟩
def GX (D:DI v ju) (q:NB v):D.O:=
 rF (m:=cQ) D yN λpG _ _ _ _ _ _ hr=>
 (SF.dI (V6 rfl rfl rfl q.min (cM (Jb rfl lN (cU rfl (cH (ae 0))) (λ_ _ _ _ _=>(f6 0 lN.nd)) (λ_ _ _ _ _ p2=>(de Je (ae 0) sG)) (λ_ _ _ _ _ p2=>(ae 0)) rfl))) λ_=>rfl)
abbrev mw:DF:=⟨"price_of",top 29,["prices","deed"],1,λK=>fV K [.v,.v] (cn 2 dJ)⟩
def GR (D:DI v mw) (lg:v.mg "DEEDS"=am (.ref qL)) (qB:OW v.K qL ["split","doubled","over"]):D.O:=
 Gy (m:=dJ) D yM λaR sJ _ _ _ _ _ _ hr=>
 (SF.dI (t6 (Xw rfl (bF hr) (ae 1) lg qB) (a6 rfl (aG (ae 0)) (V7 rfl (ae 1) lg qB)) ao) λ_=>rfl)
abbrev kA:DF:=⟨"deed_cost",top 30,["prices","rows","node","deed"],2,λK=>fV K [.v,.v,.v,.v] (cn 4 cP)⟩
def zy (D:DI v kA) (q:NB v) (gp:iO.C v) (sh:nV.C v) (G9:mw.C v):D.O:=
 YA (m:=cP) D mV λaR mX eD sJ _ _ _ _ _ _ hr=>
 (SF.Iz (i:=4) rfl mV.nd rfl rfl gm (Nv rfl rfl q.zip (cH (eC gp hr (aa (ae 2) ai))) (cH (a6 rfl (aG (ae 3)) ao))) (λ_ _ _ _ _=>(Ry rfl (i6 rfl (ba (f6 0 gm.nd) (ba (f6 1 gm.nd) fj))))) (λ_ _ _ _ _ t7=>(a6 rfl (aG (a6 rfl (aG (ae 2)) (ae 0))) (ae 1))) (QT rfl rfl ⋯) ⋯ λy8=>
 SF.cI 4 rfl (SF.dI (eC sh hr (aa (pS (nG rfl (cM (bf (n:=1) (aa (eC G9 hr (aa (ae 0) (aa (a6 rfl (aG (ae 3)) ao) ai))) ai) rfl)) (me (ae 4)))) ai)) λ_=>rfl))
abbrev jt:DF:=⟨"deed_costs",top 31,["ground","prices","rows","node","stay"],4,λK=>fh K [.v,.v,.v,.v,.v] (cn 5 d5)⟩
def wI (D:DI v jt) (Hd:mB.C v) (zK:kA.C v):D.O:=
 ace (m:=d5) D tH λaH aR mX eD bh _ _ _ _ _ _ hr=>
 (SF.jI (kh rfl jL (cU rfl (Ji (lC Hd hr (aa (ae 0) (aa (ae 3) (aa (ae 4) ai)))))) (λ_ _ _ _ _=>(f6 0 jL.nd)) (λ_ _ _ _ _ p5=>(eC zK hr (aa (ae 2) (aa (ae 3) (aa (ae 1) (aa (ae 0) ai)))))) rfl) λ_=>rfl)
abbrev kx:DF:=⟨"step_cost",top 32,["ground","prices","stay"],2,λK=>fV K [.v,.v,.v] (cn 3 eV)⟩
def zw (D:DI v kx) (q:NB v) (sS:v.mg "LOST"=am (.int 3 LN)) (dN:eK.C v):D.O:=
 M0 (m:=eV) D vM λaH aR bh _ _ _ _ _ _ hr=>
 (SF.dI (t6 (de (rX rfl (bF hr)) (fg rfl rfl q.len (eC dN hr (aa (ae 0) (aa (ae 2) ai)))) ao) (a6 rfl (aG (ae 1)) (xB sS rfl)) ao) λ_=>rfl)
abbrev jr:DF:=⟨"step_costs",top 33,["ground","prices","row","stay"],3,λK=>fh K [.v,.v,.v,.v] (cn 4 d4)⟩
def wF (D:DI v jr) (zI:kx.C v) (dN:eK.C v) (sh:nV.C v):D.O:=
 acf (m:=d4) D lF λaH aR XY bh _ _ _ _ _ _ hr=>
 (sv 4 lF.nd (eC zI hr (aa (ae 0) (aa (ae 1) (aa (ae 3) ai)))) λSJ=>
 (SF.jI (kh rfl jK (cU rfl (cH (eC dN hr (aa (ae 0) (aa (ae 3) ai))))) (λ_ _ _ _ _=>(f6 0 jK.nd)) (λ_ _ _ _ _ p8=>(eC sh hr (aa (pS (bf (n:=2) (aa (ae 1) (aa (a6 rfl (aG (ae 2)) (ae 0)) ai)) rfl)) ai))) rfl) λ_=>rfl))
abbrev sL:DF:=⟨"row_of",top 34,["ground","prices","rows","node"],5,λK=>fV K [.v,.v,.v,.v] (cn 4 kf)⟩
def Nj (D:DI v sL) (q:NB v) (xc:jt.C v) (xb:jr.C v) (mm:ju.C v):D.O:=
 YA (m:=kf) D kK λaH aR mX eD _ _ _ _ _ _ hr=>
 (sl 4 kK.nd (bf (n:=0) ai rfl) λL7=>
 (SF.xn (hd:=(λ(s3:List PV)=>([am (.val aH),am (.val aR),am (.val mX),am (.val eD),am (.ol bm s3),bm,bm]:bp))) (s0:=L7) A1 rfl (fo rfl q.range (fg rfl rfl q.len (ae 0))) (.refl _) (f6 5 kK.nd) (λs3 Ga=>
 (sl 6 kK.nd (YL 4 rfl (nG rfl (cM (lC xc hr (aa (ae 0) (aa (ae 1) (aa (ae 2) (aa (ae 3) (aa (ae 5) ai))))))) (cM (lC xb hr (aa (ae 0) (aa (ae 1) (aa (ae 4) (aa (ae 5) ai)))))))) λJB=>
 SF.cI 6 rfl (SF.append 4 rfl rfl rfl (.inl rfl) (eC mm hr (aa (ae 6) ai)) λL6=>
 (SF.jb rfl (.keep (.keep (.keep (.keep (.keep (.drop (.drop (.refl _)))))))))))) λs3=>
 (SF.dI (d9 rfl rfl q.tuple (cg 4)) λ_=>rfl)))
abbrev qI:DF:=⟨"table",top 35,["ground","small","prices"],6,λK=>fV K [.v,.v,.v] (cn 3 kN)⟩
def Q3 (D:DI v qI) (q:NB v) (jk:kX.C v) (NU:sL.C v):D.O:=
 M0 (m:=kN) D q8 λaH oJ aR _ _ _ _ _ _ hr=>
 (sl 3 q8.nd (bf (n:=0) ai rfl) λGh=>
 (SF.xn (hd:=(λ(s3:List PV)=>([am (.val aH),am (.val oJ),am (.val aR),am (.ol bm s3),bm]:bp))) (s0:=Gh) A1 rfl (cU rfl (cH (eC jk hr (aa (ae 1) ai)))) (.refl _) (f6 4 q8.nd) (λs3 MU=>
 (SF.append 3 rfl rfl rfl (.inl rfl) (ZS 3 rfl (eC NU hr (aa (ae 0) (aa (ae 2) (aa (ae 3) (aa (ae 4) ai)))))) λL5=>
 (SF.jb rfl (.keep (.keep (.keep (.keep (.drop (.refl _))))))))) λs3=>
 (SF.dI (d9 rfl rfl q.tuple (cg 3)) λ_=>rfl)))
abbrev xO:DF:=⟨"least",top 36,["ground","small","prices"],7,λK=>fV K [.v,.v,.v] (cn 3 bI)⟩
def Q5 (D:DI v xO) (mm:ju.C v) (xa:qI.C v):D.O:=
 M0 (m:=bI) D L3 λaH oJ aR _ _ _ _ _ _ hr=>
 (SF.dI (eC mm hr (aa (a6 rfl (aG (eC xa hr (aa (ae 0) (aa (ae 1) (aa (ae 2) ai))))) (u9 ao)) ai)) λ_=>rfl)
abbrev g9:DF:=⟨"split_dates",top 38,["houses","dates"],1,λK=>fh K [.v,.v] (cn 2 dj)⟩
def tQ (D:DI v g9) (q:NB v):D.O:=
 QN (m:=dj) D q9 λeN dc _ _ _ _ _ _ hr=>
 (SF.jI (YJ rfl eG (Nv rfl rfl q.zip (cH (ae 0)) (cH (ae 1))) (λ_ _ _ _ _=>(Ry rfl (i6 rfl (ba (f6 0 eG.nd) (ba (f6 1 eG.nd) fj))))) (λ_ _ _ _ _ t5=>(yE (gH rfl (jQ rfl .str rfl q.isinstance (ae 0) rfl q.str wf) (λ_=>rfl)))) (λ_ _ _ _ _ t5=>(ae 1)) (QT rfl rfl ⋯) ⋯) λ_=>rfl)
abbrev mr:DF:=⟨"standing",top 39,["great","dates","begins"],4,λK=>fh K [.v,.v,.v] (cn 3 gb)⟩
def GQ (D:DI v mr) (q:NB v) (mn:jw.C v):D.O:=
 YB (m:=gb) D cK λda dc jC _ _ _ _ _ _ hr=>
 (sv 3 cK.nd (eC mn hr (aa (ae 0) ai)) λdF=>
 (sl 4 cK.nd (bf (n:=0) ai rfl) λv5=>
 (SF.VS (hd:=(λ(s5:List PV)=>([am (.val da),am (.val dc),am (.val jC),am (.val dF),am (.ol bm s5),bm,bm,bm,bm]:bp))) (s0:=v5) A1 rfl (nI rfl rfl q.enumerate (cH (ae 2))) (.refl _) (λ_=>(Ry rfl (i6 rfl (ba (f6 5 cK.nd) (ba (f6 6 cK.nd) fj))))) (λs5 t7=>
 (SF.VS (hd:=(λ(s9:List PV)=>([am (.val da),am (.val dc),am (.val jC),am (.val dF),am (.ol bm s9),am (.val t7.1),am (.val t7.2),bm,bm]:bp))) (s0:=s5) A1 rfl (nI rfl rfl q.enumerate (cH (ae 1))) (.refl _) (λ_=>(Ry rfl (i6 rfl (ba (f6 7 cK.nd) (ba (f6 8 cK.nd) fj))))) (λs9 XO=>
 (SF.YR (JL.t (qT (de S0 (ae 8) (ae 6)) (mP (JL.t (Xt (de Nq (a6 rfl (aG (ae 3)) (ae 7)) sG) (T4 (de Jf (ae 6) (a6 rfl (aG (ae 1)) (a6 rfl (aG (ae 3)) (ae 7))))))))))
 (SF.append 4 rfl rfl rfl (.inl rfl) (aZ (n:=2) (aa (ae 7) (aa (ae 5) ai)) rfl) λyZ=>
 (SF.jb rfl (.keep (.keep (.keep (.keep (.keep (.keep (.keep (.drop (.drop (.refl _))))))))))))
 (SF.jb rfl (.keep (.keep (.keep (.keep (.keep (.keep (.keep (.drop (.drop (.refl _))))))))))))) λs9=>
 (SF.jb rfl (.keep (.keep (.keep (.keep (.keep (.drop (.drop (.refl _))))))))))) λs5=>
 (SF.X0 4 rfl rfl))))
abbrev pE:DF:=⟨"stay_of",top 40,["houses","dates","begins","numbers","pair"],2,λK=>fV K [.v,.v,.v,.v,.v] (cn 5 iG)⟩
def Kq (D:DI v pE) (q:NB v) (gp:iO.C v) (pB:kY.C v):D.O:=
 acb (m:=iG) D dH λeN dc jC m7 MF _ _ _ _ _ _ hr=>
 (sv 5 dH.nd (a6 rfl (aG (ae 4)) ao) λkR=>
 (sv 6 dH.nd (a6 rfl (aG (ae 4)) ao) λnF=>
 (sv 7 dH.nd (Jw Jf (a6 rfl (aG (ae 1)) (ae 5)) (a6 rfl (aG (ae 2)) (ae 6))) λuY=>
 (sv 8 dH.nd (t6 (gH rfl (ae 7) (λ_=>rfl)) (aZ (n:=1) (aa (ae 5) ai) rfl) (eC gp hr (aa (a6 rfl (aG (ae 0)) (ae 5)) ai))) λbelow_4=>
 (sv 9 dH.nd (d9 rfl rfl q.tuple (yP (kh rfl nC (cU rfl (cH (ae 8))) (λ_ _ _ _ _=>(f6 0 nC.nd)) (λ_ _ _ _ _ p9=>(Ov (bF hr) (ae 2) (aZ (n:=2) (aa (ae 0) (aa (u5 (ae 1) ao) ai)) rfl) (λ_ _=>rfl))) rfl))) λH9=>
 (sv 10 dH.nd (d9 rfl rfl q.tuple (yP (Jb rfl nB (Rc (ae 3)) (λ_ _ _ _ _=>(f6 0 nB.nd)) (λ_ _ _ _ _ Ym=>(JL.t (qT (de (rX rfl (bF hr)) (a6 rfl (aG (ae 0)) ao) (ae 2)) (mP (de (Jd rfl (bF hr)) (a6 rfl (aG (ae 0)) ao) (ae 1)))))) (λ_ _ _ _ _ Ym=>(Ov (bF hr) (ae 3) (ae 0) (λ_ _=>rfl))) rfl))) λvk=>
 (SF.dI (aZ (n:=4) (aa (eC pB hr (aa (ae 0) (aa (ae 5) ai))) (aa (ae 6) (aa (ae 9) (aa (ae 10) ai)))) rfl) λ_=>rfl)))))))
abbrev xP:DF:=⟨"dated",top 41,["great","dates"],5,λK=>fV K [.v,.v] (cn 2 kO)⟩
def Q6 (D:DI v xP) (q:NB v) (jk:kX.C v) (tX:g9.C v) (G8:mr.C v) (KH:pE.C v):D.O:=
 Gy (m:=kO) D j3 λda dc _ _ _ _ _ _ hr=>
 (sv 2 j3.nd (eC jk hr (aa (ae 0) ai)) λbr=>
 (sl 3 j3.nd (nG rfl (cM (bf (n:=1) (aa ao ai) rfl)) (cM (QX rfl rfl q.sorted (cM (lC tX hr (aa (ae 2) (aa (ae 1) ai))))))) λsU=>
 SF.cI 3 rfl (sl 4 j3.nd (lC G8 hr (aa (ae 0) (aa (ae 1) (aa (ae 3) ai)))) λvZ=>
 SF.cI 4 rfl (sv 5 j3.nd (adI (RT rfl rfl (bF hr) rfl q.dict (cM (Ve rfl mi (nI rfl rfl q.enumerate (cH (ae 4))) (λ_ _ _ _ _=>(Ry rfl (i6 rfl (ba (f6 0 mi.nd) (ba (f6 1 mi.nd) fj))))) (λ_ _ _ _ _ Ā=>(aZ (n:=2) (aa (ae 1) (aa (ae 0) ai)) rfl)) (QT rfl rfl ⋯) ⋯)))) λrz=>
 (SF.dI (d9 rfl rfl q.tuple (yP (kh rfl rR (cU rfl (cH (ae 4))) (λ_ _ _ _ _=>(f6 0 rR.nd)) (λ_ _ _ _ _ p21=>(eC KH hr (aa (ae 3) (aa (ae 2) (aa (ae 1) (aa (ae 4) (aa (ae 0) ai))))))) rfl))) λ_=>rfl)))))
abbrev kC:DF:=⟨"_law_hand",top 43,["_law_script","_law_k"],1,λK=>fh K [.v,.v] (cn 2 eZ)⟩
def zD (D:DI v kC) (q:NB v):D.O:=
 QN (m:=eZ) D iZ λeM k_ _ _ _ _ _ _ hr=>
 (sv 2 iZ.nd (t6 (de Jf (ae 1) (fg rfl rfl q.len (ae 0))) (a6 rfl (aG (ae 0)) (ae 1)) ao) λkD=>
 (sv 3 iZ.nd (sH (Tp rfl q.abs (ae 2)) (RH rfl q.int (Jw YO (Tp rfl q.abs (ae 2)) (Tj ao ao)))) λfq=>
 (SF.jI (bf (n:=3) (aa (ae 3) (aa (pR (sH (b9 rfl (b9 rfl (pR (ae 2) ao) (sH (sH ao (ae 1)) (ae 1))) ao) ao) ao) (aa ao ai))) rfl) λ_=>rfl)))
abbrev bg:DF:=⟨"_law_take",top 44,["_law_hand_here","_law_many"],1,λK=>fV K [.p (iQ gz),.v] (cn 1 bQ)⟩
def zB (D:DI v bg):D.O:=
 UG (n:=1) (fnO (n:=1) (m:=dm) D.fn mW rfl λad gn l hl=>match l,hl with | [nt],_=>λ_ _ _ _ _ _ hr=>show SF _ _ _ [am (.ol (am ad) gn),am (.val nt),bm] _ (dm gn nt) _ from
 (SF.Gd 0 rfl rfl (.inl rfl) (b9 rfl (a6 rfl (cg 0) ao) ao) ao λbL=>
 (SF.Rk (JL.t (qT (de Nr (a6 rfl (cg 0) ao) ao) (mP (de S0 (a6 rfl (cg 0) ao) ao))))
 (sv 2 mW.nd (pR (a6 rfl (cg 0) ao) (ae 1)) λJz=>
 (SF.Gd 0 rfl rfl (.inl rfl) (Tn (a6 rfl (cg 0) ao) (ae 1)) ao λku=>
 (SF.X1 0 (k:=λx8=>(x8,ku)) rfl (ae 2) λ_=>rfl)))
 (SF.Gd 0 rfl rfl (.inl rfl) (pR (b9 rfl (b9 rfl (sH (a6 rfl (cg 0) ao) ao) ao) (a6 rfl (cg 0) ao)) ao) ao λe6=>
 (SF.X1 0 (k:=λvt=>(vt,e6)) rfl (pR (Tn (pR (sH (a6 rfl (cg 0) ao) (b9 rfl (pR (a6 rfl (cg 0) ao) ao) ao)) ao) ao) (ae 1)) λ_=>rfl))))) LH
abbrev dX:DF:=⟨"_law_pick",top 45,["_law_hand_here","_law_some"],2,λK=>fV K [.p (iQ gz),.v] (cn 1 bJ)⟩
def zC (D:DI v dX) (q:NB v) (ax:bg.C v):D.O:=
 rF (m:=bJ) D vO λuD _ _ _ _ _ _ hr=>
 (SF.dI (a6 rfl (aG (ae 1)) (eC ax hr (bD 0 (aa (fg rfl rfl q.len (ae 1)) ai)))) λ_=>rfl)
abbrev fC:DF:=⟨"_law_words",top 46,["_law_hand_here","_law_many"],3,λK=>fh K [.p (iQ gz),.v] (cn 1 bV)⟩
def wK (D:DI v fC) (q:NB v) (ax:bg.C v) (cj:dX.C v):D.O:=
 U6 (m:=bV) D df λnt _ _ _ _ _ _ hr=>
 (sv 2 df.nd u7 λuN=>
 (SF.XU (aZ (n:=2) (aa (eC ax hr (bD 0 (aa ao ai))) (aa (eC cj hr (bD 0 (aa (pS (bf (n:=6) (aa ao (aa ao (aa ao (aa ao (aa ao (aa ao ai)))))) rfl)) ai))) ai)) rfl) (Ry rfl (i6 rfl (ba (f6 3 df.nd) (ba (f6 4 df.nd) fj)))) λvH=>
 (sv 5 df.nd (eC cj hr (bD 0 (aa (pS (bf (n:=5) (aa u7 (aa u7 (aa u7 (aa u7 (aa u7 ai))))) rfl)) ai))) λIe=>
 (SF.jI (kh rfl jN (fo rfl q.range (ae 1)) (λ_ _ _ _ _=>(f6 0 jN.nd)) (λ_ _ _ _ _ p23=>(b9 rfl (ZR (ae 2) (pR (b9 rfl (ae 1) (sH (ae 4) (ae 0))) ao) (λ_ _=>rfl)) (ae 3))) rfl) λ_=>rfl))))
abbrev eP:DF:=⟨"_law_joined",top 47,["_law_hand_here","_law_some"],2,λK=>fV K [.p (iQ gz),.v] (cn 1 cE)⟩
def tT (D:DI v eP) (q:NB v) (ax:bg.C v):D.O:=
 rF (m:=cE) D bT λuD _ _ _ _ _ _ hr=>
 (sl 1 bT.nd (Vf rfl rfl q.list (aG (ae 1))) λma=>
 (SF.xn (hd:=(λ(s3:List PV)=>([am (.lu (iQ gz)),am (.ol bm s3),bm,bm,bm,bm]:bp))) (s0:=ma) A1 rfl (fo rfl q.range (u5 (sI rfl rfl q.len (cg 1)) ao)) (.refl _) (f6 2 bT.nd) (λs3 T5=>
 (SF.ab3 1 3 rfl ⋯ rfl rfl (.inl rfl) bT.nd rfl (Di rfl) (eC ax hr (bD 0 (aa (sI rfl rfl q.len (cg 1)) ai))) λt8=>
 (sv 4 bT.nd (eC ax hr (bD 0 (aa (sI rfl rfl q.len (cg 1)) ai))) λWk=>
 (sv 5 bT.nd (aZ (n:=2) (aa (ae 3) (aa (a6 rfl (cg 1) (ae 4)) ai)) rfl) λv8=>
 (SF.Gd 1 rfl rfl (.inl rfl) (t6 (de (rX rfl (bF hr)) (eC ax hr (bD 0 (aa ao ai))) ao) (ae 5) (Om rfl (ae 5) rq rq (Gr (u9 ao)))) (ae 4) λIw=>
 (SF.jb rfl (.keep (.keep (.drop (.drop (.drop (.drop (.refl _))))))))))))) λs3=>
 (SF.dI (a6 rfl (cg 1) ao) λ_=>rfl)))
abbrev jz:DF:=⟨"_law_great",top 48,["_law_hand_here","_law_most"],4,λK=>fV K [.p (iQ gz),.v] (cn 1 cR)⟩
def wM (D:DI v jz) (jl:fC.C v) (ax:bg.C v) (g8:eP.C v):D.O:=
 rF (m:=cR) D lH λzg _ _ _ _ _ _ hr=>
 (sl 2 lH.nd (lC jl hr (bD 0 (aa (b9 rfl ao (eC ax hr (bD 0 (aa (ae 1) ai)))) ai))) λiT=>
 SF.cI 2 rfl (SF.dI (aZ (n:=2) (aa (eC g8 hr (bD 0 (aa (ae 2) ai))) (aa (ae 2) ai)) rfl) λ_=>rfl))
abbrev jx:DF:=⟨"_law_small",top 49,["_law_hand_here","_law_words_here","_law_most"],3,λK=>fV K [.p (iQ gz),.v,.v] (cn 2 bW)⟩
def wL (D:DI v jx) (q:NB v) (ax:bg.C v) (cj:dX.C v) (g8:eP.C v):D.O:=
 Gy (m:=bW) D lG λbx zg _ _ _ _ _ _ hr=>
 (SF.mS (i:=3) rfl lG.nd rfl rfl jO (fo rfl q.range (b9 rfl ao (eC ax hr (bD 0 (aa (ae 2) ai))))) (λ_ _ _ _ _=>(f6 0 jO.nd)) (λ_ _ _ _ _ p5=>(eC cj hr (bD 1 (aa (ae 2) ai)))) rfl λma=>
 SF.cI 3 rfl (SF.dI (eC g8 hr (bD 0 (aa (ae 3) ai))) λ_=>rfl))
abbrev jy:DF:=⟨"_law_nodes",top 50,["_law_tree"],12,λK=>fh K [.v] (cn 1 (aX 12))⟩
theorem nH (D:DI v jy) (q:NB v):∀n,gG v.P v.w v.K v.mg v.base lj (n+0) D.f D.fd ["_law_tree"] (fh v.K [.v] (cn 1 (aX n)))
 | 0=>NY (PM λl Q hl=>match l,hl with | [aY],_=>λh=>h.elim)
 | n+1=>have fu:=D.cN (nH D q n)
  fnL (k:=n+0) (n:=1) (m:=aX (n+1)) D.fn dg rfl (eU cq) λl hl=>match l,hl with | [aY],_=>λ_ _ _ _ _ _ hr=>show SF _ _ _ [am (.val aY),bm,bm,bm,bm] _ (aX (n+1) aY) _ from
 (SF.Rk (gH rfl (jQ rfl .str rfl q.isinstance (ae 0) rfl q.str wf) (λ_=>rfl))
 (SF.jI (bf (n:=1) (aa (ae 0) ai) rfl) λ_=>rfl)
 (SF.par (i:=1) (j:=2) rfl dg.nd rfl rfl ⋯ rfl rfl (pS (lC fu hr (aa (a6 rfl (aG (ae 0)) ao) ai))) (pS (lC fu hr (aa (a6 rfl (aG (ae 0)) ao) ai))) λpM m5=>
 (sl 3 dg.nd (bf (n:=0) ai rfl) λoM=>
 (SF.xn (hd:=(λ(s7:List PV)=>([am (.val aY),am (.val pM),am (.val m5),am (.ol bm s7),bm]:bp))) (s0:=oM) A1 rfl (cU rfl (cH (ae 2))) (.refl _) (f6 4 dg.nd) (λs7 rC=>
 (SF.ifS (out1:=λ(é:PV)=>.nx ([am (.val aY),am (.val pM),am (.val m5),am (.ol bm s7),am (.val é)]:bp)) (yE (gH rfl (jQ rfl .str rfl q.isinstance (ae 4) rfl q.str wf) (λ_=>rfl)))
 (sv 4 dg.nd (aZ (n:=2) (aa (b9 rfl (a6 rfl (aG (ae 4)) ao) (fg rfl rfl q.len (ae 1))) (aa (b9 rfl (a6 rfl (aG (ae 4)) ao) (fg rfl rfl q.len (ae 1))) ai)) rfl) λIM=>
 (SF.nil rfl (.refl _)))
 (SF.nil rfl (.refl _))
 λé=>(SF.append 3 rfl rfl rfl (.inl rfl) (ae 4) λqX=>
 (SF.jb rfl (.keep (.keep (.keep (.keep (.drop (.refl _)))))))))) λs7=>
 (SF.jI (nG rfl (cM (nG rfl (me (ae 1)) (Mi 3))) (cM (bf (n:=1) (aa (aZ (n:=2) (aa (u5 (fg rfl rfl q.len (ae 1)) ao) (aa (u5 (b9 rfl (fg rfl rfl q.len (ae 1)) (fg rfl rfl q.len (ae 2))) ao) ai)) rfl) ai) rfl))) λ_=>rfl)))))
abbrev jA:DF:=⟨"_law_dates",top 51,["_law_hand_here","_law_great_here"],13,λK=>fV K [.p (iQ gz),.v] (cn 1 cS)⟩
def wN (D:DI v jA) (q:NB v) (fu:jy.C v) (cj:dX.C v) (ax:bg.C v):D.O:=
 rF (m:=cS) D a8 λgM _ _ _ _ _ _ hr=>
 (sl 2 a8.nd (lC fu hr (aa (ae 1) ai)) λbr=>
 SF.cI 2 rfl (sl 3 a8.nd (YH (bf (n:=1) (aa ao ai) rfl) (fg rfl rfl q.len (ae 2))) λxk=>
 (sv 4 a8.nd ao λHz=>
 (SF.Uj (i:=6) rfl a8.nd rfl rfl ff (nI rfl rfl q.enumerate (cH (ae 2))) (λ_ _ _ _ _=>(Ry rfl (i6 rfl (ba (f6 0 ff.nd) (ba (f6 1 ff.nd) fj))))) (λ_ _ _ _ _ ç=>(yE (gH rfl (jQ rfl .str rfl q.isinstance (ae 1) rfl q.str wf) (λ_=>rfl)))) (λ_ _ _ _ _ ç=>(ae 0)) (QT rfl rfl ⋯) ⋯ λkH=>
 (SF.xn (hd:=(λ(yO:List PV×PV×List PV)=>([am (.lu (iQ gz)),am (.val gM),am (.val (.cl br)),am (.ol bm yO.1),am (.val yO.2.1),bm,am (.ol bm yO.2.2),bm,bm]:bp))) (s0:=(xk,Hz,kH)) A1 rfl (fo rfl q.range (sI rfl rfl q.len (cg 6))) (.refl _) (f6 7 a8.nd) (λyO Ia=>
 (sl 8 a8.nd (bf (n:=0) ai rfl) λxi=>
 (SF.Zz 6 (hd:=(λWo (Sx:List PV)=>([am (.lu (iQ gz)),am (.val gM),am (.val (.cl br)),am (.ol bm yO.1),am (.val yO.2.1),bm,am (.ol (am Wo) yO.2.2),am (.val Ia),am (.ol bm Sx)]:bp))) (s0:=xi) rfl rfl rfl (.inl rfl) A1 rfl (λ_=>(.refl _)) (λ_ _=>rfl) (f6 5 a8.nd) (λWo Sx JG=>
 (SF.YR (JL.t (qT (vG rfl (bF hr) (a6 rfl (aG (a6 rfl (aG (ae 2)) (ae 5))) ao) (cg 6)) (mP (vG rfl (bF hr) (a6 rfl (aG (a6 rfl (aG (ae 2)) (ae 5))) ao) (cg 6)))))
 (SF.append 8 rfl rfl rfl (.inl rfl) (ae 5) λJp=>
 (SF.jb rfl (.keep (.keep (.keep (.keep (.keep (.drop (.refl _)))))))))
 (SF.jb rfl (.keep (.keep (.keep (.keep (.keep (.drop (.refl _)))))))))) λWo Sx=>
 (SF.cI 8 rfl (sv 5 a8.nd (eC cj hr (bD 0 (aa (ae 8) ai))) λOP=>
 (sv 4 a8.nd (b9 rfl (b9 rfl (ae 4) ao) (eC ax hr (bD 0 (aa ao ai)))) λxN=>
 (SF.Gd 3 rfl rfl (.inl rfl) (ae 4) (ae 5) λzN=>
 (SF.remove 6 rfl rfl rfl (.inl rfl) (ae 5) λqR=>
 (SF.jb rfl (.keep (.keep (.keep (.keep (.keep (.drop (.keep (.drop (.drop (.refl _))))))))))))))))))) λyO=>
 (SF.dI (d9 rfl rfl q.tuple (cg 3)) λ_=>rfl))))))
abbrev hJ:DF:=⟨"_law_prices",top 52,["_law_hand_here"],3,λK=>fV K [.p (iQ gz)] (cn 0 cA)⟩
def tR (D:DI v hJ) (q:NB v) (ax:bg.C v) (cj:dX.C v):D.O:=
 acd (m:=cA) D cL λ_ _ _ _ _ _ hr=>
 (sl 1 cL.nd (bf (n:=0) ai rfl) λxl=>
 (SF.xn (hd:=(λ(s3:List PV)=>([am (.lu (iQ gz)),am (.ol bm s3),bm,bm]:bp))) (s0:=xl) A1 rfl (fo rfl q.range ao) (.refl _) (f6 2 cL.nd) (λs3 k_4=>
 (sl 3 cL.nd (bf (n:=7) (aa ao (aa ao (aa ao (aa ao (aa ao (aa (eC ax hr (bD 0 (aa ao ai))) (aa (eC ax hr (bD 0 (aa ao ai))) ai))))))) rfl) λLX=>
 SF.cI 3 rfl (sl 3 cL.nd (nG rfl (me (ae 3)) (cM (bf (n:=2) (aa ao (aa (b9 rfl (Tj ao ao) (eC ax hr (bD 0 (aa ao ai)))) ai)) rfl))) λIv=>
 SF.cI 3 rfl (SF.append 1 rfl rfl rfl (.inl rfl) (eC cj hr (bD 0 (aa (ae 3) ai))) λzO=>
 (SF.jb rfl (.keep (.keep (.drop (.drop (.refl _)))))))))) λs3=>
 (SF.dI (d9 rfl rfl q.tuple (cg 1)) λ_=>rfl)))
abbrev hE:DF:=⟨"_law_turned",top 53,["_law_hand_here","_law_tree"],13,λK=>fV K [.p (iQ gz),.v] (cn 1 (aW 12))⟩
theorem lQ (D:DI v hE) (q:NB v) (ax:bg.C v):∀n,gG v.P v.w v.K v.mg v.base lj (n+1) D.f D.fd ["_law_hand_here","_law_tree"] (fV v.K [.p (iQ gz),.v] (cn 1 (aW n)))
 | 0=>NY (LS λl Q hl=>match l,hl with | [aY],_=>λh=>h.elim)
 | n+1=>have dz:=D.cN (lQ D q ax n)
  fnV (k:=n+1) (n:=1) (m:=aW (n+1)) D.fn j5 rfl (ar (n:=1)) λl hl=>match l,hl with | [aY],_=>λ_ _ _ _ _ _ hr=>show SF _ _ _ [am (.lu (iQ gz)),am (.val aY),bm] _ (aW (n+1) aY) _ from
 (SF.Rk (gH rfl (jQ rfl .str rfl q.isinstance (ae 1) rfl q.str wf) (λ_=>rfl))
 (SF.dI (ae 1) λ_=>rfl)
 (sv 2 j5.nd (aZ (n:=2) (aa (eC dz hr (bD 0 (aa (a6 rfl (aG (ae 1)) ao) ai))) (aa (eC dz hr (bD 0 (aa (a6 rfl (aG (ae 1)) ao) ai))) ai)) rfl) λGp=>
 (SF.dI (t6 (de (rX rfl (bF hr)) (eC ax hr (bD 0 (aa ao ai))) ao) (ae 2) (Om rfl (ae 2) rq rq (Gr (u9 ao)))) λ_=>rfl)))
abbrev hV:DF:=⟨"_law_called",top 54,["_law_tree","_law_words_here","_law_others"],12,λK=>fV K [.v,.v,.v] (cn 3 (aL 12))⟩
theorem lR (D:DI v hV) (q:NB v):∀n,gG v.P v.w v.K v.mg v.base lj (n+0) D.f D.fd ["_law_tree","_law_words_here","_law_others"] (fV v.K [.v,.v,.v] (cn 3 (aL n)))
 | 0=>NY (LS λl Q hl=>match l,hl with | [aY,bx,i7],_=>λh=>h.elim)
 | n+1=>have dA:=D.cN (lR D q n)
  fnV (k:=n+0) (n:=3) (m:=aL (n+1)) D.fn rf rfl (eU (eU (eU cq))) λl hl=>match l,hl with | [aY,bx,i7],_=>λ_ _ _ _ _ _ hr=>show SF _ _ _ [am (.val aY),am (.val bx),am (.val i7)] _ (aL (n+1) aY bx i7) _ from
 (SF.Rk (gH rfl (jQ rfl .str rfl q.isinstance (ae 0) rfl q.str wf) (λ_=>rfl))
 (SF.dI (a6 rfl (aG (ae 2)) (RL rfl (bF hr) (me (ae 1)) (ae 0))) λ_=>rfl)
 (SF.dI (aZ (n:=2) (aa (eC dA hr (aa (a6 rfl (aG (ae 0)) ao) (aa (ae 1) (aa (ae 2) ai)))) (aa (eC dA hr (aa (a6 rfl (aG (ae 0)) ao) (aa (ae 1) (aa (ae 2) ai)))) ai)) rfl) λ_=>rfl))
abbrev hU:DF:=⟨"_law_lowest",top 55,["_law_stays","_law_small_here","_law_prices_here"],7,λK=>fV K [.v,.v,.v] (cn 3 dq)⟩
def tS (D:DI v hU) (q:NB v) (xa:qI.C v):D.O:=
 M0 (m:=dq) D rd λfc pK mZ _ _ _ _ _ _ hr=>
 (SF.dI (V5 rfl rfl rfl q.min (cM (Jb rfl iI (cU rfl (cH (a6 rfl (aG (eC xa hr (aa (ae 0) (aa (ae 1) (aa (ae 2) ai))))) (u9 ao)))) (λ_ _ _ _ _=>(f6 0 iI.nd)) (λ_ _ _ _ _ p5=>(de Je (ae 0) sG)) (λ_ _ _ _ _ p5=>(ae 0)) rfl))) λ_=>rfl)
abbrev Ts:DF:=⟨"law",top 56,["_law_script"],14,λK=>fV K [.v] (cn 1 nv)⟩
def YN (D:DI v Ts) (q:NB v) (zM:kC.C v) (xg:jz.C v) (nP:jx.C v) (tY:hJ.C v) (jl:fC.C v) (si:sM.C v) (ft:xO.C v) (tZ:hU.C v) (dz:hE.C v) (dA:hV.C v) (Rx:xP.C v) (xh:jA.C v) (ax:bg.C v):D.O:=
 rF (m:=nv) D c8 λeM _ _ _ _ _ _ hr=>
 (SF.Tb (hd:=(λ(s6:Unit)=>([am (.val eM),bm,bm,bm,bm,bm,bm,bm,bm,bm,bm,bm,bm,bm,bm,bm,bm]:bp))) (s0:=()) (inj:=id) A1 rfl (fo rfl q.range (ZP rfl rfl q.max ao (ZO rfl rfl q.min ao (fg rfl rfl q.len (ae 0))))) (.refl _) (f6 1 c8.nd) (λ_=>trivial) (λs6 î=>
 (sl 2 c8.nd (lC zM hr (aa (ae 0) (aa (ae 1) ai))) λpO=>SF.lu 2 rfl
 (SF.XU (eC xg hr (bD 2 (aa ao ai))) (Ry rfl (i6 rfl (ba (f6 3 c8.nd) (ba (f6 4 c8.nd) fj)))) λvH=>
 (SF.par (i:=5) (j:=6) rfl c8.nd rfl rfl ⋯ rfl rfl (eC nP hr (bD 2 (aa (ae 4) (aa ao ai)))) (eC nP hr (bD 2 (aa (ae 4) (aa ao ai)))) λaM j8=>
 (SF.par (i:=7) (j:=8) rfl c8.nd rfl rfl ⋯ rfl rfl (eC tY hr (bD 2 ai)) (pS (lC jl hr (bD 2 (aa (fg rfl rfl q.len (ae 4)) ai)))) λaQ iB=>
 (sv 9 c8.nd (eC si hr (aa (ae 3) ai)) λbU=>
 (sv 10 c8.nd (eC ft hr (aa (ae 9) (aa (ae 5) (aa (ae 7) ai)))) λjB=>
 (SF.Rk (de (Jd rfl (bF hr)) (eC tZ hr (aa (ae 9) (aa (ae 5) (aa (ae 7) ai)))) (ae 10))
 (SF.ret (k:=λx32=>(Lp.out x32)) Hu λ_=>rfl)
 (sv 11 c8.nd (eC si hr (aa (eC dz hr (bD 2 (aa (ae 3) ai))) ai)) λyI=>
 (SF.Rk (de (Jd rfl (bF hr)) (eC ft hr (aa (ae 11) (aa (eC dz hr (bD 2 (aa (ae 5) ai))) (aa (ae 7) ai)))) (ae 10))
 (SF.ret (k:=λx40=>(Lp.out x40)) Hu λ_=>rfl)
 (sv 12 c8.nd (eC dA hr (aa (ae 5) (aa (ae 4) (aa (ae 8) ai)))) λwR=>
 (SF.Rk (de (Jd rfl (bF hr)) (eC ft hr (aa (eC si hr (aa (eC dA hr (aa (ae 3) (aa (ae 4) (aa (ae 8) ai)))) ai)) (aa (ae 12) (aa (ae 7) ai)))) (ae 10))
 (SF.ret (k:=λx52=>(Lp.out x52)) Hu λ_=>rfl)
 (sv 13 c8.nd (eC Rx hr (aa (ae 3) (aa (eC xh hr (bD 2 (aa (ae 3) ai))) ai))) λdr=>
 (SF.Rk (de Jf (eC ft hr (aa (ae 13) (aa (ae 5) (aa (ae 7) ai)))) (ae 10))
 (SF.ret (k:=λx60=>(Lp.out x60)) Hu λ_=>rfl)
 (SF.Tb (hd:=(λ(è:Unit)=>([am (.val eM),am (.val î),am (.lu (iQ gz)),am (.val vH.1),am (.val vH.2),am (.val aM),am (.val j8),am (.val aQ),am (.val iB),am (.val bU),am (.val jB),bm,am (.val wR),am (.val dr),bm,bm,bm]:bp))) (s0:=()) (inj:=Lp.out) A1 rfl (cU rfl (cH (aZ (n:=2) (aa (ae 9) (aa (ae 13) ai)) rfl))) (.keep (.keep (.keep (.keep (.keep (.keep (.keep (.keep (.keep (.keep (.keep (.drop (.refl _))))))))))))) (f6 11 c8.nd) (λ_=>trivial) (λè fR=>
 (SF.ifF (hd:=(λ(s74:Unit)=>([am (.val eM),am (.val î),am (.lu (iQ gz)),am (.val vH.1),am (.val vH.2),am (.val aM),am (.val j8),am (.val aQ),am (.val iB),am (.val bU),am (.val jB),am (.val fR),am (.val wR),am (.val dr),bm,bm,bm]:bp))) (inj:=Lp.out) (yE (gH rfl (jQ rfl .str rfl q.isinstance (ae 5) rfl q.str wf) (λ_=>rfl)))
 (sv 14 c8.nd (a6 rfl (aG (ae 5)) (eC ax hr (bD 2 (aa ao ai)))) λIG=>
 (SF.YR (de Nr (eC ft hr (aa (ae 11) (aa (ae 14) (aa (ae 7) ai)))) (eC ft hr (aa (ae 11) (aa (ae 5) (aa (ae 7) ai)))))
 (SF.ret (k:=λx83=>(Lp.out x83)) Hu λ_=>rfl)
 (SF.nil rfl (.keep (.keep (.keep (.keep (.keep (.keep (.keep (.keep (.keep (.keep (.keep (.keep (.keep (.keep (.drop (.refl _)))))))))))))))))))
 (SF.nil rfl (.refl _)) (λ_=>trivial)
 λs74=>(sv 15 c8.nd (b9 rfl (ZM rfl (ae 7) rq (Gr ao)) (aZ (n:=1) (aa ao ai) rfl)) λeO=>
 (sv 16 c8.nd (b9 rfl (eC ft hr (aa (ae 11) (aa (ae 5) (aa (ae 15) ai)))) (eC ft hr (aa (ae 11) (aa (ae 6) (aa (ae 15) ai))))) λqK=>
 (SF.YR (de Nr (eC ft hr (aa (ae 11) (aa (aZ (n:=2) (aa (ae 5) (aa (ae 6) ai)) rfl) (aa (ae 15) ai)))) (b9 rfl (ae 16) (a6 rfl (aG (ae 15)) ao)))
 (SF.ret (k:=λTU=>(Lp.out TU)) Hu λ_=>rfl)
 (SF.jb rfl (.keep (.keep (.keep (.keep (.keep (.keep (.keep (.keep (.keep (.keep (.keep (.drop (.keep (.keep (.keep (.drop (.drop (.refl _)))))))))))))))))))))))) λè=>
 (SF.jb rfl (.keep (.drop (.drop (.drop (.drop (.drop (.drop (.drop (.drop (.drop (.drop (.keep (.drop (.drop (.refl _))))))))))))))))))))))))))))))) λs6=>
 (SF.dI Hu λ_=>rfl))
end
open PySem PySem.Spec PyProof.Rows L2 PL FL
def all_d {K:Ab} (X:K.In h) (G:h.Ns ev mg) (Ho:DX K "parts_of" (top 1)) (RJ:DX K "nodes" (top 2)) (Ot:DX K "halves" (top 3)) (Hv:DX K "ahead_of" (top 4)) (Hk:DX K "under_at" (top 9)) (zX:DX K "beside_at" (top 10)) (KO:DX K "is_home" (top 11)) (KN:DX K "name_of" (top 12)) (Hr:DX K "lines_up" (top 13)) (xD:DX K "apart_from" (top 14)) (Ou:DX K "ground" (top 15)) (zV:DX K "split_ins" (top 22)) (Hq:DX K "over_ins" (top 23)) (Hs:DX K "deeds_at" (top 24)) (Ol:DX K "summed" (top 27)) (Ht:DX K "cheapest" (top 28)) (Hn:DX K "price_of" (top 29)) (zW:DX K "deed_cost" (top 30)) (xC:DX K "deed_costs" (top 31)) (zU:DX K "step_cost" (top 32)) (xy:DX K "step_costs" (top 33)) (Oo:DX K "row_of" (top 34)) (RI:DX K "table" (top 35)) (RK:DX K "least" (top 36)) (t4:DX K "split_dates" (top 38)) (Hl:DX K "standing" (top 39)) (KL:DX K "stay_of" (top 40)) (RM:DX K "dated" (top 41)) (z0:DX K "_law_hand" (top 43)) (zY:DX K "_law_take" (top 44)) (zZ:DX K "_law_pick" (top 45)) (xE:DX K "_law_words" (top 46)) (ue:DX K "_law_joined" (top 47)) (xH:DX K "_law_great" (top 48)) (xF:DX K "_law_small" (top 49)) (xG:DX K "_law_nodes" (top 50)) (xI:DX K "_law_dates" (top 51)) (uc:DX K "_law_prices" (top 52)) (ub:DX K "_law_turned" (top 53)) (uf:DX K "_law_called" (top 54)) (ud:DX K "_law_lowest" (top 55)) (nX:AD K ev "UNDER"=am (am (.int 2 Ig))) (kE:AD K ev "BESIDE"=am (am (.int 3 yF))) (sR:AD K ev "NAME"=am (am (.int 0 LM))) (nZ:AD K ev "FOUND"=am (am (.str "found" Ii))) (nY:AD K ev "SPLIT"=am (am (.str "split" Ih))) (sQ:AD K ev "OVER"=am (am (.str "over" LL))) (iP:AD K ev "DOUBLED"=am (am (.str "doubled" uA))) (lg:AD K ev "DEEDS"=am (am (.ref qL))) (qB:OW K qL ["split","doubled","over"]) (sS:AD K ev "LOST"=am (am (.int 3 LN))) (vo:AD K ev "isinstance"=am bm) (Xe:AD K ev "str"=am bm) (TC:AD K ev "list"=am bm) (FX:AD K ev "reversed"=am bm) (Xh:AD K ev "len"=am bm) (Pe:AD K ev "tuple"=am bm) (yt:AD K ev "enumerate"=am bm) (Pf:AD K ev "range"=am bm) (Lr:AD K ev "sorted"=am bm) (Xd:AD K ev "sum"=am bm) (Xf:AD K ev "min"=am bm) (Xc:AD K ev "zip"=am bm) (TH:AD K ev "dict"=am bm) (Xj:AD K ev "abs"=am bm) (Xi:AD K ev "int"=am bm) (Xg:AD K ev "max"=am bm):aab K mg Ts:=by
 constructor
 rintro v rfl rfl D;have q:NB v:=⟨AI X G vo,AI X G Xe,AI X G TC,AI X G FX,AI X G Xh,AI X G Pe,AI X G yt,AI X G Pf,AI X G Lr,AI X G Xd,AI X G Xf,AI X G Xc,AI X G TH,AI X G Xj,AI X G Xi,AI X G Xg⟩;replace nX:=BK X G nX;replace kE:=BK X G kE;replace sR:=BK X G sR;replace nZ:=BK X G nZ;replace nY:=BK X G nY;replace sQ:=BK X G sQ;replace iP:=BK X G iP;replace lg:=BK X G lg;replace sS:=BK X G sS;refine Ho.go (d:=mx) X G (λD=>GS D q) λHN=>?_;refine RJ.go (d:=kX) X G (λD=>Q4 D q HN) λqM=>?_;refine Ot.go (d:=iO) X G (λD=>Nl D q) λoe=>?_;refine Hv.go (d:=jw) X G (λD=>GY D q qM oe) λsW=>?_;refine Hk.go (d:=eK) X G (λD=>GP D nX) λjF=>?_;refine zX.go (d:=kB) X G (λD=>zA D kE) λFN=>?_;refine KO.go (d:=pF) X G (λD=>Ks D sR jF) λLc=>?_;refine KN.go (d:=kY) X G (λD=>Kr D q) λvm=>?_;refine Hr.go (d:=mz) X G (λD=>GV D q sW) λHQ=>?_;refine xD.go (d:=jv) X G (λD=>wJ D q) λya=>?_;refine Ou.go (d:=sM) X G (λD=>Nm D q qM HQ vm oe ya) λOY=>?_;refine zV.go (d:=kz) X G (λD=>zx D q jF) λFJ=>?_;refine Hq.go (d:=my) X G (λD=>GU D FN) λHP=>?_;refine Hs.go (d:=mB) X G (λD=>GW D q nZ nY sQ iP Lc FJ HP) λHS=>?_;refine Ol.go (d:=nV) X G (λD=>Ni D q) λFH=>?_;refine Ht.go (d:=ju) X G (λD=>GX D q) λsV=>?_;refine Hn.go (d:=mw) X G (λD=>GR D lg qB) λHM=>?_;refine zW.go (d:=kA) X G (λD=>zy D q oe FH HM) λFK=>?_;refine xC.go (d:=jt) X G (λD=>wI D HS FK) λxZ=>?_;refine zU.go (d:=kx) X G (λD=>zw D q sS jF) λFI=>?_;refine xy.go (d:=jr) X G (λD=>wF D FI jF FH) λxY=>?_;refine Oo.go (d:=sL) X G (λD=>Nj D q xZ xY sV) λOX=>?_;refine RI.go (d:=qI) X G (λD=>Q3 D q qM OX) λJK=>?_;refine RK.go (d:=xO) X G (λD=>Q5 D sV JK) λR7=>?_;refine t4.go (d:=g9) X G (λD=>tQ D q) λuk=>?_;refine Hl.go (d:=mr) X G (λD=>GQ D q sW) λHL=>?_;refine KL.go (d:=pE) X G (λD=>Kq D q oe vm) λLb=>?_;refine RM.go (d:=xP) X G (λD=>Q6 D q qM uk HL Lb) λR8=>?_;refine z0.go (d:=kC) X G (λD=>zD D q) λFO=>?_;refine zY.go (d:=bg) X G (λD=>zB D) λbM=>?_;refine zZ.go (d:=dX) X G (λD=>zC D q bM) λgV=>?_;refine xE.go (d:=fC) X G (λD=>wK D q bM gV) λog=>?_;refine ue.go (d:=eP) X G (λD=>tT D q bM) λlV=>?_;refine xH.go (d:=jz) X G (λD=>wM D og bM lV) λyd=>?_;refine xF.go (d:=jx) X G (λD=>wL D q bM gV lV) λyb=>?_;refine xG.go (d:=jy) X G (λD=>nH D q 12) λyc=>?_;refine xI.go (d:=jA) X G (λD=>wN D q yc gV bM) λye=>?_;refine uc.go (d:=hJ) X G (λD=>tR D q bM gV) λuo=>?_;refine ub.go (d:=hE) X G (λD=>lQ D q bM 12) λum=>?_;refine uf.go (d:=hV) X G (λD=>lR D q 12) λur=>?_;refine ud.go (d:=hU) X G (λD=>tS D q JK) λuq=>?_;exact YN D q FO yd yb uo og OY R7 uq um ur R8 ye bM
def walk {l:EB}{q:sK}{d:DefRec}{K:Params->Ab} (hn:l.most=am 63) (Zg:d.params.defaults=[])
  (hY:∀(w:ut) (h:kw),YP w h->(K w.params).In h)
  (F:∀(w:ut) (mg:Str->Option bn) (fa:ce) (h:kw),(K w.params).In h->h.Ns ev mg->mg d.name=am (.ref fa)->
   ∃fd:FB,(∀(s:ci) (u:bn),BindsTo s fd ⟨[u],[]⟩ [("_law_script",u)])/\∀base:kw,(K w.params).In base->base.Ns ev mg->gG l.prog w (K w.params) mg base lj 14 fa fd ["_law_script"] (Ir (K w.params))) :
  PySem.W.WalkO q Ñ XP YP l.row.toRowW d [] (λf vs=>Fs f vs):=
 L2.Pj (n:=63) (k:=14) (x:="_law_script") (CX:=λ_=>lj) (sp:=λw=>Ir (K w.params)) hn ⋯ Zg ⟨rfl,by decide,by decide,rfl⟩ hY F (λ_ _ a ns hl hO hS=>⟨a,ns,rfl,hO,hS,hl,λ_=>rfl⟩) λ_ _ _ _ _ z=>z
end My
end
open PySem PySem.W PyProof.Rows
inductive PySem.W.Fast:Prop|tw7447580980103263820|tw2522201671524626844|tw11184220443272747057|tw18127371774891444812|tw12957690169443179933|tw15070973057711823604|tw5753659431500781304|tw11825147542477944782|tw15326113018910285197|tw7634491088351578765|tw3598832070489930604|tw14613935332969702924|tw7874264035534729109|tw14788376331908549595|tw15828736410117433104|tw15462176766710749506|tw1954349322493230312|tw5523652997077618765|tw15002476615178083155|tw18121818486232508913|tw2622156526102610582|tw14184355845030859950|tw6707724646144461350|tw9709734481854395168|tw2574216955439281250|tw6414063686091291176|tw14253984335022973574|tw6090221963746947655|tw2407810283888883417|tw2705952142341386701|tw689406210138103265|tw7101446065933730046|tw2340566745683463314|tw13285514106489548839|tw9588170000102946266|tw11382039819936818561|tw5921195696248339104|tw11603587295505289219|tw5117151923067447239|tw3902067211133838352|tw16575828932211938478|tw13680624909945311037|tw14306729535748516632|tw15598424956590992403|tw2753649701254260565|tw2471267195699881950|tw9016092590203707817|tw1954715729204326089|tw11831096708873764757|tw2842022831277477152|tw2719934677227410911|tw11053901743133659302|tw15043304757283382444|tw2108076056287867944|tw249303011354782692|tw11325349345691369713|tw8097905002867986913|tw17630736979408485356|tw2074561534420388680|tw6960830496648360118|tw16675918720934841711|tw1323624501580756626|tw6522819841459745308|tw6056020942690914241|tw7211979096112358095|tw8007026697983397695|tw1605430269464593081|tw2515140677529826530|tw13707286148578278265|tw38780326622340410|tw9947415416420302541|tw13277279014631839967|tw12659383287870538337|tw1840372102258620989|tw17549159862886498300|tw3731803887121172679|tw3389451673681611490|tw2634405267528885545|tw6713216325779440534|tw11990358716056212529|tw9789331228595629035|tw894218465740776127|tw1525647967855098233|tw9664901332391871335|tw882553874689853104|tw1351822703733286164|tw3954070770756670750|tw10068978103859068754|tw10632578142134306281|tw2885257168234574985|tw458238640576135280|tw7663459573760808216|tw8070221596183844816|tw5718795329499834162|tw13921217409161152737|tw876477323830873324|tw18408273853200873540|tw10787949323962131413|tw15182286621031727137|tw6116450256855579498
def PySem.W.Fast.tw3188427787991516799:=PySem.Challenge.pw_treewithin_k31_whole_trees_changed
theorem PySem.W.Fast.te3188427787991516799:PySem.Challenge.pw_treewithin_k31_whole_trees_changed=PySem.W.Fast.tw3188427787991516799:=rfl
set_option maxRecDepth 100000 in
set_option maxHeartbeats 0 in
theorem PySem.Challenge.cw_treewithin_k31_whole_trees_changed_holds : PySem.Challenge.rw_treewithin_k31_whole_trees_changed.Holds := by
 w_on;o_law;k_head;(case hw=>w_witness2)
 k_fill
 refine My.walk (l:=PySem.Challenge.rw_treewithin_k31_whole_trees_changed) rfl rfl (fun w h Y=>PySem.W.kIn_of Y) ?F
 case F=>
  intro w mg fa h KX G hmg;refine' FL.mkAll (st:=My.top 56) (k:=14) My.law31_ok KX G hmg ?e (fun _ _ _ _ _ _=>FL.us1 fun _=>rfl) (My.all_d KX G ..)
  all_goals try first | (refine' FL.dx ?a ?l ?c ?k;(case a=>k_is);(case l=>k_is);(case c=>k_is);(case k=>k_is)) | (refine' FL.tup3K ?a;(case a=>k_is)) | k_is
#print axioms PySem.Challenge.cw_treewithin_k31_whole_trees_changed_holds
