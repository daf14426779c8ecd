import PyProof.Rows.All
import Wide.All
import OpenK.AllK
import Wide.FinOn
import Lean
import PyProof.EqAt
import PyProof.EqKinds
import PyProof.TupleCall
import PyProof.NeKinds
import PyProof.FactsAll.tuple_2
import PyProof.FactsAll.str_0
import PyProof.FactsAll.str_1
import PyProof.FactsAll.str_2
import PyProof.FactsAll.str_3
import PyProof.Rows.MinMaxN
import PyProof.Rows.SumAny
import PyProof.Rows.SetFrom
import PyProof.ReprRoads
import PyProof.Rows.StrKeys3
import PyProof.CallFns
import KE.KSortTup
import KE.KDictSum
import PySem.Challenge.RW_treewithin_k22_whole_slices_left_out
local macro_rules | `(tactic| omega) => `(tactic| lia)
open PySem renaming wpAny_bind -> Aa, wpAny_pure -> Ah, wpAny_callSpecial?_slot -> AY, wpAny_field -> A1, wpAny_setField_rec -> A2, Value -> A4, wpAny_holding -> Bc, wpAny_call_entry -> Be, wpAny_truthy_bool -> Bo, wpAny_newObj_type -> Bp, wpAny_seqItems -> BG, wpAny_Call_Name_kw -> BJ, Expr -> BN, Addr -> BO, wpAny_mono -> BP, mem_of_lookup -> BR, Str -> BZ, wpAny_typeNameOfWhole_keyiter -> B3, wpAny_passesOwn -> Cj, wpAny_typeOf -> Co, wpAny_typeNameOf_keyiter -> Cr, Pos -> Cu, wpAny_of_eq -> CA, wpAny_pyIter_list -> CH, wpAny_newTuple -> CK, wpAny_attempt -> CV, wpAny_rule -> C1, wpAny_pyIter_tuple -> C2, wpAny_pyIter_enum -> C8, wpAny_isInstance -> Dm, wpAny_updateSeq_pair -> Dv, wpAny_letGo -> Dw, wpAny_updateSeq -> DC, wpAny_specialOf -> DE, wpAny_execs_nil -> DG, Shared -> DR, wpAny_setField -> D3, wpAny_letOwnedTupleGo_enum -> D4, wpAny_sequenceKey -> Ed, wpAny_dictEntries -> Ee, wpAny_standAt -> Ek, wpAny_onRaise -> El, wpAny_comprehension_free -> Em, wpAny_dictEpoch -> ES, wpAny_listPart -> E5, Heap -> Fq, Obj -> FC, call -> FI
open PySem.W renaming Frag -> Ab, nsIn -> AG, mg_none_of -> AH, kia_one -> Bd, kitOne -> Bz, mg_of -> BF, fnOf -> B2, keepIn -> CI, KasT -> DP, codeIn -> DW, methodObj -> D9, kitx_list -> Ea, kitx_dict -> Eb, cellsFrom_some -> EA, kas_rev -> EM, instObj -> EN, OpenLaw -> EO, lookIn -> E3, kitx_tuple -> Fj, callWith_K -> Fm, plainGet -> Fw, kat_cons -> Fx, kas_sort -> Fy
open List renaming getElem?_eq_getElem -> Ad, length_append -> Ae, length_map -> Af, getElem?_map -> Ag, size_toArray -> Ai, getElem?_eq_some_iff -> Ak, replicate -> Al, length_cons -> Ao, getD_eq_getElem?_getD -> Ap, mem_map -> Au, range -> Av, map_cons -> Aw, getElem?_eq_none -> Ax, mem_cons -> Ay, getElem?_append_left -> AD, getElem?_append_right -> AE, mem_range -> AI, mem_filter -> AL, map_map -> AN, mem_append_right -> AQ, mem_singleton -> AR, mem_cons_of_mem -> AV, mem_append -> AX, map_append -> A3, getElem?_set_ne -> A8, append_assoc -> A9, length_replicate -> Ba, length_filter_le -> Bb, length_nil -> Bf, ext_getElem? -> Bg, lookup_cons -> Bm, mem_of_getElem? -> Br, drop_eq_getElem_cons -> Bs, getElem?_set_self -> Bt, replicate_succ -> Bu, getElem?_range -> Bv, getElem?_replicate -> Bx, mem_cons_self -> BA, not_mem_nil -> BC, filterMap_cons -> BD, find?_cons -> BI, mem_append_left -> BK, any_eq_true -> BL, idxOf_lt_length_of_mem -> BM, length_range -> BQ, length_set -> BS, length -> BU, pairwise_iff_getElem -> BV, flatten_cons -> B5, forIn_cons -> B7, map_congr_left -> B9, length_reverse -> Ca, flatMap_append -> Cb, take_of_length_le -> Cd, filter_cons -> Ce, nodup_append -> Cq, any_cons -> Ct, mem_flatMap -> Cv, length_take -> Cw, all_eq_true -> Cy, getElem?_of_mem -> CM, getElem_mem -> CO, mergeSort_perm -> CS, append_nil -> CY, mem_filterMap -> C3, reverse_cons -> De, pairwise_lt_range -> Df, replicate_append_replicate -> Dh, length_drop -> Dp, getElem_toArray -> Dx, eq_nil_of_length_eq_zero -> Dy, nodup_cons -> DH, map_const' -> DJ, reverse_append -> DL, getElem_of_mem -> DM, pairwise_cons -> D6, pairwise_map -> Ef, length_erase_of_mem -> En, pairwise_mergeSort -> Es, length_eq_zero_iff -> Et, isEmpty_map -> Eu, getElem_inj -> Ew, drop_length -> Ex, map_set -> EE, map_nil -> EG, length_pos_of_mem -> EH, filter_eq_nil_iff -> EI, drop_eq_nil_of_le -> EJ, of_mem_zip -> ET, countP_map -> EU, set_append_right -> EY, length_singleton -> EZ, getElem?_toArray -> E1, take_succ -> E8, nodup_nil -> E9, map_eq_nil_iff -> Ff, length_pos_iff -> Fg, map -> FJ
open PySem.Heap renaming get?_push_of_some -> Aj, get?_push_size -> Aq, lt_size -> Ar, SameBut -> Cc, get?_update_self -> CD, size_push -> CJ, get?_update_other -> C6, size_update -> Eo, get?_update_ne -> Fe, ExtBut -> FD
open Bool renaming false_eq_true -> Am, and_eq_true -> AO, false_ne_true -> AU, not_true -> Bq, eq_iff_iff -> CC, not_false -> Dg, and_false -> D7, or_eq_true -> EW, false_and -> Fb, true_and -> Fi
open Nat renaming le_refl -> An, zero_add -> Az, lt_of_lt_of_le -> AA, ne_of_lt -> AM, zero_le -> A5, lt_irrefl -> A6, add_assoc -> A7, le_trans -> Bk, le_add_right -> BB, add_sub_cancel_left -> B4, sub_self -> Cp, strongRecOn -> CW, lt_succ_of_lt -> C9, lt_or_ge -> Dc, le_of_ble_eq_true -> Di, lt_succ_self -> Dn, sub_zero -> DS, le_of_lt -> DT, eq_or_lt_of_le -> D5, sub_sub -> E6, le_succ -> E7, succ_mul -> Fu, succ -> Fv
open PySem.Value renaming ref -> AB, none -> AW, type -> BW, bool -> B6, str -> DU, int -> DV
open PySem.PassesOwn renaming never -> AJ
open Int renaming toNat_natCast -> AZ, emod_lt_of_pos -> B1, emod_nonneg -> B8, le_refl -> CN, eq_ofNat_of_zero_le -> Ey, zero_add -> EK
open PySem.NameKind renaming free -> Bh, cell -> Fh
open PyProof.Rows renaming callWith_type1 -> Bi, slot_tuple_getitem -> Bj
open PySem.Obj renaming mapSeq -> Bl, data_mapFields -> CZ, isFreed_of_fields -> EX
open False renaming elim -> Bn
open PySem.F renaming plainAttrs_list -> Bw, slot_dict_keyiterator_next -> BH, slot_tuple_iterator_next -> Cg, slot_enumerate_next -> CF, args_tuple_add_2 -> CT, slot_list_getattribute -> CU, entry_tuple_add -> C4, slot_tuple_add -> C7, args_dict_keyiterator_next_1 -> Dk, entry_dict_keyiterator_next -> Dq, args_list_extend_2 -> Dr, slot_zip_next -> Dz, args_tuple_iterator_next_1 -> DA, entry_list_extend -> DK, entry_tuple_iterator_next -> DQ, slot_list_extend -> D1, type_list_append -> Ei, slot_list_append -> Ej, args_enumerate_next_1 -> Ep, entry_enumerate_next -> EB
open Ne renaming symm -> BE
open PySem.AutoSeq1 renaming wpAny_loadPart' -> BX, sub_tuple_tuple -> Dl, sub_tuple_list -> Ds, sub_list_tuple -> Du, sub_list_list -> DB, idx_int -> ED
open True renaming intro -> Cf
open PySem.Calls renaming spliced_cons -> Ci, spliced_nil -> CG, Name_function_global -> D2, callWith_builtin -> EC
open Option renaming map_some -> Ck, getD_none -> Er, isSome_map -> Ft
open ForInStep renaming yield -> Cm
open PySem.Str renaming ofString -> Cn, length_append -> C5
open Or renaming inr -> Cs, inl -> CB
open And renaming right -> Cz
open Array renaming getElem?_eq_getElem -> CP, length_toList -> DN, perm_iff_toList_perm -> D8, size_append -> Eg, toList_inj -> Ez, getElem?_eq_none -> EL, getElem?_toList -> E2
open PySem.SeqAt renaming EqAt -> Dj
open PySem.SeqAt.RcNeAt renaming lists_lengths -> DY, lists -> Fo
open PySem.SeqAt.EqAt renaming int_int -> DZ, of_refs -> Fp, same -> FE
open PySem.EqBoolInt renaming of_rcne -> Ec, of_rc -> ER
open PySem.SeqAt.RcAt renaming lists_lengths -> Eh, tuples -> Fs, lists -> Fz
open PySem.Data renaming seq -> E4
open Sum renaming inr -> Fc, inl -> Fd
open PySem.IsL renaming isList -> FA
open PySem.Flow renaming ret -> FG
open PySem.Fin renaming done -> FH
set_option Elab.async false
set_option linter.all false
set_option maxRecDepth 100000
set_option maxHeartbeats 1000000
open Option renaming some→bd,none→bv
open PyProof.Rows renaming boot_str→r9,envOfC→sK,seqObj→ut,IntsAre→wS,AllBare→GM
open PySem renaming starEach→ce,Value→ci,Addr→db,Shared→dL,wpAny→d4,model→d5,mainGlobals→ev,foldedSetIterable→f8,eval→kt,backTo→kw,compareOp→lc,Expr→lm,swapsWith→lw,behindInMarks→mo,Scope→nn,bootBuiltins→nw,cLine→o0,Heap→pc,tupleKind→pr,attributeBase→py,holding→sn,Around→ss,binaryOp→sw,Program→tt,Keyword→tz,Stmt→t0,sysModules→ul,call_meets→u8,sliceBounds→wf,rawInt→wn,keywordEach→wv,assignEach→ww,World→wE,IntMulOk→wP,assign→xz,setField→zn,NameKind→BT,Builtin→Da,PassesOwn→Db,setItem→Ev,tupleKind_room_in1→EQ,backToKw→Fa,FuncData→Fk,storedH→FB,getItem→FM,swapsWithSole→FS,swappedStores→Gc,typeLookup→Ge,standAt→Gf,codeAny→GE,letOwnedTupleGo→GT
local macro_rules | `(∅)=>`(by omega)
local macro_rules | `(⋯)=>`(by decide)
namespace L2
open PySem PySem.Spec PyProof.Rows
abbrev Key:=Sum Int Str
def uE:Key->ci->Bool
 | .inl k,v=>Value.isInt k v
 | .inr x,v=>Value.isStrOf x v
def keyH (w:wE):Key->Int
 | .inl k=>hashInt k
 | .inr x=>hashStr w x
def cy:∀{k:Key}{v:ci},uE k v=true->(∃i t,k=Fd i/\v=DV i t)\/(∃x t,k=Fc x/\v=DU x t)
 | .inl i,v,h=>by
  obtain⟨t,e⟩:=Value.isInt_shape (k:=i) (v:=v) h;exact .inl ⟨i,t,rfl,e⟩
 | .inr x,v,h=>by
  obtain⟨t,e⟩:=Value.isStrOf_shape (x:=x) (v:=v) h;exact .inr ⟨x,t,rfl,e⟩
def J9 (i:Int) (t:Tok):uE (.inl i) (.int i t)=true:=by simp [uE,Value.isInt]
def J8 (x:Str) (t:Tok):uE (.inr x) (.str x t)=true:=by simp [uE,Value.isStrOf]
def VJ (a b:Int):decide ((Fd a:Key)=Fd b)=(a==b):=by
 by_cases e:a=b
 ·subst e;simp
 ·have h:¬(Fd a:Key)=Fd b:=λq=>e (Fd.inj q);rw [decide_eq_false h];exact (beq_eq_false_iff_ne.mpr e).symm
def VG (a b:Str):decide ((Fc a:Key)=Fc b)=decide (a=b):=by
 by_cases e:a=b
 ·subst e;simp
 ·have h:¬(Fc a:Key)=Fc b:=λq=>e (Fc.inj q);rw [decide_eq_false h,decide_eq_false e]
def VI (a:Int) (b:Str):decide ((Fd a:Key)=Fc b)=false:=decide_eq_false (λq=>nomatch q)
def VH (a:Str) (b:Int):decide ((Fc a:Key)=Fd b)=false:=decide_eq_false (λq=>nomatch q)
def cj (prog:tt) (w:wE):PySem.KeyKind prog w Key where
 is:=uE
 hash:=keyH w
 inj:=λv a b ha hb=>by
  rcases cy ha with⟨i,t,rfl,rfl⟩ | ⟨x,t,rfl,rfl⟩
  ·rcases cy hb with⟨j,u,rfl,e⟩ | ⟨y,u,rfl,e⟩
   ·injection e with e1 _;rw [e1]
   ·exact nomatch e
  ·rcases cy hb with⟨j,u,rfl,e⟩ | ⟨y,u,rfl,e⟩
   ·exact nomatch e
   ·injection e with e1 _;rw [e1]
 byValue:=λk v h=>by
  rcases cy h with⟨i,t,rfl,rfl⟩ | ⟨x,t,rfl,rfl⟩ <;> rfl
 pyHash:=λhv h=>by
  rcases cy hv with⟨i,t,rfl,rfl⟩ | ⟨x,t,rfl,rfl⟩
  ·exact wpAny_pyHash_int h
  ·exact wpAny_pyHash_str h
 eqBool:=λhu hv h=>by
  rcases cy hu with⟨i,t,rfl,rfl⟩ | ⟨x,t,rfl,rfl⟩
  ·rcases cy hv with⟨j,u,rfl,rfl⟩ | ⟨y,u,rfl,rfl⟩
   ·rw [VJ] at h;exact wpAny_eqBool_int h
   ·rw [VI] at h;exact Dj.int_str i t y u _ _ _ _ h
  ·rcases cy hv with⟨j,u,rfl,rfl⟩ | ⟨y,u,rfl,rfl⟩
   ·rw [VH] at h;exact Dj.str_int x t j u _ _ _ _ h
   ·rw [VG] at h;exact wpAny_eqBool_str h
 «strs»:=λk x t v h=>by
  rcases cy h with⟨i,u,rfl,e⟩ | ⟨y,u,rfl,e⟩
  ·exact nomatch e
  ·injection e with e1 _;subst e1;cases v <;> rfl
def yF (prog:tt) (w:wE) (i:Int) (t:Tok):(cj prog w).is (.inl i) (.int i t)=true:=J9 i t
def yE (prog:tt) (w:wE) (x:Str) (t:Tok):(cj prog w).is (.inr x) (.str x t)=true:=J8 x t
end L2
variable {us:List A4}{u:A4}{κ α β:Type}{a b e:BO}{P:PySem.Program}{w:PySem.World}{h h':Fq}{ob:FC}
namespace L2
open PySem PySem.Spec PyProof.Rows
inductive V where
 | aU | bl (b:Bool) | int (i:Int) | str (x:Str) | WE (b:Array UInt8) | Xl (b:UInt64) | ref (a:db) | ty (n:String)
 deriving DecidableEq
def RelV:V->ci->Prop
 | .aU,u=>u=AW
 | .bl b,u=>u=B6 b
 | .int i,u=>∃t,u=DV i t
 | .str x,u=>∃t,u=DU x t
 | .WE b,u=>∃t,u=Value.bytes b t
 | .Xl b,u=>∃t,u=Value.float b t
 | .ref a,u=>u=AB a
 | .ty n,u=>u=BW n
abbrev Vals:List V->List ci->Prop:=Paired RelV
def Vals.length {xs:List V} (r:Vals xs us):xs.length=us.length:=Paired.length r
theorem Vals.get:∀{xs:List V}{us:List ci}{i:Nat}{x:V},Vals xs us->xs[i]?=bd x->∃u,us[i]?=bd u/\RelV x u
 | _,_,_,_,.nil,e=>by simp at e
 | _,_,0,_,.cons r _,e=>by simp at e;subst e;exact⟨_,rfl,r⟩
 | _,_,i+1,x,.cons _ t,e=>by
  obtain⟨u,h1,h2⟩:=Vals.get (i:=i) (x:=x) t (by simpa using e);exact⟨u,by simpa using h1,h2⟩
theorem Vals.set {x:V} (r:RelV x u):∀{xs:List V}{us:List ci} (i:Nat),Vals xs us->Vals (xs.set i x) (us.set i u)
 | _,_,_,.nil=>.nil
 | _,_,0,.cons _ t=>.cons r t
 | _,_,i+1,.cons q t=>.cons q (Vals.set r i t)
theorem Vals.append:∀{xs ys:List V}{us ws:List ci},Vals xs us->Vals ys ws->Vals (xs++ys) (us++ws)
 | _,_,_,_,.nil,s=>s
 | _,_,_,_,.cons r t,s=>.cons r (Vals.append t s)
theorem Vals.take:∀{xs:List V}{us:List ci} (n:Nat),Vals xs us->Vals (xs.take n) (us.take n)
 | _,_,0,_=>.nil
 | _,_,_+1,.nil=>.nil
 | _,_,n+1,.cons r t=>.cons r (Vals.take n t)
theorem Vals.drop:∀{xs:List V}{us:List ci} (n:Nat),Vals xs us->Vals (xs.drop n) (us.drop n)
 | _,_,0,r=>r
 | _,_,_+1,.nil=>.nil
 | _,_,n+1,.cons _ t=>Vals.drop n t
def sP:Option V->Option ci->Prop
 | some v,bd u=>RelV v u
 | none,bv=>True
 | _,_=>False
def KV:List (κ×V)->List (κ×ci)->Prop:=Paired λ(p:κ×V) (q:κ×ci)=>p.1=q.1/\RelV p.2 q.2
def kV:Key->V
 | .inl i=>.int i
 | .inr x=>.str x
inductive HO where
 | lst (xs:List V)
 | tup (xs:List V)
 | dK (kvs:List (Key×V)) | dT (kvs:List (List Key×V))
 | set (S:Int->Bool) (n:Nat)
 | ins (C dx:db) (fs:List (Str×V))
 | own (x:db)
 | xd (fs:List (Str×V))
 | met (f x:db)
 | rng (lo hi:Int)
 | cO (o:Obj) (u:HO)
 | Up (ps:Array ci)
 | ext (φ:pc->Prop)
abbrev Hp:=db->Option HO
def upd (H:Hp) (a:db) (o:HO):Hp:=λb=>if b=a then bd o else H b
def aR {H:Hp}{o:HO}:upd H a o a=bd o:=by unfold upd;rw [if_pos rfl]
def aB {H:Hp}{o:HO} (h:b≠a):upd H a o b=H b:=by unfold upd;rw [if_neg h]
def IA {H:Hp}{o u:HO} (h:H a=bd o) (h':H b=bd u) (d:o≠u):a≠b:=by
 intro e;subst e;rw [h] at h';exact d (Option.some.inj h')
def bK {H:Hp}{o:HO} (h:H a=bd o) (h':H b=bv):a≠b:=by
 intro e;subst e;rw [h] at h';cases h'
section
variable (P:tt) (w:wE)
def bq (H:Hp) (h:pc) (a:db):HO->Prop
 | .lst xs=>xs.length<=sizeLine/\∃(au:List ci) (n:Nat),Vals xs au/\h.get? a=bd {cls:=.type "list",data:=.seq au.toArray n}
 | .tup xs=>xs.length<=sizeLine/\∃au:List ci,Vals xs au/\IsTup h a au.toArray
 | .dK kvs=>kvs.length<=sizeLine/\(a==ul)=false/\∃vs,KV kvs vs/\h.DictOf (cj P w) a vs
 | .dT kvs=>kvs.length<=sizeLine/\(a==ul)=false/\∃xs:List (List Key×db×ci),
   Paired (λ(p:List Key×V) (q:List Key×db×ci)=>p.1=q.1/\H q.2.1=bd (.tup (p.1.map kV))/\RelV p.2 q.2.2) kvs xs/\
   ∃o es ep,h.get? a=bd o/\o.ExactDict/\o.data=.dict es ep/\es.toList=xs.map (entryOfKey (pr (cj P w)))/\(xs.map (·.1)).Nodup
 | .set S n=>h.SetOf (intKind P w) a S n
 | .ins C dx fs=>H dx=bd (.own a)/\fs.length<=1000/\dx≠a/\h.get? a=bd (EN C dx)/\
   ∃mA,h.Ns1 dx mA/\(∀f,sP (fs.lookup f) (mA f))/\PySem.Within mA (fs.map (·.1))
 | .own _=>∃o,h.get? a=bd o
 | .xd fs=>∃mA,h.Ns1 a mA/\∀f,sP (fs.lookup f) (mA f)
 | .rng lo hi=>∃t u v,h.get? a=bd {cls:=.type "range",data:=.fields #[.int lo t,.int hi u,.int 1 v]}
 | .cO o u=>h.get? a=bd o/\bq H h a u
 | .Up ps=>h.get? a=bd {cls:=.none,data:=.fields ps}
 | .met f x=>h.get? a=bd (D9 (.ref f) (.ref x))
 | .ext φ=>φ h/\(∃o,h.get? a=bd o)/\∀h1 h2:pc,φ h1->(∀o,h1.get? a=bd o->h2.get? a=bd o)->φ h2
def lN (H:Hp) (h:pc):Prop:=∀a o,H a=bd o->bq P w H h a o
end
section
variable {H H':Hp}{o:HO}
def bq.lt (x:bq P w H h a o):a < h.objs.size:=by
 cases o with
 | lst xs=>obtain⟨_,_,_,_,e⟩:=x;exact Ar e
 | tup xs=>obtain⟨_,_,_,p⟩:=x;exact p.lt
 | dK kvs=>obtain⟨_,_,_,_,o,_,_,e,_⟩:=x;exact Ar e
 | dT kvs=>obtain⟨_,_,_,_,o,_,_,e,_⟩:=x;exact Ar e
 | set S n=>obtain⟨o,_,_,_,e,_⟩:=x;exact Ar e
 | ins C dx fs=>obtain⟨_,_,_,e,_⟩:=x;exact Ar e
 | own y=>obtain⟨_,e⟩:=x;exact Ar e
 | xd fs=>obtain⟨_,⟨_,_,_,e,_⟩,_⟩:=x;exact Ar e
 | rng lo hi=>obtain⟨_,_,_,e⟩:=x;exact Ar e
 | cO ob u=>obtain⟨e,_⟩:=x;exact Ar e
 | Up ps=>exact Ar (show h.get? a=bd _ from x)
 | met f y=>exact Ar (show h.get? a=bd _ from x)
 | ext φ=>obtain⟨_,⟨_,e⟩,_⟩:=x;exact Ar e
theorem Paired.Vq {F G:α->β->Prop}:∀{l₁:List α}{l₂:List β},Paired F l₁ l₂->(∀a b,F a b->G a b)->Paired G l₁ l₂
 | _,_,.nil,_=>.nil
 | _,_,.cons r t,f=>.cons (f _ _ r) (Paired.Vq t f)
def bq.vt (x:bq P w H h a o) (k:∀b u,(b=a\/H b=bd (.own a))->h.get? b=bd u->h'.get? b=bd u)
  (ho:∀b,H b=bd (.own a)->H' b=bd (.own a)) (ht:∀b xs,H b=bd (.tup xs)->H' b=bd (.tup xs)):bq P w H' h' a o:=by
 induction o with
 | lst xs=>obtain⟨z,au,n,r,e⟩:=x;exact⟨z,au,n,r,k _ _ (.inl rfl) e⟩
 | tup xs=>obtain⟨z,au,r,ob,e,c⟩:=x;exact⟨z,au,r,ob,k _ _ (.inl rfl) e,c⟩
 | dK kvs=>obtain⟨z,y,vs,r,ob,es,ep,e,c⟩:=x;exact⟨z,y,vs,r,ob,es,ep,k _ _ (.inl rfl) e,c⟩
 | dT kvs=>
  obtain⟨z,y,xs,r,ob,es,ep,e,c⟩:=x;exact⟨z,y,xs,Paired.Vq r λp q z=>⟨z.1,ht _ _ z.2.1,z.2.2⟩,ob,es,ep,k _ _ (.inl rfl) e,c⟩
 | set S n=>obtain⟨ob,es,ep,t,e,c⟩:=x;exact⟨ob,es,ep,t,k _ _ (.inl rfl) e,c⟩
 | ins C dx fs=>
  obtain⟨d,z,ne,e,mA,⟨od,es,ep,e2,c⟩,r⟩:=x;exact⟨ho _ d,z,ne,k _ _ (.inl rfl) e,mA,⟨od,es,ep,k _ _ (.inr d) e2,c⟩,r⟩
 | own y=>obtain⟨ob,e⟩:=x;exact⟨ob,k _ _ (.inl rfl) e⟩
 | xd fs=>obtain⟨mA,⟨od,es,ep,e,c⟩,r⟩:=x;exact⟨mA,⟨od,es,ep,k _ _ (.inl rfl) e,c⟩,r⟩
 | rng lo hi=>obtain⟨t,u,v,e⟩:=x;exact⟨t,u,v,k _ _ (.inl rfl) e⟩
 | cO ob u ih=>obtain⟨e,q⟩:=x;exact⟨k _ _ (.inl rfl) e,ih q⟩
 | Up ps=>
  have e:h.get? a=bd {cls:=.none,data:=.fields ps}:=x;show h'.get? a=bd {cls:=.none,data:=.fields ps};exact k a _ (.inl rfl) e
 | met f y=>
  have e:h.get? a=bd (D9 (.ref f) (.ref y)):=x;show h'.get? a=bd (D9 (.ref f) (.ref y));exact k a _ (.inl rfl) e
 | ext φ=>obtain⟨p,⟨o,e⟩,st⟩:=x;exact⟨st _ _ p λo q=>k _ _ (.inl rfl) q,⟨o,k _ _ (.inl rfl) e⟩,st⟩
def lN.lt (x:lN P w H h) (e:H a=bd o):a < h.objs.size:=(x a o e).lt
def lN.fresh (x:lN P w H h) (e:h.objs.size<=a):H a=bv:=by
 cases q:H a with
 | none=>rfl
 | some u=>exact absurd (AA (x.lt q) e) (A6 _)
def lN.kept (x:lN P w H h) (k:∀b u,h.get? b=bd u->h'.get? b=bd u):lN P w H h':=λa o e=>
 (x a o e).vt (λb u _ q=>k b u q) (λ_ q=>q) λ_ _ q=>q
def lN.laid (x:lN P w H h) (k:∀b u,h.get? b=bd u->h'.get? b=bd u) (hp:h.objs.size<=a) (new:bq P w (upd H a o) h' a o):lN P w (upd H a o) h':=λb u e=>by
 have hn:=x.fresh hp;by_cases hb:b=a
 ·subst hb;rw [aR] at e;cases e;exact new
 ·rw [aB hb] at e;exact (x b u e).vt (λc v _ q=>k c v q) (λc q=>by rw [aB (bK q hn)];exact q) λc xs q=>by rw [aB (bK q hn)];exact q
end
def Rd (H:Hp) (a:db) (u:HO):Prop:=H a=bd u\/∃o,H a=bd (.cO o u)
def Rd.ok {H:Hp}{u:HO} (r:Rd H a u) (x:lN P w H h):bq P w H h a u:=by
 rcases r with r | ⟨o,r⟩
 ·exact x a u r
 ·obtain⟨_,q⟩:=x a _ r;exact q
def Mut:Option HO->Prop
 | some (.lst _)=>True
 | some (.dK _)=>True
 | some (.dT _)=>True
 | some (.set _ _)=>True
 | some (.ins _ _ _)=>True
 | some (.ext _)=>True
 | _=>False
section
variable {H:Hp}{x:db}{o':HO}
def lN.write (ok:lN P w H h) (mu:Mut (H x)) (he:e=x\/H e=bd (.own x)) (k:∀b u,b≠e->h.get? b=bd u->h'.get? b=bd u) (Xf:∃u,h'.get? e=bd u)
  (new:bq P w (upd H x o') h' x o'):lN P w (upd H x o') h':=λb u q=>by
 have M4:∀c y,H c=bd (.own y)->c≠x:=λc y r z=>by subst z;rw [r] at mu;exact mu
 have acA:∀c xs,H c=bd (.tup xs)->c≠x:=λc xs r z=>by subst z;rw [r] at mu;exact mu
 by_cases hb:b=x
 ·subst hb;rw [aR] at q;cases q;exact new
 ·rw [aB hb] at q;by_cases V4:b=e
  ·have q':H b=bd (.own x):=by
    rcases he with z | z
    ·exact absurd (V4.trans z) hb
    ·rw [V4];exact z
   rw [q] at q';cases q';obtain⟨v,hv⟩:=Xf;exact⟨v,by rw [V4];exact hv⟩
  ·refine (ok b u q).vt (λc v hc r=>k c v ?_ r) (λc r=>by rw [aB (M4 c b r)];exact r) λc xs r=>by rw [aB (acA c xs r)];exact r
   rcases hc with rfl | hc
   ·exact V4
   ·rintro rfl;rcases he with z | z
    ·exact M4 c b hc z
    ·rw [hc] at z;cases z;exact hb rfl
end
structure Un (fs ex:List db) (H H':Hp) (h h':pc):Prop where
 keep:∀b o,h.get? b=bd o->H b=bv->b∉fs->b∉ex->h'.get? b=bd o
 slot:∀b o,h.get? b=bd o->H b=bv->b∈fs->b∉ex->∃sl,h'.get? b=bd {o with slots:=sl}
 free:∀b o,h.get? b=bd o->H b=bv->b∉ex->H' b=bv
 there:∀b o,h.get? b=bd o->b∉ex->∃o',h'.get? b=bd o'
 eL:∀b xs,H b=bd (.tup xs)->H' b=bd (.tup xs)
 pL:∀b o u,H b=bd (.cO o u)->H' b=bd (.cO o u)
 vm:∀b ps,H b=bd (.Up ps)->∃more,H' b=bd (.Up (ps++more))
section
variable {fs ex:List db}{H H1:Hp}{h1:pc}{x:db}{o:HO}
def Un.any (u:Un fs ex H H1 h h1) (q:h.get? b=bd ob) (n:H b=bv) (hx:b∉ex):∃sl,h1.get? b=bd {ob with slots:=sl}:=by
 by_cases hb:b∈fs
 ·exact u.slot b ob q n hb hx
 ·exact⟨ob.slots,u.keep b ob q n hb hx⟩
def Un.kept (k:∀b u,h.get? b=bd u->h'.get? b=bd u):Un fs ex H H h h':=
 ⟨λb ob q _ _ _=>k b ob q,λb ob q _ _ _=>⟨ob.slots,k b ob q⟩,λ_ _ _ n _=>n,λb ob q _=>⟨ob,k b ob q⟩,λ_ _ q=>q,λ_ _ _ q=>q,λ_ ps q=>⟨#[],by rw [q];simp⟩⟩
def Un.refl:Un fs ex H H h h:=Un.kept λ_ _ q=>q
def Un.laid (k:∀b u,h.get? b=bd u->h'.get? b=bd u) (hp:h.objs.size<=a) (hn:H a=bv):Un fs ex H (upd H a o) h h' where
 keep:=λb u q _ _ _=>k b u q
 slot:=λb u q _ _ _=>⟨u.slots,k b u q⟩
 free:=λb u q n _=>by rw [aB (AM (AA (Ar q) hp))];exact n
 there:=λb u q _=>⟨u,k b u q⟩
 eL:=λb xs q=>by rw [aB (bK q hn)];exact q
 pL:=λb u xs q=>by rw [aB (bK q hn)];exact q
 vm:=λb ps q=>⟨#[],by rw [aB (bK q hn),q];simp⟩
def Un.write (mu:Mut (H x)) (he:e=x\/H e=bd (.own x)) (k:∀b u,b≠e->h.get? b=bd u->h'.get? b=bd u) (Xf:∃u,h'.get? e=bd u):Un fs ex H (upd H x o) h h':=by
 have hx:∀b,H b=bv->b≠x:=λb n z=>by subst z;rw [n] at mu;exact mu
 have hb:∀b,H b=bv->b≠e:=λb n z=>by
  subst z;rcases he with r | r
  ·exact hx b n r
  ·rw [n] at r;cases r
 have hm:∀b u,H b=bd u->¬Mut (bd u)->b≠x:=λb u q nm z=>by subst z;rw [q] at mu;exact nm mu
 refine⟨λb u q n _ _=>k b u (hb b n) q,λb u q n _ _=>⟨u.slots,k b u (hb b n) q⟩,λb u q n _=>by rw [aB (hx b n)];exact n,λb u q _=>?_,
  λb xs q=>by rw [aB (hm b _ q λz=>z)];exact q,λb u xs q=>by rw [aB (hm b _ q λz=>z)];exact q,λb ps q=>⟨#[],by rw [aB (hm b _ q λz=>z),q];simp⟩⟩
 by_cases V4:b=e
 ·subst V4;exact Xf
 ·exact⟨u,k b u V4 q⟩
end
def trk (h:pc) (H:Hp):List db:=(Av h.objs.size).filter λa=>(H a).isSome
def wB (h:pc) (H:Hp):pc:=PySem.W.hideAll h (trk h H)
def Kl (h:pc) (H:Hp):(wB h H).objs.size=h.objs.size:=PySem.W.hideAll_size _ _
def NK {H:Hp}{o:Obj} (e:h.get? b=bd o) (n:H b=bv):(wB h H).get? b=bd o:=
 PySem.W.hideAll_get _ e λhm=>by
  have q:=(AL.mp hm).2;rw [n] at q;simp at q
def QS {H:Hp}{o:Obj} (e:(wB h H).get? b=bd o):h.get? b=bd o/\H b=bv:=by
 have e':=PySem.W.of_hideAll (trk h H) e;refine⟨e',?_⟩;cases q:H b with
 | none=>rfl
 | some x=>
  have hm:b∈trk h H:=AL.mpr ⟨AI.mpr (Ar e'),by simp [q]⟩;have z:(wB h H).get? b=bv:=PySem.W.hideAll_none (trk h H) hm;rw [z] at e;cases e
def SD (g h:pc) (L:db):List (db×Obj):=(Av h.objs.size).filterMap λa=>if a=L\/(g.get? a).isSome=true then bv else (h.get? a).map λo=>(a,o)
def rest (g h:pc) (L d:db):List (db×Obj):=(SD g h L).filter λp=>decide (p.1≠d)
end L2
variable {o:FC}{it:BO}{i j:Nat}{M:PySem.Model}{A:PySem.Around}{E:A4->DR->Prop}{v:L2.V}{Q:Unit->DR->Prop}{s' s:DR}
namespace L2
open PySem PySem.Spec PyProof.Rows
structure Mod (K:Ab) (mg:Str->Option ci) (base:pc):Prop where
 kin:K.In base
 glob:base.Ns ev mg
 blt:∃mb,base.Ns builtinsNs mb/\∀x:Str,x≠"__name__"->mb x=nw x
 nolimit:base.NoLimit
structure Cx where
 prog:tt
 w:wE
 K:Ab
 mg:Str->Option ci
 base:pc
 A:ss
 N:List Str
 s₀:dL
 H₀:Hp
 env:Env
 outer:List Env
 stack:List Env
 ex:List db
 fn:Str->Bool
 calm:Bool
 pn:List (db×Obj)
 xe:ci->dL->Prop
def LC (l:List Env):List db:=l.filterMap (·.frame)
abbrev Cx.fs (X:Cx):List db:=LC X.outer
def xt (sc:nn) (x:Str):Prop:=sc.names.lookup x=bd .local\/sc.names.lookup x=bd .cell\/sc.names.lookup x=bd .free
def Loc (sc:nn) (x:Str):Prop:=sc.names.lookup x=bd .local\/sc.names.lookup x=bd .cell
def Look (env:Env) (h:pc) (m:Str->Option ci) (x:Str) (u:ci):Prop:=
 (env.kindOf x=bd .local/\m x=bd u)\/((env.kindOf x=bd .cell\/env.kindOf x=bd .free)/\∃c,env.cells.lookup x=bd c/\h.IsCell c (bd u))
structure Cx.Ok (X:Cx):Prop where
 mod:Mod X.K X.mg X.base
 kind:X.env.scope.kind=.function
 glob:X.env.globals=ev
 blt:X.env.builtins=builtinsNs
 above:X.s₀.heap.objs.size<=X.env.locals
 inj:∀x y c,X.env.cells.lookup x=bd c->X.env.cells.lookup y=bd c->x=y
 has:∀x,(X.env.kindOf x=bd .cell\/X.env.kindOf x=bd .free)->∃c,X.env.cells.lookup x=bd c
 cab:∀x c,X.fn x=true->X.env.cells.lookup x=bd c->X.s₀.heap.objs.size<=c
 hd:X.calm=true->X.A.handled=bv
 frames:X.A.frames=bd X.stack
 stk:X.stack=X.outer\/(X.stack=X.env::X.outer/\X.env.frame=bd X.env.locals)
 exf:∀b∈X.ex,b≠X.env.locals/\∀x c,X.env.cells.lookup x=bd c->c≠b
 bs:∀b o,X.base.get? b=bd o->X.s₀.heap.get? b=bd o/\X.H₀ b=bv
 T8:X.base.objs.size<=X.s₀.heap.objs.size
 M5:∀b o,X.base.get? b=bd o->b∉X.ex
 N6:∀b∈X.ex,b∉X.fs
 rT:X.s₀.heap.FunFrames X.base X.outer
 Xj:∀b∈X.fs,X.H₀ b=bv
structure Inv (X:Cx) (Z:List (db×Obj)) (σ:List (Option V)) (H:Hp) (s:dL):Prop where
 ok:X.Ok
 os:s.os=X.s₀.os
 bare:GM s.gens
 base:Un X.fs X.ex X.H₀ H X.s₀.heap s.heap
 loc:∃m,s.heap.Ns X.env.locals m/\∀(i:Nat) (x:Str) (v:V),X.N[i]?=bd x->σ[i]?=bd (bd v)->xt X.env.scope x->∃u,RelV v u/\Look X.env s.heap m x u
 cell:∀x c,X.env.cells.lookup x=bd c->∃v,s.heap.IsCell c v
 free:H X.env.locals=bv
 kc:∀x c,X.env.cells.lookup x=bd c->H c=bv
 pin:∀p∈X.pn++Z,s.heap.get? p.1=bd p.2/\H p.1=bv/\p.1≠X.env.locals/\p.1∉X.fs/\∀v,p.2.data≠.cell v
 bG:lN X.prog X.w H s.heap
 len:σ.length=X.N.length
section
variable {X:Cx}{Z:List (db×Obj)}{σ:List (Option V)}{H H':Hp}{s:dL}{h':pc}
def Cx.Ok.acC (ok:X.Ok) (e:X.base.get? b=bd o):b∉X.fs:=λhb=>by
 have:=(ok.rT.mem hb).1;rw [e] at this;cases this
def Inv.bs (I:Inv X Z σ H s):∀b o,X.base.get? b=bd o->s.heap.get? b=bd o/\H b=bv:=λb o e=>
 ⟨I.base.keep b o (I.ok.bs b o e).1 (I.ok.bs b o e).2 (I.ok.acC e) (I.ok.M5 b o e),I.base.free b o (I.ok.bs b o e).1 (I.ok.bs b o e).2 (I.ok.M5 b o e)⟩
def Inv.bk (I:Inv X Z σ H s):∀b o,X.base.get? b=bd o->s.heap.get? b=bd o:=λb o e=>(I.bs b o e).1
def Inv.mod (I:Inv X Z σ H s):Mod X.K X.mg X.base:=I.ok.mod
def Inv.tG (I:Inv X Z σ H s):X.K.In s.heap:=I.ok.mod.kin.keeps I.bk
def Inv.lt (I:Inv X Z σ H s):X.env.locals < s.heap.objs.size:=let ⟨_,hn,_⟩:=I.loc;hn.lt
def Inv.sz (I:Inv X Z σ H s):X.s₀.heap.objs.size<=s.heap.objs.size:=Bk I.ok.above (DT I.lt)
def Inv.acB (I:Inv X Z σ H s) (h:s.heap.objs.size<=a):a∉X.fs:=λhb=>by
 obtain⟨_,o,ho,_⟩:=I.ok.rT.mem hb;exact absurd (AA (Ar ho) (Bk I.sz h)) (A6 _)
def Inv.WB (I:Inv X Z σ H s):∀x c,X.env.cells.lookup x=bd c->c≠X.env.locals:=λx c e z=>by
 obtain⟨v,o,ho,hd⟩:=I.cell x c e;obtain⟨m,⟨o',es,ep,NF,Ģ,_⟩,_⟩:=I.loc;rw [z,NF] at ho;cases ho;rw [Ģ] at hd;cases hd
def Inv.rT (I:Inv X Z σ H s):s.heap.FunFrames X.base X.outer:=by
 have all:∀(l:List Env),(∀b∈LC l,b∈X.fs)->X.s₀.heap.FunFrames X.base l->s.heap.FunFrames X.base l:=by
  intro l
  induction l with
  | nil=>intro _ _;trivial
  | cons env r ih=>
   intro hs hl;obtain⟨hk,⟨L,o,hf,hn,ho,hd⟩,hr⟩:=hl;have hL:=hs L (by unfold LC;rw [BD,hf];exact BA);obtain⟨sl,e⟩:=I.base.slot L o ho (I.ok.Xj L hL) hL λz=>I.ok.N6 L z hL;exact⟨hk,⟨L,_,hf,hn,e,hd⟩,ih (λb hb=>hs b (by unfold LC;rw [BD,hf];exact AV _ hb)) hr⟩
 exact all X.outer (λ_ hb=>hb) I.ok.rT
def Inv.stack (I:Inv X Z σ H s):s.heap.FunFrames X.base X.stack:=by
 rcases I.ok.stk with e | ⟨e,hf⟩
 ·rw [e];exact I.rT
 ·rw [e];obtain⟨m,hn,_⟩:=I.loc;refine .cons (by rw [I.ok.kind];decide) hf hn ?_ I.rT;exact Heap.get?_none_of_le (Bk I.ok.T8 I.ok.above)
def Inv.z9 (I:Inv X Z σ H s):∀b∈LC X.stack,b∈X.env.locals::X.fs:=λb hb=>by
 rcases I.ok.stk with e | ⟨e,hf⟩
 ·rw [e] at hb;exact AV _ hb
 ·rw [e] at hb;unfold LC at hb;rw [BD,hf] at hb;exact hb
def Inv.H0 (I:Inv X Z σ H s):∀b∈LC X.stack,H b=bv:=λb hb=>by
 rcases Ay.mp (I.z9 b hb) with e | hb
 ·rw [e];exact I.free
 ·obtain⟨_,o,ho,_⟩:=I.ok.rT.mem hb;exact I.base.free b o ho (I.ok.Xj b hb) λz=>I.ok.N6 b z hb
def Inv.step {g':Array GenState}{t':Nat}{d':Drawn}{ch:List db} (I:Inv X Z σ H s)
  (Pk:∀b∈ch,(b∈X.ex\/X.s₀.heap.objs.size<=b)/\b≠X.env.locals/\(∀x c,X.env.cells.lookup x=bd c->c≠b)/\∀p∈X.pn++Z,p.1≠b)
  (keep:∀b o,b≠X.env.locals->b∉X.fs->b∉ch->s.heap.get? b=bd o->H b=bv->h'.get? b=bd o)
  (slot:∀b o,b≠X.env.locals->b∈X.fs->b∉ch->s.heap.get? b=bd o->H b=bv->∃sl,h'.get? b=bd {o with slots:=sl}) (free:∀b o,b∉ch->s.heap.get? b=bd o->H b=bv->H' b=bv)
  (there:∀b o,b∉ch->s.heap.get? b=bd o->∃o',h'.get? b=bd o')
  (eL:∀b xs,H b=bd (.tup xs)->H' b=bd (.tup xs)) (pL:∀b o u,H b=bd (.cO o u)->H' b=bd (.cO o u)) (vm:∀b ps,H b=bd (.Up ps)->∃more,H' b=bd (.Up (ps++more)))
  (ns:∀m,s.heap.Ns X.env.locals m->h'.Ns X.env.locals m) (bG:lN X.prog X.w H' h') (hg:GM g') :
  Inv X Z σ H' {s with heap:=h',gens:=g',drawn:=d',toks:=t'}:=by
 have neL:∀b o,X.s₀.heap.get? b=bd o->b≠X.env.locals:=λb o e=>AM (AA (Ar e) I.ok.above);have ï:∀b o,X.s₀.heap.get? b=bd o->b∉X.ex->b∉ch:=λb o e hx hb=>by
  rcases (Pk b hb).1 with z | z
  ·exact hx z
  ·exact absurd (AA (Ar e) z) (A6 _)
 have Ü:∀x c,X.env.cells.lookup x=bd c->∀v,s.heap.IsCell c v->h'.IsCell c v:=λx c e v ⟨o,ho,hd⟩=>by
  have Y7:c∉ch:=λz=>(Pk c z).2.2.1 x c e rfl;by_cases hc:c∈X.fs
  ·obtain⟨sl,q⟩:=slot c o (I.WB x c e) hc Y7 ho (I.kc x c e);exact⟨_,q,hd⟩
  ·exact⟨o,keep c o (I.WB x c e) hc Y7 ho (I.kc x c e),hd⟩
 refine⟨I.ok,I.os,hg,⟨λb o e n hb hx=>?_,λb o e n hb hx=>?_,λb o e n hx=>?_,λb o e hx=>?_,λb xs e=>eL b xs (I.base.eL b xs e),λb o xs e=>pL b o xs (I.base.pL b o xs e),λb ps e=>?_⟩,?_,λx c e=>?_,?_,λx c e=>?_,λp hp=>?_,bG,I.len⟩
 ·exact keep b o (neL b o e) hb (ï b o e hx) (I.base.keep b o e n hb hx) (I.base.free b o e n hx)
 ·obtain⟨sl,e1⟩:=I.base.slot b o e n hb hx;obtain⟨sl',e2⟩:=slot b _ (neL b o e) hb (ï b o e hx) e1 (I.base.free b o e n hx);exact⟨sl',e2⟩
 ·obtain⟨o',e1⟩:=I.base.there b o e hx;exact free b o' (ï b o e hx) e1 (I.base.free b o e n hx)
 ·obtain⟨o',e1⟩:=I.base.there b o e hx;exact there b o' (ï b o e hx) e1
 ·obtain⟨m1,e1⟩:=I.base.vm b ps e;obtain⟨m2,e2⟩:=vm b _ e1;exact⟨m1++m2,by rw [e2,Array.append_assoc]⟩
 ·obtain⟨m,hn,hl⟩:=I.loc;refine⟨m,ns m hn,λi x v e1 e2 e3=>?_⟩;obtain⟨u,r,l⟩:=hl i x v e1 e2 e3;refine⟨u,r,?_⟩;rcases l with l | ⟨k,c,e,z⟩
  ·exact .inl l
  ·exact .inr ⟨k,c,e,Ü x c e _ z⟩
 ·obtain⟨v,z⟩:=I.cell x c e;exact⟨v,Ü x c e v z⟩
 ·obtain⟨m,⟨o,_,_,ho,_⟩,_⟩:=I.loc;exact free _ o (λz=>(Pk _ z).2.1 rfl) ho I.free
 ·obtain⟨v,o,ho,hd⟩:=I.cell x c e;exact free c o (λz=>(Pk c z).2.2.1 x c e rfl) ho (I.kc x c e)
 ·obtain⟨e,n,ne,nf,d⟩:=I.pin p hp;have Y7:p.1∉ch:=λz=>(Pk p.1 z).2.2.2 p hp rfl;exact⟨keep p.1 p.2 ne nf Y7 e n,free p.1 p.2 Y7 e n,ne,nf,d⟩
def Inv.un {t':Nat} (I:Inv X Z σ H s) (u:Un X.fs [] H H' s.heap h') (bG:lN X.prog X.w H' h'):Inv X Z σ H' {s with heap:=h',toks:=t'}:=by
 obtain⟨m,⟨o,es,ep,ho,r⟩,_⟩:=id I.loc;obtain⟨sl,hL⟩:=u.any ho I.free (by simp);exact I.step (g':=s.gens) (d':=s.drawn) (ch:=[]) (λ_ z=>nomatch z) (λb o _ hb _ e n=>u.keep b o e n hb (by simp)) (λb o _ hb _ e n=>u.slot b o e n hb (by simp)) (λb o _ e n=>u.free b o e n (by simp)) (λb o _ e=>u.there b o e (by simp)) u.eL u.pL u.vm (λm' hm=>by
  obtain⟨o',ý,þ,NF,r'⟩:=hm;rw [ho] at NF;cases NF;exact⟨_,ý,þ,hL,r'⟩) bG I.bare
def Inv.call {g':Array GenState}{t':Nat}{d':Drawn}{ch:List db} (I:Inv X Z σ H s) (u:Un (LC X.stack) ch H H' s.heap h') (bG:lN X.prog X.w H' h') (hg:GM g')
  (Pk:∀b∈ch,(b∈X.ex\/X.s₀.heap.objs.size<=b)/\b≠X.env.locals/\(∀x c,X.env.cells.lookup x=bd c->c≠b)/\∀p∈X.pn++Z,p.1≠b) :
  Inv X Z σ H' {s with heap:=h',gens:=g',drawn:=d',toks:=t'}:=by
 obtain⟨m,⟨o,es,ep,ho,r⟩,_⟩:=id I.loc;obtain⟨sl,hL⟩:=u.any ho I.free λz=>(Pk _ z).2.1 rfl;exact I.step (ch:=ch) Pk (λb o hL hb hc e n=>u.keep b o e n (λz=>(Ay.mp (I.z9 b z)).elim hL hb) hc) (λb o _ _ hc e n=>u.any e n hc) (λb o hc e n=>u.free b o e n hc) (λb o hc e=>u.there b o e hc) u.eL u.pL u.vm (λm' hm=>by
  obtain⟨o',ý,þ,NF,r'⟩:=hm;rw [ho] at NF;cases NF;exact⟨_,ý,þ,hL,r'⟩) bG hg
def Inv.turned {t':Nat} (I:Inv X Z σ H s) (k:∀b o,b≠it->s.heap.get? b=bd o->h'.get? b=bd o) (hn:H it=bv) (hL:it≠X.env.locals)
  (h1:it∈X.ex\/X.s₀.heap.objs.size<=it) (h2:∀x c,X.env.cells.lookup x=bd c->c≠it) (h3:∀p∈X.pn++Z,p.1≠it):Inv X Z σ H {s with heap:=h',toks:=t'}:=by
 have Td:∀b u,H b=bd u->b≠it:=λb u e z=>by rw [z,hn] at e;cases e
 refine I.step (g':=s.gens) (d':=s.drawn) (ch:=[it]) (λb hb=>?_) (λb o _ _ hc e _=>k b o (λz=>hc (by simp [z])) e) (λb o _ _ hc e _=>⟨o.slots,k b o (λz=>hc (by simp [z])) e⟩) (λ_ _ _ _ n=>n)
  (λb o hc e=>⟨o,k b o (λz=>hc (by simp [z])) e⟩) (λ_ _ e=>e) (λ_ _ _ e=>e) (λb ps e=>⟨#[],by rw [e];simp⟩) (λm hm=>?_) (λb u e=>?_) I.bare
 ·have e:b=it:=by simpa using hb
  subst e;exact⟨h1,hL,h2,h3⟩
 ·obtain⟨o,es,ep,ho,r⟩:=hm;exact⟨o,es,ep,k _ o (BE hL) ho,r⟩
 ·refine (I.bG b u e).vt (λc v hc q=>k c v ?_ q) (λ_ q=>q) λ_ _ q=>q;rcases hc with z | z
  ·rw [z];exact Td b u e
  ·exact Td c _ z
def Inv.tok (I:Inv X Z σ H s) (t:Nat):Inv X Z σ H {s with toks:=t}:=I.un (h':=s.heap) (t':=t) Un.refl I.bG
def Inv.kept {t':Nat} (I:Inv X Z σ H s) (k:∀b u,s.heap.get? b=bd u->h'.get? b=bd u):Inv X Z σ H {s with heap:=h',toks:=t'}:=I.un (Un.kept k) (I.bG.kept k)
def Inv.laid {o:HO}{t':Nat} (I:Inv X Z σ H s) (k:∀b u,s.heap.get? b=bd u->h'.get? b=bd u) (hp:s.heap.objs.size<=a) (new:bq X.prog X.w (upd H a o) h' a o) :
  Inv X Z σ (upd H a o) {s with heap:=h',toks:=t'}:=I.un (Un.laid k hp (I.bG.fresh hp)) (I.bG.laid k hp new)
def Inv.write {x:db}{o:HO}{t':Nat} (I:Inv X Z σ H s) (mu:Mut (H x)) (he:e=x\/H e=bd (.own x)) (k:∀b u,b≠e->s.heap.get? b=bd u->h'.get? b=bd u) (Xf:∃u,h'.get? e=bd u)
  (new:bq X.prog X.w (upd H x o) h' x o):Inv X Z σ (upd H x o) {s with heap:=h',toks:=t'}:=I.un (Un.write mu he k Xf) (I.bG.write mu he k Xf new)
def Inv.Il {yn:List (db×Obj)} (I:Inv X Z σ H s) (h:∀p∈yn,s.heap.get? p.1=bd p.2/\H p.1=bv/\p.1≠X.env.locals/\p.1∉X.fs/\∀v,p.2.data≠.cell v):Inv X yn σ H s:=
 ⟨I.ok,I.os,I.bare,I.base,I.loc,I.cell,I.free,I.kc,λp hp=>(AX.mp hp).elim (λz=>I.pin p (BK _ z)) (h p),I.bG,I.len⟩
def yC {N:List Str} (hN:N.Nodup) {x:Str} (a:N[i]?=bd x) (b:N[j]?=bd x):i=j:=by
 obtain⟨h1,e1⟩:=Ak.mp a;obtain⟨h2,e2⟩:=Ak.mp b;exact (Ew hN).mp (e1.trans e2.symm)
def uk {x:Str} (I:Inv X Z σ H s) (hN:X.N.Nodup) (hi:X.N[i]?=bd x) (hx:Loc X.env.scope x) (r:RelV v u)
  (h:∀s',Inv X Z (σ.set i (bd v)) H s'->(∃a,Cc a s.heap s'.heap/\(a=X.env.locals\/X.env.cells.lookup x=bd a))->Q () s') (hf:X.fn x=true\/X.env.scope.names.lookup x=bd .local:=by first | exact .inl rfl | exact .inr rfl | assumption):d4 M A (storeName X.env x u) Q E s:=by
 obtain⟨m,hn,hl⟩:=id I.loc;have adx:(X.env.scope.kind==.class||(X.env.scope.kind==.module&&X.env.locals != X.env.globals))=false:=by rw [I.ok.kind];rfl
 have ZF:i < σ.length:=by rw [I.len];exact (Ak.mp hi).1
 have WB:=I.WB;have Ñ:∀{a:db}{h':pc},(∃o,s.heap.get? a=bd o/\H a=bv)->Cc a s.heap h'->lN X.prog X.w H h':=λ{a h'} ha hs b ob e=>by
  obtain⟨_,_,TH⟩:=ha;refine (I.bG b ob e).vt (λc w' hc q=>(hs.2 c ?_).trans q) (λ_ q=>q) λ_ _ q=>q;rintro rfl;rcases hc with rfl | hc
  ·rw [TH] at e;cases e
  ·rw [TH] at hc;cases hc
 rcases hx with hk | hk
 ·refine wpAny_storeName_local hk hn (λh' hn' hs=>?_) adx;obtain⟨oL,_,_,ö,_⟩:=id hn;refine h _ ⟨I.ok,I.os,I.bare,⟨λb o e n hb hx=>?_,λb o e n hb hx=>?_,I.base.free,λb o e hx=>?_,I.base.eL,I.base.pL,I.base.vm⟩,⟨_,hn',λj y v' e1 e2 e3=>?_⟩,λy c e=>?_,I.free,I.kc,λp hp=>?_,Ñ ⟨oL,ö,I.free⟩ hs,by simpa using I.len⟩ ⟨_,hs,.inl rfl⟩
  ·exact (hs.2 b (AM (AA (Ar e) I.ok.above))).trans (I.base.keep b o e n hb hx)
  ·obtain⟨sl,e1⟩:=I.base.slot b o e n hb hx;exact⟨sl,(hs.2 b (AM (AA (Ar e) I.ok.above))).trans e1⟩
  ·obtain⟨o',e1⟩:=I.base.there b o e hx;exact⟨o',(hs.2 b (AM (AA (Ar e) I.ok.above))).trans e1⟩
  ·by_cases hj:j=i
   ·subst hj;rw [hi] at e1;cases e1;rw [Bt ZF] at e2;cases e2;exact⟨u,r,.inl ⟨hk,by simp⟩⟩
   ·rw [A8 (BE hj)] at e2;obtain⟨u',r',q⟩:=hl j y v' e1 e2 e3;refine⟨u',r',?_⟩;rcases q with⟨k,e⟩ | ⟨k,c,e,z⟩
    ·refine .inl ⟨k,?_⟩;have:y≠x:=λe=>hj (yC hN e1 (e▸hi));simp [this,e]
    ·exact .inr ⟨k,c,e,z.sameBut hs (WB y c e)⟩
  ·obtain⟨w',z⟩:=I.cell y c e;exact⟨w',z.sameBut hs (WB y c e)⟩
  ·obtain⟨e,n,ne,nf,d⟩:=I.pin p hp;exact⟨(hs.2 p.1 ne).trans e,n,ne,nf,d⟩
 ·have ZL:X.fn x=true:=by
   rcases hf with z | z
   ·exact z
   ·rw [z] at hk;cases hk
  obtain⟨c,hc⟩:=I.ok.has x (.inl hk);obtain⟨w',z⟩:=I.cell x c hc;refine wpAny_storeName_cell I.ok.kind hk hc z (λh' Pl hs=>?_);obtain⟨oc,hoc,adh⟩:=id z;refine h {s with heap:=h'} ⟨I.ok,I.os,I.bare,⟨λb o e n hb hx=>?_,λb o e n hb hx=>?_,I.base.free,λb o e hx=>?_,I.base.eL,I.base.pL,I.base.vm⟩,⟨m,hn.sameBut hs (BE (WB x c hc)),λj y v' e1 e2 e3=>?_⟩,λy c' e=>?_,I.free,I.kc,λp hp=>?_,Ñ ⟨oc,hoc,I.kc x c hc⟩ hs,by simpa using I.len⟩ ⟨c,hs,.inr hc⟩
  ·exact (hs.2 b (AM (AA (Ar e) (I.ok.cab x c ZL hc)))).trans (I.base.keep b o e n hb hx)
  ·obtain⟨sl,e1⟩:=I.base.slot b o e n hb hx;exact⟨sl,(hs.2 b (AM (AA (Ar e) (I.ok.cab x c ZL hc)))).trans e1⟩
  ·obtain⟨o',e1⟩:=I.base.there b o e hx;exact⟨o',(hs.2 b (AM (AA (Ar e) (I.ok.cab x c ZL hc)))).trans e1⟩
  ·by_cases hj:j=i
   ·subst hj;rw [hi] at e1;cases e1;rw [Bt ZF] at e2;cases e2;exact⟨u,r,.inr ⟨.inl hk,c,hc,Pl⟩⟩
   ·rw [A8 (BE hj)] at e2;obtain⟨u',r',q⟩:=hl j y v' e1 e2 e3;refine⟨u',r',?_⟩;rcases q with q | ⟨k,c',e,z'⟩
    ·exact .inl q
    ·refine .inr ⟨k,c',e,z'.sameBut hs ?_⟩;rintro rfl;exact hj (yC hN e1 (I.ok.inj _ _ _ e hc▸hi))
  ·by_cases hcc:c'=c
   ·subst hcc;exact⟨_,Pl⟩
   ·obtain⟨w2,z2⟩:=I.cell y c' e;exact⟨w2,z2.sameBut hs hcc⟩
  ·obtain⟨e,n,ne,nf,d⟩:=I.pin p hp;refine⟨(hs.2 p.1 ?_).trans e,n,ne,nf,d⟩;intro q;rw [q,hoc] at e;have q':oc=p.2:=Option.some.inj e;exact d w' (by rw [<- q'];exact adh)
def xY {x:Str} (I:Inv X Z σ H s) (hN:X.N.Nodup) (hi:X.N[i]?=bd x) (hx:Loc X.env.scope x) (r:RelV v u)
  (h:∀s',Inv X Z (σ.set i (bd v)) H s'->Q () s') (hf:X.fn x=true\/X.env.scope.names.lookup x=bd .local:=by first | exact .inl rfl | exact .inr rfl | assumption):d4 M A (storeName X.env x u) Q E s:=
 uk I hN hi hx r (λs' I' _=>h s' I') hf
def Inv.aar {ch:List db} (I:Inv X Z σ H s) (ho:s'.os=s.os) (u:Un (LC X.stack) ch H H' s.heap s'.heap) (bG:lN X.prog X.w H' s'.heap) (hg:GM s'.gens)
  (Pk:∀b∈ch,(b∈X.ex\/X.s₀.heap.objs.size<=b)/\b≠X.env.locals/\(∀x c,X.env.cells.lookup x=bd c->c≠b)/\∀p∈X.pn++Z,p.1≠b):Inv X Z σ H' s':=by
 obtain⟨h',g',d',t',o'⟩:=s';have e:o'=s.os:=ho;subst e;exact I.call (g':=g') (t':=t') (d':=d') u bG hg Pk
end
abbrev XK:=ci->Option db->Hp->Prop
abbrev St:=List (Option V)
abbrev VK:=V->Hp->Prop
abbrev TE:=St->Hp->VK->Prop
abbrev TT:=St->Hp->(Bool->Hp->Prop)->Prop
abbrev TA:=St->Hp->(List V->Hp->Prop)->Prop
structure Ends where
 nx:St->Hp->Prop
 rt:VK
 bk:St->Hp->Prop:=λ_ _=>False
 ct:St->Hp->Prop:=λ_ _=>False
abbrev TS:=Ends->St->Hp->Prop
def EP (X:Cx) (Z:List (db×Obj)) (σ:St) (Q:VK) (u:ci) (s':dL):Prop:=∃v H',Inv X Z σ H' s'/\RelV v u/\Q v H'
def TP (X:Cx) (Z:List (db×Obj)) (σ:St) (Q:Bool->Hp->Prop) (b:Bool) (s':dL):Prop:=∃H',Inv X Z σ H' s'/\Q b H'
def AP (X:Cx) (Z:List (db×Obj)) (σ:St) (Q:List V->Hp->Prop) (us:List ci) (s':dL):Prop:=∃vs H',Inv X Z σ H' s'/\Vals vs us/\Q vs H'
def SP (X:Cx) (Z:List (db×Obj)) (D:Ends) (f:Flow) (s':dL):Prop:=
 match f with
 | .next=>∃σ' H',Inv X Z σ' H' s'/\D.nx σ' H'
 | .brk=>∃σ' H',Inv X Z σ' H' s'/\D.bk σ' H'
 | .cont=>∃σ' H',Inv X Z σ' H' s'/\D.ct σ' H'
 | .ret u=>∃v σ' H',Inv X Z σ' H' s'/\RelV v u/\D.rt v H'
def PE (X:Cx) (e:lm) (t:TE):Prop:=
 ∀(Z:List (db×Obj)) (s:dL) (σ:St) (H:Hp) (Q:VK),Inv X Z σ H s->t σ H Q->d4 (d5 X.prog X.w) X.A (kt e X.env) (EP X Z σ Q) X.xe s
def PT (X:Cx) (e:lm) (t:TT):Prop:=
 ∀(Z:List (db×Obj)) (s:dL) (σ:St) (H:Hp) (Q:Bool->Hp->Prop),Inv X Z σ H s->t σ H Q->d4 (d5 X.prog X.w) X.A (isTrue e X.env (kt e X.env)) (TP X Z σ Q) X.xe s
def PW (X:Cx) (e:lm) (t:TT):Prop:=
 ∀(Æ:Sem ci) (Z:List (db×Obj)) (s:dL) (σ:St) (H:Hp) (Q:Bool->Hp->Prop),Inv X Z σ H s->t σ H Q->d4 (d5 X.prog X.w) X.A (isTrue e X.env Æ) (TP X Z σ Q) X.xe s
def PW.pt {X:Cx}{e:lm}{t:TT} (h:PW X e t):PT X e t:=h _
def PA (X:Cx) (es:List lm) (t:TA):Prop:=
 ∀(pos:Pos) (Z:List (db×Obj)) (s:dL) (σ:St) (H:Hp) (Q:List V->Hp->Prop),Inv X Z σ H s->t σ H Q->d4 (d5 X.prog X.w) X.A (spliced (kw pos (ce es X.env))) (AP X Z σ Q) X.xe s
def PS (X:Cx) (st:t0) (t:TS):Prop:=
 ∀(Z:List (db×Obj)) (s:dL) (σ:St) (H:Hp) (D:Ends),Inv X Z σ H s->t D σ H->d4 (d5 X.prog X.w) X.A (exec st X.env) (SP X Z D) X.xe s
def qC (X:Cx) (st:List t0) (t:TS):Prop:=
 ∀(Z:List (db×Obj)) (s:dL) (σ:St) (H:Hp) (D:Ends),Inv X Z σ H s->t D σ H->d4 (d5 X.prog X.w) X.A (execs st X.env) (SP X Z D) X.xe s
def bD {t:Sem α}{Q Q':α->dL->Prop} (h:d4 M A t Q E s) (hQ:∀a s,Q a s->Q' a s):d4 M A t Q' E s:=BP h hQ λ_ _ x=>x
end L2
variable {x:BZ}{H:L2.Hp}{a:BN}{Q:A4->DR->Prop}{X:L2.Cx}{ta tb:L2.TE}{Z:List (BO×FC)}{σ:L2.St}{R:L2.V->L2.V->L2.Hp->Prop}{pos:Cu}{op:PySem.CmpOp}
namespace L2
open PySem PySem.Spec PyProof.Rows
section
def bin {b:lm} (ha:PE X a ta) (hb:PE X b tb) (I:Inv X Z σ H s) (h:ta σ H λx H1=>tb σ H1 λy H2=>R x y H2) {Q:α->dL->Prop}{f:ci->ci->Sem α}
  (hf:∀v u s2 x y H2,Inv X Z σ H2 s2->RelV x v->RelV y u->R x y H2->d4 (d5 X.prog X.w) X.A (f v u) Q X.xe s2) :
  d4 (d5 X.prog X.w) X.A (kt a X.env) (λv s₁=>d4 (d5 X.prog X.w) X.A (kt b X.env) (λu s₂=>d4 (d5 X.prog X.w) X.A (f v u) Q X.xe s₂) X.xe s₁) X.xe s:=by
 refine bD (ha Z s σ H _ I h) λv s1 ⟨x,H1,I1,r1,q1⟩=>?_;refine bD (hb Z s1 σ H1 _ I1 q1) λu s2 ⟨y,H2,I2,r2,q2⟩=>?_;exact hf v u s2 x y H2 I2 r1 r2 q2
def X2 (i:Nat):TE:=λσ H Q=>∃v,σ[i]?=bd (bd v)/\Q v H
def tC (v:V):TE:=λ_ H Q=>Q v H
def dj (hN:X.N[i]?=bd x) (hv:xt X.env.scope x) (hd:(x==("__debug__":Str))=false:=by decide) (iL:(x==("__classdict__":Str))=false:=by decide):PE X (.Name x pos) (X2 i):=by
 intro Z s σ H Q I h;obtain⟨v,e,h⟩:=h;obtain⟨m,hn,hl⟩:=I.loc;obtain⟨u,r,l⟩:=hl i x v hN e hv;have fin:EP X Z σ Q u s:=⟨v,H,I,r,h⟩;rcases l with⟨hk,hm⟩ | ⟨hk,c,hc,TL⟩
 ·exact wpAny_Name (wpAny_loadName_local I.ok.kind hk hn hm fin) hd
 ·rcases hk with hk | hk
  ·exact wpAny_Name (wpAny_loadName_cell I.ok.kind hk hc TL fin) hd
  ·exact wpAny_Name (wpAny_loadName_free I.ok.kind hk hc TL fin iL) hd
def U3 {i j pos}:PE X (.Constant (.int i) j pos) (tC (.int i)):=λ_ _ _ H _ I h=>wpAny_Constant_int ⟨.int i,H,I.tok _,⟨_,rfl⟩,h⟩
def YS {b j pos}:PE X (.Constant (.bool b) j pos) (tC (.bl b)):=λ_ _ _ H _ I h=>Constant_bool ⟨.bl b,H,I,rfl,h⟩
def U2 {j pos}:PE X (.Constant .none j pos) (tC .aU):=λ_ _ _ H _ I h=>Constant_none ⟨.aU,H,I,rfl,h⟩
def UZ {x j pos}:PE X (.Constant (.str x) j pos) (tC (.str x)):=λ_ _ _ H _ I h=>Calls.Constant_str ⟨.str x,H,I.tok _,⟨_,rfl⟩,h⟩
def Gl (X:Cx) (x:Str):Prop:=X.env.kindOf x=bd .globalImplicit
def ID (I:Inv X Z σ H s) (hg:Gl X x) (hm:X.mg x=bd u) (h:Q u s)
  (hd:(x==("__debug__":Str))=false:=by decide):d4 (d5 X.prog X.w) X.A (kt (.Name x pos) X.env) Q E s:=
 D2 I.ok.kind hg (Calls.loadGlobal_global (by rw [I.ok.glob];exact I.mod.glob.keeps I.bk) hm h) hd
def jQ (I:Inv X Z σ H s) (hg:Gl X x) (hm:X.mg x=bv) (hv:nw x=bd u) (h:Q u s)
  (hn:x≠"__name__":=by decide) (hd:(x==("__debug__":Str))=false:=by decide):d4 (d5 X.prog X.w) X.A (kt (.Name x pos) X.env) Q E s:=by
 obtain⟨mb,h1,h2⟩:=I.mod.blt;exact D2 I.ok.kind hg (Calls.loadGlobal_builtin (by rw [I.ok.glob];exact I.mod.glob.keeps I.bk) hm (by rw [I.ok.blt];exact h1.keeps I.bk) ((h2 x hn).trans hv) h) hd
def p0 (hg:Gl X x) (hm:X.mg x=bd u) (r:RelV v u) (hd:(x==("__debug__":Str))=false:=by decide):PE X (.Name x pos) (tC v):=
 λ_ _ _ H _ I h=>ID I hg hm ⟨v,H,I,r,h⟩ hd
def QH (hg:Gl X x) (hm:X.mg x=bv) (hv:nw x=bd u) (r:RelV v u) (hn:x≠"__name__":=by decide) (hd:(x==("__debug__":Str))=false:=by decide):PE X (.Name x pos) (tC v):=
 λ_ _ _ H _ I h=>jQ I hg hm hv ⟨v,H,I,r,h⟩ hn hd
variable {b:lm}
def PC (X:Cx) (op:CmpOp) (a b:lm) (t:TE):Prop:=
 ∀(Z:List (db×Obj)) (s:dL) (σ:St) (H:Hp) (Q:VK),Inv X Z σ H s->t σ H Q->
  d4 (d5 X.prog X.w) X.A (kt a X.env) (λv s₁=>d4 (d5 X.prog X.w) X.A (kt b X.env) (λu s₂=>d4 (d5 X.prog X.w) X.A (lc op v u) (EP X Z σ Q) X.xe s₂) X.xe s₁) X.xe s
def tB (t:TE):TT:=λσ H Q=>t σ H λx H1=>∃c,x=.bl c/\Q c H1
def UU {t:TE} (h:PC X op a b t) (h1:mo op b=false:=by first | exact Y5 _ ⋯ ⋯ | rfl):PT X (.Compare a [op] [b] pos) (tB t):=by
 intro Z s σ H Q I hw;refine wpAny_isTrue_Compare1 (bD (h Z s σ H _ I hw) λv s1 h1=>bD h1 λu s2 h2=>bD h2 λc s3 ⟨x,H1,I1,r1,q1⟩=>?_) h1;obtain⟨d,rfl,q⟩:=q1;cases r1;exact Bo ⟨H1,I1,q⟩
variable {tA è:TT}{rest:List lm}
def acf (t u:TT):TT:=λσ H Q=>t σ H λc H1=>if c=true then u σ H1 Q else Q false H1
def tOr (t u:TT):TT:=λσ H Q=>t σ H λc H1=>if c=true then Q true H1 else u σ H1 Q
def ab8 (t:TT):TT:=λσ H Q=>t σ H λc H1=>Q (!c) H1
def Qs (ha:PT X a tA):PW X (.BoolOp .And [a] pos) tA:=by
 intro wh Z s σ H Q I h;refine isTrue_and (bD (ha Z s σ H Q I h) λc s1 e=>?_);cases c with
 | true=>exact isTrue_and_nil e
 | false=>exact e
def UQ (ha:PT X a tA):PW X (.BoolOp .Or [a] pos) tA:=by
 intro wh Z s σ H Q I h;refine isTrue_or (bD (ha Z s σ H Q I h) λc s1 e=>?_);cases c with
 | false=>exact isTrue_or_nil e
 | true=>exact e
def UR (ha:PT X a tA) (hb:PW X (.BoolOp .And (b::rest) pos) è):PW X (.BoolOp .And (a::b::rest) pos) (acf tA è):=by
 intro wh Z s σ H Q I h;refine isTrue_and (bD (ha Z s σ H _ I h) λc s1 ⟨H1,I1,q1⟩=>?_);cases c with
 | true=>exact hb wh Z s1 σ H1 Q I1 q1
 | false=>exact⟨H1,I1,q1⟩
def YK (ha:PT X a tA) (hb:PW X (.BoolOp .Or (b::rest) pos) è):PW X (.BoolOp .Or (a::b::rest) pos) (tOr tA è):=by
 intro wh Z s σ H Q I h;refine isTrue_or (bD (ha Z s σ H _ I h) λc s1 ⟨H1,I1,q1⟩=>?_);cases c with
 | true=>exact⟨H1,I1,q1⟩
 | false=>exact hb wh Z s1 σ H1 Q I1 q1
def UT (ha:PT X a tA):PT X (.UnaryOp .Not a pos) (ab8 tA):=by
 intro Z s σ H Q I h;exact isTrue_not (ha Z s σ H (λc H1=>Q (!c) H1) I h)
def Yf (ta tb:TE):TE:=λσ H Q=>ta σ H λx H1=>∃c,x=.bl c/\if c=true then tb σ H1 Q else Q (.bl false) H1
def ab7 (ta tb:TE):TE:=λσ H Q=>ta σ H λx H1=>∃c,x=.bl c/\if c=true then Q (.bl true) H1 else tb σ H1 Q
def X5 (ta:TE):TE:=λσ H Q=>ta σ H λx H1=>∃c,x=.bl c/\Q (.bl (!c)) H1
def U0 {op}{t:TE} (h:PE X a t):PE X (.BoolOp op [a] pos) t:=λZ s σ H Q I hw=>BoolOp_one (h Z s σ H Q I hw)
def U5 (ha:PE X a ta) (hb:PE X (.BoolOp .And (b::rest) pos) tb):PE X (.BoolOp .And (a::b::rest) pos) (Yf ta tb):=by
 intro Z s σ H Q I h;refine BoolOp_and (bD (ha Z s σ H _ I h) λv s1 ⟨x,H1,I1,r1,q1⟩=>?_);obtain⟨c,rfl,q1⟩:=q1;cases r1;refine Bo ?_;cases c with
 | true=>exact hb Z s1 σ H1 Q I1 q1
 | false=>exact⟨.bl false,H1,I1,rfl,q1⟩
def YO (ha:PE X a ta) (hb:PE X (.BoolOp .Or (b::rest) pos) tb):PE X (.BoolOp .Or (a::b::rest) pos) (ab7 ta tb):=by
 intro Z s σ H Q I h;refine BoolOp_or (bD (ha Z s σ H _ I h) λv s1 ⟨x,H1,I1,r1,q1⟩=>?_);obtain⟨c,rfl,q1⟩:=q1;cases r1;refine Bo ?_;cases c with
 | false=>exact hb Z s1 σ H1 Q I1 q1
 | true=>exact⟨.bl true,H1,I1,rfl,q1⟩
def U1 (ha:PE X a ta):PE X (.UnaryOp .Not a pos) (X5 ta):=by
 intro Z s σ H Q I h;refine UnaryOp_ (bD (ha Z s σ H _ I h) λv s1 ⟨x,H1,I1,r1,q1⟩=>?_);obtain⟨c,rfl,q1⟩:=q1;cases r1;exact not_of (Bo ⟨.bl (!c),H1,I1,rfl,q1⟩)
def tIf (t:TT) (ta tb:TE):TE:=λσ H Q=>t σ H λc H1=>if c=true then ta σ H1 Q else tb σ H1 Q
def yo {c:lm} (hc:PT X c tA) (ha:PE X a ta) (hb:PE X b tb):PE X (.IfExp c a b pos) (tIf tA ta tb):=by
 intro Z s σ H Q I h;refine wpAny_IfExp (bD (hc Z s σ H _ I h) λd s1 ⟨H1,I1,q1⟩=>?_);cases d with
 | true=>exact ha Z s1 σ H1 Q I1 q1
 | false=>exact hb Z s1 σ H1 Q I1 q1
end
end L2
variable {xs ys:List L2.V}{H':L2.Hp}{e tg:BN}{y:L2.V}{D:L2.Ends}{te to:L2.TE}{es:List BN}{n:Nat}{Õ gc:Cu}{body:List PySem.Stmt}
namespace L2
open PySem PySem.Spec PyProof.Rows
def cU (K:Ab) (H:Hp) (a:db) (xs:List V):Prop:=
 Rd H a (.lst xs)\/
  ∃(o:Obj) (au:Array ci) (n:Nat),K.lookup a=bd o/\o.cls=.type "list"/\o.dict=bv/\o.data=.seq au n/\au.size<=sizeLine/\Vals xs au.toList
def d9 (K:Ab) (H:Hp) (a:db) (xs:List V):Prop:=
 Rd H a (.tup xs)\/
  ∃(o:Obj) (au:Array ci) (n:Nat),K.lookup a=bd o/\o.cls=.type "tuple"/\o.data=.seq au n/\au.size<=sizeLine/\Vals xs au.toList
def ad7:ci->Option V
 | .none=>bd .aU
 | .bool b=>bd (.bl b)
 | .int i _=>bd (.int i)
 | .str x _=>bd (.str x)
 | .bytes b _=>bd (.WE b)
 | .float b _=>bd (.Xl b)
 | .ref a=>bd (.ref a)
 | .type n=>bd (.ty n)
 | _=>bv
def RelV.abs {x:V} (r:RelV x u):ad7 u=bd x:=by
 cases x with
 | aU=>cases r;rfl
 | bl _=>cases r;rfl
 | int _=>obtain⟨t,rfl⟩:=r;rfl
 | str _=>obtain⟨t,rfl⟩:=r;rfl
 | WE _=>obtain⟨t,rfl⟩:=r;rfl
 | Xl _=>obtain⟨t,rfl⟩:=r;rfl
 | ref _=>cases r;rfl
 | ty _=>cases r;rfl
def RelV.inj {x:V} (r:RelV x u) (q:RelV y u):x=y:=Option.some.inj (r.abs.symm.trans q.abs)
theorem Vals.inj:∀{xs ys:List V}{us:List ci},Vals xs us->Vals ys us->xs=ys
 | _,_,_,.nil,.nil=>rfl
 | _,_,_,.cons r t,.cons r' t'=>by rw [r.inj r',Vals.inj t t']
section
variable {a:db}
def cU.of {K:Ab} (h:H a=bd (.lst xs)):cU K H a xs:=.inl (.inl h)
def d9.of {K:Ab} (h:H a=bd (.tup xs)):d9 K H a xs:=.inl (.inl h)
theorem Inv.list (I:Inv X Z σ H s) (h:cU X.K H a xs):∃au:List ci,Vals xs au/\PlainL s.heap a au.toArray/\xs.length<=sizeLine:=by
 rcases h with h | ⟨o,au,n,hk,hc,hd,hs,hz,r⟩
 ·obtain⟨z,au,n,r,e⟩:=h.ok I.bG;exact⟨au,r,⟨_,n,e,rfl,rfl,rfl⟩,z⟩
 ·refine⟨au.toList,r,⟨o,n,I.tG a o hk,hc,hd,by simpa using hs⟩,?_⟩;have e:=r.length;simp only [DN] at e;omega
theorem Inv.tuple (I:Inv X Z σ H s) (h:d9 X.K H a xs):∃au:List ci,Vals xs au/\IsTup s.heap a au.toArray/\xs.length<=sizeLine:=by
 rcases h with h | ⟨o,au,n,hk,hc,hs,hz,r⟩
 ·obtain⟨z,au,r,p⟩:=h.ok I.bG;exact⟨au,r,p,z⟩
 ·refine⟨au.toList,r,⟨o,I.tG a o hk,hc,n,by simpa using hs⟩,?_⟩;have e:=r.length;simp only [DN] at e;omega
def Inv.yJ (I:Inv X Z σ H s) (h:cU X.K H a xs) (h':cU X.K H a ys):xs=ys:=by
 obtain⟨au,r,⟨o,n,e,_,_,d⟩,_⟩:=I.list h;obtain⟨its',r',⟨o',n',e',_,_,d'⟩,_⟩:=I.list h';rw [e] at e';cases e';rw [d] at d';injection d' with d1 _;have:au=its':=by simpa using congrArg Array.toList d1
 subst this;exact r.inj r'
def Inv.lh (I:Inv X Z σ H s) (h:d9 X.K H a xs) (h':d9 X.K H a ys):xs=ys:=by
 obtain⟨au,r,⟨o,e,_,n,d⟩,_⟩:=I.tuple h;obtain⟨its',r',⟨o',e',_,n',d'⟩,_⟩:=I.tuple h';rw [e] at e';cases e';rw [d] at d';injection d' with d1 _;have:au=its':=by simpa using congrArg Array.toList d1
 subst this;exact r.inj r'
end
abbrev Cx.sV (X:Cx) (E:ci->dL->Prop):Cx:={X with xe:=E}
abbrev Cx.xG (X:Cx):Cx:=X.sV λ_ _=>False
def Cx.Ok.sV (ok:X.Ok) (E:ci->dL->Prop):(X.sV E).Ok:=
 ⟨ok.mod,ok.kind,ok.glob,ok.blt,ok.above,ok.inj,ok.has,ok.cab,ok.hd,ok.frames,ok.stk,ok.exf,ok.bs,ok.T8,ok.M5,ok.N6,ok.rT,ok.Xj⟩
def Cx.Ok.kC (ok:(X.sV E).Ok):X.Ok:=
 ⟨ok.mod,ok.kind,ok.glob,ok.blt,ok.above,ok.inj,ok.has,ok.cab,ok.hd,ok.frames,ok.stk,ok.exf,ok.bs,ok.T8,ok.M5,ok.N6,ok.rT,ok.Xj⟩
section
def Inv.sV (I:Inv X Z σ H s) (E:ci->dL->Prop):Inv (X.sV E) Z σ H s:=⟨I.ok.sV E,I.os,I.bare,I.base,I.loc,I.cell,I.free,I.kc,I.pin,I.bG,I.len⟩
def Inv.kC (I:Inv (X.sV E) Z σ H s):Inv X Z σ H s:=⟨I.ok.kC,I.os,I.bare,I.base,I.loc,I.cell,I.free,I.kc,I.pin,I.bG,I.len⟩
def SP.kC {f:Flow} (h:SP (X.sV E) Z D f s'):SP X Z D f s':=by
 cases f with
 | next=>obtain⟨σ',H',I,q⟩:=h;exact⟨σ',H',I.kC,q⟩
 | brk=>obtain⟨σ',H',I,q⟩:=h;exact⟨σ',H',I.kC,q⟩
 | cont=>obtain⟨σ',H',I,q⟩:=h;exact⟨σ',H',I.kC,q⟩
 | ret u=>obtain⟨v,σ',H',I,r,q⟩:=h;exact⟨v,σ',H',I.kC,r,q⟩
def qC.xG {st:List t0}{t:TS} (h:qC X.xG st t):qC X st t:=λZ s σ H D I hw=>
 BP (h Z s σ H D (I.sV _) hw) (λ_ _ q=>q.kC) λ_ _ z=>Bn z
end
section
variable {st:t0}{rest:List t0}{t u:TS}
def X7:TS:=λD σ H=>D.nx σ H
def ab5 (t u:TS):TS:=λD σ H=>t {D with nx:=u D} σ H
def vG:qC X [] X7:=λ_ _ σ H _ I h=>DG ⟨σ,H,I,h⟩
def yi (h1:PS X st t) (h2:qC X rest u):qC X (st::rest) (ab5 t u):=by
 intro Z s σ H D I h;refine wpAny_execs_cons (bD (h1 Z s σ H {D with nx:=u D} I h) λf s1 q=>?_);cases f with
 | next=>
  obtain⟨σ',H',I',q⟩:=q;exact h2 Z s1 σ' H' D I' q
 | ret v=>exact q
 | brk=>exact q
 | cont=>exact q
def Qt (h1:PS X st t):qC X [st] t:=by
 intro Z s σ H D I h;refine wpAny_execs_cons (bD (h1 Z s σ H D I h) λf s1 q=>?_);cases f with
 | next=>exact DG q
 | ret v=>exact q
 | brk=>exact q
 | cont=>exact q
def Yb:TS:=λD σ H=>D.ct σ H
def ym:PS X (.Continue pos) Yb:=λ_ _ σ H _ I h=>wpAny_Continue ⟨σ,H,I,h⟩
def Inv.quiet (I:Inv X Z σ H s):interactive X.env=false:=by simp [interactive,I.ok.kind]
def X9 (te:TE):TS:=λD σ H=>te σ H λ_ H1=>D.nx σ H1
def mY (he:PE X e te) (hs:lw e bv pos.line X.env=pure false:=by rfl):PS X (.Expr e pos) (X9 te):=by
 intro Z s σ H D I h;exact wpAny_Expr_any (bD (he Z s σ H _ I h) λv s1 ⟨x,H1,I1,r1,q1⟩=>⟨σ,H1,I1,q1⟩) I.quiet hs
def ab6 (te:TE):TS:=λD σ H=>te σ H D.rt
def vH (he:PE X e te):PS X (.Return (bd e) pos) (ab6 te):=by
 intro Z s σ H D I h;exact wpAny_Return_some (bD (he Z s σ H _ I h) λv s1 ⟨x,H1,I1,r1,q1⟩=>⟨x,σ,H1,I1,r1,q1⟩)
def aca (c:TT) (t u:TS):TS:=λD σ H=>c σ H λb H1=>if b=true then t D σ H1 else u D σ H1
def Mv {c:lm}{a b:List t0}{tc:TT} (hc:PT X c tc) (ha:qC X a t) (hb:qC X b u):PS X (.If c a b pos) (aca tc t u):=by
 intro Z s σ H D I h;refine wpAny_If (bD (hc Z s σ H _ I h) λd s1 ⟨H1,I1,q1⟩=>?_);cases d with
 | true=>exact ha Z s1 σ H1 D I1 q1
 | false=>exact hb Z s1 σ H1 D I1 q1
def Ur:TS:=λ_ _ _=>False
end
abbrev TG:=V->St->Hp->(St->Hp->Prop)->Prop
abbrev WR:=List V->St->Hp->(St->Hp->Prop)->Prop
def PG (X:Cx) (É:lm) (t:TG):Prop:=
 ∀(Z:List (db×Obj)) (s:dL) (σ:St) (H:Hp) (v:V) (u:ci) (Q:St->Hp->Prop),Inv X Z σ H s->RelV v u->t v σ H Q->
  d4 (d5 X.prog X.w) X.A (xz É X.env u) (λ_ s'=>∃σ' H',Inv X Z σ' H' s'/\Q σ' H') X.xe s
def PGs (X:Cx) (ts:List lm) (t:WR):Prop:=
 ∀(Z:List (db×Obj)) (s:dL) (σ:St) (H:Hp) (vs:List V) (us:List ci) (Q:St->Hp->Prop),Inv X Z σ H s->Vals vs us->t vs σ H Q->
  d4 (d5 X.prog X.w) X.A (assignInOrder ((ww ts X.env).map (·.2)) us) (λ_ s'=>∃σ' H',Inv X Z σ' H' s'/\Q σ' H') X.xe s
abbrev HJ:=V->V->V->Hp->(Hp->Prop)->Prop
def HK (X:Cx) (t:HJ):Prop:=
 ∀(Z:List (db×Obj)) (s:dL) (σ:St) (H:Hp) (o i v:V) (ov iv u:ci) (Q:Hp->Prop),Inv X Z σ H s->RelV o ov->RelV i iv->RelV v u->t o i v H Q->
  d4 (d5 X.prog X.w) X.A (Ev ov iv u) (λ_ s'=>∃H',Inv X Z σ H' s'/\Q H') X.xe s
abbrev TIp:=V->V->Hp->VK->Prop
def PIp (X:Cx) (op:Operator) (t:TIp):Prop:=
 ∀(Z:List (db×Obj)) (s:dL) (σ:St) (H:Hp) (x y:V) (v u:ci) (Q:VK),Inv X Z σ H s->RelV x v->RelV y u->t x y H Q->
  d4 (d5 X.prog X.w) X.A (inplaceOp op v u) (EP X Z σ Q) X.xe s
section
def dI (i:Nat):TG:=λv σ H Q=>Q (σ.set i (bd v)) H
def QA (hN:X.N.Nodup) (hi:X.N[i]?=bd x) (hx:Loc X.env.scope x) (hf:X.fn x=true\/X.env.scope.names.lookup x=bd .local:=by first | exact .inl rfl | exact .inr rfl | assumption):PG X (.Name x pos) (dI i):=by
 intro Z s σ H v u Q I r h;exact wpAny_assign_Name (xY I hN hi hx r (λs' I'=>⟨_,H,I',h⟩) hf)
def RN:WR:=λvs σ H Q=>vs=[]/\Q σ H
def lV (t:TG) (u:WR):WR:=λvs σ H Q=>∃v r,vs=v::r/\t v σ H λσ' H'=>u r σ' H' Q
def dz:PGs X [] RN:=by
 intro Z s σ H vs us Q I r h;obtain⟨e,h⟩:=h;subst e;cases r;exact assignInOrder_nil ⟨σ,H,I,h⟩
def aQ {t:TG}{u:WR} (h1:PG X e t) (h2:PGs X es u)
  (hs:(ww (e::es) X.env).map (·.2)=xz e X.env::(ww es X.env).map (·.2):=by rfl):PGs X (e::es) (lV t u):=by
 intro Z s σ H vs us Q I r h;obtain⟨v,vr,e1,h⟩:=h;subst e1;cases r with
 | cons r rr=>
  rw [hs];refine assignInOrder_cons (bD (h1 Z s σ H _ _ _ I r h) λ_ s1 ⟨σ1,H1,I1,q1⟩=>?_);exact h2 Z s1 σ1 H1 _ _ Q I1 rr q1
def RM (K:Ab) (n:Nat) (t:WR):TG:=λv σ H Q=>∃a xs,v=.ref a/\d9 K H a xs/\xs.length=n/\t xs σ H Q
def fi {k:Nat}{t:WR} (hc:X.calm=true) (h:PGs X es t)
  (hn:(ww es X.env).length=n:=by rfl) (pG:(ww es X.env).findIdx? (·.1)=bv:=by rfl):PG X (.Tuple es k pos) (RM X.K n t):=by
 intro Z s σ H v u Q I r hw;obtain⟨a,xs,e1,hq,hl,hw⟩:=hw;subst e1;cases r;obtain⟨au,rv,ht,hz⟩:=I.tuple hq;refine assign_Tuple_tuple (I.ok.hd hc) ht (by simp [hn,<- hl,rv.length]) pG λh' hx=>?_;have I1:Inv X Z σ H {s with heap:=h'}:=I.kept (t':=s.toks) λb o e=>hx b o (AM (Ar e)) e;exact h Z _ σ H xs _ Q I1 (by simpa using rv) hw
def adK (to ti:TE) (t:HJ):TG:=λv σ H Q=>to σ H λo H1=>ti σ H1 λi H2=>t o i v H2 λH3=>Q σ H3
def MC {o i:lm}{ti:TE}{t:HJ} (ho:PE X o to) (hi:PE X i ti) (hs:HK X t)
  (ha:∀v,xz (.Subscript o i pos) X.env v=(do
   let ov <- sn [v] (kt o X.env)
   let iv <- sn [v,ov] (kt i X.env)
   Gf pos
   sn [v,ov,iv] (Ev ov iv v)
   release [v,ov,iv] []):=by intro _;rfl):PG X (.Subscript o i pos) (adK to ti t):=by
 intro Z s σ H v u Q I r h;refine Aa (Bc (bD (ho Z s σ H _ I h) λov s1 ⟨x,H1,I1,r1,q1⟩=>?_));refine Aa (Bc (bD (hi Z s1 σ H1 _ I1 q1) λiv s2 ⟨y,H2,I2,r2,q2⟩=>?_));refine Aa (Ek (Aa (Bc (bD (hs Z s2 σ H2 x y v ov iv u _ I2 r1 r2 r q2) λ_ s3 ⟨H3,I3,q3⟩=>?_))));exact wpAny_release ⟨σ,H3,I3,q3⟩
def Uv (te:TE) (g:TG):TS:=λD σ H=>te σ H λx H1=>g x σ H1 D.nx
def vI {g:TG} (he:PE X e te) (hg:PG X tg g) (hs:FS [tg] e pos.line X.env=pure false:=by rfl) (hw:Gc [tg] e X.env=pure bv:=by rfl)
  (h1:(ww [tg] X.env).map (·.2)=[xz tg X.env]:=by rfl):PS X (.Assign [tg] e pos) (Uv te g):=by
 intro Z s σ H D I h;refine wpAny_Assign_stores (bD (he Z s σ H _ I h) λv s1 ⟨x,H1,I1,r1,q1⟩=>?_) hs hw;rw [h1];exact bD (hg Z s1 σ H1 x v _ I1 r1 q1) λ_ s2 q=>q
def qV (hN:X.N.Nodup) (hi:X.N[i]?=bd x) (hx:Loc X.env.scope x) (he:PE X e te) (hs:lw e (bd (.Name x Õ)) pos.line X.env=pure false:=by rfl) (hf:X.fn x=true\/X.env.scope.names.lookup x=bd .local:=by first | exact .inl rfl | exact .inr rfl | assumption) :
  PS X (.Assign [.Name x Õ] e pos) (Uv te (dI i)):=by
 intro Z s σ H D I h;refine wpAny_Assign_Name (bD (he Z s σ H _ I h) λv s1 ⟨y,H1,I1,r1,q1⟩=>?_) hs;exact xY I1 hN hi hx r1 (λs2 I2=>⟨_,H1,I2,q1⟩) hf
def Ye (to ti te:TE) (PR:V->V->Hp->VK->Prop) (ç:TIp) (PM:HJ):TS:=λD σ H=>to σ H λo H1=>ti σ H1 λi H2=>PR o i H2 λx H3=>te σ H3 λy H4=>ç x y H4 λz H5=>PM o i z H5 λH6=>D.nx σ H6
def aay (X:Cx) (t:V->V->Hp->VK->Prop):Prop:=
 ∀(Z:List (db×Obj)) (s:dL) (σ:St) (H:Hp) (o i:V) (ov iv:ci) (Q:VK),Inv X Z σ H s->RelV o ov->RelV i iv->t o i H Q->
  d4 (d5 X.prog X.w) X.A (FM ov iv) (EP X Z σ Q) X.xe s
def Qv {o i:lm}{ti:TE}{PR:V->V->Hp->VK->Prop}{ç:TIp}{PM:HJ}{op:Operator} (ho:PE X o to) (hi:PE X i ti) (hg:aay X PR) (he:PE X e te) (hp:PIp X op ç) (hs:HK X PM)
  (ha:∀ov iv new,augStore i ov iv new=(do sn [new,ov,iv] (Ev ov iv new);release [new,ov,iv] [];pure .next):=by intros;rfl):PS X (.AugAssign (.Subscript o i gc) op e pos) (Ye to ti te PR ç PM):=by
 intro Z s σ H D I h;refine wpAny_AugAssign_SubscriptAny (bD (ho Z s σ H _ I h) λov s1 ⟨x1,H1,I1,r1,q1⟩=>?_) ha;refine bD (hi Z s1 σ H1 _ I1 q1) λiv s2 ⟨x2,H2,I2,r2,q2⟩=>?_;refine bD (hg Z s2 σ H2 x1 x2 ov iv _ I2 r1 r2 q2) λÌ s3 ⟨x3,H3,I3,r3,q3⟩=>?_;refine bD (he Z s3 σ H3 _ I3 q3) λv s4 ⟨x4,H4,I4,r4,q4⟩=>?_;refine bD (hp Z s4 σ H4 x3 x4 Ì v _ I4 r3 r4 q4) λnew s5 ⟨x5,H5,I5,r5,q5⟩=>?_;exact bD (hs Z s5 σ H5 x1 x2 x5 ov iv new _ I5 r1 r2 r5 q5) λ_ s6 ⟨H6,I6,q6⟩=>⟨σ,H6,I6,q6⟩
def ipI (f:Int->Int->Int):TIp:=λx y H Q=>∃i j,x=.int i/\y=.int j/\Q (.int (f i j)) H
def VU:PIp X .Add (ipI λi j=>i+j):=by
 intro Z s σ H x y v u Q I r1 r2 h;obtain⟨i,j,e1,e2,q⟩:=h;subst e1;subst e2;obtain⟨t,rfl⟩:=r1;obtain⟨t',rfl⟩:=r2;exact iadd_int ⟨.int _,H,I.tok _,⟨_,rfl⟩,q⟩
end
section
def Uq (c:TT) (tb:TS):TS:=λD σ H=>∃W:Nat->St->Hp->Prop,(∃m,W m σ H)/\∀m σ H,W m σ H->
 c σ H λb H1=>if b=true then ∃N:St->Hp->Prop,(∀σ' H',N σ' H'->∃m',m' < m/\W m' σ' H')/\tb {D with nx:=N,ct:=N,bk:=D.nx} σ H1 else D.nx σ H1
def yj {c:lm}{tc:TT}{tb:TS} (hp:Db (d5 X.prog X.w) X.A X.env X.xe) (hc:PT X c tc) (hb:qC X body tb):PS X (.While c body [] pos) (Uq tc tb):=by
 intro Z s σ H D I h;obtain⟨W,⟨m0,w0⟩,turn⟩:=h;refine wpAny_While (codeAny_whileLoop (λn s'=>∃σ' H',Inv X Z σ' H' s'/\W n σ' H') ?_ m0 ⟨σ,H,I,w0⟩);rintro n s1 ⟨σ1,H1,I1,w1⟩;refine Cj hp (bD (hc Z s1 σ1 H1 _ I1 (turn n σ1 H1 w1)) λb s2 ⟨H2,I2,q2⟩=>?_);cases b with
 | true=>
  obtain⟨N,hN,q2⟩:=q2;refine Cj hp (bD (hb Z s2 σ1 H2 _ I2 q2) λf s3 q3=>?_);cases f with
  | next=>
   obtain⟨σ3,H3,I3,n3⟩:=q3;obtain⟨m',hm,w3⟩:=hN σ3 H3 n3;exact⟨m',hm,σ3,H3,I3,w3⟩
  | cont=>
   obtain⟨σ3,H3,I3,n3⟩:=q3;obtain⟨m',hm,w3⟩:=hN σ3 H3 n3;exact⟨m',hm,σ3,H3,I3,w3⟩
  | brk=>exact q3
  | ret v=>exact q3
 | false=>
  exact DG ⟨σ1,H2,I2,q2⟩
end
structure It where
 go:Nat->Hp->Prop
 SU:Nat->Hp->V->Hp->Prop
 stop:Nat->Hp->Prop
def ue (X:Cx) (Z:List (db×Obj)) (H:Hp) (b:db):Prop:=
 H b=bv/\b≠X.env.locals/\b∉X.fs/\(b∈X.ex\/X.s₀.heap.objs.size<=b)/\(∀x c,X.env.cells.lookup x=bd c->c≠b)/\∀p∈X.pn++Z,p.1≠b
def Inv.tS (I:Inv X Z σ H s) (hb:s.heap.objs.size<=b) (hn:H' b=bv):ue X Z H' b:=by
 refine⟨hn,Nat.ne_of_gt (AA I.lt hb),I.acB hb,.inr (Bk I.sz hb),λx c e z=>?_,λp hp z=>?_⟩
 ·obtain⟨v,q⟩:=I.cell x c e;exact absurd (AA q.lt (by rw [z];exact hb)) (A6 _)
 ·exact absurd (AA (Ar (I.pin p hp).1) (by rw [z];exact hb)) (A6 _)
structure Turn (P:tt) (w:wE) (K:Ab) (tg:lm) (J:It) (fp:List db) (it:db) (tn:Nat->pc->Prop):Prop where
 mem:it∈fp
 obj:∀i h,tn i h->∀b∈fp,∃o,h.get? b=bd o/\∀v,o.data≠.cell v
 keep:∀i h h',tn i h->(∀b∈fp,∀o,h.get? b=bd o->h'.get? b=bd o)->tn i h'
 item:∀(X:Cx),X.prog=P->X.w=w->X.K=K->X.calm=true->∀(i:Nat) (Z:List (db×Obj)) (s:dL) (σ:St) (H:Hp) (E:ci->dL->Prop),Inv X Z σ H s->(∀b∈fp,ue X Z H b)->tn i s.heap->J.go i H->
  d4 (d5 P w) X.A (pyNext (.ref it)) (λr s1=>∃u,r=bd u/\
   d4 (d5 P w) X.A (GT tg (.ref it) u) (λ_ s2=>∃x H',Inv X Z σ H' s2/\RelV x u/\J.SU i H x H'/\tn (i+1) s2.heap/\∀b∈fp,H' b=bv) E s1) E s
 done:∀(X:Cx),X.prog=P->X.w=w->X.K=K->X.calm=true->∀(i:Nat) (Z:List (db×Obj)) (s:dL) (σ:St) (H:Hp) (E:ci->dL->Prop),Inv X Z σ H s->(∀b∈fp,ue X Z H b)->tn i s.heap->J.stop i H->
  d4 (d5 P w) X.A (pyNext (.ref it)) (λr s1=>r=bv/\Inv X Z σ H s1) E s
 self:∀(A:ss) (i:Nat) (s:dL) (Q:ci->dL->Prop) (E:ci->dL->Prop),tn i s.heap->Q (.ref it) s->d4 (d5 P w) A (pyIter (.ref it)) Q E s
abbrev TI:=St->Hp->(It->Hp->Prop)->Prop
def PIE (X:Cx) (Z:List (db×Obj)) (σ:St) (tg:lm) (R:It->Hp->Prop) (ñ:ci) (s2:dL):Prop:=
 ∃(it:db) (fp:List db) (tn:Nat->pc->Prop) (J:It) (H':Hp),ñ=.ref it/\Inv X Z σ H' s2/\Turn X.prog X.w X.K tg J fp it tn/\tn 0 s2.heap/\(∀b∈fp,ue X Z H' b)/\R J H'
def PI (X:Cx) (tg iter:lm) (wi:TI):Prop:=
 ∀(Z:List (db×Obj)) (s:dL) (σ:St) (H:Hp) (R:It->Hp->Prop),Inv X Z σ H s->wi σ H R->
  d4 (d5 X.prog X.w) X.A (kt iter X.env) (λv s1=>d4 (d5 X.prog X.w) X.A (pyIter v) (PIE X Z σ tg R) X.xe s1) X.xe s
def rR {n:String}{vs:Array ci}{Q:Unit->dL->Prop} (ho:s.heap.get? it=bd o) (hc:o.cls=.type n) (hd:o.data=.fields vs)
  (hn:["enumerate","zip","dict_itemiterator","dict_reverseitemiterator","odict_iterator","itertools.zip_longest","itertools.pairwise"].contains n=false) (hQ:Q () s):d4 M A (GT tg (.ref it) u) Q E s:=by
 unfold GT;cases tg <;> first
  | exact Ah hQ
  | (cases u <;> first
    | exact Ah hQ
    | (
      refine Aa (wpAny_load ho ?_);rw [hc,hd];show d4 M A (if (["enumerate","zip","dict_itemiterator","dict_reverseitemiterator","odict_iterator","itertools.zip_longest","itertools.pairwise"].contains n&&vs[0]?==bd (wn _))=true then _ else _) Q E s;rw [if_neg (by intro h;rw [hn,Fb] at h;cases h)];exact Ah hQ))
def Itl (K:Ab) (a:db):It:=
 ⟨λi H=>∃xs x,cU K H a xs/\xs[i]?=bd x,λi H x H'=>H'=H/\∀xs,cU K H a xs->xs[i]?=bd x,λi H=>∃xs,cU K H a xs/\xs.length<=i⟩
def Itt (K:Ab) (a:db):It:=
 ⟨λi H=>∃xs x,d9 K H a xs/\xs[i]?=bd x,λi H x H'=>H'=H/\∀xs,d9 K H a xs->xs[i]?=bd x,λi H=>∃xs,d9 K H a xs/\xs.length<=i⟩
def Itr (lo:Int) (n:Nat):It:=⟨λi _=>i < n,λi H x H'=>H'=H/\x=.int (lo+i),λi _=>n<=i⟩
theorem JA {K:Ab} (a it:db):Turn P w K tg (Itl K a) [it] it (λi h=>h.IsListIter it a i) where
 mem:=by simp
 obj:=λi h st b hb=>by
  have e:b=it:=by simpa using hb
  subst e;obtain⟨o,e,c,d⟩:=st;exact⟨o,e,λv z=>by rw [d] at z;cases z⟩
 keep:=λi h h' st k=>st.at λo e=>k it (by simp) o e
 item:=by
  intro X hP hw hK hc i Z s σ H E I hf st hg;subst hP hw hK;obtain⟨xs,x,hq,hx⟩:=hg;obtain⟨au,rv,p,hz⟩:=I.list hq;obtain⟨u,hu,ru⟩:=rv.get hx;obtain⟨f0,f1,f2,f3,f4,f5⟩:=hf it (by simp);refine wpAny_pyNext_list_item st p.isList (x:=u) (by simpa using hu) λh' mI sb=>?_;have I1:Inv X Z σ H {s with heap:=h'}:=I.turned (t':=s.toks) (λb o hb e=>(sb.2 b hb).trans e) f0 f1 f3 f4 f5;obtain⟨o,e,c,d⟩:=id mI;exact⟨u,rfl,rR (s:={s with heap:=h'}) e c d ⋯ ⟨x,H,I1,ru,⟨rfl,λys hy=>by rw [I.yJ hy hq];exact hx⟩,mI,λb hb=>(hf b hb).1⟩⟩
 done:=by
  intro X hP hw hK hc i Z s σ H E I hf st hg;subst hP hw hK;obtain⟨xs,hq,hx⟩:=hg;obtain⟨au,rv,p,hz⟩:=I.list hq;obtain⟨f0,f1,f2,f3,f4,f5⟩:=hf it (by simp);have hl:=rv.length;exact wpAny_pyNext_list_end (I.ok.hd hc) st p.isList (by simp;omega) λh' eb=>⟨rfl,I.turned (t':=s.toks) (λb o hb e=>eb b o hb e) f0 f1 f3 f4 f5⟩
 self:=λ_ _ _ _ _ st h=>wpAny_pyIter_listiter st h
theorem qH {K:Ab} (a it:db):Turn P w K tg (Itt K a) [it] it (λi h=>h.IsTupleIter it a i) where
 mem:=by simp
 obj:=λi h st b hb=>by
  have e:b=it:=by simpa using hb
  subst e;obtain⟨o,e,c,d⟩:=st;exact⟨o,e,λv z=>by rw [d] at z;cases z⟩
 keep:=λi h h' st k=>st.at λo e=>k it (by simp) o e
 item:=by
  intro X hP hw hK hc i Z s σ H E I hf st hg;subst hP hw hK;obtain⟨xs,x,hq,hx⟩:=hg;obtain⟨au,rv,p,hz⟩:=I.tuple hq;obtain⟨u,hu,ru⟩:=rv.get hx;obtain⟨f0,f1,f2,f3,f4,f5⟩:=hf it (by simp);refine wpAny_pyNext_tuple_item st (show s.heap.IsTuple a au.toArray from p) (x:=u) (by simpa using hu) λh' mI sb=>?_;have I1:Inv X Z σ H {s with heap:=h'}:=I.turned (t':=s.toks) (λb o hb e=>(sb.2 b hb).trans e) f0 f1 f3 f4 f5;obtain⟨o,e,c,d⟩:=id mI;exact⟨u,rfl,rR (s:={s with heap:=h'}) e c d ⋯ ⟨x,H,I1,ru,⟨rfl,λys hy=>by rw [I.lh hy hq];exact hx⟩,mI,λb hb=>(hf b hb).1⟩⟩
 done:=by
  intro X hP hw hK hc i Z s σ H E I hf st hg;subst hP hw hK;obtain⟨xs,hq,hx⟩:=hg;obtain⟨au,rv,p,hz⟩:=I.tuple hq;obtain⟨f0,f1,f2,f3,f4,f5⟩:=hf it (by simp);have hl:=rv.length;exact wpAny_pyNext_tuple_end (I.ok.hd hc) st (show s.heap.IsTuple a au.toArray from p) (by simp;omega) λh' eb=>⟨rfl,I.turned (t':=s.toks) (λb o hb e=>eb b o hb e) f0 f1 f3 f4 f5⟩
 self:=λ_ _ _ _ _ st h=>wpAny_pyIter_tupleiter st h
theorem zU {K:Ab} (it:db) (lo:Int) (n:Nat):Turn P w K tg (Itr lo n) [it] it (λi h=>IsRangeIter h it (lo+(i:Nat)*1) ((n:Int)-(i:Nat)) 1) where
 mem:=by simp
 obj:=λi h st b hb=>by
  have e:b=it:=by simpa using hb
  subst e;exact⟨_,st,λv z=>by
   have z':=z;cases z'⟩
 keep:=λi h h' st k=>k it (by simp) _ st
 item:=by
  intro X hP hw hK hc i Z s σ H E I hf st hg;subst hP hw hK;obtain⟨f0,f1,f2,f3,f4,f5⟩:=hf it (by simp);have W:=Walks.range (prog:=X.prog) (w:=X.w) (I.ok.hd hc) it lo 1 n;refine W.item i s _ _ hg st λv h' tk hv mI kk=>?_;obtain⟨t,rfl⟩:=hv;have I1:Inv X Z σ H {s with heap:=h',toks:=tk}:=I.turned (λb o hb e=>kk b o (by simpa using hb) e) f0 f1 f3 f4 f5;refine⟨_,rfl,rR (s:={s with heap:=h',toks:=tk}) (n:="range_iterator") mI rfl rfl ⋯ ⟨.int (lo+i),H,I1,⟨t,?_⟩,⟨rfl,rfl⟩,mI,λb hb=>(hf b hb).1⟩⟩;rw [Int.mul_one]
 done:=by
  intro X hP hw hK hc i Z s σ H E I hf st hg;obtain⟨f0,f1,f2,f3,f4,f5⟩:=hf it (by simp);exact wpAny_pyNext_range_end (I.ok.hd hc) st (by have:n<=i:=hg;omega) λh' eb=>⟨rfl,I.turned (t':=s.toks) (λb o hb e=>eb b o hb e) f0 f1 f3 f4 f5⟩
 self:=λ_ _ _ _ _ st h=>wpAny_pyIter_rangeiter st h
end L2
variable {p:Cu}{fp:List BO}{iter:BN}{wi:L2.TI}
namespace L2
open PySem PySem.Spec PyProof.Rows
section
theorem Ml {R:It->Hp->Prop}{lo hi:Int}{t u v:Tok}{tk:Nat} (I:Inv X Z σ H s) (h1:-(2 ^ 62)<=lo) (h2:lo < 2 ^ 62) (h3:-(2 ^ 62)<=hi) (h4:hi < 2 ^ 62)
  (q:R (Itr lo (hi-lo).toNat) H):d4 (d5 X.prog X.w) X.A (pyIter (.ref s.heap.objs.size)) (PIE X Z σ tg R) E {s with heap:=s.heap.push {cls:=.type "range",data:=.fields #[.int lo t,.int hi u,.int 1 v]},toks:=tk}:=by
 refine wpAny_pyIter_range (IsRange.new ..) (small_one h1 h2 h3 h4) ?_;have I1:Inv X Z σ H {s with heap:=s.heap.push {cls:=.type "range",data:=.fields #[.int lo t,.int hi u,.int 1 v]},toks:=tk}:=I.kept λb o e=>Aj _ e;refine⟨(s.heap.push {cls:=.type "range",data:=.fields #[.int lo t,.int hi u,.int 1 v]}).objs.size,[(s.heap.push {cls:=.type "range",data:=.fields #[.int lo t,.int hi u,.int 1 v]}).objs.size],_,_,H,rfl,
  I1.kept (t':=tk) λb o e=>Aj _ e,zU _ lo (hi-lo).toNat,?_,λb hb=>?_,q⟩
 ·have e1:lo+((0:Nat):Int)*1=lo:=by simp
  have e2:(((hi-lo).toNat:Nat):Int)-((0:Nat):Int)=Builtin.Range.rangeSize lo hi 1:=by rw [rangeSize_one];split <;> omega
  show IsRangeIter _ _ (lo+((0:Nat):Int)*1) ((((hi-lo).toNat:Nat):Int)-((0:Nat):Int)) 1;rw [e1,e2];exact Aq _ rfl
 ·have e:b=(s.heap.push {cls:=.type "range",data:=.fields #[.int lo t,.int hi u,.int 1 v]}).objs.size:=by simpa using hb
  subst e;exact I1.tS (An _) (I1.bG.fresh (An _))
def Zp (ta:TA):TI:=λσ H R=>ta σ H λvs H1=>∃j:Int,vs=[.int j]/\-(2 ^ 62)<=j/\j < 2 ^ 62/\R (Itr 0 j.toNat) H1
theorem JW {ta:TA} (hg:Gl X "range") (hm:X.mg "range"=bv) (ha:PA X [a] ta) (hs:ce [a] X.env=[(false,kt a X.env)]:=by rfl):PI X tg (.Call (.Name "range" p) [a] [] pos) (Zp ta):=by
 intro Z s σ H R I h;refine Call_ (jQ I hg hm boot_range (Bi (bD (ha pos Z s σ H _ I h) λus s1 ⟨vs,H1,I1,r1,q1⟩=>?_) hs rfl));obtain⟨j,e,q1,q2,q⟩:=q1;subst e;cases r1 with
 | cons r rr=>
  cases rr;obtain⟨t,rfl⟩:=r;exact call_range_1 (Ml I1 ∅ ∅ q1 q2 (by simpa using q))
def acb (wi:TI) (g:TG) (tb:TS):TS:=λD σ H=>wi σ H λJ H1=>∃W:Nat->Nat->St->Hp->Prop,(∃m,W 0 m σ H1)/\∀i m σ H,W i m σ H->
 (J.stop i H/\D.nx σ H)\/(J.go i H/\∃N:St->Hp->Prop,(∀σ' H',N σ' H'->∃m',m' < m/\W (i+1) m' σ' H')/\∀x H',J.SU i H x H'->g x σ H' λσ2 H2=>tb {D with nx:=N,ct:=N,bk:=D.nx} σ2 H2)
def oj (fp:List db) (h:pc):List (db×Obj):=fp.filterMap λb=>(h.get? b).map λo=>(b,o)
def jO (hb:b∈fp) (e:h.get? b=bd o):(b,o)∈oj fp h:=C3.mpr ⟨b,hb,by rw [e];rfl⟩
def JZ {p:db×Obj} (hp:p∈oj fp h):p.1∈fp/\h.get? p.1=bd p.2:=by
 obtain⟨b,hb,e⟩:=C3.mp hp;cases q:h.get? b with
 | none=>rw [q] at e;cases e
 | some o=>
  rw [q] at e;have e':=Option.some.inj e;subst e';exact⟨hb,q⟩
def Inv.pinned (I:Inv X Z σ H s) (hf:∀b∈fp,ue X Z H b) (ho:∀b∈fp,∃o,s.heap.get? b=bd o/\∀v,o.data≠.cell v):Inv X (Z++oj fp s.heap) σ H s:=
 I.Il λp hp=>(AX.mp hp).elim (λz=>I.pin p (AQ _ z)) λz=>by
  obtain⟨hb,e⟩:=JZ z;obtain⟨f0,f1,f2,_⟩:=hf p.1 hb;obtain⟨o,e',d⟩:=ho p.1 hb;rw [e] at e';cases e';exact⟨e,f0,f1,f2,d⟩
def Inv.kD {pl:List (db×Obj)} (I:Inv X (Z++pl) σ H s):Inv X Z σ H s:=I.Il λp hp=>I.pin p (AQ _ (BK _ hp))
def Mw {g:TG}{tb:TS} (hp:Db (d5 X.prog X.w) X.A X.env X.xe) (hc:X.calm=true) (hi:PI X tg iter wi) (hg:PG X tg g) (hb:qC X body tb)
  (hs:∀x,f8 iter X.env x=pure x:=by intro _;rfl):PS X (.For tg iter body [] pos) (acb wi g tb):=by
 intro Z s σ H D I h;refine wpAny_For (bD (hi Z s σ H _ I h) λv s1 h1=>bD h1 λñ s2 h2=>?_) hs;obtain⟨it,fp,tn,J,H2,e,I2,T,JJ,f2,W,⟨m0,w0⟩,turn⟩:=h2;subst e;have Uw:∀{H':Hp},(∀b∈fp,H' b=bv)->∀b∈fp,ue X Z H' b:=λhn b hb=>⟨hn b hb,(f2 b hb).2⟩;refine codeAny_forLoop_any (λn s'=>∃i σ' H',Inv X Z σ' H' s'/\tn i s'.heap/\(∀b∈fp,H' b=bv)/\W i n σ' H') ?_ m0 ⟨0,σ,H2,I2,JJ,λb hb=>(f2 b hb).1,w0⟩;rintro n s3 ⟨i,σ3,H3,I3,Yj,ZY,w3⟩;rcases turn i n σ3 H3 w3 with⟨stop,qn⟩ | ⟨go,N,hN,step⟩
 ·refine Cj hp (bD (T.done X rfl rfl rfl hc i Z s3 σ3 H3 X.xe I3 (Uw ZY) Yj stop) λr s4 ⟨hr,I4⟩=>?_);subst hr;exact DG ⟨σ3,H3,I4,qn⟩
 ·refine Cj hp (bD (T.item X rfl rfl rfl hc i Z s3 σ3 H3 X.xe I3 (Uw ZY) Yj go) λr s4 ⟨u,hr,h4⟩=>?_);subst hr;refine Cj hp (bD h4 λ_ s5 ⟨x,H5,I5,r5,y5,Ux,ĩ⟩=>?_);have ĭ:=I5.pinned (Uw ĩ) (T.obj _ _ Ux);refine Cj hp (bD (hg _ s5 σ3 H5 x u _ ĭ r5 (step x H5 y5)) λ_ s6 ⟨σ6,H6,I6,q6⟩=>?_);refine Cj hp (bD (hb _ s6 σ6 H6 _ I6 q6) λf s7 q7=>?_);have again:∀{σ7:St}{H7:Hp},Inv X (Z++oj fp s5.heap) σ7 H7 s7->N σ7 H7->∃m,m < n/\∃i σ' H',Inv X Z σ' H' s7/\tn i s7.heap/\(∀b∈fp,H' b=bv)/\W i m σ' H':=λ{σ7 H7} I7 n7=>by
   obtain⟨m',hm,w7⟩:=hN σ7 H7 n7;refine⟨m',hm,i+1,σ7,H7,I7.kD,T.keep _ _ _ Ux λb hb o e=>(I7.pin (b,o) (AQ _ (AQ _ (jO hb e)))).1,λb hb=>?_,w7⟩;obtain⟨o,e,d⟩:=T.obj _ _ Ux b hb;exact (I7.pin (b,o) (AQ _ (AQ _ (jO hb e)))).2.1
  cases f with
  | next=>obtain⟨σ7,H7,I7,n7⟩:=q7;exact again I7 n7
  | cont=>obtain⟨σ7,H7,I7,n7⟩:=q7;exact again I7 n7
  | brk=>obtain⟨σ7,H7,I7,q7⟩:=q7;exact⟨σ7,H7,I7.kD,q7⟩
  | ret v=>obtain⟨x7,σ7,H7,I7,r7,q7⟩:=q7;exact⟨x7,σ7,H7,I7.kD,r7,q7⟩
end
end L2
variable {i:Int}{g:Int->Int->Int}{Ly:PySem.CmpOp}{au:List A4}
namespace L2
open PySem PySem.Spec PyProof.Rows
abbrev R2:=V->V->Hp->VK->Prop
def hJ (X:Cx) (f:ci->ci->Sem ci) (r:R2):Prop:=
 ∀(Z:List (db×Obj)) (s:dL) (σ:St) (H:Hp) (x y:V) (v u:ci) (Q:VK),Inv X Z σ H s->RelV x v->RelV y u->r x y H Q->
  d4 (d5 X.prog X.w) X.A (f v u) (EP X Z σ Q) X.xe s
def UnR (X:Cx) (f:ci->Sem ci) (r:V->Hp->VK->Prop):Prop:=
 ∀(Z:List (db×Obj)) (s:dL) (σ:St) (H:Hp) (x:V) (v:ci) (Q:VK),Inv X Z σ H s->RelV x v->r x H Q->
  d4 (d5 X.prog X.w) X.A (f v) (EP X Z σ Q) X.xe s
def bQ (X:Cx) (f:ci) (r:List V->Hp->VK->Prop):Prop:=
 ∀(Z:List (db×Obj)) (s:dL) (σ:St) (H:Hp) (xs:List V) (us:List ci) (Q:VK),Inv X Z σ H s->Vals xs us->r xs H Q->
  d4 (d5 X.prog X.w) X.A (call f us) (EP X Z σ Q) X.xe s
def aea (X:Cx) (r:V->Hp->(Bool->Hp->Prop)->Prop):Prop:=
 ∀(Z:List (db×Obj)) (s:dL) (σ:St) (H:Hp) (x:V) (v:ci) (Q:Bool->Hp->Prop),Inv X Z σ H s->RelV x v->r x H Q->
  d4 (d5 X.prog X.w) X.A (truthy v) (TP X Z σ Q) X.xe s
def S0 (r:R2) (ta tb:TE):TE:=λσ H Q=>ta σ H λx H1=>tb σ H1 λy H2=>r x y H2 Q
def tUn (r:V->Hp->VK->Prop) (ta:TE):TE:=λσ H Q=>ta σ H λx H1=>r x H1 Q
def rI (C:Int->Int->Prop) (g:Int->Int->V):R2:=λx y H Q=>∃i j,x=.int i/\y=.int j/\C i j/\Q (g i j) H
def Qo (g:Int->Int->V):R2:=λx y H Q=>∃i j,x=.int i/\y=.int j/\Q (g i j) H
def rU (g:Int->V):V->Hp->VK->Prop:=λx H Q=>∃i,x=.int i/\Q (g i) H
section
variable {b:lm}
def WH (ha:PE X a ta) (hb:PE X b tb) (I:Inv X Z σ H s)
  (h:ta σ H λx H1=>tb σ H1 λy H2=>R x y H2) {f:ci->ci->Sem ci}
  (hf:∀v u s2 x y H2,Inv X Z σ H2 s2->RelV x v->RelV y u->R x y H2->d4 (d5 X.prog X.w) X.A (f v u) Q X.xe s2) :
  d4 (d5 X.prog X.w) X.A (kt a X.env) (λv s₁=>d4 (d5 X.prog X.w) X.A (kt b X.env) (λu s₂=>d4 (d5 X.prog X.w) X.A (f v u) Q X.xe s₂) X.xe s₁) X.xe s:=by
 refine bD (ha Z s σ H _ I h) λv s1 ⟨x,H1,I1,r1,q1⟩=>?_;refine bD (hb Z s1 σ H1 _ I1 q1) λu s2 ⟨y,H2,I2,r2,q2⟩=>?_;exact hf v u s2 x y H2 I2 r1 r2 q2
def Im {op:Operator}{r:R2} (ho:hJ X (sw op) r) (ha:PE X a ta) (hb:PE X b tb):PE X (.BinOp a op b pos) (S0 r ta tb):=by
 intro Z s σ H Q I h;exact wpAny_BinOp (WH ha hb I h λv u s2 x y H2 I2 rx ry q=>ho Z s2 σ H2 x y v u Q I2 rx ry q)
def YN {op:UnaryOp}{r:V->Hp->VK->Prop} (ho:UnR X (unaryOp op) r) (ha:PE X a ta):PE X (.UnaryOp op a pos) (tUn r ta):=by
 intro Z s σ H Q I h;exact UnaryOp_ (bD (ha Z s σ H _ I h) λv s1 ⟨x,H1,I1,r1,q1⟩=>ho Z s1 σ H1 x v Q I1 r1 q1)
def opI {f:ci->ci->Sem ci}{C:Int->Int->Prop}
  (rule:∀(i j:Int) (t u:Tok) (s:dL) (Q:ci->dL->Prop) (E:ci->dL->Prop),C i j->Q (.int (g i j) s.toks) {s with toks:=s.toks+1}->d4 (d5 X.prog X.w) X.A (f (.int i t) (.int j u)) Q E s) :
  hJ X f (rI C λi j=>.int (g i j)):=by
 intro Z s σ H x y v u Q I rx ry h;obtain⟨i,j,rfl,rfl,hc,q⟩:=h;obtain⟨t,rfl⟩:=rx;obtain⟨t',rfl⟩:=ry;exact rule i j t t' s _ _ hc ⟨.int (g i j),H,I.tok _,⟨_,rfl⟩,q⟩
def Y0 {f:ci->ci->Sem ci}
  (rule:∀(i j:Int) (t u:Tok) (s:dL) (Q:ci->dL->Prop) (E:ci->dL->Prop),Q (.int (g i j) s.toks) {s with toks:=s.toks+1}->d4 (d5 X.prog X.w) X.A (f (.int i t) (.int j u)) Q E s) :
  hJ X f (Qo λi j=>.int (g i j)):=by
 intro Z s σ H x y v u Q I rx ry h;obtain⟨i,j,rfl,rfl,q⟩:=h;obtain⟨t,rfl⟩:=rx;obtain⟨t',rfl⟩:=ry;exact rule i j t t' s _ _ ⟨.int (g i j),H,I.tok _,⟨_,rfl⟩,q⟩
def QR {f:ci->ci->Sem ci}{g:Int->Int->Bool}
  (rule:∀(i j:Int) (t u:Tok) (s:dL) (Q:ci->dL->Prop) (E:ci->dL->Prop),Q (.bool (g i j)) s->d4 (d5 X.prog X.w) X.A (f (.int i t) (.int j u)) Q E s) :
  hJ X f (Qo λi j=>.bl (g i j)):=by
 intro Z s σ H x y v u Q I rx ry h;obtain⟨i,j,rfl,rfl,q⟩:=h;obtain⟨t,rfl⟩:=rx;obtain⟨t',rfl⟩:=ry;exact rule i j t t' s _ _ ⟨.bl (g i j),H,I,rfl,q⟩
def SS (i j:Int):Prop:=0 < j/\j < 1073741824
def Pc (i j:Int):Prop:=0<=j/\j<=1000000/\i.natAbs < 2 ^ 64
def SR (i j:Int):Prop:=(-(2 ^ 64) < i/\i < 2 ^ 64)\/(-(2 ^ 64) < j/\j < 2 ^ 64)
def SR.ok {j:Int} (h:SR i j):wP i j:=by
 rcases h with⟨h1,h2⟩ | ⟨h1,h2⟩
 ·exact .of_left (intBits_le_64 h1 h2)
 ·exact .of_right (intBits_le_64 h1 h2)
def Vg:hJ X (sw .Add) (Qo λi j=>.int (i+j)):=Y0 λ_ _ _ _ _ _ _ q=>add_int q
def U7:hJ X (sw .Sub) (Qo λi j=>.int (i-j)):=Y0 λ_ _ _ _ _ _ _ q=>sub_int q
theorem QM:hJ X (sw .FloorDiv) (rI SS λi j=>.int (i / j)):=opI λi j _ _ _ _ _ hc q=>by
 have h1:(0:Int) < j:=hc.1;have h2:j < 1073741824:=hc.2;exact floordiv_int ∅ (by rw [Int.fdiv_eq_ediv_of_nonneg i ∅];exact q) (.inl (PyProof.noPylong_small ∅))
theorem Vb:hJ X (sw .Mod) (rI (λ_ j=>0 < j) λi j=>.int (i % j)):=opI λi j _ _ _ _ _ hc q=>by
 have h1:(0:Int) < j:=hc;exact mod_int' ∅ (by rw [Int.fmod_eq_emod_of_nonneg i ∅];exact q)
def U9:hJ X (sw .Pow) (rI Pc λi j=>.int (i ^ j.toNat)):=opI λ_ _ _ _ _ _ _ hc q=>pow_int_small hc.1 hc.2.1 hc.2.2 q
def unI {f:ci->Sem ci}{g:Int->Int}
  (rule:∀(i:Int) (t:Tok) (s:dL) (Q:ci->dL->Prop) (E:ci->dL->Prop),Q (.int (g i) s.toks) {s with toks:=s.toks+1}->d4 (d5 X.prog X.w) X.A (f (.int i t)) Q E s) :
  UnR X f (rU λi=>.int (g i)):=by
 intro Z s σ H x v Q I rx h;obtain⟨i,rfl,q⟩:=h;obtain⟨t,rfl⟩:=rx;exact rule i t s _ _ ⟨.int (g i),H,I.tok _,⟨_,rfl⟩,q⟩
def Uk:UnR X (unaryOp .USub) (rU λi=>.int (-i)):=unI λ_ _ _ _ _ q=>neg_int q
end
section
variable {b c:lm}{tc:TE}
def NZ {Q:VK}{k k':Bool} (I:Inv X Z σ H s) (q:Q (.bl k) H) (e:k=k'):EP X Z σ Q (.bool k') s:=by
 subst e;exact⟨.bl k,H,I,rfl,q⟩
def YW:hJ X (lc .Lt) (Qo λi j=>.bl (decide (i < j))):=QR λ_ _ _ _ _ _ _ q=>lt_int q
def YX:hJ X (lc .LtE) (Qo λi j=>.bl (decide (i<=j))):=QR λ_ _ _ _ _ _ _ q=>le_int q
def YY:hJ X (lc .Gt) (Qo λi j=>.bl (decide (j < i))):=QR λ_ _ _ _ _ _ _ q=>gt_int q
def YZ:hJ X (lc .GtE) (Qo λi j=>.bl (decide (j<=i))):=QR λ_ _ _ _ _ _ _ q=>ge_int q
def JY:hJ X (lc .In) (λx y H Q=>∃i j,x=.str i/\y=.str j/\Q (.bl (!(Builtin.Str.occurrences j i 0 j.length 1).isEmpty)) H):=by
 intro Z s σ H x y v u Q I rx ry h;obtain⟨i,j,rfl,rfl,q⟩:=h;obtain⟨t,rfl⟩:=rx;obtain⟨t',rfl⟩:=ry;exact in_str (NZ I q rfl)
def Vc:hJ X (lc .Is) (λx y H Q=>y=.aU/\Q (.bl (decide (x=.aU))) H):=by
 intro Z s σ H x y v u Q I rx ry h;obtain⟨rfl,q⟩:=h;cases ry;refine is_none_gen (NZ I q ?_);cases x <;> first
  | (cases rx;rfl)
  | (obtain⟨t,rfl⟩:=rx;rfl)
def hJ.or {f:ci->ci->Sem ci}{r r':R2} (h:hJ X f r) (h':hJ X f r'):hJ X f (λx y H Q=>r x y H Q\/r' x y H Q):=by
 intro Z s σ H x y v u Q I rx ry q;rcases q with q | q
 ·exact h Z s σ H x y v u Q I rx ry q
 ·exact h' Z s σ H x y v u Q I rx ry q
def kL (b:lm) (h:op≠.In:=by decide) (h2:op≠.NotIn:=by decide):mo op b=false:=by
 have e1:(op==CmpOp.In)=false:=by cases op <;> first | rfl | exact absurd rfl h
 have e2:(op==CmpOp.NotIn)=false:=by cases op <;> first | rfl | exact absurd rfl h2
 cases b <;> simp [mo,e1,e2]
def qa {r:R2} (ho:hJ X (lc op) r) (ha:PE X a ta) (hb:PE X b tb) (hm:mo op b=false):PE X (.Compare a [op] [b] pos) (S0 r ta tb):=by
 intro Z s σ H Q I h;exact wpAny_Compare1 (WH ha hb I h λv u s2 x y H2 I2 rx ry q=>ho Z s2 σ H2 x y v u Q I2 rx ry q) hm
def SY (t:TE):TT:=λσ H Q=>t σ H λx H'=>∃k,x=.bl k/\Q k H'
def pZ {r:R2} (ho:hJ X (lc op) r) (ha:PE X a ta) (hb:PE X b tb) (hm:mo op b=false):PT X (.Compare a [op] [b] pos) (SY (S0 r ta tb)):=by
 intro Z s σ H Q I h;refine wpAny_isTrue_Compare1 (bD (ha Z s σ H _ I h) λv s1 ⟨x,H1,I1,r1,q1⟩=>bD (hb Z s1 σ H1 _ I1 q1) λu s2 ⟨y,H2,I2,r2,q2⟩=>
  bD (ho Z s2 σ H2 x y v u _ I2 r1 r2 q2) λc s3 ⟨z,H3,I3,r3,k,e,q3⟩=>?_) hm
 subst e;cases r3;exact Bo ⟨H3,I3,q3⟩
def zZ (r r':R2) (ta tb tc:TE):TE:=λσ H Q=>ta σ H λx H1=>tb σ H1 λy H2=>r x y H2 λz H3=>∃k,z=.bl k/\
 (if k=true then tc σ H3 λw' H4=>r' y w' H4 Q else Q (.bl false) H3)
def MN {r r':R2} (ho:hJ X (lc op) r) (NF:hJ X (lc Ly) r') (ha:PE X a ta) (hb:PE X b tb) (hc:PE X c tc)
  (hm:lastMarks [op,Ly] [b,c]=false:=by with_unfolding_all rfl):PE X (.Compare a [op,Ly] [b,c] pos) (zZ r r' ta tb tc):=by
 intro Z s σ H Q I h;refine Compare_chain (bD (ha Z s σ H _ I h) λv s1 ⟨x,H1,I1,r1,q1⟩=>chain_link (bD (hb Z s1 σ H1 _ I1 q1) λu s2 ⟨y,H2,I2,r2,q2⟩=>
  bD (ho Z s2 σ H2 x y v u _ I2 r1 r2 q2) λd s3 ⟨z,H3,I3,r3,k,e,q3⟩=>?_)) hm
 subst e;cases r3;refine Bo ?_;cases k with
 | false=>exact ite_ff ⟨.bl false,H3,I3,rfl,q3⟩
 | true=>exact ite_tt (chain_last (bD (hc Z s3 σ H3 _ I3 q3) λw' s4 ⟨z',H4,I4,r4,q4⟩=>NF Z s4 σ H4 y z' u w' Q I4 r2 r4 q4))
def Mu {r r':R2} (ho:hJ X (lc op) r) (NF:hJ X (lc Ly) r') (ha:PE X a ta) (hb:PE X b tb) (hc:PE X c tc)
  (hm:lastMarks [op,Ly] [b,c]=false:=by with_unfolding_all rfl):PT X (.Compare a [op,Ly] [b,c] pos) (SY (zZ r r' ta tb tc)):=by
 intro Z s σ H Q I h;refine isTrue_chain (bD (ha Z s σ H _ I h) λv s1 ⟨x,H1,I1,r1,q1⟩=>test_link (bD (hb Z s1 σ H1 _ I1 q1) λu s2 ⟨y,H2,I2,r2,q2⟩=>
  bD (ho Z s2 σ H2 x y v u _ I2 r1 r2 q2) λd s3 ⟨z,H3,I3,r3,k,e,q3⟩=>?_)) hm
 subst e;cases r3;refine Bo ?_;cases k with
 | false=>
  obtain⟨k',e',q'⟩:=q3;cases e';exact ite_ff ⟨H3,I3,q'⟩
 | true=>
  refine ite_tt (test_last (bD (hc Z s3 σ H3 _ I3 q3) λw' s4 ⟨z',H4,I4,r4,q4⟩=>bD (NF Z s4 σ H4 y z' u w' _ I4 r2 r4 q4) λd' s5 ⟨z2,H5,I5,r5,k2,e2,q5⟩=>?_));subst e2;cases r5;exact Bo ⟨H5,I5,q5⟩
def WQ (K:Ab) (x:V) (H:Hp) (k:Bool):Prop:=
 match x with
 | .aU=>k=false
 | .bl b=>k=b
 | .int i=>k=(i != 0)
 | .str y=>y.length<=sizeLine/\k=((y.length:Int) != 0)
 | .WE y=>y.size<=sizeLine/\k=((y.size:Int) != 0)
 | .ref p=>(∃xs,cU K H p xs/\k=!xs.isEmpty)\/(∃xs,d9 K H p xs/\k=!xs.isEmpty)\/∃kvs,H p=bd (.dK kvs)/\k=!kvs.isEmpty
 | _=>False
def Gv {kvs:List (κ×V)}{vs:List (κ×ci)} (r:KV kvs vs):(!vs.isEmpty)=!kvs.isEmpty:=by
 cases r <;> rfl
def rJ (r:Vals xs au):(!au.toArray.isEmpty)=!xs.isEmpty:=by
 cases r <;> simp
def vZ:(sizeLine:Nat) < 2 ^ 63:=by rw [sizeLine_eq];decide
theorem Um:aea X (λx H Q=>∃k,WQ X.K x H k/\Q k H):=by
 intro Z s σ H x v Q I rx h;obtain⟨k,e,q⟩:=h;have hs:=sizeLine_eq;cases x with
 | aU=>
  cases rx;have e':=e;subst e';exact truthy_none ⟨H,I,q⟩
 | bl b=>
  cases rx;have e':=e;subst e';exact Bo ⟨H,I,q⟩
 | int i=>
  obtain⟨t,rfl⟩:=rx;have e':=e;subst e';exact PySem.P.truthy_int ⟨H,I,q⟩
 | str y=>
  obtain⟨t,rfl⟩:=rx;obtain⟨hy,e'⟩:y.length<=sizeLine/\k=((y.length:Int) != 0):=e;subst e';exact PySem.P.truthy_str ∅ ⟨H,I.tok _,q⟩
 | WE y=>
  obtain⟨t,rfl⟩:=rx;obtain⟨hy,e'⟩:y.size<=sizeLine/\k=((y.size:Int) != 0):=e;subst e';exact PySem.W.truthy_bytes ∅ ⟨H,I.tok _,q⟩
 | ref p=>
  cases rx;have e':=e;rcases e' with⟨xs,hx,e'⟩ | ⟨xs,hx,e'⟩ | ⟨kvs,hx,e'⟩
  ·subst e';obtain⟨au,r,pl,hz⟩:=I.list hx;have Á:=r.length;exact wpAny_truthy_list pl.isList (by simp only [Ai];omega) ⟨H,I.tok _,by rw [rJ r];exact q⟩
  ·subst e';obtain⟨au,r,pl,hz⟩:=I.tuple hx;have Á:=r.length;exact truthy_tuple pl (by simp only [Ai];omega) ⟨H,I.tok _,by rw [rJ r];exact q⟩
  ·subst e';obtain⟨hz,hS,vs,r,m⟩:kvs.length<=sizeLine/\(p==ul)=false/\∃vs,KV kvs vs/\s.heap.DictOf (cj X.prog X.w) p vs:=I.bG p _ hx;have Á:=Paired.length r;exact wpAny_truthy_dict hS m ∅ ⟨H,I.tok _,by rw [Gv r];exact q⟩
 | _=>exact (show False from e).elim
def Mt (ha:PE X a ta) (he:∀Æ,isTrue a X.env Æ=(do let v <- Æ;Gf a.pos;sn [v] (truthy v))) :
  PT X a (λσ H Q=>ta σ H λx H'=>∃k,WQ X.K x H' k/\Q k H'):=by
 intro Z s σ H Q I h;exact isTrue_plain (bD (ha Z s σ H _ I h) λv s1 ⟨x,H1,I1,r1,q1⟩=>Um Z s1 σ H1 x v Q I1 r1 q1) (he _)
def FX:hJ X (sw .Add) (λx y H Q=>∃i j,x=.str i/\y=.str j/\i.length+j.length<=sizeLine/\Q (.str (i++j)) H):=by
 intro Z s σ H x y v u Q I rx ry h;obtain⟨i,j,rfl,rfl,hz,q⟩:=h;obtain⟨t,rfl⟩:=rx;obtain⟨t',rfl⟩:=ry;exact add_str (λt' tk=>⟨.str (i++j),H,I.tok _,⟨_,rfl⟩,q⟩) hz
def vals1 {x:V} (r:Vals [x] us):∃u,us=[u]/\RelV x u:=by
 cases r with
 | cons r1 r2=>cases r2;exact⟨_,rfl,r1⟩
def vals2 {x:V} (r:Vals [x,y] us):∃u w',us=[u,w']/\RelV x u/\RelV y w':=by
 cases r with
 | cons r1 r2=>
  cases r2 with
  | cons r3 r4=>cases r4;exact⟨_,_,rfl,r1,r3⟩
def OS:bQ X (.builtin "abs") (λxs H Q=>∃i,xs=[.int i]/\Q (.int (if i < 0 then -i else i)) H):=by
 intro Z s σ H xs us Q I r h;obtain⟨i,rfl,q⟩:=h;obtain⟨u,rfl,t,rfl⟩:=vals1 r;exact call_abs_int λu tk=>⟨.int (if i < 0 then -i else i),H,I.tok _,⟨_,rfl⟩,q⟩
def K6 (hc:X.calm=true):bQ X (.builtin "max") (λxs H Q=>∃i j,xs=[.int i,.int j]/\Q (.int (if j > i then j else i)) H):=by
 intro Z s σ H xs us Q I r h;obtain⟨i,j,rfl,q⟩:=h;obtain⟨u,w',rfl,⟨t,rfl⟩,⟨t',rfl⟩⟩:=vals2 r;refine max_two_ints (I.ok.hd hc) λh' tk k=>⟨_,H,I.kept k,?_,q⟩;by_cases hj:j > i
 ·rw [if_pos hj,if_pos hj];exact⟨_,rfl⟩
 ·rw [if_neg hj,if_neg hj];exact⟨_,rfl⟩
def K5 (hc:X.calm=true):bQ X (.builtin "min") (λxs H Q=>∃i j,xs=[.int i,.int j]/\Q (.int (if j < i then j else i)) H):=by
 intro Z s σ H xs us Q I r h;obtain⟨i,j,rfl,q⟩:=h;obtain⟨u,w',rfl,⟨t,rfl⟩,⟨t',rfl⟩⟩:=vals2 r;refine min_two_ints (I.ok.hd hc) λh' tk k=>⟨_,H,I.kept k,?_,q⟩;by_cases hj:j < i
 ·rw [if_pos hj,if_pos hj];exact⟨_,rfl⟩
 ·rw [if_neg hj,if_neg hj];exact⟨_,rfl⟩
def La:bQ X (.type "int") (λxs H Q=>(∃i,xs=[.int i]/\Q (.int i) H)\/∃k,xs=[.bl k]/\Q (.int (if k then 1 else 0)) H):=by
 intro Z s σ H xs us Q I r h;rcases h with⟨i,rfl,q⟩ | ⟨k,rfl,q⟩
 ·obtain⟨u,rfl,t,rfl⟩:=vals1 r;exact call_int_int ⟨.int i,H,I,⟨_,rfl⟩,q⟩
 ·obtain⟨u,rfl,r1⟩:=vals1 r;cases r1;exact call_int_bool ⟨.int (if k then 1 else 0),H,I.tok _,⟨_,rfl⟩,q⟩
def aaA (K:Ab) (x:V) (H:Hp) (n:Nat):Prop:=
 match x with
 | .str y=>y.length<=sizeLine/\n=y.length
 | .WE y=>y.size<=sizeLine/\n=y.size
 | .ref p=>(∃xs,cU K H p xs/\n=xs.length)\/∃xs,d9 K H p xs/\n=xs.length
 | _=>False
theorem OQ:bQ X (.builtin "len") (λxs H Q=>∃x n,xs=[x]/\aaA X.K x H n/\Q (.int n) H):=by
 intro Z s σ H xs us Q I r h;obtain⟨x,n,rfl,e,q⟩:=h;obtain⟨u,rfl,rx⟩:=vals1 r;have hs:=sizeLine_eq;cases x with
 | str y=>
  obtain⟨t,rfl⟩:=rx;obtain⟨hy,e'⟩:y.length<=sizeLine/\n=y.length:=e;subst e';exact len_str ∅ ⟨.int _,H,I.tok _,⟨_,rfl⟩,q⟩
 | WE y=>
  obtain⟨t,rfl⟩:=rx;obtain⟨hy,e'⟩:y.size<=sizeLine/\n=y.size:=e;subst e';exact PySem.W.len_bytes ∅ ⟨.int _,H,I.tok _,⟨_,rfl⟩,q⟩
 | ref p=>
  cases rx;have e':=e;rcases e' with⟨xs,hx,e'⟩ | ⟨xs,hx,e'⟩
  ·subst e';obtain⟨au,r',pl,hz⟩:=I.list hx;have Á:=r'.length;exact Calls.call_len_list pl.isList (by simp only [Ai];omega) ⟨.int xs.length,H,I.tok _,⟨_,by simp only [Ai];rw [Á]⟩,q⟩
  ·subst e';obtain⟨au,r',pl,hz⟩:=I.tuple hx;have Á:=r'.length;exact len_tuple pl (by simp only [Ai];omega) ⟨.int xs.length,H,I.tok _,⟨_,by simp only [Ai];rw [Á]⟩,q⟩
 | _=>exact (show False from e).elim
end
end L2
variable {a:BO}{mA:BZ->Option A4}
namespace L2
open PySem PySem.Spec PyProof.Rows
structure WU (h:pc) (x dx C:db) (mA:Str->Option ci):Prop where
 obj:h.get? x=bd (EN C dx)
 ns:h.Ns1 dx mA
 ne:dx≠x
def J1 {dx:db} (n:h.Ns1 dx mA):∃od,h.get? dx=bd od/\∀name,E3 name od=bd (mA name):=by
 obtain⟨o,es,ep,ho,hd,hk,_,hm⟩:=n;refine⟨o,ho,λname=>?_⟩;have e:=hm name;unfold nsFind findBy at e;rw [<- Array.find?_toList] at e;unfold E3;rw [hd];dsimp only
 split
 ·rename_i y q;rw [q] at e;exact congrArg bd e
 ·rename_i q;rw [q] at e;have a:es.toList.any (·.refKey)=false:=by
   rw [List.any_eq_false];intro y hy;obtain⟨z,t,adn⟩:=hk y (Array.mem_toList_iff.mp hy);simp [DictEntry.refKey,adn]
  have a':¬es.toList.any (·.refKey)=true:=by rw [a];exact AU
  rw [if_neg a'];exact congrArg bd e
def WU.look {x dx C:db} (I:WU h x dx C mA):∃od,PySem.W.InstAt h x (EN C dx) C (bd od)/\∀name,E3 name od=bd (mA name):=
 let ⟨od,ho,hl⟩:=J1 I.ns
 ⟨od,⟨I.obj,rfl,rfl,ho⟩,hl⟩
def sP.some_of {o:Option ci} (r:sP (bd v) o):∃u,o=bd u/\RelV v u:=by
 cases o with
 | none=>exact (show False from r).elim
 | some u=>exact⟨u,rfl,r⟩
section
variable {C dx:db}{fs:List (Str×V)}
def Rt (bG:lN P w H h) (e:H a=bd (.ins C dx fs)):∃mA,WU h a dx C mA/\(∀f,sP (fs.lookup f) (mA f))/\PySem.Within mA (fs.map (·.1))/\fs.length<=1000/\H dx=bd (.own a):=by
 obtain⟨d,z,ne,ob,mA,n,r,q⟩:=(show bq P w H h a (.ins C dx fs) from bG a _ e);exact⟨mA,⟨ob,n,ne⟩,r,q,z,d⟩
end
structure Cls (K:Ab) (C:db):Prop where
 pg:Fw K C Str.empty=true
 hd:PySem.W.hasDictIn K C=true
 po:PySem.W.plainOver K C=true
 sa:PySem.W.findIn K (.ref C) "__setattr__"=bd (bd (.builtin "object.__setattr__"))
def Cls.get {K:Ab}{C:db} (c:Cls K C) (f:Str):Fw K C f=true:=c.pg
section
variable {c:ci}{b:Bool}
inductive lS (K:Ab) (H:Hp):V->ci->Prop where
 | aU:lS K H .aU (.type "NoneType")
 | bl (x:Bool):lS K H (.bl x) (.type "bool")
 | int (i:Int):lS K H (.int i) (.type "int")
 | str (x:Str):lS K H (.str x) (.type "str")
 | Xl (x:UInt64):lS K H (.Xl x) (.type "float")
 | lst {a:db}{xs:List V} (e:H a=bd (.lst xs)):lS K H (.ref a) (.type "list")
 | cO {a:db}{o:Obj}{xs:List V} (e:H a=bd (.cO o (.lst xs))):lS K H (.ref a) (.type "list")
 | tup {a:db}{xs:List V} (e:H a=bd (.tup xs)):lS K H (.ref a) (.type "tuple")
 | dK {a:db}{kvs:List (Key×V)} (e:H a=bd (.dK kvs)):lS K H (.ref a) (.type "dict")
 | dT {a:db}{kvs:List (List Key×V)} (e:H a=bd (.dT kvs)):lS K H (.ref a) (.type "dict")
 | ins {a C dx:db}{fs:List (Str×V)} (e:H a=bd (.ins C dx fs)) (cl:Cls K C) (ha:PySem.W.findIn K (.ref C) "__class__"=bd (bd (.builtin "object.__class__")))
   (hn:PySem.W.specialIn K (.builtin "object.__class__") "__get__"=bd (bd (.builtin "getset_descriptor.__get__"))) (htk:PySem.W.takesIn K (.builtin "object.__class__")=bd true)
   (hm:PySem.W.mroIn K C (.type "object")=bd true):lS K H (.ref a) (.ref C)
def Kb {x:V}{t:ci} (I:Inv X Z σ H s) (rx:RelV x u) (ty:lS X.K H x t) (e:Bz X.K t c=bd b) (h:∀tk,Q (.bool b) {s with toks:=tk}) :
  d4 (d5 X.prog X.w) A (call (.builtin "isinstance") [u,c]) Q E s:=by
 cases ty with
 | aU=>cases (show u=AW from rx);exact Bd PySem.W.kitx_none I.tG Cf e (λz=>nomatch z) h
 | bl y=>cases (show u=B6 y from rx);exact Bd PySem.W.kitx_bool I.tG Cf e (λz=>nomatch z) h
 | int i=>obtain⟨t,q⟩:=(show ∃t,u=DV i t from rx);cases q;exact Bd PySem.W.kitx_int I.tG Cf e (λz=>nomatch z) h
 | str y=>obtain⟨t,q⟩:=(show ∃t,u=DU y t from rx);cases q;exact Bd PySem.W.kitx_str I.tG Cf e (λz=>nomatch z) h
 | Xl y=>obtain⟨t,q⟩:=(show ∃t,u=Value.float y t from rx);cases q;exact Bd PySem.W.kitx_float I.tG Cf e (λz=>nomatch z) h
 | @lst a xs ea=>
  cases (show u=AB a from rx);obtain⟨_,_,n,_,h1⟩:=(show bq X.prog X.w H s.heap a (.lst xs) from I.bG a _ ea);exact Bd Ea I.tG ⟨_,h1,rfl⟩ e (λz=>nomatch z) h
 | @cO a ob xs ea=>
  cases (show u=AB a from rx);obtain⟨_,_,_,n,_,h1⟩:=(show bq X.prog X.w H s.heap a (.cO ob (.lst xs)) from I.bG a _ ea);exact Bd Ea I.tG ⟨_,h1,rfl⟩ e (λz=>nomatch z) h
 | @tup a xs ea=>
  cases (show u=AB a from rx);obtain⟨_,_,_,p⟩:=(show bq X.prog X.w H s.heap a (.tup xs) from I.bG a _ ea);obtain⟨o,h1,h2,_⟩:=p;exact Bd Fj I.tG ⟨o,h1,h2⟩ e (λz=>nomatch z) h
 | @dK a kvs ea=>
  cases (show u=AB a from rx);obtain⟨_,_,vs,_,p⟩:=(show bq X.prog X.w H s.heap a (.dK kvs) from I.bG a _ ea);obtain⟨o,es,ep,h1,h2,_⟩:=p;exact Bd Eb I.tG ⟨o,h1,h2.1⟩ e (λz=>nomatch z) h
 | @dT a kvs ea=>
  cases (show u=AB a from rx);obtain⟨_,_,xs,_,o,es,ep,h1,h2,_⟩:=(show bq X.prog X.w H s.heap a (.dT kvs) from I.bG a _ ea);exact Bd Eb I.tG ⟨o,h1,h2.1⟩ e (λz=>nomatch z) h
 | @ins a C dx fs ea cl ha hn htk hm=>
  cases (show u=AB a from rx);obtain⟨mA,O,_⟩:=Rt I.bG ea;obtain⟨od,J,_⟩:=O.look;exact Bd (PySem.W.kitx_own (cl.get _) cl.hd ha hn htk hm) I.tG J e (λz=>nomatch z) h
end
end L2
variable {v È pm cM ct oc:A4}{vs:List L2.V}{mg:BZ->Option A4}{base:Fq}{fd:PySem.FuncData}{ps:List BZ}{Â:Cu}{sc scope:PySem.Scope}{qual:BZ}{an od:Option BO}{Ph:Array (Option A4)}
namespace L2
open PySem PySem.Spec PyProof.Rows
structure cX (k:Nat) (A:ss):Prop where
 hd:A.handled=bv
 dp:A.depth+3*k+5 < recursionLimit
 un:A.units+16*k+200 < o0
 gd:A.guards=bd []
theorem cX.mono {k:Nat} (r:cX k A) (h:j<=k):cX j A:=⟨r.hd,by have:=r.dp;omega,by have:=r.un;omega,r.gd⟩
theorem cX.deeper {k:Nat} (r:cX (k+1) A) (env:Env):cX k (A.deeper env):=
 ⟨r.hd,by have:=r.dp;show A.depth+1+3*k+5 < _;omega,by have:=r.un;show A.units+3+16*k+200 < _;omega,r.gd⟩
theorem cX.depth {k:Nat} (r:cX k A):A.depth < recursionLimit:=by have:=r.dp;omega
def X6:TA:=λ_ H Q=>Q [] H
def S1 (ta:TE) (tr:TA):TA:=λσ H Q=>ta σ H λx H1=>tr σ H1 λxs H2=>Q (x::xs) H2
section
variable {t:TA}
def cC:PA X [] X6:=λ_ _ _ _ H Q I h=>CG ⟨[],H,I,.nil,h⟩
def bh (ha:PE X e te) (hr:PA X es t) (hs:ce (e::es) X.env=(false,kt e X.env)::ce es X.env:=by rfl):PA X (e::es) (S1 te t):=by
 intro pos Z s σ H Q I h;rw [hs];refine Ci (bD (ha Z s σ H _ I h) λu s1 ⟨x,H1,I1,r1,q1⟩=>?_);exact bD (hr pos Z s1 σ H1 _ I1 q1) λus s2 ⟨xs,H2,I2,r2,q2⟩=>⟨x::xs,H2,I2,.cons r1 r2,q2⟩
end
abbrev Sp:=List V->Hp->VK->XK->Prop
abbrev LH:=List Env->Hp->dL->XK->ci->dL->Prop
structure SN (P:tt) (w:wE) (K:Ab) (mg:Str->Option ci) (base:pc) (A:ss) (outer:List Env) (s:dL) (H:Hp):Prop where
 frames:A.frames=bd outer
 mod:Mod K mg base
 bs:∀b o,base.get? b=bd o->s.heap.get? b=bd o/\H b=bv
 T8:base.objs.size<=s.heap.objs.size
 rT:s.heap.FunFrames base outer
 Xj:∀b∈LC outer,H b=bv
 bG:lN P w H s.heap
 bare:GM s.gens
def CE (outer:List Env) (P:tt) (w:wE) (H:Hp) (s:dL) (Q:VK) (u:ci) (s':dL):Prop:=
 ∃v H',s'.os=s.os/\GM s'.gens/\Un (LC outer) [] H H' s.heap s'.heap/\lN P w H' s'.heap/\RelV v u/\Q v H'
def CR (CX:LH) (outer:List Env) (P:tt) (w:wE) (H:Hp) (s:dL) (Q:VK) (E:XK) (r:Result) (s':dL):Prop:=
 match r with
 | .ok (.ret u)=>CE outer P w H s Q u s'
 | .ok _=>False
 | .error e=>CX outer H s E e s'
structure gm (P:tt) (w:wE) (K:Ab) (mg:Str->Option ci) (base:pc) (CX:LH) (k:Nat) (f:db) (fd:Fk) (ps:List Str) (sp:Sp):Prop where
 len:∀vs H Q E,sp vs H Q E->vs.length=ps.length
 run:∀(A:ss) (outer:List Env) (s:dL) (H:Hp) (args:Args) (us:List ci) (vs:List V) (Q:VK) (E:XK),cX k A->SN P w K mg base A outer s H->BindsTo s fd args (ps.zip us)->Vals vs us->sp vs H Q E->
  GE (d5 P w) A (.call (.ref f) args) (CR CX outer P w H s Q E) s
def gm.imp {K:Ab}{CX:LH}{k:Nat}{f:db}{sp sp':Sp} (F:gm P w K mg base CX k f fd ps sp)
  (h:∀vs H Q E,sp' vs H Q E->sp vs H Q E):gm P w K mg base CX k f fd ps sp':=
 ⟨λvs H Q E q=>F.len vs H Q E (h _ _ _ _ q),λA outer s H args us vs Q E hr he hb hv hs=>F.run A outer s H args us vs Q E hr he hb hv (h _ _ _ _ hs)⟩
section
def Inv.adZ (I:Inv X Z σ H s):SN X.prog X.w X.K X.mg X.base X.A X.stack s H:=
 ⟨I.ok.frames,I.ok.mod,I.bs,Bk I.ok.T8 I.sz,I.stack,I.H0,I.bG,I.bare⟩
def Inv.after {Q:VK} (I:Inv X Z σ H s) (h:CE X.stack X.prog X.w H s Q u s'):EP X Z σ Q u s':=by
 obtain⟨v,H',os,bare,un,bG,r,q⟩:=h;obtain⟨hh,g,d,t,os'⟩:=s';obtain rfl:os'=s.os:=os;exact⟨v,H',I.call (h':=hh) (g':=g) (d':=d) (t':=t) (ch:=[]) un bG bare (λb z=>absurd z (by simp)),r,q⟩
end
def Binds (K:Ab) (fd:Fk) (ps:List Str) (ds:List ci):Prop:=
 ∀(s:dL) (us:List ci),K.In s.heap->(us++ds).length=ps.length->BindsTo s fd ⟨us,[]⟩ (ps.zip (us++ds))
def Binds.all {K:Ab} (h:∀us:List ci,us.length=ps.length->bindArgs fd ⟨us,[]⟩=pure (ps.zip us)):Binds K fd ps []:=λs us _ hl=>by
 rw [CY] at hl ⊢;exact .of_eq (h us hl)
def Passes (CX:LH) (X:Cx) (E:XK):Prop:=∀(Z:List (db×Obj)) (σ:St) (H:Hp) (s:dL) (e:ci) (s':dL),Inv X Z σ H s->CX X.stack H s E e s'->X.xe e s'
section
variable {CX:LH}{k:Nat}{f:db}{sp:Sp}{dvs:List V}{ds:List ci}{E:XK}
def Mg {Q:VK} (F:gm X.prog X.w X.K X.mg X.base CX k f fd ps sp) (hr:cX k X.A) (hb:Binds X.K fd ps ds) (hd:Vals dvs ds) (hx:Passes CX X E)
  (I:Inv X Z σ H s) (r:Vals vs us) (h:sp (vs++dvs) H Q E):d4 (d5 X.prog X.w) X.A (call (.ref f) us) (EP X Z σ Q) X.xe s:=by
 have r2:Vals (vs++dvs) (us++ds):=r.append hd;have hl:(us++ds).length=ps.length:=by rw [<- r2.length];exact F.len _ _ _ _ h
 refine wpAny_call (codeAny_mono (F.run X.A X.stack s H ⟨us,[]⟩ (us++ds) (vs++dvs) Q E hr I.adZ (hb s us I.tG hl) r2 h) λr s' hq=>?_);cases r with
 | error e=>exact hx Z σ H s e s' I hq
 | ok fl=>
  cases fl with
  | ret u=>exact I.after hq
  | next=>exact Bn hq
  | brk=>exact Bn hq
  | cont=>exact Bn hq
end
structure aq (N P:List Str) (sc:nn):Prop where
 kind:sc.kind=.function
 co:sc.isCoroutine=false
 gen:sc.isGenerator=false
 nd:N.Nodup
 pre:N.take P.length=P
 par:∀x∈P,sc.names.lookup x=bd .local\/sc.names.lookup x=bd .cell
 Vj:∀y∈sc.names,y.2≠.free
theorem uU {kindOf:Str->Option BT}:∀{binds:List (Str×ci)}{m:Str->Option ci},(∀v,(x,v)∉binds)->bindL kindOf binds m x=m x
 | [],_,_=>rfl
 | (n,v)::r,m,h=>by
  unfold bindL;rw [uU λw hw=>h w (AV _ hw)]
  split
  ·have:x≠n:=by rintro rfl;exact h v BA
   simp [this]
  ·rfl
theorem uW {kindOf:Str->Option BT}:∀{binds:List (Str×ci)}{m:Str->Option ci},(∀v,(x,v)∉binds)->bindC kindOf binds m x=m x
 | [],_,_=>rfl
 | (n,v)::r,m,h=>by
  unfold bindC;rw [uW λw hw=>h w (AV _ hw)]
  split
  ·rfl
  ·have:x≠n:=by rintro rfl;exact h v BA
   simp [this]
theorem uV {kindOf:Str->Option BT}:∀{P:List Str}{vs:List ci}{i:Nat}{m:Str->Option ci},P.Nodup->P[i]?=bd x->vs[i]?=bd v->kindOf x=bd .local->
  bindL kindOf (P.zip vs) m x=bd v
 | [],_,_,_,_,h,_,_=>by simp at h
 | _::_,[],_,_,_,_,h,_=>by simp at h
 | p::P,w::vs,0,m,nd,h1,h2,hk=>by
  simp at h1 h2;subst h1;subst h2;show bindL kindOf ((p,w)::P.zip vs) m p=_;unfold bindL;rw [uU λv hv=>(DH.mp nd).1 (ET hv).1,if_pos hk];simp
 | p::P,w::vs,i+1,m,nd,h1,h2,hk=>by
  show bindL kindOf ((p,w)::P.zip vs) m x=_;unfold bindL;exact uV (i:=i) (DH.mp nd).2 (by simpa using h1) (by simpa using h2) hk
theorem uX {kindOf:Str->Option BT}:∀{P:List Str}{vs:List ci}{i:Nat}{m:Str->Option ci},P.Nodup->P[i]?=bd x->vs[i]?=bd v->kindOf x≠bd .local->
  bindC kindOf (P.zip vs) m x=bd v
 | [],_,_,_,_,h,_,_=>by simp at h
 | _::_,[],_,_,_,_,h,_=>by simp at h
 | p::P,w::vs,0,m,nd,h1,h2,hk=>by
  simp at h1 h2;subst h1;subst h2;show bindC kindOf ((p,w)::P.zip vs) m p=_;unfold bindC;rw [uW λv hv=>(DH.mp nd).1 (ET hv).1,if_neg hk];simp
 | p::P,w::vs,i+1,m,nd,h1,h2,hk=>by
  show bindC kindOf ((p,w)::P.zip vs) m x=_;unfold bindC;exact uX (i:=i) (DH.mp nd).2 (by simpa using h1) (by simpa using h2) hk
def start (N:List Str) (vs:List V):St:=vs.map bd++Al (N.length-vs.length) bv
def jz (CX:LH) (P:tt) (w:wE) (K:Ab) (mg:Str->Option ci) (base:pc) (N:List Str) (qual:Str) (scope:nn) (f:db) (cd:ci) (A:ss) (outer:List Env) (s:dL) (H:Hp) (E:XK):Cx where
 prog:=P
 w:=w
 K:=K
 mg:=mg
 base:=base
 A:=A.deeper (sK qual scope s.heap.objs.size f cd)
 N:=N
 s₀:=s
 H₀:=H
 env:=sK qual scope s.heap.objs.size f cd
 outer:=outer
 stack:=sK qual scope s.heap.objs.size f cd::outer
 ex:=[]
 calm:=true
 fn:=λ_=>true
 pn:=[]
 xe:=λe s'=>d4 (d5 P w) (A.deeper (sK qual scope s.heap.objs.size f cd)) (leaving (sK qual scope s.heap.objs.size f cd) e) (λ_ Ys=>CX outer H s E e Ys) (λe' Ys=>CX outer H s E e' Ys) s'
def zv (h:sc.names.lookup x=bd .cell):∃c,(cellsFrom n sc.names []).lookup x=bd c:=by
 have q:=EA sc.names n [] (.inl h);exact Option.isSome_iff_exists.mp q
theorem Ke {CX:LH}{K:Ab}{N:List Str}{f:db}{cd:ci}{outer:List Env}{s1:dL}{E:XK}
  (S:aq N ps scope) (hd:A.handled=bv) (e0:SN P w K mg base A outer s H) (hl:vs.length=ps.length) (r:Vals vs us)
  (x:InCallC s s.heap.objs.size (bindL (sK qual scope s.heap.objs.size f cd).kindOf (ps.zip us) λ_=>bv) (cellsFrom (s.heap.objs.size+1) scope.names []) (bindC (sK qual scope s.heap.objs.size f cd).kindOf (ps.zip us) λ_=>bv) s1) :
  Inv (jz CX P w K mg base N qual scope f cd A outer s H E) [] (start N vs) H s1:=by
 have dH:ps.length<=N.length:=by have:=congrArg BU S.pre;rw [Cw] at this;omega
 obtain⟨h1,tk,rfl,hk⟩:=x.done;have Y6:∀b:db,b∉(jz CX P w K mg base N qual scope f cd A outer s H E).ex:=λb z=>absurd (show b∈([]:List db) from z) (by simp);refine⟨⟨e0.mod,S.kind,rfl,rfl,An _,λy z c h1 h2=>?_,λy hy=>?_,λy c _ h=>?_,λ_=>hd,Around.frames_deeper e0.frames,.inr ⟨rfl,rfl⟩,λb z=>absurd z (Y6 b),e0.bs,e0.T8,λb _ _=>Y6 b,λb z=>absurd z (Y6 b),e0.rT,e0.Xj⟩,
  rfl,e0.bare,Un.kept hk,⟨_,x.toInCall.ns,λi y v h1 h2 h3=>?_⟩,λy c h=>⟨_,x.cell y c h⟩,e0.bG.fresh (An _),λy c h=>?_,λp hp=>absurd (show p∈([]:List (db×Obj)) from hp) (by simp),e0.bG.kept hk,?_⟩
 ·exact name_of_addr x.apart (BR h1) (BR h2)
 ·rcases hy with hy | hy
  ·exact zv hy
  ·exact absurd rfl (S.Vj _ (BR hy))
 ·exact DT (x.above y c (BR h))
 ·have hi:i < vs.length:=by
   unfold start at h2;by_cases hi:i < vs.length
   ·exact hi
   ·rw [AE (by simpa using hi)] at h2;rw [Bx] at h2
    split at h2 <;> cases h2
  have ha:vs[i]?=bd v:=by
   unfold start at h2;rw [AD (by simpa using hi),Ag] at h2;cases e:vs[i]? with
   | none=>rw [e] at h2;cases h2
   | some a=>rw [e] at h2;cases h2;rfl
  obtain⟨u,hu,rv⟩:=r.get ha;have hp:ps[i]?=bd y:=by
   rw [<- S.pre,List.getElem?_take_of_lt ∅];exact h1
  have ndP:ps.Nodup:=by rw [<- S.pre];exact S.nd.sublist (List.take_sublist _ _)
  refine⟨u,rv,?_⟩;rcases S.par y (Br hp) with k | k
  ·exact .inl ⟨k,uV ndP hp hu k⟩
  ·obtain⟨c,e⟩:=zv (n:=s.heap.objs.size+1) k;refine .inr ⟨.inl k,c,e,?_⟩;have q:=x.cell y c e;rw [uX ndP hp hu (by show scope.names.lookup y≠_;rw [k];decide)] at q;exact q
 ·exact e0.bG.fresh (DT (x.above y c (BR h)))
 ·unfold start;show _=N.length;rw [Ae,Af,Ba];omega
def Z1 {CX:LH}{K:Ab}{k:Nat}{f:db}{name:Str}{params:Arguments}{dV kV:ci}{N:List Str}{sp:Sp} (lk:K.lookup f=bd ⟨oc,od,.func (B2 name qual params body scope dV kV È pm an cM ct),Ph⟩) (iL:DW K cM qual=true) (S:aq N ps scope)
  (len:∀vs H Q E,sp vs H Q E->vs.length=ps.length)
  (NN:∀(A:ss) (outer:List Env) (s:dL) (H:Hp) (vs:List V) (Q:VK) (E:XK),cX k (A.deeper (sK qual scope s.heap.objs.size f cM))->sp vs H Q E->
   ∃t,qC (jz CX P w K mg base N qual scope f cM A outer s H E) body t/\t {nx:=λ_ H'=>Q .aU H',rt:=Q} (start N vs) H) :
  gm P w K mg base CX (k+1) f (B2 name qual params body scope dV kV È pm an cM ct) ps sp:=by
 refine⟨len,λA outer s H args us vs Q E hr e0 hb r RC=>?_⟩;have hl:=len _ _ _ _ RC;have KX:K.In s.heap:=e0.mod.kin.keeps λb o e=>(e0.bs b o e).1;have lim:s.heap.NoLimit:=e0.mod.nolimit.keeps λb o e=>(e0.bs b o e).1;have ZE:∀y∈ps.zip us,scope.names.lookup y.1=bd .local\/(scope.names.lookup y.1=bd .cell/\((cellsFrom (s.heap.objs.size+1) scope.names []).lookup y.1).isSome=true):=λ⟨n,v⟩ hy=>by
  rcases S.par n (ET hy).1 with q | q
  ·exact .inl q
  ·exact .inr ⟨q,EA _ _ _ (.inl q)⟩
 refine codeAny_call_function hr.depth (KX _ _ lk) rfl S.co S.gen rfl (PySem.W.codeRec_of KX iL) (hb _ _ _ _ ?_);refine wpAny_newFunctionEnv_cells S.kind ZE λenv he s1 x=>?_;subst he;refine⟨lim.keeps x.toInCall.keep,codeAny_func ?_⟩;obtain⟨t,ht,hq⟩:=NN A outer s H vs Q E (hr.deeper _) RC;have I:Inv (jz CX P w K mg base N qual scope f cM A outer s H E) [] (start N vs) H s1:=Ke S hr.hd e0 hl r x;refine BP (ht [] s1 (start N vs) H _ I hq) (λfl s' hs=>?_) λe s' hs=>hs;have fin:∀{σ':St}{H':Hp}{v:V}{u:ci},Inv (jz CX P w K mg base N qual scope f cM A outer s H E) [] σ' H' s'->RelV v u->Q v H'->CE outer P w H s Q u s':=
  λ{σ' H' v u} J rv q=>⟨v,H',J.os,J.bare,J.base,J.bG,rv,q⟩
 cases fl with
 | ret u=>
  obtain⟨v,σ',H',J,rv,q⟩:=hs;exact fin J rv q
 | next=>
  obtain⟨σ',H',J,q⟩:=hs;exact fin (v:=V.aU) (u:=AW) J rfl q
 | brk=>
  obtain⟨_,_,_,q⟩:=hs;exact Bn q
 | cont=>
  obtain⟨_,_,_,q⟩:=hs;exact Bn q
end L2
variable {T:String}
namespace L2
open PySem PySem.Spec PyProof.Rows
section
variable {t:TA}{id:String}{r:List V->Hp->VK->Prop}
def tCB (r:List V->Hp->VK->Prop) (t:TA):TE:=λσ H Q=>t σ H λvs H1=>r vs H1 Q
def eP (hc:bQ X (.builtin id) r) (hg:Gl X x) (hm:X.mg x=bv) (hv:nw x=bd (.builtin id)) (ha:PA X (e::es) t) (hn:x≠"__name__":=by decide) (nA:(x==("__debug__":Str))=false:=by decide)
  (he:ce (e::es) X.env=(false,kt e X.env)::ce es X.env:=by rfl) (dH:(kw pos (ce es X.env)).any (·.1)=false:=by rfl):PE X (.Call (.Name x p) (e::es) [] pos) (tCB r t):=by
 intro Z s σ H Q I h;refine BJ (jQ I hg hm hv ?_ hn nA);exact PyProof.Rows.callWith_builtin1 (bD (ha pos Z s σ H _ I h) λus s1 ⟨vs,H1,I1,r1,q1⟩=>hc Z s1 σ H1 vs us Q I1 r1 q1) he dH
def lu (hc:bQ X (.type T) r) (hg:Gl X x) (hm:X.mg x=bv) (hv:nw x=bd (.type T)) (ha:PA X (e::es) t) (hn:x≠"__name__":=by decide) (nA:(x==("__debug__":Str))=false:=by decide)
  (he:ce (e::es) X.env=(false,kt e X.env)::ce es X.env:=by rfl) (dH:(kw pos (ce es X.env)).any (·.1)=false:=by rfl):PE X (.Call (.Name x p) (e::es) [] pos) (tCB r t):=by
 intro Z s σ H Q I h;refine BJ (jQ I hg hm hv ?_ hn nA);exact Bi (bD (ha pos Z s σ H _ I h) λus s1 ⟨vs,H1,I1,r1,q1⟩=>hc Z s1 σ H1 vs us Q I1 r1 q1) he dH
end
end L2
variable {hi:Option Int}{prog:PySem.Program}{l:BO}{items:Array A4}{ns ms:List Int}{vl vu:A4}
namespace HT
open PySem PyProof.Rows
def lexLt:List Int->List Int->Bool
 | [],[]=>false
 | [],_::_=>true
 | _::_,[]=>false
 | x::xs,y::ys=>if x=y then lexLt xs ys else decide (x < y)
theorem Gj (x y:Int) (xs ys:List Int):lexLt (x::xs) (y::ys)=if x=y then lexLt xs ys else decide (x < y):=rfl
def Oh (A:ss) (s:dL) (a:Int) (t:Tok) (c:Int) (u:Tok):∃e,Dj A s (.int a t) (.int c u) e/\(e=true↔a=c):=
 ⟨(a==c),DZ a t c u,by simp⟩
def Mk (A:ss) (s:dL) (a:Int) (t:Tok) (c:Int) (u:Tok) (prog:tt) (w:wE) (E:ci->dL->Prop) (Q:ci->dL->Prop) (h:Q (.bool (decide (a < c))) s) :
  d4 (d5 prog w) A (richCompare .Lt (.int a t) (.int c u)) Q E s:=
 (PyProof.Rows.lt_int h:d4 (d5 prog w) A (lc .Lt (.int a t) (.int c u)) Q E s)
section
open PySem.SeqAt
open PySem.AutoSeq1 (wpAny_loadPart')
open PySem.MeetsSeq PySem.MeetsSeq2 PySem.MeetsSeq3
theorem sX (l b:db) (items cq:Array ci) (n n2:Nat) (dd Sk:Option db) (sl Pg:Array (Option ci)) (ns ms:List Int) (hi:wS items.toList ns) (hj:wS cq.toList ms) :
  Meets (Da.«tuple.__lt__» ⟨[.ref l,.ref b],[]⟩)
   (λ_ R s=>s.heap.get? l=bd {cls:=.type "tuple",dict:=dd,data:=.seq items n,slots:=sl}/\s.heap.get? b=bd {cls:=.type "tuple",dict:=Sk,data:=.seq cq n2,slots:=Pg}/\
    R (.ok (.ret (.bool (lexLt ns ms)))) s):=
 .of_wp λprog w A R s h=>by
  obtain⟨hp,g,d,tk,os⟩:=s;obtain⟨hl,hb,h⟩:=h;have f2:=AutoSeq1.sub_tuple_tuple;have z1:items.size=ns.length:=by rw [<- hi.length];simp
  have z2:cq.size=ms.length:=by rw [<- hj.length];simp
  wp_walk using wpAny_loadPart' hl,wpAny_loadPart' hb,wpAny_forIn_list _ (λrest b s'=>b.1=bv/\s'=⟨hp,g,d,tk,os⟩/\∃(vs ws:List ci) (Iy W9:List Int),rest=vs.zip ws/\
   wS vs Iy/\wS ws W9/\Iy.length+cq.size=W9.length+items.size/\R (.ok (.ret (.bool (lexLt Iy W9)))) ⟨hp,g,d,tk,os⟩) _
  case turn=>
   rintro⟨y,x⟩ rest b s' ⟨ü,rfl,vs,ws,Iy,W9,hz,hvi,hwi,Á,hR⟩;cases hvi with
   | nil=>rw [List.zip_nil_left] at hz;cases hz
   | cons a t acZ=>
    cases hwi with
    | nil=>rw [List.zip_nil_right] at hz;cases hz
    | cons c u acY=>
     rw [List.zip_cons_cons] at hz;injection hz with hyx Zx;injection hyx with hy hx;subst hy hx;rw [Gj] at hR;simp only [Ao] at Á;obtain⟨e,he,ZH⟩:=Oh A.in1 ⟨hp,g,d,tk,os⟩ a t c u;refine Aa (he prog w _ _ ?_);cases e with
     | true=>
      rw [if_pos (ZH.mp rfl)] at hR
      wp_walk
      exact⟨rfl,rfl,_,_,_,_,Zx,acZ,acY,by omega,hR⟩
     | false=>
      rw [if_neg (λq=>absurd (ZH.mpr q) AU)] at hR;have hri:=Mk A.in1 ⟨hp,g,d,tk,os⟩ a t c u prog w
      wp_walk using hri
      exact⟨_,rfl,by simpa using hR⟩
  case fin=>
   rintro⟨b1,b2⟩ s' ⟨ü,rfl,vs,ws,Iy,W9,hz,hvi,hwi,Á,hR⟩;simp only at ü;subst ü;have hv:lexLt Iy W9=decide (items.size < cq.size):=by
    cases hvi with
    | nil=>
     cases hwi with
     | nil=>
      exact (decide_eq_false ∅).symm
     | cons c u hw=>
      simp only [Bf,Ao] at Á;exact (decide_eq_true ∅).symm
    | cons a t hv=>
     cases hwi with
     | nil=>
      simp only [Bf,Ao] at Á;exact (decide_eq_false ∅).symm
     | cons c u hw=>
      rw [List.zip_cons_cons] at hz;cases hz
   rw [hv] at hR
   wp_walk
   exact⟨_,rfl,by simpa [Builtin.Tuple.tupleCompareSizes] using hR⟩
  case h=>
   exact⟨rfl,rfl,items.toList,cq.toList,ns,ms,rfl,hi,hj,by omega,h⟩
end
section
def Gg {cq:Array ci} (hl:IsTup s.heap l items) (hb:IsTup s.heap b cq) (hi:wS items.toList ns) (hj:wS cq.toList ms)
  (hu:A.units < o0) (h:Q (.bool (lexLt ns ms)) s):d4 (d5 prog w) A (lc .Lt (.ref l) (.ref b)) Q E s:=by
 obtain⟨⟨cls,dd,data,sl⟩,ho,hc,n,hd⟩:=id hl;obtain⟨⟨WD,Sk,data2,Pg⟩,Kj,NM,n2,Î⟩:=id hb;simp only at hc hd NM Î;subst hc hd NM Î;exact richCompare_meets_room (op:=.Lt) ⟨_,ho,rfl⟩ ⟨_,Kj,rfl⟩ PySem.F.slot_tuple_lt PySem.F.entry_tuple_lt (PySem.F.args_tuple_lt_2 _ _) (sX l b items cq n n2 dd Sk sl Pg ns ms hi hj)
  ⟨ho,Kj,show B6 (lexLt ns ms)≠Value.notImplemented/\Q (.bool (lexLt ns ms)) s from⟨(λx=>nomatch x),h⟩⟩ hu
def Sq {t:db}{vs ws:List ci} (ht:IsTup s.heap t vs.toArray) (hb:IsTup s.heap b ws.toArray) (hv:vs≠[])
  (h1:ws=[]->Q (.ref t) s) (h2:ws≠[]->Q (.ref s.heap.objs.size) {s with heap:=s.heap.push {cls:=.type "tuple",data:=.seq (vs++ws).toArray}})
  (hsz:vs.length+ws.length<=sizeLine):d4 (d5 prog w) A (sw .Add (.ref t) (.ref b)) Q E s:=by
 obtain⟨⟨cls,dd,data,sl⟩,ho,hc,n,hd⟩:=id ht;obtain⟨⟨WD,Sk,data2,Pg⟩,Kj,NM,n2,Î⟩:=id hb;simp only at hc hd NM Î;subst hc hd NM Î;have e:vs.toArray++ws.toArray=(vs++ws).toArray:=by simp
 by_cases hw:ws=[]
 ·exact concat_meets ⟨_,ho,rfl⟩ ⟨_,Kj,rfl⟩ noFill_tuple_add seq_tuple_add C7 C4 (CT _ _)
   (tuple_addW1 t b vs.toArray ws.toArray n n2 dd Sk sl Pg (by simpa using hv) (by simp [hw])) ⟨ho,Kj,h1 hw⟩
 ·refine concat_meets ⟨_,ho,rfl⟩ ⟨_,Kj,rfl⟩ noFill_tuple_add seq_tuple_add C7 C4 (CT _ _)
   (tuple_addW2 t b vs.toArray ws.toArray n n2 dd Sk sl Pg (by simpa using hv) (by simpa using hw) (by rw [Ai,Ai];exact hsz)) ⟨ho,Kj,?_⟩
  rw [e];exact h2 hw
def d7 (n d:Nat):Option Int->Nat
 | none=>d
 | some v=>if v < 0 then (v+(n:Int)).toNat else min v.toNat n
theorem yc (n d:Nat):d7 n d bv=d:=rfl
theorem Qg (n d k:Nat):d7 n d (bd (k:Int))=min k n:=by
 show (if (k:Int) < 0 then ((k:Int)+(n:Int)).toNat else min (k:Int).toNat n)=min k n;rw [if_neg ∅,AZ]
theorem Jp (v:Int) (n d:Nat):(if v < 0 then max (v+(n:Int)) 0 else min v (n:Int))=((d7 n d (bd v):Nat):Int):=by
 show (if v < 0 then max (v+(n:Int)) 0 else min v (n:Int))=(((if v < 0 then (v+(n:Int)).toNat else min v.toNat n):Nat):Int);by_cases hv:v < 0
 ·simp only [if_pos hv];omega
 ·simp only [if_neg hv];omega
theorem Hx (lo hi:Option Int) (n:Nat):Builtin.Slice.sliceAdjust lo hi 1 (n:Int)=(((d7 n 0 lo:Nat):Int),((d7 n n hi:Nat):Int)):=by
 have h1:¬((1:Int) < 0):=by omega
 unfold Builtin.Slice.sliceAdjust;refine Prod.ext ?_ ?_
 ·cases lo with
  | none=>rfl
  | some v=>exact Jp v n 0
 ·cases hi with
  | none=>rfl
  | some v=>exact Jp v n n
theorem FU (i j:Nat):Builtin.Slice.slicePlaces (i:Int) (j:Int) 1=j-i:=by
 unfold Builtin.Slice.slicePlaces;have h1:(1:Int) > 0:=by omega
 split <;> omega
def qN {o:Option Int}{Q:Option Int->dL->Prop} (p:IsPart v o) (h:Q o s):d4 (d5 prog w) A (Builtin.Slice.slicePartIndex v) Q E s:=by
 cases p with
 | none=>exact slicePart_none h
 | int i t=>exact slicePart_int h
def i8 {sl:db}{lo:Option Int}{Q:Int×Int×Nat->dL->Prop} (hs:s.heap.IsSliceOf sl vl vu .none) (pl:IsPart vl lo) (pu:IsPart vu hi)
  (h:Q (((d7 n 0 lo:Nat):Int),1,d7 n n hi-d7 n 0 lo) s):d4 (d5 prog w) A (Builtin.Slice.sliceApplied (.ref sl) (pure (n:Int))) Q E s:=by
 obtain⟨os,Lz,Xg,RH⟩:=id hs;refine Aa (Aa (A1 Lz RH (x:=vl) rfl (Aa (A1 Lz RH (x:=vu) rfl (Aa (A1 Lz RH (x:=.none) rfl (Ah ?_)))))));refine Aa (slicePart_none ?_);refine Aa (qN pl (Aa (qN pu (Aa (Ah ?_)))));show d4 _ _ (match Builtin.Slice.sliceAdjust lo hi 1 (n:Int) with | (lo,hi)=>pure (lo,(1:Int),Builtin.Slice.slicePlaces lo hi 1)) _ _ s;rw [Hx lo hi n];show d4 _ _ (pure (((d7 n 0 lo:Nat):Int),(1:Int),Builtin.Slice.slicePlaces ((d7 n 0 lo:Nat):Int) ((d7 n n hi:Nat):Int) 1)) _ _ s;rw [FU];exact Ah h
theorem Mx (xs:Array ci) (i k:Nat):((Av k).filterMap λ(m:Nat)=>xs[((i:Int)+(m:Int)*1).toNat]?).toArray=((xs.toList.drop i).take k).toArray:=by
 have e:(λ(m:Nat)=>xs[((i:Int)+(m:Int)*1).toNat]?)=λm=>xs[i+m]?:=by
  funext m;have:((i:Int)+(m:Int)*1).toNat=i+m:=by omega
  rw [this]
 rw [e];have:=pick_run xs i k;rw [List.filterMap_map] at this;have e2:((λx=>xs[x]?)∘λx=>i+x)=λm=>xs[i+m]?:=rfl;rw [e2] at this;rw [this]
theorem nB {t sl:db}{lo:Option Int} (ht:IsTup s.heap t items) (hs:s.heap.IsSliceOf sl vl vu .none) (pl:IsPart vl lo) (pu:IsPart vu hi)
  (hw:¬(d7 items.size 0 lo=0/\d7 items.size items.size hi=items.size))
  (h:Q (.ref s.heap.objs.size) {s with heap:=s.heap.push {cls:=.type "tuple",data:=.seq ((items.toList.drop (d7 items.size 0 lo)).take (d7 items.size items.size hi-d7 items.size 0 lo)).toArray}})
  (hsz:items.size<=sizeLine):d4 (d5 prog w) A (FM (.ref t) (.ref sl)) Q E s:=by
 have IW:sizeOk (.seq ((items.toList.drop (d7 items.size 0 lo)).take (d7 items.size items.size hi-d7 items.size 0 lo)).toArray):=by
  show ((items.toList.drop (d7 items.size 0 lo)).take (d7 items.size items.size hi-d7 items.size 0 lo)).toArray.size<=sizeLine;rw [Ai,Cw,Dp,DN];omega
 obtain⟨os,Lz,Xg,RH⟩:=id hs;have Xi:s.TypeIs (.ref sl) "slice":=⟨os,Lz,Xg⟩;unfold FM
 try with_reducible refine Bc ?_
 first | refine Aa (Ah ?_) | skip
 refine Aa (Ed ht.typeIs ⋯ ?_);refine Aa (AY (name:=Cn "__getitem__") ht.typeIs Bj
  (Be Bj ht.typeIs entry_tuple_getitem ?_ (args_tuple_getitem _ _)))
 show d4 _ _ (Builtin.Tuple.tupleItemsOf (.ref t) >>= _) _ _ s;refine Aa (tupleItemsOf_ ht ?_);refine Aa (Co Xi ?_);refine Aa (i8 hs pl pu ?_);have hno:¬((((d7 items.size 0 lo:Nat):Int)==0&&(1:Int)==1&&(d7 items.size items.size hi-d7 items.size 0 lo)==items.size)=true):=by
  intro q;rw [AO,AO] at q;have q1:=eq_of_beq q.1.1;have q2:=eq_of_beq q.2;exact hw ⟨by omega,by omega⟩
 show d4 _ _ (if (((d7 items.size 0 lo:Nat):Int)==0&&(1:Int)==1&&(d7 items.size items.size hi-d7 items.size 0 lo)==items.size)=true then _ else _) _ _ s;rw [if_neg hno,Mx]
 first
  | exact Aa (m:=Builtin.Tuple.tupleExact _) (Bp (Ah ⟨_,rfl,Ah h⟩) IW)
  | exact Aa (m:=Builtin.Tuple.tupleExact _) (Bp (Aa (Ah (Ah ⟨_,rfl,Ah h⟩))) IW)
  | exact Aa (Aa (m:=Builtin.Tuple.tupleExact _) (Bp (Ah (Ah ⟨_,rfl,Ah h⟩)) IW))
  | exact Aa (Aa (m:=Builtin.Tuple.tupleExact _) (Bp (Ah ⟨_,rfl,Ah h⟩) IW))
end
end HT
variable {p2:Cu}
namespace L2
open PySem PySem.Spec PyProof.Rows
abbrev TO:=St->Hp->(Option Int->Hp->Prop)->Prop
def PO (X:Cx) (e:Option lm) (t:TO):Prop:=
 ∀(Z:List (db×Obj)) (s:dL) (σ:St) (H:Hp) (Q:Option Int->Hp->Prop),Inv X Z σ H s->t σ H Q->
  d4 (d5 X.prog X.w) X.A (evalPart e X.env) (λu s'=>∃o H',Inv X Z σ H' s'/\IsPart u o/\Q o H') X.xe s
def PZ:TO:=λ_ H Q=>Q bv H
def X4 (t:TE):TO:=λσ H Q=>t σ H λx H1=>∃i,x=.int i/\Q (bd i) H1
def intsAre_of:∀{us:List ci},Vals (ns.map V.int) us->wS us ns:=by
 induction ns with
 | nil=>intro us r;rw [EG] at r;cases r;exact .nil
 | cons n ns ih=>
  intro us r;rw [Aw] at r;cases r with
  | cons r1 r2=>
   obtain⟨t,e⟩:=r1;subst e;exact .cons n t (ih r2)
section
variable {lo hi:Option lm}{tl th:TO}
def Qy:PO X bv PZ:=by
 intro Z s σ H Q I h;exact Ah ⟨bv,H,I,.none,h⟩
def Qx (h:PE X e te):PO X (bd e) (X4 te):=by
 intro Z s σ H Q I hw;refine bD (h Z s σ H _ I hw) λu s1 ⟨x,H1,I1,r1,q1⟩=>?_;obtain⟨i,rfl,q⟩:=q1;obtain⟨t,rfl⟩:=r1;exact⟨bd i,H1,I1,.int i t,q⟩
def SlR (X:Cx) (r:V->Option Int->Option Int->Hp->VK->Prop):Prop:=
 ∀(Z:List (db×Obj)) (s:dL) (σ:St) (H:Hp) (x:V) (v vl vu:ci) (lo hi:Option Int) (sl:db) (Q:VK),Inv X Z σ H s->RelV x v->s.heap.IsSliceOf sl vl vu .none->IsPart vl lo->IsPart vu hi->r x lo hi H Q->
  ∃T id,Ge (.type T) "__getitem__"=pure (bd (.builtin id))/\s.TypeIs v T/\d4 (d5 X.prog X.w) X.A (FM v (.ref sl)) (EP X Z σ Q) X.xe s
def tSl (r:V->Option Int->Option Int->Hp->VK->Prop) (te:TE) (tl th:TO):TE:=λσ H Q=>te σ H λx H1=>tl σ H1 λl H2=>th σ H2 λu H3=>r x l u H3 Q
def MH {r:V->Option Int->Option Int->Hp->VK->Prop} (hr:SlR X r) (he:PE X e te) (hl:PO X lo tl) (hu:PO X hi th):PE X (.Subscript e (.Slice lo hi bv p2) pos) (tSl r te tl th):=by
 intro Z s σ H Q I h;refine Subscript_ (bD (he Z s σ H _ I h) λv s1 ⟨x,H1,I1,r1,q1⟩=>?_);refine wpAny_Slice (bD (hl Z s1 σ H1 _ I1 q1) λvl s2 ⟨l,H2,I2,pl,q2⟩=>bD (hu Z s2 σ H2 _ I2 q2) λvu s3 ⟨u,H3,I3,pu,q3⟩=>?_);rw [evalPart_none];refine Ah ?_;have I4:Inv X Z σ H3 {s3 with heap:=s3.heap.push {cls:=.type "slice",data:=.fields #[vl,vu,.none]}}:=I3.kept (t':=s3.toks) λb ob q=>Aj _ q;obtain⟨T,id,hT,ht,hg⟩:=hr Z {s3 with heap:=s3.heap.push {cls:=.type "slice",data:=.fields #[vl,vu,.none]}} σ H3 x v vl vu l u s3.heap.objs.size Q I4 r1 (Heap.IsSliceOf.new ..) pl pu q3;show d4 (d5 X.prog X.w) X.A (subscriptTail e (.Slice lo hi bv p2) v (.ref s3.heap.objs.size)) (EP X Z σ Q) X.xe {s3 with heap:=s3.heap.push {cls:=.type "slice",data:=.fields #[vl,vu,.none]}};exact tail_any (ops:=[.ref s3.heap.objs.size,v]) ht hT hg (by with_unfolding_all rfl)
def xf (xs:List V) (lo hi:Option Int):List V:=(xs.drop (HT.d7 xs.length 0 lo)).take (HT.d7 xs.length xs.length hi-HT.d7 xs.length 0 lo)
theorem o8 (xs:List V) (lo hi:Option Int):(xf xs lo hi).length<=xs.length:=by
 unfold xf;rw [Cw,Dp];omega
def acs (K:Ab):V->Option Int->Option Int->Hp->VK->Prop:=λx lo hi H Q=>∃a xs,x=.ref a/\d9 K H a xs/\
 ¬(HT.d7 xs.length 0 lo=0/\HT.d7 xs.length xs.length hi=xs.length)/\∀p,H p=bv->Q (.ref p) (upd H p (.tup (xf xs lo hi)))
def Uy:SlR X (acs X.K):=by
 intro Z s σ H x v vl vu lo hi sl Q I rx hs pl pu h;obtain⟨a,xs,rfl,hx,hw,q⟩:=h;cases rx;obtain⟨au,r,ht,hz⟩:=I.tuple hx;have Á:au.toArray.size=xs.length:=by rw [Ai];exact r.length.symm
 refine⟨"tuple",_,Bj.lookup,ht.typeIs,?_⟩;refine HT.nB ht hs pl pu (by rw [Á];exact hw) ?_ (by rw [Á];exact hz);rw [Á];refine⟨.ref s.heap.objs.size,_,I.laid (t':=s.toks) (o:=.tup (xf xs lo hi)) (λb ob q=>Aj _ q) (An _) ?_,rfl,q _ (I.bG.fresh (An _))⟩;exact⟨Bk (o8 xs lo hi) hz,_,(r.drop (HT.d7 xs.length 0 lo)).take (HT.d7 xs.length xs.length hi-HT.d7 xs.length 0 lo),IsTup.new _ _⟩
def S8 (K:Ab):R2:=λx y H Q=>∃a b xs ys,x=.ref a/\y=.ref b/\d9 K H a xs/\d9 K H b ys/\xs≠[]/\xs.length+ys.length<=sizeLine/\
 (ys=[]->Q (.ref a) H)/\(ys≠[]->∀p,H p=bv->Q (.ref p) (upd H p (.tup (xs++ys))))
def Vals.jN (r:Vals xs us):us=[]↔xs=[]:=by
 cases r with
 | nil=>simp
 | cons _ _=>simp
def Iv:hJ X (sw .Add) (S8 X.K):=by
 intro Z s σ H x y v u Q I rx ry h;obtain⟨a,b,xs,ys,rfl,rfl,ha,hb,hx,hz,q1,q2⟩:=h;cases rx;cases ry;obtain⟨au,r1,p1,_⟩:=I.tuple ha;obtain⟨cD,r2,p2,_⟩:=I.tuple hb;refine HT.Sq p1 p2 (λz=>hx (r1.jN.mp z)) (λz=>⟨.ref a,H,I,rfl,q1 (r2.jN.mp z)⟩) (λz=>?_) (by rw [<- r1.length,<- r2.length];exact hz);refine⟨.ref s.heap.objs.size,_,I.laid (t':=s.toks) (o:=.tup (xs++ys)) (λb ob q=>Aj _ q) (An _) ?_,rfl,q2 (λw=>z (r2.jN.mpr w)) _ (I.bG.fresh (An _))⟩;exact⟨by rw [Ae];exact hz,_,r1.append r2,IsTup.new _ _⟩
end
end L2
variable {r':L2.R2}{its':List A4}
namespace L2
open PySem PySem.Spec PyProof.Rows
def nu (n:Nat) (i:Int):Option Nat:=if 0<=i then (if i < n then bd i.toNat else bv) else if -(n:Int)<=i then bd (i+n).toNat else bv
def cn (xs:List α) (i:Int):Option α:=(nu xs.length i).bind λj=>xs[j]?
theorem wu (h:nu n i=bd j):seqIndex? i n=bd j/\j < n/\-(n:Int)<=i/\i < n:=by
 unfold nu at h;by_cases h0:0<=i
 ·rw [if_pos h0] at h;by_cases h1:i < n
  ·rw [if_pos h1] at h;have e:=Option.some.inj h;exact⟨by rw [seqIndex_of h0 h1,e],by omega,by omega,h1⟩
  ·rw [if_neg h1] at h;cases h
 ·rw [if_neg h0] at h;by_cases h1:-(n:Int)<=i
  ·rw [if_pos h1] at h;have e:=Option.some.inj h;exact⟨by rw [seqIndex_neg ∅ h1,e],by omega,h1,by omega⟩
  ·rw [if_neg h1] at h;cases h
def xk {xs:List α}{v:α} (h:cn xs i=bd v):∃j,seqIndex? i xs.length=bd j/\xs[j]?=bd v/\j < xs.length/\-(xs.length:Int)<=i/\i < xs.length:=by
 unfold cn at h;cases e:nu xs.length i with
 | none=>rw [e] at h;cases h
 | some j=>
  rw [e] at h;obtain⟨h1,h2,h3,h4⟩:=wu e;exact⟨j,h1,h,h2,h3,h4⟩
theorem bC {xs:List α}{v:α} (h:xs[j]?=bd v):cn xs (j:Int)=bd v:=by
 have hj:=(Ak.mp h).1;have e:nu xs.length (j:Int)=bd j:=by
  unfold nu;rw [if_pos ∅,if_pos ∅];simp
 unfold cn;rw [e];exact h
theorem OZ (xs:List α) (v:α):cn (xs++[v]) (-1)=bd v:=by
 have hl:(xs++[v]).length=xs.length+1:=by simp
 have e:nu (xs++[v]).length (-1)=bd xs.length:=by
  unfold nu;rw [hl,if_neg ⋯,if_pos ∅];congr 1;omega
 unfold cn;rw [e];simp
def qB (b:lm):Prop:=∀o i,subscripted b false o i=operate [o,i] (FM o i)
def Pn (X:Cx) (r:R2):Prop:=
 ∀(value Ç:lm) (Z:List (db×Obj)) (s:dL) (σ:St) (H:Hp) (x y:V) (v u:ci) (Q:VK),Inv X Z σ H s->RelV x v->RelV y u->r x y H Q->
  subscripted Ç false v u=operate [v,u] (FM v u)->d4 (d5 X.prog X.w) X.A (subscriptTail value Ç v u) (EP X Z σ Q) X.xe s
def MtR (X:Cx) (id:String) (r:V->List V->Hp->VK->Prop):Prop:=
 ∀(Z:List (db×Obj)) (s:dL) (σ:St) (H:Hp) (x:V) (xs:List V) (v:ci) (us:List ci) (Q:VK),Inv X Z σ H s->RelV x v->Vals xs us->r x xs H Q->
  d4 (d5 X.prog X.w) X.A (call (.builtin id) (v::us)) (EP X Z σ Q) X.xe s
section
variable {X:Cx}{a b:lm}{ta tb:TE}{pos:Pos}
def Pn.or {r:R2} (h:Pn X r) (h':Pn X r'):Pn X (λx y H Q=>r x y H Q\/r' x y H Q):=by
 intro value Ç Z s σ H x y v u Q I rx ry q hs;rcases q with q | q
 ·exact h value Ç Z s σ H x y v u Q I rx ry q hs
 ·exact h' value Ç Z s σ H x y v u Q I rx ry q hs
def MJ {r:R2} (hr:Pn X r) (ha:PE X a ta) (hb:PE X b tb) (hs:qB b):PE X (.Subscript a b pos) (S0 r ta tb):=by
 intro Z s σ H Q I h;exact Subscript_ (WH ha hb I h λv u s2 x y H2 I2 rx ry q=>hr a b Z s2 σ H2 x y v u Q I2 rx ry q (hs _ _))
def YA (K:Ab):R2:=λx y H Q=>∃p xs i v,x=.ref p/\y=.int i/\cU K H p xs/\cn xs i=bd v/\Q v H
def Yz (K:Ab):R2:=λx y H Q=>∃p xs i v,x=.ref p/\y=.int i/\d9 K H p xs/\cn xs i=bd v/\Q v H
def UM:R2:=λx y H Q=>∃z i c,x=.str z/\y=.int i/\z.length<=sizeLine/\cn z.cps.toList i=bd c/\Q (.str ⟨#[c]⟩) H
theorem Ro:Pn X (YA X.K):=by
 intro value Ç Z s σ H x y v u Q I rx ry h hs;obtain⟨p,xs,i,z,rfl,rfl,hq,he,q⟩:=h;cases rx;obtain⟨t,rfl⟩:=ry;obtain⟨au,r,pl,hz⟩:=I.list hq;obtain⟨j,h1,h2,h3,h4,h5⟩:=xk he;obtain⟨w,ew,iK⟩:=r.get h2;have hl:=r.length;have hn:=vZ;have fin:EP X Z σ Q w s:=⟨z,H,I,iK,q⟩;by_cases h0:0<=i
 ·have hj:i.toNat=j:=by
   rw [seqIndex_of h0 h5] at h1;exact Option.some.inj h1
  exact item_listR pl.isList h0 ∅ (by rw [hj];simpa using ew) fin hs
 ·have hj:(i+(au.toArray.size:Int)).toNat=j:=by
   rw [seqIndex_neg ∅ h4] at h1;rw [Ai,<- hl];exact Option.some.inj h1
  exact subscriptTail_builtinR (x:=w) pl.isList.typeIs slot_list_getitem.lookup
   (wpAny_getItem_list_neg (Q:=λr s'=>r=w/\EP X Z σ Q r s') pl.isList ∅ (by rw [Ai] <;> omega) ∅ (by rw [hj];simpa using ew) ⟨rfl,fin⟩) hs
theorem VP:Pn X (Yz X.K):=by
 intro value Ç Z s σ H x y v u Q I rx ry h hs;obtain⟨p,xs,i,z,rfl,rfl,hq,he,q⟩:=h;cases rx;obtain⟨t,rfl⟩:=ry;obtain⟨au,r,pl,hz⟩:=I.tuple hq;obtain⟨j,h1,h2,h3,h4,h5⟩:=xk he;obtain⟨w,ew,iK⟩:=r.get h2;have hl:=r.length;have hn:=vZ;have fin:EP X Z σ Q w s:=⟨z,H,I,iK,q⟩;exact subscriptTail_builtinR (x:=w) pl.typeIs slot_tuple_getitem.lookup
  (getItem_tuple (j:=j) (Q:=λr s'=>r=w/\EP X Z σ Q r s') pl ∅ ∅ (by rw [Ai,<- hl];exact h1) (by simpa using ew) ⟨rfl,fin⟩) hs
theorem Nt:Pn X UM:=by
 intro value Ç Z s σ H x y v u Q I rx ry h hs;obtain⟨z,i,c,rfl,rfl,hz,he,q⟩:=h;obtain⟨t,rfl⟩:=rx;obtain⟨t',rfl⟩:=ry;obtain⟨j,h1,h2,h3,h4,h5⟩:=xk he;have hl:z.cps.toList.length=z.length:=by simp [Str.length]
 rw [hl] at h1 h4 h5;have hn:=vZ;exact tail_any (typeIs_str s z t) slot_str_getitem.lookup (getItem_str (c:=c) (by
  have e1:decide (i < -(2 ^ 63:Int))=false:=decide_eq_false ∅;have e2:decide (i≥2 ^ 63)=false:=decide_eq_false ∅;rw [e1,e2,Bool.or_false]) (by rw [h1];simpa using h2) ⟨.str ⟨#[c]⟩,H,I.tok _,⟨_,rfl⟩,q⟩) hs
def rIx (K:Ab):R2:=λx y H Q=>YA K x y H Q\/Yz K x y H Q\/UM x y H Q
def VQ:Pn X (rIx X.K):=Ro.or (VP.or Nt)
def Gd (au:List ci) (n j:Nat) (u:ci):Bl (·.setIfInBounds j u) {cls:=.type "list",data:=.seq au.toArray n}={cls:=.type "list",data:=.seq (au.set j u).toArray n}:=by
 simp [Bl]
def Inv.lst {Z:List (db×Obj)}{σ:St}{H:Hp}{s:dL}{p:db}{xs:List V} (I:Inv X Z σ H s) (h:H p=bd (.lst xs)) :
  ∃(au:List ci) (n:Nat),Vals xs au/\s.heap.get? p=bd {cls:=.type "list",data:=.seq au.toArray n}/\xs.length<=sizeLine:=by
 obtain⟨z,au,n,r,e⟩:=I.bG p _ h;exact⟨au,n,r,e,z⟩
def Inv.Vr {p:db}{n':Nat}{f:Obj->Obj} (I:Inv X Z σ H s) (h:H p=bd (.lst xs))
  (ho:s.heap.get? p=bd {cls:=.type "list",data:=.seq au.toArray n}) (hf:f {cls:=.type "list",data:=.seq au.toArray n}={cls:=.type "list",data:=.seq its'.toArray n'}) (r:Vals ys its') (hz:ys.length<=sizeLine) (t:Nat) :
  Inv X Z σ (upd H p (.lst ys)) {s with heap:=s.heap.update p f,toks:=t}:=by
 have e:(s.heap.update p f).get? p=bd {cls:=.type "list",data:=.seq its'.toArray n'}:=by
  rw [CD f ho (by rw [hf] <;> rfl),hf]
 refine I.write (x:=p) (e:=p) (by rw [h];trivial) (.inl rfl) (λb u hb q=>(C6 _ _ (BE hb)).trans q) ⟨_,e⟩ ?_;exact⟨hz,its',n',r,e⟩
def Yx:V->V->V->Hp->(Hp->Prop)->Prop:=λo i v H Q=>∃p xs k j,o=.ref p/\i=.int k/\H p=bd (.lst xs)/\nu xs.length k=bd j/\Q (upd H p (.lst (xs.set j v)))
theorem set_list:HK X Yx:=by
 intro Z s σ H o i v ov iv u Q I ro ri rv h;obtain⟨p,xs,k,j,rfl,rfl,hp,hj,q⟩:=h;cases ro;obtain⟨t,rfl⟩:=ri;obtain⟨au,n,r,ho,hz⟩:=I.lst hp;obtain⟨h1,h2,h3,h4⟩:=wu hj;have hl:=r.length;have hn:=vZ;have I':Inv X Z σ (upd H p (.lst (xs.set j v))) {s with heap:=s.heap.update p (Bl (·.setIfInBounds j u))}:=
  I.Vr hp ho (Gd au n j u) (r.set rv j) (by rw [BS];exact hz) s.toks
 by_cases h0:0<=k
 ·have hk:k.toNat=j:=by
   rw [seqIndex_of h0 h4] at h1;exact Option.some.inj h1
  exact PySem.W.ki_setAt ho h0 ∅ (by rw [Ai,<- hl];exact h4) (by rw [hk];exact⟨_,I',q⟩)
 ·have hk:(k+(au.toArray.size:Int)).toNat=j:=by
   rw [seqIndex_neg ∅ h3] at h1;rw [Ai,<- hl];exact Option.some.inj h1
  exact PySem.W.ki_setBack ho ∅ (by rw [Ai,<- hl];exact h3) ∅ (by rw [hk];exact⟨_,I',q⟩)
theorem vD (lo hi:Option Int) (n:Nat):(wf lo hi bv n).1=((HT.d7 n 0 lo:Nat):Int)/\(wf lo hi bv n).2.1=((HT.d7 n n hi:Nat):Int)/\(wf lo hi bv n).2.2=1:=by
 refine⟨?_,?_,rfl⟩
 ·cases lo with
  | none=>simp [wf,HT.d7]
  | some i=>
   simp only [wf,HT.d7,Er,show (1:Int) > 0 by decide,if_true];by_cases h:i < 0
   ·simp only [h,if_true] <;> omega
   ·simp only [h,if_false] <;> omega
 ·cases hi with
  | none=>simp [wf,HT.d7]
  | some i=>
   simp only [wf,HT.d7,Er,show (1:Int) > 0 by decide,if_true];by_cases h:i < 0
   ·simp only [h,if_true] <;> omega
   ·simp only [h,if_false] <;> omega
def tj (au:List ci) (lo hi:Option Int):slicePick au.toArray lo hi bv=((au.drop (HT.d7 au.length 0 lo)).take (HT.d7 au.length au.length hi-HT.d7 au.length 0 lo)).toArray:=by
 obtain⟨h1,h2,h3⟩:=vD lo hi au.toArray.size;unfold slicePick;rw [h1,h2,h3];simp only [sliceRange_one,pick_run,Ai] <;> rfl
def acu (K:Ab):V->Option Int->Option Int->Hp->VK->Prop:=λx lo hi H Q=>∃a xs,x=.ref a/\cU K H a xs/\∀p,H p=bv->Q (.ref p) (upd H p (.lst (xf xs lo hi)))
theorem aaO:SlR X (acu X.K):=by
 intro Z s σ H x v vl vu lo hi sl Q I rx hs pl pu h;obtain⟨a,xs,rfl,hx,q⟩:=h;cases rx;obtain⟨au,r,ht,hz⟩:=I.list hx;have Á:=r.length;refine⟨"list",_,slot_list_getitem.lookup,ht.isList.typeIs,?_⟩;refine wpAny_getItem_list_slice ht.isList hs pl pu .none (by simp) ?_ (by rw [Ai] <;> omega);rw [tj,<- Á];refine⟨.ref s.heap.objs.size,_,I.laid (t':=s.toks) (o:=.lst (xf xs lo hi)) (λb ob q=>Aj _ q) (An _) ?_,rfl,q _ (I.bG.fresh (An _))⟩;exact⟨Bk (o8 xs lo hi) hz,_,0,(r.drop (HT.d7 xs.length 0 lo)).take (HT.d7 xs.length xs.length hi-HT.d7 xs.length 0 lo),Aq _ rfl⟩
theorem xh:bQ X (.type "list") (λxs H Q=>∃p ys,xs=[.ref p]/\(cU X.K H p ys\/d9 X.K H p ys)/\∀l,H l=bv->Q (.ref l) (upd H l (.lst ys))):=by
 intro Z s σ H xs us Q I r h;obtain⟨p,ys,rfl,hq,q⟩:=h;obtain⟨u,rfl,rx⟩:=vals1 r;cases rx;have fin:∀(au:List ci),Vals ys au->ys.length<=sizeLine->∀(h':pc) (c':Nat),(∀b o',s.heap.get? b=bd o'->h'.get? b=bd o')->
   h'.get? s.heap.objs.size=bd {cls:=.type "list",dict:=bv,data:=.seq au.toArray c',slots:=#[]}->EP X Z σ Q (.ref s.heap.objs.size) {s with heap:=h'}:=λau r' hz h' c' kp e=>
  ⟨.ref s.heap.objs.size,_,I.laid (t':=s.toks) kp (An _) (show bq X.prog X.w _ h' _ (.lst ys) from⟨hz,au,c',r',e⟩),rfl,q _ (I.bG.fresh (An _))⟩
 rcases hq with hq | hq
 ·obtain⟨au,r',pl,hz⟩:=I.list hq;have Á:=r'.length;obtain⟨o,ho,hc,n,hd⟩:=pl.isList;exact call_list_seq p (.inl rfl) ho hc hd (λh' c' kp e=>fin au r' hz h' c' kp e) (by simp only [Ai] <;> omega)
 ·obtain⟨au,r',pl,hz⟩:=I.tuple hq;have Á:=r'.length;obtain⟨o,ho,hc,n,hd⟩:=pl;exact call_list_seq p (.inr rfl) ho hc hd (λh' c' kp e=>fin au r' hz h' c' kp e) (by simp only [Ai] <;> omega)
theorem tY:bQ X (.type "tuple") (λxs H Q=>∃p ys,xs=[.ref p]/\((cU X.K H p ys/\∀l,H l=bv->Q (.ref l) (upd H l (.tup ys)))\/(d9 X.K H p ys/\Q (.ref p) H))):=by
 intro Z s σ H xs us Q I r h;obtain⟨p,ys,rfl,h⟩:=h;obtain⟨u,rfl,rx⟩:=vals1 r;cases rx;rcases h with⟨hq,q⟩ | ⟨hq,q⟩
 ·obtain⟨au,r',pl,hz⟩:=I.list hq;have Á:=r'.length;refine call_tuple_list pl.isList (λh' kp=>?_) (by simp only [Ai] <;> omega);have I1:Inv X Z σ H {s with heap:=h'}:=I.kept (t':=s.toks) kp;have I2:Inv X Z σ (upd H h'.objs.size (.tup ys)) {s with heap:=h'.push {cls:=.type "tuple",data:=.seq au.toArray}}:=
   I1.laid (t':=s.toks) (λb o e=>Aj _ e) (An _) (show bq X.prog X.w _ _ _ (.tup ys) from⟨hz,au,r',IsTup.new _ _⟩)
  exact⟨.ref h'.objs.size,_,I2,rfl,q _ (I1.bG.fresh (An _))⟩
 ·obtain⟨au,r',pl,hz⟩:=I.tuple hq;exact call_tuple_same pl ⟨.ref p,H,I,rfl,q⟩
def tyV (K:Ab) (T:String) (x:V) (H:Hp):Prop:=match x with
 | .str _=>T="str"
 | .int _=>T="int"
 | .ref p=>(T="list"/\∃xs,cU K H p xs)\/(T="tuple"/\∃o,K.lookup p=bd o/\o.cls=.type "tuple"/\o.dict=bv)\/
   (T="dict"/\((∃kvs,H p=bd (.dK kvs))\/∃kvs,H p=bd (.dT kvs)))\/(T="set"/\∃S n,H p=bd (.set S n))
 | _=>False
def LQ {x:V} (I:Inv X Z σ H s) (r:RelV x v) (ty:tyV X.K T x H) :
  s.TypeIs v T/\∀a,v=.ref a->∃ob,s.heap.get? a=bd ob/\ob.dict=bv:=by
 cases x with
 | str z=>
  obtain⟨t,rfl⟩:=r;cases (show T="str" from ty);exact⟨typeIs_str s z t,λ_ e=>nomatch e⟩
 | int i=>
  obtain⟨t,rfl⟩:=r;cases (show T="int" from ty);exact⟨typeIs_int s i t,λ_ e=>nomatch e⟩
 | ref p=>
  cases r;rcases ty with⟨rfl,xs,hq⟩ | ⟨rfl,o,hk,hc,hd⟩ | ⟨rfl,hk⟩ | ⟨rfl,S,n,hk⟩
  ·obtain⟨au,_,pl,_⟩:=I.list hq;refine⟨pl.isList.typeIs,λa e=>?_⟩;cases e;obtain⟨o,n,e,c,hd,_⟩:=pl;exact⟨o,e,hd⟩
  ·refine⟨⟨o,I.tG p o hk,hc⟩,λa e=>?_⟩;cases e;exact⟨o,I.tG _ o hk,hd⟩
  ·have z:∃o,s.heap.get? p=bd o/\o.ExactDict:=by
    rcases hk with⟨kvs,hk⟩ | ⟨kvs,hk⟩
    ·obtain⟨_,_,_,_,o,_,_,e,ex,_⟩:=I.bG p _ hk;exact⟨o,e,ex⟩
    ·obtain⟨_,_,_,_,o,_,_,e,ex,_⟩:=I.bG p _ hk;exact⟨o,e,ex⟩
   obtain⟨o,e,ex⟩:=z;refine⟨⟨o,e,ex.1⟩,λa e2=>?_⟩;cases e2;exact⟨o,e,ex.2.1⟩
  ·obtain⟨o,_,_,_,e,ex,_⟩:=I.bG p _ hk;refine⟨⟨o,e,ex.1⟩,λa e2=>?_⟩;cases e2;exact⟨o,e,ex.2.1⟩
 | _=>exact Bn ty
def Yd (K:Ab) (T:String) (r:V->List V->Hp->VK->Prop) (to:TE):TE:=λσ H Q=>to σ H λx H1=>tyV K T x H1/\r x [] H1 Q
def tBM (K:Ab) (T:String) (r:V->List V->Hp->VK->Prop) (to:TE) (t:TA):TE:=λσ H Q=>to σ H λx H1=>tyV K T x H1/\t σ H1 λxs H2=>r x xs H2 Q
variable {o e:lm}{es:List lm}{to:TE}{t:TA}{name:Str}{Â bt:Pos}{T id:String}{r:V->List V->Hp->VK->Prop}
def U4 (pa:PlainAttrs T) (slot:Slot T name id) (IV:typeOf (.builtin id)=pure (.type "method_descriptor")) (hm:MtR X id r) (ho:PE X o to)
  (dZ:py o name X.env (kt o X.env)=kt o X.env:=by rfl) (dY:(Â.endLine==bt.line)=true:=by rfl):PE X (.Call (.Attribute o name Â) [] [] bt) (Yd X.K T r to):=by
 intro Z s σ H Q I h;refine wpAny_Call_method0_late dZ dY (bD (ho Z s σ H _ I h) λv s1 ⟨x,H1,I1,r1,ty,q1⟩=>?_);obtain⟨h1,h2⟩:=LQ I1 r1 ty;exact⟨T,id,pa,slot,IV,h1,h2,EC rfl (PySem.evalArgs_none (hm Z s1 σ H1 x [] v [] Q I1 r1 .nil q1))⟩
def YR (pa:PlainAttrs T) (slot:Slot T name id) (IV:typeOf (.builtin id)=pure (.type "method_descriptor")) (hm:MtR X id r) (ho:PE X o to) (ha:PA X (e::es) t)
  (dZ:py o name X.env (kt o X.env)=kt o X.env:=by rfl)
  (mw:((kw bt (ce (e::es) X.env)).all (λx=>!x.1)&&(Fa bt (wv [] X.env)).all (λx=>x.1.isSome)
   && decide ((e::es).length+([]:List tz).length+(if ([]:List tz).isEmpty then 0 else 1) < 30))=true:=by rfl)
  (dY:(Â.endLine==bt.line)=true:=by rfl) (hs:ce (e::es) X.env=(false,kt e X.env)::ce es X.env:=by rfl) (eB:(kw bt (ce es X.env)).any (·.1)=false:=by rfl) :
  PE X (.Call (.Attribute o name Â) (e::es) [] bt) (tBM X.K T r to t):=by
 intro Z s σ H Q I h;refine wpAny_Call_method_late dZ mw dY rfl (bD (ho Z s σ H _ I h) λv s1 ⟨x,H1,I1,r1,ty,q1⟩=>?_);obtain⟨h1,h2⟩:=LQ I1 r1 ty;refine⟨T,id,pa,slot,IV,h1,h2,?_⟩;have hA:=ha bt Z s1 σ H1 _ I1 q1;rw [hs] at hA ⊢;refine EC (by show (false||(kw bt (ce es X.env)).any (·.1))=false;rw [eB] <;> rfl) (Calls.evalArgs_plain ?_);exact bD hA λus s2 ⟨vs,H2,I2,r2,q2⟩=>hm Z s2 σ H2 x vs v us Q I2 r1 r2 q2
end
def Ju (X:Cx) (id:String) (r:V->List V->Hp->VK->Prop):Prop:=
 ∀(Z:List (db×Obj)) (s:dL) (σ:St) (H:Hp) (x:V) (xs:List V) (v:ci) (us:List ci) (Q:VK),Inv X Z σ H s->RelV x v->Vals xs us->r x xs H Q->
  d4 (d5 X.prog X.w) X.A (call (.builtin id) (v::us)) (EP X Z σ Q) X.xe s
def Vals.one:∀{x:V}{us:List ci},Vals [x] us->∃u,us=[u]/\RelV x u
 | _,_,.cons r .nil=>⟨_,rfl,r⟩
def Vals.zero:∀{us:List ci},Vals [] us->us=[]
 | _,.nil=>rfl
def Vals.dropLast (h:Vals xs us):Vals xs.dropLast us.dropLast:=by
 induction h with
 | nil=>exact .nil
 | cons r t ih=>
  cases t with
  | nil=>exact .nil
  | cons q t'=>exact .cons r ih
theorem Vals.rep (h:Vals xs us):∀k:Nat,Vals (Al k xs).flatten (Al k us).flatten
 | 0=>.nil
 | k+1=>by
  rw [Bu,Bu,B5,B5];exact Vals.append h (Vals.rep h k)
theorem GZ (l:List α):l.eraseIdx (l.length-1)=l.dropLast:=by
 induction l with
 | nil=>rfl
 | cons a r ih=>
  cases r with
  | nil=>rfl
  | cons b r=>
   have e:(a::b::r).length-1=((b::r).length-1)+1:=by
    have h1:(a::b::r).length=r.length+2:=rfl;have h2:(b::r).length=r.length+1:=rfl;omega
   rw [e,List.eraseIdx_cons_succ,ih]
   all_goals rfl
theorem foldl_rep (au:List ci):∀(k:Nat) (Å:List ci),
  List.foldl (λx1 x2=>x1++x2) Å.toArray (Al k au.toArray)=(Å++(Al k au).flatten).toArray
 | 0,Å=>by simp
 | k+1,Å=>by
  have e:Å.toArray++au.toArray=(Å++au).toArray:=by simp
  have e2:(Å++au)++(Al k au).flatten=Å++(Al (k+1) au).flatten:=by
   rw [Bu,B5,A9]
  rw [<- e2,<- foldl_rep au k (Å++au),<- e,Bu,List.foldl_cons]
section
def Inv.Gh {f:Array ci->Array ci}{t':Nat} (I:Inv X Z σ H s) (hH:H l=bd (.lst xs))
  (e:s.heap.get? l=bd {cls:=.type "list",data:=.seq au.toArray n}) (hf:f au.toArray=its'.toArray) (hv:Vals ys its') (hz:ys.length<=sizeLine) :
  Inv X Z σ (upd H l (.lst ys)) {s with heap:=s.heap.update l (Bl f),toks:=t'}:=by
 have q:=PySem.IsL.update e f;rw [hf] at q;refine I.write (x:=l) (e:=l) (by rw [hH];exact trivial) (.inl rfl) (λb' u hb hu=>(C6 s.heap (Bl f) (BE hb)).trans hu) ⟨_,q⟩ ?_;exact⟨hz,its',_,hv,q⟩
def Inv.Vt {t':Nat} (I:Inv X Z σ H s) (hv:Vals ys au) (hz:ys.length<=sizeLine) :
  Inv X Z σ (upd H s.heap.objs.size (.lst ys)) {s with heap:=s.heap.push {cls:=.type "list",data:=.seq au.toArray},toks:=t'}:=
 I.laid (λ_ _ q=>Aj _ q) (An _) ⟨hz,au,0,hv,Aq _ rfl⟩
def Inv.fresh (I:Inv X Z σ H s):H s.heap.objs.size=bv:=I.bG.fresh (An _)
def Inv.oy (I:Inv X Z σ H s) (hH:H l=bd (.lst xs)):xs.length<=sizeLine/\∃(au:List ci) (n:Nat),Vals xs au/\xs.length=au.length/\s.heap.get? l=bd {cls:=.type "list",data:=.seq au.toArray n}:=by
 obtain⟨z,au,n,r,e⟩:=I.bG l _ hH;exact⟨z,au,n,r,r.length,e⟩
theorem jd (h:n<=sizeLine):Builtin.List.listTooLong n=false:=by
 exact decide_eq_false ∅
end
section
def Qr:V->List V->Hp->VK->Prop:=λx vs H Q=>∃l xs y,x=.ref l/\vs=[y]/\H l=bd (.lst xs)/\xs.length < sizeLine/\Q .aU (upd H l (.lst (xs++[y])))
theorem J0:Ju X "list.append" Qr:=by
 intro Z s σ H x vs v us Q I rx rv h;obtain⟨l,xs,y,rfl,rfl,hH,hz,q⟩:=h;cases rx;obtain⟨u,rfl,ru⟩:=rv.one;obtain⟨z,au,n,r,hl,e⟩:=I.oy hH;refine u8 F.slot_list_append ⟨_,e,rfl⟩ F.entry_list_append (F.args_list_append_2 _ _) (PySem.list_append l au.toArray n u (by rw [Ai];omega)) ⟨e,?_⟩;refine⟨.aU,_,I.Gh (its':=au++[u]) hH e (by simp) (r.append (.cons ru .nil)) ?_,rfl,q⟩;rw [Ae,EZ];omega
def Qp:V->List V->Hp->VK->Prop:=λx vs H Q=>∃l b xs zs,x=.ref l/\vs=[.ref b]/\H l=bd (.lst xs)/\H b=bd (.lst zs)/\xs.length+zs.length<=sizeLine/\Q .aU (upd H l (.lst (xs++zs)))
theorem W8:Ju X "list.extend" Qp:=by
 intro Z s σ H x vs v us Q I rx rv h;obtain⟨l,b,xs,zs,rfl,rfl,hH,hB,hz,q⟩:=h;cases rx;obtain⟨u,rfl,ru⟩:=rv.one;cases ru;obtain⟨z,au,n,r,hl,e⟩:=I.oy hH;obtain⟨z2,cD,n2,r2,Kk,e2⟩:=I.oy hB;have hsz:au.toArray.size+cD.toArray.size<=sizeLine:=by rw [Ai,Ai];omega
 have rP:¬(!au.toArray.isEmpty&&Builtin.List.listTooLong (au.toArray.size+cD.toArray.size))=true:=by
  rw [jd hsz,D7];exact AU
 refine u8 D1 ⟨_,e,rfl⟩ DK (Dr _ _)
  (AutoSeq1.list_extend_list_list_0 l au.toArray n b cD.toArray n2 rP (by rw [Ai];omega) ∅) ⟨e,e2,?_⟩
 refine⟨.aU,_,I.Gh (its':=au++cD) hH e (by simp) (r.append r2) ?_,rfl,q⟩;rw [Ae];omega
def acw:V->List V->Hp->VK->Prop:=λx vs H Q=>∃l xs y,x=.ref l/\vs=[]/\H l=bd (.lst xs)/\xs[xs.length-1]?=bd y/\Q y (upd H l (.lst xs.dropLast))
theorem Vo:Ju X "list.pop" acw:=by
 intro Z s σ H x vs v us Q I rx rv h;obtain⟨l,xs,y,rfl,rfl,hH,hy,q⟩:=h;cases rx;have hus:=rv.zero;subst hus;obtain⟨z,au,n,r,hl,e⟩:=I.oy hH;obtain⟨u,hu,ru⟩:=r.get hy;have Rz:au.toArray[au.toArray.size-1]?=bd u:=by
  show au.toArray[au.length-1]?=bd u;rw [<- E2,<- hl];exact hu
 refine u8 F.slot_list_pop ⟨_,e,rfl⟩ F.entry_list_pop (F.args_list_pop_1 _) (MeetsSeq.list_pop_last l au.toArray n u Rz (by rw [Ai];omega)) ⟨e,?_⟩;refine⟨y,_,I.Gh (its':=au.dropLast) hH e ?_ r.dropLast ?_,ru,q⟩
 ·rw [Ai,List.eraseIdxIfInBounds_toArray,GZ]
 ·rw [List.length_dropLast];omega
def acx:R2:=λx y H Q=>∃l b xs zs,x=.ref l/\y=.ref b/\H l=bd (.lst xs)/\H b=bd (.lst zs)/\xs.length+zs.length<=sizeLine/\∀p,H p=bv->Q (.ref p) (upd H p (.lst (xs++zs)))
theorem Vf:hJ X (sw .Add) acx:=by
 intro Z s σ H x y v u Q I rx ry h;obtain⟨l,b,xs,zs,rfl,rfl,hH,hB,hz,q⟩:=h;cases rx;cases ry;obtain⟨z,au,n,r,hl,e⟩:=I.oy hH;obtain⟨z2,cD,n2,r2,Kk,e2⟩:=I.oy hB;refine PySem.P.add_list e e2 ?_ (by rw [Ai,Ai];omega);have ea:au.toArray++cD.toArray=(au++cD).toArray:=by simp
 rw [ea];exact⟨.ref _,_,I.Vt (t':=s.toks) (r.append r2) (by rw [Ae];omega),rfl,q _ I.fresh⟩
def acv:R2:=λx y H Q=>∃l k xs,x=.ref l/\y=.int k/\H l=bd (.lst xs)/\-(2 ^ 63)<=k/\k < 2 ^ 63/\xs.length*k.toNat<=sizeLine/\
 ∀p,H p=bv->Q (.ref p) (upd H p (.lst (Al k.toNat xs).flatten))
def len_rep (xs:List α) (k:Nat):(Al k xs).flatten.length=k*xs.length:=by
 induction k with
 | zero=>simp
 | succ k ih=>rw [Bu,B5,Ae,ih,Fu,Nat.add_comm]
theorem U8:hJ X (sw .Mult) acv:=by
 intro Z s σ H x y v u Q I rx ry h;obtain⟨l,k,xs,rfl,rfl,hH,h1,h2,hz,q⟩:=h;cases rx;obtain⟨t,rfl⟩:=ry;obtain⟨z,au,n,r,hl,e⟩:=I.oy hH;have Á:au.toArray.size*k.toNat<=sizeLine:=by rw [Ai,<- hl];exact hz
 have adz:¬au.toArray.size*k.toNat > (2 ^ 63-1) / 8:=by
  have:(sizeLine:Nat)<=(2 ^ 63-1) / 8:=by decide
  omega
 have adt:¬(!Builtin.List.listFitsIndex k)=true:=by
  rw [fitsIndex_both h1 h2];exact AU
 have rP:¬Builtin.List.listTooLong (au.toArray.size*k.toNat)=true:=by
  rw [jd Á];exact AU
 have RG:List.foldl (λx1 x2=>x1++x2) #[] (Al (if au.toArray.isEmpty=true then 0 else k.toNat) au.toArray)=(Al k.toNat au).flatten.toArray:=by
  have f0:∀m:Nat,List.foldl (λx1 x2=>x1++x2) #[] (Al m au.toArray)=(Al m au).flatten.toArray:=λm=>by
   have:=foldl_rep au m [];exact this
  rw [f0];cases au with
  | nil=>simp
  | cons a r'=>rw [if_neg (by simp)]
 refine wpAny_binaryOp_repeat_ref (T:="list") (U:="int") ⋯ ⟨_,e,rfl⟩ (λs'=>typeIs_int s' k t) noFill_list_mul F.fills_int_mul F.slot_int_rmul repeat_list F.slot_int_index.lookup
  (u8 F.slot_int_rmul (typeIs_int s k t) F.entry_int_rmul (F.args_int_rmul_2 _ _) (int___rmul___int_list k t l au.toArray n)
   ⟨e,rfl,⟨_,e,rfl⟩,u8 F.slot_list_mul ⟨_,e,rfl⟩ F.entry_list_mul (F.args_list_mul_2 _ _) (AutoListH.list___mul___list_int_3 l au.toArray n k t adt adz rP) ⟨e,?_⟩⟩)
 rw [RG];exact⟨.ref _,_,I.Vt (t':=s.toks) (r.rep k.toNat) (by rw [len_rep,Nat.mul_comm];exact hz),rfl,q _ I.fresh⟩
end
section
def JK (au cD:List ci) (a c:Nat):au.toArray.extract 0 a++cD.toArray++au.toArray.extract c au.toArray.size=(au.take a++cD++au.drop c).toArray:=by
 apply Ez.mp
 first
  | (
    simp;exact Cd (by simp))
  | simp [Cd]
  | simp
theorem Hu {a c:Nat} (Xh:a<=c) (hc:c<=n):wf (bd (a:Int)) (bd (c:Int)) bv n=((a:Int),(c:Int),1):=by
 simp only [wf,Er];have h1:¬((a:Int) < 0):=by omega
 have h2:¬((c:Int) < 0):=by omega
 congr 1
 ·omega
 ·congr 1;omega
set_option maxRecDepth 100000 in
theorem tm {l b sl:db}{items new:Array ci}{n n2:Nat}{vl vu:ci}{a c:Nat}{Q:Unit->dL->Prop}
  (e:s.heap.get? l=bd {cls:=.type "list",data:=.seq items n}) (e2:s.heap.get? b=bd {cls:=.type "list",data:=.seq new n2}) (NG:l≠b)
  (hs:s.heap.IsSliceOf sl vl vu .none) (pl:IsPart vl (bd (a:Int))) (pu:IsPart vu (bd (c:Int))) (Xh:a<=c) (hc:c<=items.size)
  (hsz:items.size+new.size<=sizeLine) (h:Q () {s with heap:=s.heap.update l (Bl λxs=>xs.extract 0 a++new++xs.extract c xs.size)}) :
  d4 (d5 prog w) A (Ev (.ref l) (.ref sl) (.ref b)) Q E s:=by
 have hl:s.heap.IsList l items:=FA e;have hb:s.heap.IsList b new:=FA e2;obtain⟨os,Lz,Xg,RH⟩:=id hs;have Xi:s.TypeIs (.ref sl) "slice":=⟨os,Lz,Xg⟩;have Zv:¬((rawPart bv==wn 0)=true):=AU;have ND:Builtin.List.listSameRef (.ref l) (.ref b)=false:=by
  unfold Builtin.List.listSameRef;exact beq_eq_false_iff_ne.mpr NG
 have adi:(max (a:Int) (c:Int)).toNat=c:=by omega
 have GA:((λxs:Array ci=>xs.extract 0 a++new++xs.extract c xs.size) items).size<=sizeLine+1:=by
  simp only [Eg,Array.size_extract];omega
 unfold Ev
 try with_reducible refine Bc ?_
 first | refine Aa (Ah ?_) | skip
 refine Aa (Ed hl.typeIs ⋯ ?_);refine Aa (AY (name:=Cn "__setitem__") hl.typeIs slot_list_setitem
  (Be slot_list_setitem hl.typeIs entry_list_setitem ?_ (args_list_setitem _ _ _)))
 show d4 _ _ (Builtin.List.listSubscript? (.ref sl) >>= _) _ _ s;refine Aa ?_;unfold Builtin.List.listSubscript?;refine Aa (DE Xi slice_no_index ?_);simp only [Option.isNone_none,if_true];refine Ah ?_;show d4 _ _ (typeOf (.ref sl) >>= _) _ _ s;refine Aa (Co Xi ?_)
 first
  | rw [if_neg ⋯]
  | refine PySem.W.KFB.if_not ⋯ ?_
 rw [listSliceParts_eq];refine Aa (Aa (A1 Lz RH (x:=.none) rfl (Aa (E5 .none ?_))));rw [if_neg Zv];refine Aa (A1 Lz RH (x:=vl) rfl (Aa (E5 pl ?_)));refine Aa (A1 Lz RH (x:=vu) rfl (Aa (E5 pu (Ah ?_))))
 first
  | simp only [ND,Am,if_false]
  | refine PySem.W.KFB.if_not ND ?_
  | (
    dsimp only;rw [if_neg (by rw [ND];exact AU)])
 refine Aa (m:=Builtin.List.listAllItems (.ref b) "must assign iterable to extended slice") ?_;unfold Builtin.List.listAllItems;refine Aa (Co hb.typeIs ?_)
 first
  | refine PySem.W.KFB.if_so ⋯ ?_
  | rw [if_pos ⋯]
  | simp only [beq_self_eq_true,Bool.true_or,if_true]
 unfold Builtin.List.listItems;refine Aa (BG e2 rfl (Ah ?_));refine Aa (Aa (BG e rfl (Ah ?_)));refine Aa (CA ((sliceIndices_raw (bd (a:Int)) (bd (c:Int)) bv items.size (by simp)).trans (congrArg (pure:Int×Int×Int->Sem (Int×Int×Int)) (Hu Xh hc))) ?_);show d4 _ _ (if ((1:Int)==1)=true then _ else _) _ _ s;rw [if_pos ⋯];refine Aa (C1 ?_)
 first
  | simp only [jd hsz,Am,if_false]
  | refine PySem.W.KFB.if_not (jd hsz) ?_
 first | refine Aa (Ah ?_) | skip
 show d4 _ _ (updateSeq l (λxs=>xs.extract 0 ((a:Int)).toNat++new++xs.extract (max (a:Int) (c:Int)).toNat xs.size) >>= _) _ _ s;rw [adi,AZ];refine Aa (DC (hz:=Bk (BB _ _) hsz) (_hz':=GA) e rfl ?_);refine Aa (Dw ?_)
 first
  | exact Aa (Ah (Ah ⟨.none,rfl,Ah h⟩))
  | exact Ah ⟨.none,rfl,Ah h⟩
end
section
theorem JN {sl:db}{a c:Int}{Q:Unit->dL->Prop} (I:Inv X Z σ H s)
  (hH:H l=bd (.lst xs)) (hB:H b=bd (.lst ys)) (NG:l≠b) (hs:s.heap.IsSliceOf sl vl vu .none) (ra:RelV (.int a) vl) (rc:RelV (.int c) vu) (h0:0<=a) (Xh:a<=c) (hc:c<=xs.length)
  (hz:xs.length+ys.length<=sizeLine) (h:∀s',Inv X Z σ (upd H l (.lst (xs.take a.toNat++ys++xs.drop c.toNat))) s'->Q () s') :
  d4 (d5 X.prog X.w) X.A (Ev (.ref l) (.ref sl) (.ref b)) Q X.xe s:=by
 obtain⟨ta,rfl⟩:=ra;obtain⟨tc,rfl⟩:=rc;obtain⟨z,au,n,r,hl,e⟩:=I.oy hH;obtain⟨z2,cD,n2,r2,Kk,e2⟩:=I.oy hB;obtain⟨a',rfl⟩:=Ey h0;obtain⟨c',rfl⟩:=Ey (Int.le_trans h0 Xh);simp only [AZ] at h;refine tm (a:=a') (c:=c') e e2 NG hs (.int _ _) (.int _ _) ∅ (by rw [Ai];omega) (by rw [Ai,Ai];omega) (h _ ?_);refine I.Gh (its':=au.take a'++cD++au.drop c') (t':=s.toks) hH e ?_ (Vals.append (Vals.append (r.take _) r2) (r.drop _)) ?_
 ·exact JK au cD a' c'
 ·rw [Ae,Ae,Cw,Dp];omega
end
end L2
variable {xs:List (List L2.Key×BO×A4)}{o:Option L2.V}{v:L2.V}{kvs:List (List L2.Key×L2.V)}{env:PySem.Env}{value:BN}
namespace L2
open PySem PySem.Spec PyProof.Rows
section
variable {κ:Type} [DecidableEq κ]
def iI (kvs:List (κ×V)) (k:κ):Option V:=(kvs.find? λkv=>decide (kv.1=k)).map (·.2)
def putK (kvs:List (κ×V)) (k:κ) (v:V):List (κ×V):=
 if (kvs.any λkv=>decide (kv.1=k))=true then kvs.map (λkv=>if kv.1=k then (kv.1,v) else kv) else kvs++[(k,v)]
def kA {p:κ×V}{r:List (κ×V)}{k:κ} (e:p.1=k):iI (p::r) k=bd p.2:=by simp [iI,BI,e]
def kB {p:κ×V}{r:List (κ×V)}{k:κ} (e:¬p.1=k):iI (p::r) k=iI r k:=by simp [iI,BI,e]
theorem mP (k:κ):∀kvs:List (κ×V),(kvs.any λkv=>decide (kv.1=k))=(iI kvs k).isSome
 | []=>rfl
 | p::r=>by
  rw [Ct];by_cases e:p.1=k
  ·simp only [kA e,decide_eq_true e,Bool.true_or,Option.isSome_some]
  ·rw [kB e,decide_eq_false e,Bool.false_or];exact mP k r
theorem oZ (kvs:List (κ×V)) (k:κ) (v:V):(putK kvs k v).length<=kvs.length+1:=by
 unfold putK
 split
 ·rw [Af];omega
 ·rw [Ae,Ao,Bf];omega
def sP.oB {u:Option ci} (r:sP o u):o.isSome=u.isSome:=by
 cases o with
 | none=>cases u with
  | none=>rfl
  | some _=>exact (show False from r).elim
 | some _=>cases u with
  | none=>exact (show False from r).elim
  | some _=>rfl
def KV.val {kvs:List (κ×V)}{vs:List (κ×ci)} (r:KV kvs vs) (k:κ):sP (iI kvs k) (valueAt vs k):=by
 unfold KV at r
 induction r with
 | nil=>exact Cf
 | @cons p q ps qs h t ih=>
  obtain⟨h1,h2⟩:=h;by_cases e:p.1=k
  ·have e':q.1=k:=h1.symm.trans e;have b:valueAt (q::qs) k=bd q.2:=by simp [valueAt,BI,e']
   rw [kA e,b];exact h2
  ·have e':¬q.1=k:=λz=>e (h1.trans z);have b:valueAt (q::qs) k=valueAt qs k:=by simp [valueAt,BI,e']
   rw [kB e,b];exact ih
def KV.any {kvs:List (κ×V)}{vs:List (κ×ci)} (r:KV kvs vs) (k:κ):(kvs.any λkv=>decide (kv.1=k))=vs.any λkv=>decide (kv.1=k):=by
 induction r with
 | nil=>rfl
 | cons h t ih=>rw [Ct,Ct,ih,h.1]
def KV.UE {kvs:List (κ×V)}{vs:List (κ×ci)} (r:KV kvs vs) (k:κ) (ry:RelV y u) :
  KV (kvs.map λkv=>if kv.1=k then (kv.1,y) else kv) (vs.map λkv=>if kv.1=k then (kv.1,u) else kv):=by
 induction r with
 | nil=>exact .nil
 | @cons p q ps qs h t ih=>
  rw [Aw,Aw];refine .cons ?_ ih;obtain⟨h1,h2⟩:=h;by_cases e:p.1=k
  ·rw [if_pos e,if_pos (h1.symm.trans e)];exact⟨h1,ry⟩
  ·rw [if_neg e,if_neg (λz=>e (h1.trans z))];exact⟨h1,h2⟩
def KV.put {kvs:List (κ×V)}{vs:List (κ×ci)} (r:KV kvs vs) (k:κ) (ry:RelV y u):KV (putK kvs k y) (stored vs k u):=by
 unfold putK stored;rw [r.any k];by_cases e:(vs.any λkv=>decide (kv.1=k))=true
 ·rw [if_pos e,if_pos e];exact r.UE k ry
 ·rw [if_neg e,if_neg e];exact Paired.snoc r ⟨rfl,ry⟩
def KV.length {kvs:List (κ×V)}{vs:List (κ×ci)} (r:KV kvs vs):kvs.length=vs.length:=Paired.length r
end
def IH {k:Key} (r:RelV (kV k) u):(cj P w).is k u=true:=by
 cases k with
 | inl i=>obtain⟨t,e⟩:=(show ∃t,u=DV i t from r);subst e;exact yF P w i t
 | inr x=>obtain⟨t,e⟩:=(show ∃t,u=DU x t from r);subst e;exact yE P w x t
theorem uG:∀{ks:List Key}{us:List ci},Vals (ks.map kV) us->ItemsAre (cj P w) ks us
 | [],_,r=>by rw [EG] at r;cases r;exact .nil
 | k::ks,_,r=>by
  rw [Aw] at r;cases r with
  | cons h t=>exact .cons (IH h) (uG t)
abbrev KT (H:Hp):List (List Key×V)->List (List Key×db×ci)->Prop:=Paired λp q=>p.1=q.1/\H q.2.1=bd (.tup (p.1.map kV))/\RelV p.2 q.2.2
def KT.val (r:KT H kvs xs) (k:List Key):sP (iI kvs k) ((atKey xs k).map (·.2)):=by
 induction r with
 | nil=>exact Cf
 | @cons p q ps qs h t ih=>
  obtain⟨h1,_,h2⟩:=h;by_cases e:p.1=k
  ·have e':q.1=k:=h1.symm.trans e;have b:atKey (q::qs) k=bd q.2:=by simp [atKey,BI,e']
   rw [kA e,b];exact h2
  ·have e':¬q.1=k:=λz=>e (h1.trans z);have b:atKey (q::qs) k=atKey qs k:=by simp [atKey,BI,e']
   rw [kB e,b];exact ih
def KT.UE (r:KT H kvs xs) (k:List Key) (ry:RelV y u) :
  KT H (kvs.map λkv=>if kv.1=k then (kv.1,y) else kv) (xs.map (putAt k u)):=by
 induction r with
 | nil=>exact .nil
 | @cons p q ps qs h t ih=>
  rw [Aw,Aw];refine .cons ?_ ih;obtain⟨h1,h2,h3⟩:=h;unfold putAt;by_cases e:p.1=k
  ·rw [if_pos e,if_pos (h1.symm.trans e)];exact⟨h1,h2,ry⟩
  ·rw [if_neg e,if_neg (λz=>e (h1.trans z))];exact⟨h1,h2,h3⟩
def KT.put (r:KT H kvs xs) (k:List Key) (hb:H b=bd (.tup (k.map kV))) (ry:RelV y u) :
  KT H (putK kvs k y) (FB xs k b u):=by
 have e:(kvs.any λkv=>decide (kv.1=k))=(atKey xs k).isSome:=by
  rw [mP,(r.val k).oB,Ft]
 unfold putK FB;rw [e];by_cases q:(atKey xs k).isSome=true
 ·rw [if_pos q,if_pos q];exact r.UE k ry
 ·rw [if_neg q,if_neg q];exact Paired.snoc r ⟨rfl,hb,ry⟩
def KT.keeps (r:KT H kvs xs) (ht:∀b ys,H b=bd (.tup ys)->H' b=bd (.tup ys)):KT H' kvs xs:=
 Paired.Vq r λ_ _ z=>⟨z.1,ht _ _ z.2.1,z.2.2⟩
section
def S5 {u:HO} (ok:lN P w H h) (e:Rd H a u):bq P w H h a u:=e.ok ok
def sD {kvs:List (Key×V)} (ok:lN P w H h) (e:Rd H a (.dK kvs)):kvs.length<=sizeLine/\(a==ul)=false/\∃vs,KV kvs vs/\h.DictOf (cj P w) a vs:=
 show bq P w H h a (.dK kvs) from S5 ok e
def aam {kvs:List (Key×V)} (ok:lN P w H h) (e:H a=bd (.dK kvs)):kvs.length<=sizeLine/\(a==ul)=false/\∃vs,KV kvs vs/\h.DictOf (cj P w) a vs:=sD ok (.inl e)
def rF {ks:List Key} (ok:lN P w H h) (e:H a=bd (.tup (ks.map kV))):(pr (cj P w)).is h ks a:=by
 obtain⟨_,au,r,o,h1,h2,n,h3⟩:=(show bq P w H h a (.tup (ks.map kV)) from ok a _ e);exact⟨o,au.toArray,n,h1,h2,h3,by simpa using uG r⟩
def sC (ok:lN P w H h) (e:Rd H a (.dT kvs)):kvs.length<=sizeLine/\(a==ul)=false/\
  ∃xs,KT H kvs xs/\h.DictOfH (pr (cj P w)) a xs:=by
 obtain⟨z,y,xs,r,o,es,ep,h1,h2,h3,h4,h5⟩:=(show bq P w H h a (.dT kvs) from S5 ok e);refine⟨z,y,xs,r,o,es,ep,h1,h2,h3,h4,λx hx=>?_,h5⟩;have all:∀{l:List (List Key×V)}{m:List (List Key×db×ci)},KT H l m->∀x∈m,(pr (cj P w)).is h x.1 x.2.1:=by
  intro l m q
  induction q with
  | nil=>intro x hx;exact nomatch hx
  | @cons p q ps qs hq t ih=>
   intro x hx;rcases Ay.mp hx with e | hx
   ·subst e;exact rF ok (by rw [<- hq.1];exact hq.2.1)
   ·exact ih x hx
 exact all r x hx
def aal (ok:lN P w H h) (e:H a=bd (.dT kvs)):kvs.length<=sizeLine/\(a==ul)=false/\
  ∃xs,KT H kvs xs/\h.DictOfH (pr (cj P w)) a xs:=sC ok (.inl e)
end
def uf (H:Hp) (a:db) (y:V) (r:Option V):Prop:=
 (∃kvs k,Rd H a (.dK kvs)/\y=kV k/\r=iI kvs k)\/∃kvs k b,Rd H a (.dT kvs)/\y=.ref b/\H b=bd (.tup (k.map kV))/\r=iI kvs k
def Pb (H:Hp) (a:db) (y v:V) (H':Hp):Prop:=
 (∃kvs k,H a=bd (.dK kvs)/\y=kV k/\kvs.length < sizeLine/\H'=upd H a (.dK (putK kvs k v)))\/
 ∃kvs k b,H a=bd (.dT kvs)/\y=.ref b/\H b=bd (.tup (k.map kV))/\kvs.length < sizeLine/\H'=upd H a (.dT (putK kvs k v))
theorem uf.k {kvs:List (Key×V)}{k:Key} (e:H a=bd (.dK kvs)):uf H a (kV k) (iI kvs k):=.inl ⟨kvs,k,.inl e,rfl,rfl⟩
theorem Pb.k {kvs:List (Key×V)}{k:Key} (e:H a=bd (.dK kvs)) (hl:kvs.length < sizeLine):Pb H a (kV k) v (upd H a (.dK (putK kvs k v))):=.inl ⟨kvs,k,e,rfl,hl,rfl⟩
section
variable {r:ci}
def Inv.big (I:Inv X Z σ H s):ul < s.heap.objs.size:=by
 have h:=(I.mod.glob.keeps I.bk).lt;exact Nat.lt_trans ⋯ h
def K1 (hu:A.units+1 < o0) (I:Inv X Z σ H s) (g:uf H a y (bd v)) (ry:RelV y u) (h:∀w' s',Inv X Z σ H s'->RelV v w'->Q w' s') :
  d4 (d5 X.prog X.w) A (FM (.ref a) u) Q E s:=by
 rcases g with⟨kvs,k,e,ey,l⟩ | ⟨kvs,k,b,e,ey,eb,l⟩
 ·subst ey;obtain⟨z,hd,vs,Ï,dd⟩:=sD I.bG e;obtain⟨w',hw,iK⟩:=sP.some_of (v:=v) (o:=valueAt vs k) (by rw [l];exact Ï.val k);exact wpAny_getItem_of (IH ry) dd.mapOf hw (h w' _ (I.tok _) iK)
 ·subst ey;cases (show u=AB b from ry);obtain⟨z,hd,xs,Ï,dd⟩:=sC I.bG e;obtain⟨w',hw,iK⟩:=sP.some_of (v:=v) (o:=(atKey xs k).map (·.2)) (by rw [l];exact Ï.val k);obtain⟨p,hp,wA⟩:=Option.map_eq_some_iff.mp hw;refine wpAny_getItem_heap (EQ hu) (rF I.bG eb) dd hp ?_;rw [wA];exact h w' _ (I.tok _) iK
def ad4 (hu:A.units+1 < o0) (I:Inv X Z σ H s) (g:uf H a y o) (ry:RelV y u) (h:∀s',Inv X Z σ H s'->Q (.bool o.isSome) s') :
  d4 (d5 X.prog X.w) A (lc .In u (.ref a)) Q E s:=by
 rcases g with⟨kvs,k,e,ey,l⟩ | ⟨kvs,k,b,e,ey,eb,l⟩
 ·subst ey;obtain⟨z,hd,vs,Ï,dd⟩:=sD I.bG e;refine wpAny_in_of (IH ry) hd dd.mapOf ?_;rw [<- (Ï.val k).oB,<- l];exact h _ (I.tok _)
 ·subst ey;cases (show u=AB b from ry);obtain⟨z,hd,xs,Ï,dd⟩:=sC I.bG e;refine wpAny_in_heap (EQ hu) (rF I.bG eb) hd dd ?_;have q:=(Ï.val k).oB;rw [Ft] at q;rw [<- q,<- l];exact h _ (I.tok _)
def Jo {t':Nat}{ob:HO} (I:Inv X Z σ H s) (mu:Mut (H a)) (hs:Cc a s.heap h') (he:∃q,h'.get? a=bd q) (new:bq X.prog X.w (upd H a ob) h' a ob) :
  Inv X Z σ (upd H a ob) {s with heap:=h',toks:=t'}:=
 I.write (x:=a) (e:=a) mu (.inl rfl) (λb q hb z=>(hs.2 b hb).trans z) he new
def Wx {kvs:List (Key×V)}{vs:List (Key×ci)} (z:kvs.length<=sizeLine) (hd:(a==ul)=false) (Ï:KV kvs vs) (dd:h'.DictOf (cj P w) a vs) :
  bq P w H' h' a (.dK kvs):=⟨z,hd,vs,Ï,dd⟩
theorem K0 {Q:Unit->dL->Prop} (hu:A.units+1 < o0) (I:Inv X Z σ H s) (g:Pb H a y v H') (ry:RelV y u) (rv:RelV v r) (h:∀s',Inv X Z σ H' s'->Q () s') :
  d4 (d5 X.prog X.w) A (Ev (.ref a) u r) Q E s:=by
 rcases g with⟨kvs,k,e,ey,l,eH⟩ | ⟨kvs,k,b,e,ey,eb,l,eH⟩
 ·subst ey eH;obtain⟨z,hd,vs,Ï,dd⟩:=aam I.bG e;have hz:vs.length<=sizeLine:=by rw [<- Ï.length];exact z
  have hl:(putK kvs k v).length<=sizeLine:=by have:=oZ kvs k v;omega
  refine wpAny_setItem_pairs (hsz:=hz) (IH ry) dd λh' Hh hs=>h _ ?_;have he:∃q,h'.get? a=bd q:=let ⟨q,_,_,hq,_⟩:=Hh;⟨q,hq⟩;exact Jo I (by rw [e];exact Cf) hs he (Wx hl hd (Ï.put k rv) Hh)
 ·subst ey eH;cases (show u=AB b from ry);obtain⟨z,hd,xs,Ï,dd⟩:=aal I.bG e;have hz:xs.length<=sizeLine:=by rw [<- Paired.length Ï];exact z
  have hl:(putK kvs k v).length<=sizeLine:=by have:=oZ kvs k v;omega
  refine wpAny_setItem_heap (hsz:=hz) (EQ hu) (rF I.bG eb) dd λh' Hh hs=>h _ ?_;obtain⟨q,es,ep,hq,h2,h3,h4,_,h5⟩:=Hh;refine Jo I (by rw [e];exact Cf) hs ⟨q,hq⟩ ⟨hl,hd,_,(Ï.put k eb rv).keeps λc ys ec=>?_,q,es,ep,hq,h2,h3,h4,h5⟩;rw [aB (IA ec e (λz=>nomatch z))];exact ec
end
def WV (i:lm):Prop:=∀ov iv,subscripted i false ov iv=operate [ov,iv] (FM ov iv)
def P4 {Ç:lm}{id:String}
  (hl:Ge (.type T) "__getitem__"=pure (bd (.builtin id))) (hs:WV Ç)
  (h:d4 (d5 prog w) A (kt value env) (λo s₁=>d4 (d5 prog w) A (kt Ç env) (λi s₂=>s₂.TypeIs o T/\d4 (d5 prog w) A (FM o i) Q E s₂) E s₁) E s) :
  d4 (d5 prog w) A (kt (.Subscript value Ç pos) env) Q E s:=by
 refine Subscript_ (BP h (λo s₁ h₁=>BP h₁ (λi s₂ h₂=>?_) λ_ _ x=>x) λ_ _ x=>x);obtain⟨hT,h₂⟩:=h₂;refine Aa ?_;refine Aa (DE hT hl ?_);have fin:d4 (d5 prog w) A (subscripted Ç false o i) (λr s₃=>d4 (d5 prog w) A (letTemporaryGo value o r >>= λ_=>pure r) Q E s₃) E s₂:=by
  rw [hs o i];exact wpAny_operating (BP h₂ (λr s₃ h₃=>Aa (wpAny_letTemporaryGo (Ah h₃))) λ_ _ x=>x)
 first
  | exact Ah (Aa fin)
  | exact Aa (Ah (Aa fin))
  | exact Aa fin
def zr (I:Inv X Z σ H s) (g:uf H a y o):s.TypeIs (.ref a) "dict":=by
 rcases g with⟨kvs,k,e,_,_⟩ | ⟨kvs,k,b,e,_,_,_⟩
 ·obtain⟨_,_,vs,_,dd⟩:=sD I.bG e;exact dd.typeIs
 ·obtain⟨_,_,xs,_,dd⟩:=sC I.bG e;exact dd.typeIs
def Ya (td ty:TE):TE:=λσ H Q=>td σ H λx H1=>ty σ H1 λy H2=>∃a v,x=.ref a/\uf H2 a y (bd v)/\Q v H2
def acd (ty td:TE):TE:=λσ H Q=>ty σ H λy H1=>td σ H1 λx H2=>∃a o,x=.ref a/\uf H2 a y o/\Q (.bl o.isSome) H2
def Yq (td ty tv:TE):TS:=λD σ H=>tv σ H λv H1=>td σ H1 λx H2=>ty σ H2 λy H3=>∃a H4,x=.ref a/\Pb H3 a y v H4/\D.nx σ H4
section
variable {o i:lm}{td ty tv:TE}
def QE (hu:X.A.units+1 < o0) (ho:PE X o td) (hi:PE X i ty) (hs:WV i):PE X (.Subscript o i pos) (Ya td ty):=by
 intro Z s σ H Q I h;refine P4 PySem.F.slot_dict_getitem.lookup hs (bD (ho Z s σ H _ I h) λu s1 ⟨x,H1,I1,rx,q1⟩=>bD (hi Z s1 σ H1 _ I1 q1) λiv s2 ⟨y,H2,I2,ry,a,v,ex,g,q2⟩=>?_);subst ex;obtain rfl:u=AB a:=rx;exact⟨zr I2 g,K1 hu I2 g ry λw' s3 I3 iK=>⟨v,H2,I3,iK,q2⟩⟩
def U6 (hu:X.A.units+1 < o0) (hi:PE X i ty) (ho:PE X o td):PC X .In i o (acd ty td):=by
 intro Z s σ H Q I h;refine bD (hi Z s σ H _ I h) λiv s1 ⟨y,H1,I1,ry,q1⟩=>bD (ho Z s1 σ H1 _ I1 q1) λu s2 ⟨x,H2,I2,rx,a,ov,ex,g,q2⟩=>?_;subst ex;obtain rfl:u=AB a:=rx;exact ad4 hu I2 g ry λs3 I3=>⟨.bl ov.isSome,H2,I3,rfl,q2⟩
def Qu (hu:X.A.units+1 < o0) (ho:PE X o td) (hi:PE X i ty) (hv:PE X value tv) (hs:lw value (bd (.Subscript o i Õ)) pos.line X.env=pure false) :
  PS X (.Assign [.Subscript o i Õ] value pos) (Yq td ty tv):=by
 intro Z s σ H D I h;refine wpAny_Assign_Subscript (bD (hv Z s σ H _ I h) λr s1 ⟨v,H1,I1,rv,q1⟩=>bD (ho Z s1 σ H1 _ I1 q1) λu s2 ⟨x,H2,I2,rx,q2⟩=>bD (hi Z s2 σ H2 _ I2 q2) λiv s3 ⟨y,H3,I3,ry,a,H4,ex,g,q3⟩=>?_) hs;subst ex;obtain rfl:u=AB a:=rx;exact K0 hu I3 g ry rv λs4 I4=>⟨σ,H4,I4,q3⟩
end
def OD (h:pc) (hb:ul < h.objs.size):bq P w H (h.push {cls:=.type "dict",data:=.dict #[]}) h.objs.size (.dK []):=
 ⟨A5 _,beq_eq_false_iff_ne.mpr (BE (AM hb)),[],.nil,Heap.DictOf.new h⟩
def Ut:TE:=λ_ H Q=>∀p,H p=bv->Q (.ref p) (upd H p (.dK []))
section
def MK:PE X (.Dict [] [] pos) Ut:=λZ s σ H Q I h=>
 wpAny_Dict_empty ⟨.ref s.heap.objs.size,_,I.laid (a:=s.heap.objs.size) (o:=.dK []) (t':=s.toks) (λ_ _ q=>Aj _ q) (An _) (OD s.heap I.big),rfl,h _ (I.bG.fresh (An _))⟩
end
structure M2 (X:Cx) (o:lm) (m:Str) (Â:Pos) (e f:lm) (bt:Pos):Prop where
 base:py o m X.env (kt o X.env)=kt o X.env
 few:((kw bt (ce [e,f] X.env)).all (λx=>!x.1)&&(Fa bt (wv [] X.env)).all (λx=>x.1.isSome)
  && decide (([e,f]:List lm).length+([]:List tz).length+(if ([]:List tz).isEmpty then 0 else 1) < 30))=true
 line:(Â.endLine==bt.line)=true
 trees:kw bt (ce [e,f] X.env)=[(false,kt e X.env),(false,kt f X.env)]
def IsD (H:Hp) (a:db):Prop:=(∃kvs,Rd H a (.dK kvs))\/∃kvs,Rd H a (.dT kvs)
end L2
variable {Ò:List BZ}{XP:(BZ->Option A4)->Fq->Prop}{YP:PySem.World->Fq->Prop}{d:PySem.DefRec}
namespace Att
open PySem PySem.W PySem.Calls PyProof.Rows
def pE {P:Params}:∀(ns:List Int) (vs:List ci),WellAll P h vs (ns.map WData.int)->wS vs ns:=by
 intro ns
 induction ns with
 | nil=>
  intro vs w;cases w;exact .nil
 | cons n ns ih=>
  intro vs w;cases w with
  | cons a b=>
   cases a;exact .cons _ _ (ih _ b)
theorem JO {l:OpenLaw} (hn:l.most=bd n) {P:Params}{args:List WData}{Ý:List ci}
  (RD:l.row.toRowW.claim.pre args=true) (Đ:WellAll P h Ý args) :
  ∃a vs ns,Ý=[AB a]/\args=[WData.list (ns.map WData.int)]/\h.get? a=bd {cls:=.type "list",data:=.seq vs.toArray}/\wS vs ns/\ns.length<=n:=by
 have hsh:=(pre_splitW RD).1;have hc:l.pre.holds [] {args:=args}=true:=(pre_splitW RD).2;obtain⟨d,r,rfl,h1,h2⟩:=hasAllW_cons hsh;obtain rfl:=hasAllW_nil h2;obtain⟨xs,rfl,h3⟩:=hasW_list h1;obtain⟨ns,rfl⟩:=items_int h3;have Á:ns.length<=n:=by
  unfold OpenLaw.pre at hc;have h4:(WTm.not (.lt (.lit (.int (n:Int))) (.len (.arg 0)))).holds [] {args:=[.list (ns.map .int)]}=true:=by
   have h4:=(holds_andW hc).1;rw [hn] at h4;exact h4
  have h5:=condW_of h4 (w_not (w_lt w_lit (w_len_list (w_arg rfl))));refine Nat.le_of_not_lt λq=>?_
  first
   | (rw [decide_eq_true q'] at h5;exact absurd h5 ⋯)
   | (simp at h5;omega)
 cases Đ with
 | cons w1 w2=>
  cases w2;cases w1 with
  | list ho adC=>exact⟨_,_,ns,rfl,rfl,ho,pE ns _ adC,Á⟩
def JU (l:OpenLaw) (args:List WData):l.row.toRowW.claim.post args (.bool true) args=true:=
 postW_of (r:=l.row.toRowW) (X:=(true==true))
  (show WShape.has [] (.bool true) .bool=true by first | rfl | decide | simp [WShape.has,WShape.arms,WShape.armsAll])
  (show (WTm.eq .res (.lit (.bool true))).value [] {args:=args,res:=bd (.bool true),after:=args}=bd (.bool (true==true)) from w_eq_bool (w_res rfl) w_lit) rfl
def zx {l:OpenLaw}{q:tt}
  (hn:l.most=bd n) (ZN:d.params.defaults=[])
  (call:∀(w:wE) (s₀ s₁:dL) (mg mb:Str->Option ci) (fa:db) (o:Obj) (pm cd È:ci) (a:db) (vs:List ci) (ns:List Int),
   Ground q Ò [] XP w s₀ mg mb s₁.heap->YP w s₁.heap->
   s₁.heap.get? fa=bd o->o.data=.func (docDef d.name d.params d.body d.scope pm cd È)->s₁.heap.CodeRec cd d.name->mg d.name=bd (.ref fa)->
   s₁.heap.get? a=bd {cls:=.type "list",data:=.seq vs.toArray}->wS vs ns->ns.length<=n->s₁.gens=#[]->
   GE (d5 l.prog w) callerA (.call (.ref fa) ⟨[.ref a],[]⟩) (λr s'=>r=.ok (.ret (.bool true))/\OldK s₁.heap s'.heap/\s'.os=s₁.os/\GM s'.gens) s₁) :
  WalkO q Ò XP YP l.row.toRowW d [] (λf vs=>FI f vs):=by
 intro w s₀ s₁ mg mb G Y fa o pm cd È dV kV ho hd iL hD hmg hg args Ý as RD ag0 hrd Đ hlo;obtain rfl:dV=.none:=Dflts.none hD ZN;obtain rfl:kV=.none:=Dflts.noKw hD;obtain⟨a,vs,ns,rfl,rfl,V0,Ô,Á⟩:=JO hn RD Đ;refine enter_call (codeAny_mono (call w s₀ s₁ mg mb fa o pm cd È a vs ns G Y ho (fd_plain hd) iL hmg V0 Ô Á hg) λr s' hq=>?_);obtain⟨rfl,h2,h3,h4⟩:=hq;exact⟨.inl ⟨.bool true,.bool true,[],rfl,λ_=>rfl,.bool true,JU l _,λ_=>⟨List.Pairwise.nil,λ_ hm=>(nomatch hm)⟩⟩,h2,h3,h4⟩
end Att
variable {k:Nat}{sp:L2.Sp}
namespace L2
open PySem PySem.Spec PyProof.Rows
theorem n6:∀{vs:List ci}{ns:List Int},wS vs ns->Vals (ns.map V.int) vs
 | _,_,.nil=>.nil
 | _,_,.cons n t h=>.cons ⟨t,rfl⟩ (n6 h)
def SJ (H:Hp):Prop:=∀b,H b=bv\/∃o xs,H b=bd (.cO o (.lst xs))
def Ni {K:Ab}{mb:Str->Option ci}{CX:LH}{fa:db}{s₁:dL}{vs:List ci}
  (KX:K.In s₁.heap) (ù:s₁.heap.Ns ev mg) (hb:s₁.heap.Ns builtinsNs mb) (hbb:∀x:Str,x≠"__name__"->mb x=nw x) (adk:s₁.heap.NoLimit) (hg:s₁.gens=#[])
  (ha:s₁.heap.get? a=bd {cls:=.type "list",data:=.seq vs.toArray}) (hi:wS vs ns) (hl:ns.length<=sizeLine) (hr:cX k callerA)
  (F:∀base:pc,K.In base->base.Ns ev mg->gm P w K mg base CX k fa fd [x] sp) (ZP:∀(s:dL) (u:ci),BindsTo s fd ⟨[u],[]⟩ [(x,u)])
  (RC:∀H:Hp,SJ H->cU K H a (ns.map V.int)->sp [.ref a] H (λv _=>v=.bl true) λ_ _ _=>False)
  (ħ:∀H e s',CX [] H s₁ (λ_ _ _=>False) e s'->False) :
  GE (d5 P w) callerA (.call (.ref fa) ⟨[.ref a],[]⟩) (λr s'=>r=.ok (.ret (.bool true))/\OldK s₁.heap s'.heap/\s'.os=s₁.os/\GM s'.gens) s₁:=by
 have rv:=n6 hi;have acI:=hi.length;have Ø:∀H:Hp,SJ H->cU K H a (ns.map V.int)->lN P w H s₁.heap->(∀b,H b≠bv->b=a)->(H a≠bv->K.lookup a=bv)->
   GE (d5 P w) callerA (.call (.ref fa) ⟨[.ref a],[]⟩) (λr s'=>r=.ok (.ret (.bool true))/\OldK s₁.heap s'.heap/\s'.os=s₁.os/\GM s'.gens) s₁:=by
  intro H hO hS bG hA hK;have Jq:∀{b:db}{o:Obj},s₁.heap.get? b=bd o->H b=bv->(wB s₁.heap H).get? b=bd o:=λe n=>NK e n;have Y6:∀{b:db}{o:Obj}{es:Array DictEntry}{ep:Nat},s₁.heap.get? b=bd o->o.data=.dict es ep->H b=bv:=λ{b o es ep} e d=>by
   cases q:H b with
   | none=>rfl
   | some u=>
    have e':b=a:=hA b (by rw [q];simp);subst e';rw [ha] at e;cases e;have d':E4 vs.toArray _=Data.dict es ep:=d;cases d'
  have î:∀{b:db}{m:Str->Option ci},s₁.heap.Ns b m->(wB s₁.heap H).Ns b m:=λ{b m} ⟨o,es,ep,e,d,r⟩=>⟨o,es,ep,Jq e (Y6 e d),d,r⟩;have hKb:K.In (wB s₁.heap H):=λb o e=>Jq (KX b o e) (by
   cases q:H b with
   | none=>rfl
   | some u=>
    have e':b=a:=hA b (by rw [q];simp);subst e';rw [hK (by rw [q];simp)] at e;cases e)
  have hM:Mod K mg (wB s₁.heap H):=⟨hKb,î ù,⟨mb,î hb,hbb⟩,let ⟨mc,h1,h2⟩:=adk;⟨mc,î h1,h2⟩⟩;have e0:SN P w K mg (wB s₁.heap H) callerA [] s₁ H:=⟨rfl,hM,λb o e=>QS e,Nat.le_of_eq (Kl _ _),trivial,λb hb=>absurd (show b∈([]:List db) from hb) (by simp),bG,.of_eq hg⟩;refine codeAny_mono ((F _ hKb (î ù)).run callerA [] s₁ H ⟨[.ref a],[]⟩ [.ref a] [.ref a] _ _ hr e0 (ZP s₁ (.ref a)) (.cons rfl .nil) (RC H hO hS)) λr s' h=>?_;cases r with
  | error e=>exact (ħ H e s' h).elim
  | ok fl=>
   cases fl with
   | next=>exact Bn h
   | brk=>exact Bn h
   | cont=>exact Bn h
   | ret u=>
    obtain⟨v,H',os,bare,un,adg,r',q⟩:=h;have q':v=.bl true:=q;subst q';obtain rfl:u=B6 true:=r';refine⟨rfl,OldK.of_keep λb o e=>?_,os,bare⟩;cases q:H b with
    | none=>exact un.keep b o e q (by intro z;exact absurd (show b∈([]:List db) from z) (by simp)) (by simp)
    | some u=>
     rcases hO b with z | ⟨ob,xs,z⟩
     ·rw [q] at z;cases z
     ·have z2:=un.pL b ob _ z;obtain⟨e1,_⟩:=bG b _ z;obtain⟨e2,_⟩:=adg b _ z2;rw [e] at e1;cases e1;exact e2
 cases hk:K.lookup a with
 | some o=>
  have e:=KX a o hk;rw [ha] at e;cases e;refine Ø (λ_=>bv) (λ_=>.inl rfl) (.inr ⟨_,vs.toArray,_,hk,rfl,rfl,rfl,by rw [Ai,acI];exact hl,by simpa using rv⟩) (λb u z=>by have z':(bv:Option HO)=bd u:=z;cases z') (λb z=>absurd rfl z) λz=>absurd rfl z
 | none=>
  refine Ø (λb=>if b=a then bd (.cO {cls:=.type "list",data:=.seq vs.toArray} (.lst (ns.map V.int))) else bv) (λb=>?_) (.inl (.inr ⟨{cls:=.type "list",data:=.seq vs.toArray},if_pos rfl⟩)) (λb u z=>?_) (λb z=>?_) λ_=>hk
  ·by_cases hb:b=a
   ·exact .inr ⟨_,_,if_pos hb⟩
   ·exact .inl (if_neg hb)
  ·by_cases hb:b=a
   ·have z':=(if_pos hb).symm.trans z;cases z';subst hb;exact⟨ha,by rw [Af];exact hl,vs,_,rv,ha⟩
   ·have z':=(if_neg hb).symm.trans z;cases z'
  ·by_cases hb:b=a
   ·exact hb
   ·exact absurd (if_neg hb) z
def Px {l:EO}{q:tt}{K:Params->Ab}{CX:wE->LH}{sp:wE->Sp}
  (hn:l.most=bd n) (hn2:n<=sizeLine) (ZN:d.params.defaults=[]) (hr:cX k callerA)
  (hY:∀(w:wE) (h:pc),YP w h->(K w.params).In h)
  (F:∀(w:wE) (mg:Str->Option ci) (fa:db) (h:pc),(K w.params).In h->h.Ns ev mg->mg d.name=bd (.ref fa)->
   ∃fd:Fk,(∀(s:dL) (u:ci),BindsTo s fd ⟨[u],[]⟩ [(x,u)])/\
    ∀base:pc,(K w.params).In base->base.Ns ev mg->gm l.prog w (K w.params) mg base (CX w) k fa fd [x] (sp w))
  (RC:∀(w:wE) (H:Hp) (a:db) (ns:List Int),ns.length<=n->SJ H->cU (K w.params) H a (ns.map V.int)->sp w [.ref a] H (λv _=>v=.bl true) λ_ _ _=>False)
  (ħ:∀(w:wE) (H:Hp) (s:dL) (e:ci) (s':dL),CX w [] H s (λ_ _ _=>False) e s'->False) :
  PySem.W.WalkO q Ò XP YP l.row.toRowW d [] (λf vs=>FI f vs):=by
 refine Att.zx hn ZN λw s₀ s₁ mg mb fa o pm cd È a vs ns G Y ho hd iL hmg V0 Ô Á hg=>?_;have KX:=hY w _ Y;obtain⟨fd,hb,hF⟩:=F w mg fa _ KX G.T.g hmg;exact Ni KX G.T.g G.T.b G.T.builtins G.T.nolimit hg V0 Ô (Bk Á hn2) hr hF hb (λH hO hS=>RC w H a ns Á hO hS) λH e s'=>ħ w H s₁ e s'
end L2
variable {B:Prop}
namespace L2
open PySem PySem.Spec PyProof.Rows
def gB (s:t0):Arguments:=match s with
 | .FunctionDef _ a _ _ _ _ _ _ _ _=>a
 | _=>{posonlyargs:=[],args:=[],vararg:=bv,kwonlyargs:=[],kw_defaults:=[],kwarg:=bv,defaults:=[]}
def bo (s:t0):List t0:=match s with
 | .FunctionDef _ _ b _ _ _ _ _ _ _=>b
 | _=>[]
def ag (s:t0):nn:=match s with
 | .FunctionDef _ _ _ _ _ _ sc _ _ _=>sc
 | _=>{kind:=.function,names:=[],isGenerator:=false,isCoroutine:=false}
abbrev lO:LH:=λ_ _ _ _ _ _=>False
abbrev E0:XK:=λ_ _ _=>False
def Ta:Passes lO X E0:=λ_ _ _ _ _ _ _ h=>h.elim
structure Po (K:Ab) (x qual:Str) (st:t0) (f:db) (fd:Fk):Prop where
 ex:∃(oc:ci) (od:Option db) (kV È pm:ci) (an:Option db) (cM ct:ci) (Ph:Array (Option ci)),
  fd=B2 x qual (gB st) (bo st) (ag st) .none kV È pm an cM ct/\K.lookup f=bd ⟨oc,od,.func fd,Ph⟩/\DW K cM qual=true
 kp:CI K (.ref f)=true
section
variable {K:Ab}
def Po.ok {st:t0}{f:db}{N:List Str} (F:Po K x qual st f fd) (S:aq N ps (ag st)) (len:∀vs H Q E,sp vs H Q E->vs.length=ps.length)
  (NN:∀(cM:ci) (A:ss) (outer:List Env) (s:dL) (H:Hp) (vs:List V) (Q:VK) (E:XK),cX k (A.deeper (sK qual (ag st) s.heap.objs.size f cM))->sp vs H Q E->
   ∃t,qC (jz lO P w K mg base N qual (ag st) f cM A outer s H E).xG (bo st) t/\t {nx:=λ_ H'=>Q .aU H',rt:=Q} (start N vs) H):gm P w K mg base lO (k+1) f fd ps sp:=by
 obtain⟨oc,od,kV,È,pm,an,cM,ct,Ph,rfl,lk,iL⟩:=F.ex;refine Z1 lk iL S len λA outer s H vs Q E hr RC=>?_;obtain⟨t,h,q⟩:=NN cM A outer s H vs Q E hr RC;exact⟨t,h.xG,q⟩
def Po.binds {st:t0}{f:db} (F:Po K x qual st f fd)
  (h:∀(kV È pm:ci) (an:Option db) (cM ct:ci) (us:List ci),us.length=ps.length->bindArgs (B2 x qual (gB st) (bo st) (ag st) .none kV È pm an cM ct) ⟨us,[]⟩=pure (ps.zip us)):Binds K fd ps []:=by
 obtain⟨oc,od,kV,È,pm,an,cM,ct,Ph,rfl,lk,iL⟩:=F.ex;exact .all (h kV È pm an cM ct)
def Wc {st:t0}{f:db}{kV:ci} (l:K.lookup f=bd ⟨oc,od,.func (B2 x qual (gB st) (bo st) (ag st) .none kV È pm an cM ct),Ph⟩)
  (c:DW K cM qual=true) (k:CI K (.ref f)=true):Po K x qual st f (B2 x qual (gB st) (bo st) (ag st) .none kV È pm an cM ct):=⟨⟨oc,od,kV,È,pm,an,cM,ct,Ph,rfl,l,c⟩,k⟩
end
def uo (h:n<=1000):n < sizeLine:=Nat.lt_of_le_of_lt h ⋯
def tI {A:Prop} (h:B):if false=true then A else B:=by
 exact h
def tH {A:Prop} (h:A):if true=true then A else B:=by
 exact h
def j8 (H H':Hp):Prop:=∀b o,H b=bd o->H' b=bd o
def j8.refl (H:Hp):j8 H H:=λ_ _ h=>h
end L2
variable {a b:Nat}{H2:L2.Hp}{R:PySem.Result->DR->Prop}{Xs:PySem.Scope}{N':List BZ}{ix:List (Option Nat)}{Ä:BN}{Ê:List BN}{px mV:Cu}
namespace L2
open PySem PySem.Spec PyProof.Rows
def lsz {o:Obj} (e:h.get? b=bd o):b < h.objs.size:=Ar e
def neN (h:a≠b):a≠b:=h
def ltN (h:a < b):a < b:=h
def T7 {c:Nat}{v:Option ci} (q:h.IsCell c v):c < h.objs.size:=q.lt
structure aA (Xs:nn) (N:List Str) (sc:nn) (N':List Str) (ix:List (Option Nat)):Prop where
 kind:sc.kind=.function
 nc:∀y∈sc.names,y.2≠.cell
 loc:∀y∈sc.names,y.2=.local->sc.names.lookup y.1=bd .local
 fr:∀y∈sc.names,y.2=.free->(Xs.names.lookup y.1=bd .cell\/Xs.names.lookup y.1=bd .free)
 nd:N'.Nodup
 len:ix.length=N'.length
 map:((ix.zip N').all λp=>match p.1 with | none=>true | some j=>decide (N[j]?=bd p.2)&&decide (sc.names.lookup p.2=bd .free))=true
def aA.at {N:List Str} (S:aA Xs N sc N' ix) {i:Nat} (h1:ix[i]?=bd (bd j)) (h2:N'[i]?=bd x) :
  N[j]?=bd x/\sc.names.lookup x=bd .free:=by
 have hm:((bd j,x):Option Nat×Str)∈ix.zip N':=by
  refine Br (i:=i) ?_;rw [List.getElem?_zip_eq_some];exact⟨h1,h2⟩
 have q:=Cy.mp S.map _ hm;simp only [AO,decide_eq_true_eq] at q;exact q
def nU (ix:List (Option Nat)) (σ:St):St:=ix.map λo=>match o with | some j=>(σ[j]?).getD bv | none=>bv
def gq (X:Cx) (sc:nn) (N':List Str) (cl:List (Str×db)) (C:db) (s2:dL) (H2:Hp) (fp:List db):Cx where
 prog:=X.prog
 w:=X.w
 K:=X.K
 mg:=X.mg
 base:=X.base
 A:=X.A
 N:=N'
 s₀:=s2
 H₀:=H2
 env:=compEnvC sc cl C X.env
 outer:=X.stack
 stack:=X.stack
 ex:=fp
 calm:=X.calm
 fn:=λ_=>false
 pn:=[]
 xe:=λ_ _=>False
theorem mF:∀(names:List (Str×BT)) (cs:List (Str×db)),(∀y∈names,y.2=.free->∃c,env.cells.lookup y.1=bd c)->
  ∃cl,(forIn names cs λ(x:Str×BT) (c:List (Str×db))=>(match x with | (name,kind)=>do
    let c <- if (kind==Bh)=true then do let a <- cellOf env name;pure ((name,a)::c) else pure c
    pure (Cm c):Sem (ForInStep (List (Str×db)))))=pure cl/\(∀x c,cl.lookup x=bd c->cs.lookup x=bd c\/(env.cells.lookup x=bd c/\(x,Bh)∈names))/\(∀x,((x,Bh)∈names\/(∃c,cs.lookup x=bd c))->∃c,cl.lookup x=bd c)
 | [],cs,_=>⟨cs,rfl,λ_ _ h=>.inl h,λx h=>h.elim (λz=>nomatch z) λz=>z⟩
 | (n,k)::r,cs,h=>by
  by_cases hk:k=.free
  ·subst hk;obtain⟨c,hc⟩:=h (n,.free) BA rfl;obtain⟨cl,e,h1,h2⟩:=mF r ((n,c)::cs) λy hy=>h y (AV _ hy);refine⟨cl,?_,λx d hd=>?_,λx hx=>?_⟩
   ·rw [B7,<- e];simp only [beq_self_eq_true,if_true,cellOf,hc,pure_bind]
   ·rcases h1 x d hd with z | ⟨z1,z2⟩
    ·rw [Bm] at z;by_cases hx:(x==n)=true
     ·rw [hx] at z;have uH:x=n:=eq_of_beq hx;subst uH;cases z;exact .inr ⟨hc,BA⟩
     ·have uH:(x==n)=false:=by simpa using hx
      rw [uH] at z;exact .inl z
    ·exact .inr ⟨z1,AV _ z2⟩
   ·refine h2 x ?_;rcases hx with hx | ⟨d,hd⟩
    ·rcases Ay.mp hx with z | z
     ·injection z with z1 _;subst z1;exact .inr ⟨c,by rw [Bm];simp⟩
     ·exact .inl z
    ·by_cases hx:(x==n)=true
     ·exact .inr ⟨c,by rw [Bm,hx]⟩
     ·have uH:(x==n)=false:=by simpa using hx
      exact .inr ⟨d,by rw [Bm,uH];exact hd⟩
  ·obtain⟨cl,e,h1,h2⟩:=mF r cs λy hy=>h y (AV _ hy);refine⟨cl,?_,λx d hd=>?_,λx hx=>?_⟩
   ·have hb:(k==Bh)=false:=by simpa using hk
    rw [B7,<- e];simp only [hb,Am,if_false,pure_bind]
   ·rcases h1 x d hd with z | ⟨z1,z2⟩
    ·exact .inl z
    ·exact .inr ⟨z1,AV _ z2⟩
   ·refine h2 x ?_;rcases hx with hx | hx
    ·rcases Ay.mp hx with z | z
     ·injection z with _ z2;exact absurd z2.symm hk
     ·exact .inl z
    ·exact .inr hx
def ma (h:∀y∈sc.names,y.2=.free->∃c,env.cells.lookup y.1=bd c) :
  ∃cl,closureFor sc env=pure cl/\(∀x c,cl.lookup x=bd c->env.cells.lookup x=bd c/\(x,Bh)∈sc.names)/\(∀x,(x,Bh)∈sc.names->∃c,cl.lookup x=bd c):=by
 obtain⟨cl,e,h1,h2⟩:=mF (env:=env) sc.names [] h;refine⟨cl,?_,λx c hc=>(h1 x c hc).resolve_left (λz=>nomatch z),λx hx=>h2 x (.inl hx)⟩;unfold closureFor;have e':(forIn sc.names ([]:List (Str×db)) λx r=>(match x with | (name,kind)=>if (kind==Bh)=true then do let a <- cellOf env name;pure (Cm ((name,a)::r)) else pure (Cm r):Sem (ForInStep (List (Str×db)))))=pure cl:=by
  rw [<- e]
  first
   | rfl
   | (
     congr 1;funext x r;obtain⟨n,k⟩:=x;by_cases hk:(k==Bh)=true
     ·simp only [hk,if_true,pure_bind]
     ·simp only [hk,if_false,pure_bind,Am])
   | simp only [pure_bind]
 simpa using e'
theorem gW {env:Env}:∀{names:List (Str×BT)}{x:Str},
  (names.map λ(n,k)=>if (k==Bh&&env.scope.kind==.function&&env.kindOf n==bd .cell) then (n,Fh) else (n,k)).lookup x =
   (names.lookup x).map λk=>if (k==Bh&&env.scope.kind==.function&&env.kindOf x==bd .cell) then Fh else k
 | [],_=>rfl
 | (n,k)::r,x=>by
  have ih:=@gW env r x;show List.lookup x ((if (k==Bh&&env.scope.kind==.function&&env.kindOf n==bd .cell)=true then (n,Fh) else (n,k))::_)=_;cases hx:x==n with
  | true=>
   have e:=eq_of_beq hx;subst e;by_cases hc:(k==Bh&&env.scope.kind==.function&&env.kindOf x==bd .cell)=true
   ·rw [if_pos hc,Bm,Bm,hx];simp only [Ck,hc,if_true]
   ·rw [if_neg hc,Bm,Bm,hx];simp only [Ck,hc,if_false];simp
  | false=>
   by_cases hc:(k==Bh&&env.scope.kind==.function&&env.kindOf n==bd .cell)=true
   ·rw [if_pos hc,Bm,Bm,hx];exact ih
   ·rw [if_neg hc,Bm,Bm,hx];exact ih
def Xx (X:Cx) (Ê:List lm) (t:TT):Prop:=
 ∀(Z:List (db×Obj)) (s:dL) (σ:St) (H:Hp) (Q:Bool->Hp->Prop),Inv X Z σ H s->t σ H Q->
  d4 (d5 X.prog X.w) X.A (forIn Ê true λc r=>if r=true then do let ok <- isTrue c X.env (kt c X.env);pure (Cm ok) else pure (Cm r)) (TP X Z σ Q) X.xe s
def acg:TT:=λ_ H Q=>Q true H
def QC:Xx X [] acg:=λZ s σ H Q I h=>by
 exact Ah ⟨H,I,h⟩
def QB {c:lm}{t:TT} (hc:PT X c t):Xx X [c] t:=λZ s σ H Q I h=>by
 rw [B7];simp only [if_true,bind_assoc,pure_bind];refine Aa (bD (hc Z s σ H Q I h) λb s1 q=>?_);exact Ah q
def tLc (ix:List (Option Nat)) (wi:TI) (g:TG) (tf:TT) (te:TE):TE:=λσ H Q=>wi σ H λJ H1=>∀D,H1 D=bv->∃W:Nat->Nat->St->List V->Hp->Prop,
 (∃m,W 0 m (nU ix σ) [] (upd H1 D (.lst [])))/\∀i m σ' ys H,W i m σ' ys H->H D=bd (.lst ys)/\
  ((J.stop i H/\Q (.ref D) H)\/(J.go i H/\∀x H',J.SU i H x H'->g x σ' H' λσ2 H2=>tf σ2 H2 λb H3=>
   if b=true then te σ2 H3 λy H4=>H4 D=bd (.lst ys)/\ys.length+1<=sizeLine/\∃m',m' < m/\W (i+1) m' σ2 (ys++[y]) (upd H4 D (.lst (ys++[y]))) else ∃m',m' < m/\W (i+1) m' σ2 ys H3))
def lR {É:lm}{it Å:ci} (I:Nat->dL->Prop)
  (turn:∀n s,I n s->d4 (d5 prog w) A (pyNext it) (λr s₁=>match r with
   | none=>R (.ok .next) s₁
   | some v=>d4 (d5 prog w) A (GT É it v) (λ_ S2=>d4 (d5 prog w) A (xz É env v) (λ_ s₂=>
     d4 (d5 prog w) A (forIn Ê true λc r=>if r=true then do let ok <- isTrue c env (kt c env);pure (Cm ok) else pure (Cm r)) (λok s₃=>
      if ok=true then d4 (d5 prog w) A (kt Ä env) (λx s₄=>
       d4 (d5 prog w) A (call (.builtin "list.append") [Å,x]) (λ_ s₅=>∃m,m < n/\I m s₅) (λ_ _=>False) s₄) (λ_ _=>False) s₃
      else ∃m,m < n/\I m s₃) (λ_ _=>False) s₂) (λ_ _=>False) S2) (λ_ _=>False) s₁) (λ_ _=>False) s)
  (n:Nat) (h:I n s) :
  GE (d5 prog w) A (.compLoop (.ListComp Ä [⟨É,iter,Ê,0⟩] scope pos) 0 it Å env) R s:=by
 refine codeAny_loop rfl I (λn s hI=>?_) n h;refine wpAny_noted ?_;rw [compTurn_list];refine Aa (Ek (Aa (BP (turn n s hI) (λr s₁ h₁=>?_) λ_ _ h'=>h'.elim)));cases r with
 | none=>exact Ah h₁
 | some v=>
  refine Aa (BP h₁ (λ_ S2 Zr=>?_) λ_ _ h'=>h'.elim);refine Aa (BP Zr (λ_ s₂ h₂=>Aa (BP h₂ (λok s₃ h₃=>?_) λ_ _ h'=>h'.elim)) λ_ _ h'=>h'.elim);cases ok with
  | false=>exact Ah ⟨rfl,h₃⟩
  | true=>
   have Zq:d4 (d5 prog w) A (kt Ä env) (λx s₄=>
       d4 (d5 prog w) A (call (.builtin "list.append") [Å,x]) (λ_ s₅=>∃m,m < n/\I m s₅) (λ_ _=>False) s₄) (λ_ _=>False) s₃:=h₃
   exact Aa (Aa (BP Zq (λx s₄ h₄=>Aa (BP h₄ (λ_ s₅ h₅=>Ah (Ah ⟨rfl,h₅⟩)) λ_ _ h'=>h'.elim)) λ_ _ h'=>h'.elim))
section
variable {g:TG}{tf:TT}
structure aaF (X:Cx) (Z:List (db×Obj)) (H:Hp) (C:db):Prop where
 hn:H C=bv
 hL:C≠X.env.locals
 ab:X.s₀.heap.objs.size<=C
 cl:∀x c,X.env.cells.lookup x=bd c->c≠C
 pn:∀p∈X.pn++Z,p.1≠C
theorem IE (hc:X.calm=true) (S:aA X.env.scope X.N sc N' ix)
  (hg:∀cl C s2 H2 fp,PG (gq X sc N' cl C s2 H2 fp) tg g) (hf:∀cl C s2 H2 fp,Xx (gq X sc N' cl C s2 H2 fp) Ê tf) (he:∀cl C s2 H2 fp,PE (gq X sc N' cl C s2 H2 fp) Ä te) {s2:dL}{cl:List (Str×db)} (rQ:∀x c,cl.lookup x=bd c->X.env.cells.lookup x=bd c/\(x,Bh)∈sc.names) (Km:∀x,(x,Bh)∈sc.names->∃c,cl.lookup x=bd c) {tn:Nat->pc->Prop}{J:It}{Q:VK} (I2:Inv X Z σ H2 s2) (T:Turn X.prog X.w X.K tg J fp it tn) (JJ:tn 0 s2.heap) (f2:∀b∈fp,ue X Z H2 b)
  (hW:∀D,H2 D=bv->∃W:Nat->Nat->St->List V->Hp->Prop,
   (∃m,W 0 m (nU ix σ) [] (upd H2 D (.lst [])))/\∀i m σ' ys H,W i m σ' ys H->H D=bd (.lst ys)/\
    ((J.stop i H/\Q (.ref D) H)\/(J.go i H/\∀x H',J.SU i H x H'->g x σ' H' λσ2 H2=>tf σ2 H2 λb H3=>
     if b=true then te σ2 H3 λy H4=>H4 D=bd (.lst ys)/\ys.length+1<=sizeLine/\∃m',m' < m/\W (i+1) m' σ2 (ys++[y]) (upd H4 D (.lst (ys++[y]))) else ∃m',m' < m/\W (i+1) m' σ2 ys H3)))
  {RR:ci->db->Result->dL->Prop}{E:ci->dL->Prop}
  (hRR:∀D C m s' H',Inv X Z σ H' s'->Q (.ref D) H'->s'.heap.Ns C m->aaF X Z H' C->RR (.ref D) C (.ok .next) s') :
  d4 (d5 X.prog X.w) X.A (newList []) (λÅ s₃=>d4 (d5 X.prog X.w) X.A (newFunctionEnv sc X.env.globals cl [] X.env.qual bv .none (bd X.env)) (λaaq s₄=>
   GE (d5 X.prog X.w) X.A (.compStart (.ListComp Ä [⟨tg,iter,Ê,0⟩] sc pos) 0 (.ref it) Å {aaq with scope:=relabel sc X.env}) (RR Å aaq.locals) s₄) E s₃) E s2:=by
 refine Bp (wpAny_newFunctionEnv S.nc (by intro y hy;simp at hy) (λh₁ GG wz=>?_) S.kind);generalize hH2:s2.heap.push {cls:=.type "list",dict:=bv,data:=.seq ([]:List ci).toArray}=G2 at GG wz ⊢;have hC:G2.objs.size=s2.heap.objs.size+1:=by rw [<- hH2,CJ]
 obtain⟨D,hD⟩:∃D:Nat,s2.heap.objs.size=D:=⟨_,rfl⟩;obtain⟨C,hCC⟩:∃C:Nat,G2.objs.size=C:=⟨_,rfl⟩;simp only [hD,hCC] at GG wz hC ⊢;have hDC:D≠C:=by omega
 have Ì:∀b o,s2.heap.get? b=bd o->h₁.get? b=bd o:=λb o e=>by
  have hb:=lsz e;exact wz.extBut b o (neN ∅) (Aj _ (hH2▸Aj _ e))
 have ZQ:h₁.get? D=bd {cls:=.type "list",data:=.seq ([]:List ci).toArray}:=by
  refine wz.extBut D _ hDC (Aj _ ?_);rw [<- hH2,<- hD];exact Aq _ rfl
 have hD2:H2 D=bv:=I2.bG.fresh ∅;have hC2:H2 C=bv:=I2.bG.fresh ∅;obtain⟨W,⟨m0,w0⟩,turn⟩:=hW D hD2;have T6:∀x c,cl.lookup x=bd c->∃v,s2.heap.IsCell c v:=λx c e=>I2.cell x c (rQ x c e).1;have ad5:∀x c,cl.lookup x=bd c->c < D:=λx c e=>by
  obtain⟨v,q⟩:=T6 x c e;have:=T7 q;exact ltN ∅
 have ī:∀b∈fp,b < D:=λb hb=>by
  obtain⟨o,e,_⟩:=T.obj 0 _ JJ b hb;have:=lsz e;exact ltN ∅
 have Yok:(gq X sc N' cl C s2 H2 fp).Ok:=by
  refine⟨I2.ok.mod,S.kind,I2.ok.glob,I2.ok.blt,?_,?_,?_,?_,I2.ok.hd,I2.ok.frames,.inl rfl,?_,I2.bs,?_,?_,?_,I2.stack,I2.H0⟩
  ·show s2.heap.objs.size<=C;omega
  ·intro x y c e1 e2;exact I2.ok.inj x y c (rQ x c e1).1 (rQ y c e2).1
  ·intro x hx;have uH:(relabel sc X.env).names.lookup x=bd .cell\/(relabel sc X.env).names.lookup x=bd .free:=hx;unfold relabel at uH;rw [gW] at uH;cases q:sc.names.lookup x with
   | none=>rw [q] at uH;simp at uH
   | some k=>
    have hm:=BR q;by_cases hk:k=.free
    ·subst hk;exact Km x hm
    ·have ú:k≠.cell:=S.nc _ hm;rw [q] at uH;have hb:(k==Bh)=false:=by simpa using hk
     simp only [Ck,hb,Fb,Am,if_false] at uH;rcases uH with z | z
     ·exact absurd (Option.some.inj z) ú
     ·exact absurd (Option.some.inj z) hk
  ·intro x c ZL;exact absurd ZL AU
  ·intro b hb;refine⟨?_,λx c e z=>(f2 b hb).2.2.2.2.1 x c (rQ x c e).1 z⟩;show b≠C;have:=ltN (ī b hb);exact neN ∅
  ·exact Bk I2.ok.T8 I2.sz
  ·intro b o e hb;rcases (f2 b hb).2.2.2.1 with z | z
   ·exact I2.ok.M5 b o e z
   ·have h1:=lsz (h:=X.base) e;have h2:=I2.ok.T8;omega
  ·intro b hb z;rcases Ay.mp (I2.z9 b z) with q | q
   ·exact (f2 b hb).2.1 q
   ·exact (f2 b hb).2.2.1 q
 have un0:Un (LC X.stack) fp H2 (upd H2 D (.lst [])) s2.heap h₁:=Un.laid Ì ∅ hD2;have adf:lN X.prog X.w (upd H2 D (.lst [])) h₁:=I2.bG.laid Ì ∅ ⟨A5 _,[],0,.nil,ZQ⟩;have IY:∀tk,Inv (gq X sc N' cl C s2 H2 fp) [] (nU ix σ) (upd H2 D (.lst [])) {s2 with heap:=h₁,toks:=tk}:=λtk=>by
  refine⟨Yok,rfl,I2.bare,un0,⟨_,GG,λi x v e1 e2 e3=>?_⟩,λx c e=>?_,?_,λx c e=>?_,λp hp=>absurd (show p∈([]:List (db×Obj)) from hp) (by simp),adf,?_⟩
  ·have mK:N'[i]?=bd x:=e1;unfold nU at e2;rw [Ag] at e2;cases q:ix[i]? with
   | none=>rw [q] at e2;cases e2
   | some o=>
    cases o with
    | none=>rw [q] at e2;cases e2
    | some j=>
     rw [q] at e2;have Wv:(σ[j]?).getD bv=bd v:=Option.some.inj e2;have e4:σ[j]?=bd (bd v):=by
      cases z:σ[j]? with
      | none=>rw [z] at Wv;cases Wv
      | some y=>rw [z] at Wv;exact congrArg bd Wv
     obtain⟨a1,a2⟩:=S.at q mK;have ZC:=BR a2;have hk:=S.fr _ ZC rfl;obtain⟨m,_,hl⟩:=I2.loc;obtain⟨u,r,l⟩:=hl j x v a1 e4 (.inr hk);refine⟨u,r,.inr ⟨?_,?_⟩⟩
     ·show (relabel sc X.env).names.lookup x=bd .cell\/(relabel sc X.env).names.lookup x=bd .free;unfold relabel;rw [gW,a2];by_cases hb:(X.env.scope.kind==.function&&X.env.kindOf x==bd .cell)=true
      ·left
       simp only [Ck,beq_self_eq_true,Fi,hb,if_true]
      ·right
       simp only [Ck,beq_self_eq_true,Fi,hb,if_false,Am]
     ·obtain⟨c,hcx⟩:=Km x ZC;have hcX:=(rQ x c hcx).1;refine⟨c,hcx,?_⟩;rcases l with⟨k,_⟩ | ⟨k,c',e',z⟩
      ·have k':X.env.scope.names.lookup x=bd .local:=k;rcases hk with y | y <;> rw [k'] at y <;> cases y
      ·rw [hcX] at e';cases e';obtain⟨o,ho,hd⟩:=z;exact⟨o,Ì _ _ ho,hd⟩
  ·obtain⟨v,o,ho,hd⟩:=T6 x c e;exact⟨v,o,Ì _ _ ho,hd⟩
  ·show upd H2 D (.lst []) C=bv;rw [aB (BE hDC)];exact hC2
  ·have kh:=ltN (ad5 x c e);show upd H2 D (.lst []) c=bv;rw [aB (neN ∅)];exact I2.kc x c (rQ x c e).1
  ·unfold nU;rw [Af];exact S.len
 have Ī:∀{yn:List (db×Obj)}{H':Hp},(∀b∈fp,H' b=bv)->(∀p∈yn,p.1∉fp)->∀b∈fp,ue (gq X sc N' cl C s2 H2 fp) yn H' b:=λhn hp b hb=>by
  refine⟨hn b hb,?_,?_,.inl hb,λx c e z=>(f2 b hb).2.2.2.2.1 x c (rQ x c e).1 z,λp Ę z=>?_⟩
  ·show b≠C;have:=ltN (ī b hb);exact neN ∅
  ·exact Yok.N6 b hb
  ·have ac8:p∈([]:List (db×Obj))++_:=Ę;exact hp p ac8 (z▸hb)
 have ä:∀s₃:dL,s₃={s2 with heap:=h₁,toks:=s2.toks+([]:List (Str×ci)).length}->
   GE (d5 X.prog X.w) X.A (.compLoop (.ListComp Ä [⟨tg,iter,Ê,0⟩] sc pos) 0 (.ref it) (.ref D) (compEnvC sc cl C X.env)) (RR (.ref D) C) s₃:=by
  rintro s₃ rfl;refine lR (λn s'=>∃i σ' ys H',Inv (gq X sc N' cl C s2 H2 fp) [] σ' H' s'/\tn i s'.heap/\(∀b∈fp,H' b=bv)/\W i n σ' ys H') ?_ m0
   ⟨0,_,[],_,IY _,T.keep _ _ _ JJ (λb _ o e=>Ì b o e),λb hb=>by rw [aB (AM (ī b hb))];exact (f2 b hb).1,w0⟩
  rintro n s3 ⟨i,σ3,ys,H3,I3,Yj,ZY,w3⟩;obtain⟨hDl,w3⟩:=turn i n σ3 ys H3 w3;rcases w3 with⟨stop,qn⟩ | ⟨go,step⟩
  ·refine bD (T.done (gq X sc N' cl C s2 H2 fp) rfl rfl rfl hc i [] s3 σ3 H3 _ I3 (Ī ZY (by simp)) Yj stop) λr s4 ⟨hr,I4⟩=>?_;subst hr;obtain⟨m,hn,_⟩:=I4.loc;refine hRR D C m s4 H3 (I2.aar (ch:=fp) I4.os I4.base I4.bG I4.bare λb hb=>?_) qn hn ?_
   ·obtain⟨a0,a1,a2,a3,a4,a5⟩:=f2 b hb;exact⟨a3,a1,a4,a5⟩
   ·refine⟨I4.free,?_,?_,λx c e z=>?_,λp hp z=>?_⟩
    ·have:=ltN I2.lt;exact neN ∅
    ·have:=I2.sz;omega
    ·obtain⟨v,q⟩:=I2.cell x c e;have:=T7 q;exact neN (a:=c) (b:=C) ∅ z
    ·have:=lsz (I2.pin p hp).1;exact neN (a:=p.1) (b:=C) ∅ z
  ·refine bD (T.item (gq X sc N' cl C s2 H2 fp) rfl rfl rfl hc i [] s3 σ3 H3 (λ_ _=>False) I3 (Ī ZY (by simp)) Yj go) λr s4 ⟨u,hr,h4⟩=>?_;subst hr;refine bD h4 λ_ s5 ⟨x,H5,I5,r5,y5,Ux,ĩ⟩=>?_;have ĭ:=I5.pinned (Ī ĩ (by simp)) (T.obj _ _ Ux);refine bD (hg _ _ _ _ _ _ s5 σ3 H5 x u _ ĭ r5 (step x H5 y5)) λ_ s6 ⟨σ6,H6,I6,q6⟩=>?_;refine bD (hf _ _ _ _ _ _ s6 σ6 H6 _ I6 q6) λb s7 ⟨H7,I7,q7⟩=>?_;have Nm:∀{s8:dL}{σ8:St}{H8:Hp},Inv (gq X sc N' cl C s2 H2 fp) ([]++oj fp s5.heap) σ8 H8 s8->tn (i+1) s8.heap/\∀b∈fp,H8 b=bv:=λ{s8 σ8 H8} I8=>by
    refine⟨T.keep _ _ _ Ux λb hb o e=>(I8.pin (b,o) (AQ _ (AQ _ (jO hb e)))).1,λb hb=>?_⟩;obtain⟨o,e,d⟩:=T.obj _ _ Ux b hb;exact (I8.pin (b,o) (AQ _ (AQ _ (jO hb e)))).2.1
   cases b with
   | false=>
    have q7':=q7;obtain⟨m',hm,w7⟩:=q7';obtain⟨t7,fr7⟩:=Nm I7;exact⟨m',hm,i+1,σ6,ys,H7,I7.kD,t7,fr7,w7⟩
   | true=>
    refine bD (he _ _ _ _ _ _ s7 σ6 H7 _ I7 q7) λyv s8 ⟨y,H8,I8,r8,hD8,hz8,m',hm,w8⟩=>?_;obtain⟨z,au,k,rv,hl8,e8⟩:=I8.oy hD8;obtain⟨t8,fr8⟩:=Nm I8;refine wpAny_list_append_plain (s:=s8) (items:=au.toArray) (hsz:=by rw [Ai];omega) ⟨_,e8⟩ λh9 hl9 hs9=>?_;obtain⟨k9,e9⟩:=hl9;have hv9:=Vals.append rv (.cons r8 .nil);have I9:Inv (gq X sc N' cl C s2 H2 fp) ([]++oj fp s5.heap) σ6 (upd H8 D (.lst (ys++[y]))) {s8 with heap:=h9,toks:=s8.toks}:=by
     refine I8.write (x:=D) (e:=D) (by rw [hD8];exact trivial) (.inl rfl) (λb u hb hu=>(hs9.2 b hb).trans hu) ⟨_,e9⟩ ?_;refine⟨by rw [Ae,EZ];exact hz8,au++[yv],k9,hv9,?_⟩;rw [e9];simp
    obtain⟨t9,fr9⟩:=Nm I9;exact⟨m',hm,i+1,σ6,_,_,I9.kD,t9,fr9,w8⟩
 exact codeAny_compStart_list (ä _ rfl) (T.self _ 0 _ _ _ (T.keep _ _ _ JJ λb _ o e=>Ì b o e) (ä _ rfl))
def YQ (hc:X.calm=true) (S:aA X.env.scope X.N sc N' ix) (hi:PI X tg iter wi)
  (hg:∀cl C s2 H2 fp,PG (gq X sc N' cl C s2 H2 fp) tg g) (hf:∀cl C s2 H2 fp,Xx (gq X sc N' cl C s2 H2 fp) Ê tf) (he:∀cl C s2 H2 fp,PE (gq X sc N' cl C s2 H2 fp) Ä te)
  (hs:∀x,f8 iter X.env x=pure x:=by intro _;rfl):PE X (.ListComp Ä [⟨tg,iter,Ê,0⟩] sc pos) (tLc ix wi g tf te):=by
 intro Z s σ H Q I h;have GH:∀y∈sc.names,y.2=.free->∃c,X.env.cells.lookup y.1=bd c:=λy hy hk=>I.ok.has y.1 (S.fr y hy hk);obtain⟨cl,NL,rQ,Km⟩:=ma GH;refine Em (use:=bv) rfl hs NL S.kind S.loc (bD (hi Z s σ H _ I h) λv s1 h1=>bD h1 λñ s2 h2=>?_);obtain⟨it,fp,tn,J,H2,rfl,I2,T,JJ,f2,hW⟩:=h2;refine IE (RR:=λÅ C=>compPost (d5 X.prog X.w) X.A X.xe bv (EP X Z σ Q) Å C) hc S hg hf he rQ Km I2 T JJ f2 hW λD C m s' H' I' q hn F=>?_;refine⟨m,hn,λh' ė=>⟨.ref D,H',?_,rfl,q⟩⟩;exact I'.turned (it:=C) (t':=s'.toks) (λb o hb e=>(ė.2 b hb).trans e) F.hn F.hL (.inr F.ab) F.cl F.pn
def yk {i:Nat} (hc:X.calm=true) (hN:X.N.Nodup) (yQ:X.N[i]?=bd x) (hx:X.env.scope.names.lookup x=bd .local) (S:aA X.env.scope X.N sc N' ix) (hi:PI X tg iter wi)
  (hg:∀cl C s2 H2 fp,PG (gq X sc N' cl C s2 H2 fp) tg g) (hf:∀cl C s2 H2 fp,Xx (gq X sc N' cl C s2 H2 fp) Ê tf) (he:∀cl C s2 H2 fp,PE (gq X sc N' cl C s2 H2 fp) Ä te)
  (pF:lw (.ListComp Ä [⟨tg,iter,Ê,0⟩] sc pos) (bd (.Name x px)) mV.line X.env=pure true:=by rfl)
  (hs:∀x,f8 iter X.env x=pure x:=by intro _;rfl):PS X (.Assign [.Name x px] (.ListComp Ä [⟨tg,iter,Ê,0⟩] sc pos) mV) (Uv (tLc ix wi g tf te) (dI i)):=by
 intro Z s σ H D0 I h;rw [exec_Assign_Name_used _ _ _ _ pF];refine Aa (Ek (Aa ?_));show d4 _ X.A (do let _ <- comprehension (.ListComp Ä [⟨tg,iter,Ê,0⟩] sc pos) sc X.env _ (newList []) false (kt iter X.env) (bd (xz (.Name x px) X.env))) _ _ s;have GH:∀y∈sc.names,y.2=.free->∃c,X.env.cells.lookup y.1=bd c:=λy hy hk=>I.ok.has y.1 (S.fr y hy hk);obtain⟨cl,NL,rQ,Km⟩:=ma GH;refine Aa (BP (Em (use:=bd (xz (.Name x px) X.env)) (Q:=λ_ s'=>SP X Z D0 .next s') rfl hs NL S.kind S.loc (bD (hi Z s σ H _ I h) λv s1 h1=>bD h1 λñ s2 h2=>?_)) (λ_ s' hq=>Ah (Ah hq)) λ_ _ e=>e);obtain⟨it,fp,tn,J,H2,rfl,I2,T,JJ,f2,hW⟩:=h2;refine IE (RR:=λÅ C=>compPost (d5 X.prog X.w) X.A X.xe (bd (xz (.Name x px) X.env)) (λ_ s'=>SP X Z D0 .next s') Å C) (Q:=λx H1=>dI i x σ H1 D0.nx) hc S hg hf he rQ Km I2 T JJ f2 hW λD C m s' H' I' q hn F=>?_;show d4 _ X.A (xz (.Name x px) X.env (.ref D)) _ _ _;refine wpAny_assign_Name (uk (v:=.ref D) I' hN yQ (.inl hx) rfl (λYs I'' Ė=>?_) (.inr hx));obtain⟨a,Ė,ha⟩:=Ė;have haC:C≠a:=by
  rcases ha with z | z
  ·rw [z];exact F.hL
  ·exact BE (F.cl _ _ z)
 refine⟨m,hn.sameBut Ė haC,λh' ė=>⟨_,H',?_,q⟩⟩;exact I''.turned (it:=C) (t':=Ys.toks) (λb o hb e=>(ė.2 b hb).trans e) F.hn F.hL (.inr F.ab) F.cl F.pn
end
end L2
variable {a o b:BN}{tl:L2.TE}
namespace L2
open PySem PySem.Spec PyProof.Rows
section
def o9:bQ X (.builtin "isinstance") (λxs H Q=>∃x c t b,xs=[x,.ty c]/\lS X.K H x t/\Bz X.K t (.type c)=bd b/\Q (.bl b) H):=by
 intro Z s σ H xs us Q I r h;obtain⟨x,c,t,b,rfl,ty,hk,q⟩:=h;obtain⟨u,w',rfl,ru,iK⟩:=vals2 r;cases (show w'=BW c from iK);exact Kb I ru ty hk λtk=>⟨.bl b,H,I.tok _,rfl,q⟩
def yz:hJ X (lc .IsNot) (λx y H Q=>∃i j,x=.bl i/\y=.bl j/\Q (.bl (!(i==j))) H):=by
 intro Z s σ H x y v u Q I rx ry h;obtain⟨i,j,rfl,rfl,q⟩:=h;cases rx;cases ry;exact Ah ⟨.bl (!(i==j)),H,I,by cases i <;> cases j <;> rfl,q⟩
def JX (hu:X.A.units < o0):hJ X (lc .NotEq) (λx y H Q=>∃p q xs,x=.ref p/\y=.ref q/\cU X.K H p xs/\cU X.K H q []/\Q (.bl (!xs.isEmpty)) H):=by
 intro Z s σ H x y v u Q I rx ry h;obtain⟨p,q,xs,rfl,rfl,hp,hq,k⟩:=h;cases rx;cases ry;obtain⟨au,r,pl,hz⟩:=I.list hp;obtain⟨cD,r2,YM,hz2⟩:=I.list hq;cases r2;cases xs with
 | nil=>
  cases r;refine Ec (Fo (e:=λ_=>true) pl.isList YM.isList rfl hu λj h1=>absurd h1 (by simp)) ?_;exact⟨.bl false,H,I,rfl,k⟩
 | cons y ys=>
  have hl:=r.length;refine Ec (DY pl.isList YM.isList (by simp at hl ⊢;intro z;subst z;simp at hl) hu) ?_;exact⟨.bl true,H,I,rfl,k⟩
def zw {bs:List Bool}:∀{us:List ci},Vals (bs.map V.bl) us->us=bs.map B6:=by
 induction bs with
 | nil=>intro us r;rw [EG] at r;cases r;rfl
 | cons n ns ih=>
  intro us r;cases r with
  | cons r1 r2=>
   cases r1;rw [ih r2];rfl
def Hs (hc:X.calm=true):bQ X (.builtin "all") (λxs H Q=>∃(p:db) (bs:List Bool),xs=[.ref p]/\cU X.K H p (bs.map V.bl)/\Q (.bl (bs.all id)) H):=by
 intro Z s σ H xs us Q I r h;obtain⟨p,bs,rfl,hp,q⟩:=h;obtain⟨u,rfl,ru⟩:=vals1 r;cases ru;obtain⟨au,rv,pl,hz⟩:=I.list hp;have eb:=zw rv;subst eb;have hl:=pl.isList;have kh:p < s.heap.objs.size:=by obtain⟨_,e,_⟩:=hl;exact Ar e
 refine call_all_walk (CH hl ?_);refine⟨s.heap.objs.size,[s.heap.objs.size,p],[s.heap.objs.size],(bs.map B6).toArray.size,_,_,λi=>(bs[i]?).getD true,rfl,Walks.list (A:=X.A.in1) (I.ok.hd hc) _ p (AM kh) (bs.map B6).toArray,
  ⟨⟨_,Aq _ rfl,rfl,rfl⟩,hl.push _⟩,λi v s' Q' E' hP hQ=>?_,λh' tk hk=>?_⟩
 ·have NP:(bs.map B6)[i]?=bd v:=by simpa using hP
  rw [Ag] at NP;cases e:bs[i]? with
  | none=>rw [e] at NP;cases NP
  | some b=>
   rw [e] at NP;cases NP;simp only [e,Option.getD_some] at hQ;exact Bo hQ
 ·have e:((Av (bs.map B6).toArray.size).all λi=>(bs[i]?).getD true)=bs.all id:=by
   rw [Ai,Af];exact LSm.range_all bs
  rw [e];exact⟨.bl (bs.all id),H,I.kept (LSm.kept_iter hk),rfl,q⟩
def Hr (hc:X.calm=true):bQ X (.builtin "any") (λxs H Q=>∃(p:db) (bs:List Bool),xs=[.ref p]/\cU X.K H p (bs.map V.bl)/\Q (.bl (bs.any id)) H):=by
 intro Z s σ H xs us Q I r h;obtain⟨p,bs,rfl,hp,q⟩:=h;obtain⟨u,rfl,ru⟩:=vals1 r;cases ru;obtain⟨au,rv,pl,hz⟩:=I.list hp;have eb:=zw rv;subst eb;have hl:=pl.isList;have kh:p < s.heap.objs.size:=by obtain⟨_,e,_⟩:=hl;exact Ar e
 refine call_any_walk (CH hl ?_);refine⟨s.heap.objs.size,[s.heap.objs.size,p],[s.heap.objs.size],(bs.map B6).toArray.size,_,_,λi=>(bs[i]?).getD false,rfl,Walks.list (A:=X.A.in1) (I.ok.hd hc) _ p (AM kh) (bs.map B6).toArray,
  ⟨⟨_,Aq _ rfl,rfl,rfl⟩,hl.push _⟩,λi v s' Q' E' hP hQ=>?_,λh' tk hk=>?_⟩
 ·have NP:(bs.map B6)[i]?=bd v:=by simpa using hP
  rw [Ag] at NP;cases e:bs[i]? with
  | none=>rw [e] at NP;cases NP
  | some b=>
   rw [e] at NP;cases NP;simp only [e,Option.getD_some] at hQ;exact Bo hQ
 ·have e:((Av (bs.map B6).toArray.size).any λi=>(bs[i]?).getD false)=bs.any id:=by
   rw [Ai,Af];exact LSm.range_any bs
  rw [e];exact⟨.bl (bs.any id),H,I.kept (LSm.kept_iter hk),rfl,q⟩
def pC (l:db) (items:Array ci) (n:Nat) (b:db) (cq:Array ci) (n2:Nat) (dd:Option db) (sl:Array (Option ci)) (hs0:¬(!items.isEmpty&&Builtin.List.listTooLong (items.size+cq.size))=true) (zL:items.size<=sizeLine) (qo:items.size+cq.size<=sizeLine+1) :
  Meets (Da.«list.extend» ⟨[.ref l,.ref b],[]⟩) (λ_ R s=>s.heap.get? l=bd {cls:=.type "list",dict:=bv,data:=.seq items n,slots:=#[]}/\s.heap.get? b=bd {cls:=.type "tuple",dict:=dd,data:=.seq cq n2,slots:=sl}/\R (.ok (.ret AW)) {s with heap:=s.heap.update l (Bl λx=>x++cq),toks:=s.toks}):=
 .of_wp λprog w A R s h=>by
  obtain⟨hp,g,d,tk,os⟩:=s;obtain⟨hl,hb,h⟩:=h;have f1:=ED;have f2:=Dl;have f3:=DB;have f4:=Ds;have f5:=Du;have GA:(items++cq).size<=sizeLine+1:=by rw [Eg];exact qo
  wp_walk using (DC hl rfl (hz:=zL) (_hz':=GA)),BX hl,BX hb;exact⟨_,rfl,h⟩
def Mq (K:Ab):V->List V->Hp->VK->Prop:=λx vs H Q=>∃l b xs zs,x=.ref l/\vs=[.ref b]/\H l=bd (.lst xs)/\d9 K H b zs/\xs.length+zs.length<=sizeLine/\Q .aU (upd H l (.lst (xs++zs)))
theorem F6:Ju X "list.extend" (Mq X.K):=by
 intro Z s σ H x vs v us Q I rx rv h;obtain⟨l,b,xs,zs,rfl,rfl,hH,hB,hz,q⟩:=h;cases rx;obtain⟨u,rfl,ru⟩:=rv.one;cases ru;obtain⟨z,au,n,r,hl,e⟩:=I.oy hH;obtain⟨cD,r2,⟨⟨cls,dd,data,sl⟩,e2,hc,n2,hd⟩,z2⟩:=I.tuple hB;simp only at hc hd;subst hc hd;have Kk:=r2.length;have hsz:au.toArray.size+cD.toArray.size<=sizeLine:=by rw [Ai,Ai];omega
 have rP:¬(!au.toArray.isEmpty&&Builtin.List.listTooLong (au.toArray.size+cD.toArray.size))=true:=by
  rw [jd hsz,D7];exact AU
 refine u8 D1 ⟨_,e,rfl⟩ DK (Dr _ _)
  (pC l au.toArray n b cD.toArray n2 dd sl rP (by rw [Ai];omega) ∅) ⟨e,e2,?_⟩
 refine⟨.aU,_,I.Gh (its':=au++cD) hH e (by simp) (r.append r2) ?_,rfl,q⟩;rw [Ae];omega
def Its (x:Str):It:=⟨λi _=>i < x.cps.size,λi H v H'=>H'=H/\∃c,x.cps[i]?=bd c/\v=.str ⟨#[c]⟩,λi _=>x.cps.size<=i⟩
def zT {K:Ab} (it:db) (x:Str) (t:Tok) (ty:String) (IV:ty="str_ascii_iterator"\/ty="str_iterator"):Turn P w K tg (Its x) [it] it (λi h=>h.IsStrIter it ty x t i/\i<=x.cps.size) where
 mem:=by simp
 obj:=λi h st b hb=>by
  have e:b=it:=by simpa using hb
  subst e;obtain⟨⟨o,e,c,d⟩,_⟩:=st;exact⟨o,e,λv z=>by rw [d] at z;cases z⟩
 keep:=λi h h' st k=>⟨let ⟨o,ho,r⟩:=st.1;⟨o,k it (by simp) o ho,r⟩,st.2⟩
 item:=by
  intro X hP hw hK hc i Z s σ H E I hf st hg;subst hP hw hK;obtain⟨f0,f1,f2,f3,f4,f5⟩:=hf it (by simp);have TC:i < x.cps.size:=hg;obtain⟨st,_⟩:=st;rcases IV with rfl | rfl
  ·refine wpAny_pyNext_ascii_item st (c:=x.cps[i]) (by simp [TC]) λh' mI sb=>?_;have I1:Inv X Z σ H {s with heap:=h',toks:=s.toks+1}:=I.turned (λb o hb e=>(sb.2 b hb).trans e) f0 f1 f3 f4 f5;obtain⟨o,e,c,d⟩:=id mI;exact⟨_,rfl,rR (s:={s with heap:=h',toks:=s.toks+1}) e c d ⋯ ⟨.str ⟨#[x.cps[i]]⟩,H,I1,⟨_,rfl⟩,⟨rfl,_,by simp [TC],rfl⟩,⟨mI,TC⟩,λb hb=>(hf b hb).1⟩⟩
  ·refine wpAny_pyNext_wide_item st (c:=x.cps[i]) (by simp [TC]) λh' mI sb=>?_;have I1:Inv X Z σ H {s with heap:=h',toks:=s.toks+1}:=I.turned (λb o hb e=>(sb.2 b hb).trans e) f0 f1 f3 f4 f5;obtain⟨o,e,c,d⟩:=id mI;exact⟨_,rfl,rR (s:={s with heap:=h',toks:=s.toks+1}) e c d ⋯ ⟨.str ⟨#[x.cps[i]]⟩,H,I1,⟨_,rfl⟩,⟨rfl,_,by simp [TC],rfl⟩,⟨mI,TC⟩,λb hb=>(hf b hb).1⟩⟩
 done:=by
  intro X hP hw hK hc i Z s σ H E I hf st hg;obtain⟨f0,f1,f2,f3,f4,f5⟩:=hf it (by simp);obtain⟨st,_⟩:=st;have hn:x.cps[i]?=bv:=by
   have TC:x.cps.size<=i:=hg;simp [TC]
  rcases IV with rfl | rfl
  ·exact wpAny_pyNext_ascii_end (I.ok.hd hc) st hn λh' eb=>⟨rfl,I.turned (t':=s.toks) (λb o hb e=>eb b o hb e) f0 f1 f3 f4 f5⟩
  ·exact wpAny_pyNext_wide_end (I.ok.hd hc) st hn λh' eb=>⟨rfl,I.turned (t':=s.toks) (λb o hb e=>eb b o hb e) f0 f1 f3 f4 f5⟩
 self:=λ_ _ _ _ _ st h=>by
  obtain⟨st,_⟩:=st;rcases IV with rfl | rfl
  ·exact wpAny_pyIter_striter_ascii st h
  ·exact wpAny_pyIter_striter_wide st h
def acT (tl:TE):TI:=λσ H R=>tl σ H λx H1=>∃z,x=.str z/\R (Its z) H1
def UY {l:lm} (hl:PE X l tl):PI X tg l (acT tl):=by
 intro Z s σ H R I h;refine bD (hl Z s σ H _ I h) λv s1 ⟨x,H1,I1,r1,q1⟩=>?_;obtain⟨z,e,q⟩:=q1;subst e;obtain⟨t,rfl⟩:=r1;have fin:∀(ty:String) (IV:ty="str_ascii_iterator"\/ty="str_iterator") (o:Obj),(s1.heap.push o).IsStrIter s1.heap.objs.size ty z t 0->PIE X Z σ tg R (.ref s1.heap.objs.size) {s1 with heap:=s1.heap.push o}:=λty IV o st=>by
  refine⟨s1.heap.objs.size,[s1.heap.objs.size],_,_,H1,rfl,I1.kept (t':=s1.toks) λb o e=>Aj _ e,zT _ z t ty IV,⟨st,A5 _⟩,λb hb=>?_,q⟩;have e:b=s1.heap.objs.size:=by simpa using hb
  subst e;exact I1.tS (An _) (I1.bG.fresh (An _))
 cases ha:z.cps.all (· < 128)
 ·exact wpAny_pyIter_wide ha (fin _ (.inr rfl) _ ⟨_,Aq _ rfl,rfl,rfl⟩)
 ·exact wpAny_pyIter_ascii ha (fin _ (.inl rfl) _ ⟨_,Aq _ rfl,rfl,rfl⟩)
end
section
variable {CX:LH}{f:db}{dvs:List V}{ds:List ci}{E:XK}{t:TA}
def Uu (f:db) (sp:Sp) (dvs:List V) (E:XK) (ta:TE) (t:TA):TE:=λσ H Q=>ta σ H λx H1=>x=.ref f/\t σ H1 λvs H2=>sp (vs++dvs) H2 Q E
def MP (F:gm X.prog X.w X.K X.mg X.base CX k f fd ps sp) (hr:cX k X.A) (hf:PE X (.Name x p) ta) (hk:CI X.K (.ref f)=true) (hb:Binds X.K fd ps ds) (hd:Vals dvs ds) (hx:Passes CX X E)
  (ha:PA X (e::es) t) (he:ce (e::es) X.env=(false,kt e X.env)::ce es X.env:=by rfl) (dH:(kw pos (ce es X.env)).any (·.1)=false:=by rfl) :
  PE X (.Call (.Name x p) (e::es) [] pos) (Uu f sp dvs E ta t):=by
 intro Z s σ H Q I h;refine BJ (bD (hf Z s σ H _ I h) λv s1 ⟨y,H1,I1,r1,ey,q1⟩=>?_);subst ey;cases r1;refine Fm (h₀:=X.base) I.ok.mod.kin hk (bD (ha pos Z s1 σ H1 _ I1 q1) λus s2 ⟨vs,H2,I2,r,q⟩=>⟨I2.tG,?_⟩) he dH;exact Mg F hr hb hd hx I2 r q
end
section
variable {lo hi:lm}{th:TE}
def V9 (to tl th:TE):TG:=λv σ H Q=>to σ H λx H1=>tl σ H1 λi H2=>th σ H2 λj H3=>∃l b xs ys a c,x=.ref l/\v=.ref b/\i=.int a/\j=.int c/\H3 l=bd (.lst xs)/\H3 b=bd (.lst ys)/\l≠b/\0<=a/\a<=c/\c<=xs.length/\xs.length+ys.length<=sizeLine/\
 Q σ (upd H3 l (.lst (xs.take a.toNat++ys++xs.drop c.toNat)))
def MD (ho:PE X o to) (hl:PE X lo tl) (hh:PE X hi th)
  (ha:∀v,xz (.Subscript o (.Slice (bd lo) (bd hi) bv p2) pos) X.env v=(do
   let ov <- sn [v] (kt o X.env)
   let iv <- sn [v,ov] (kt (.Slice (bd lo) (bd hi) bv p2) X.env)
   Gf pos
   sn [v,ov,iv] (Ev ov iv v)
   release [iv,v,ov] []):=by intro _;rfl):PG X (.Subscript o (.Slice (bd lo) (bd hi) bv p2) pos) (V9 to tl th):=by
 intro Z s σ H v u Q I r h;refine Aa (Bc (bD (ho Z s σ H _ I h) λov s1 ⟨x,H1,I1,r1,q1⟩=>?_));refine Aa (Bc (wpAny_Slice ?_));rw [evalPart_some,evalPart_some,evalPart_none];refine bD (hl Z s1 σ H1 _ I1 q1) λvl s2 ⟨i,H2,I2,r2,q2⟩=>bD (hh Z s2 σ H2 _ I2 q2) λvu s3 ⟨j,H3,I3,r3,q3⟩=>Ah ?_;obtain⟨l,b,xs,ys,a,c,rfl,rfl,rfl,rfl,hH,hB,NG,h0,Xh,hc,hz,q⟩:=q3;cases r;cases r1;have I4:Inv X Z σ H3 {s3 with heap:=s3.heap.push {cls:=.type "slice",data:=.fields #[vl,vu,.none]}}:=I3.kept (t':=s3.toks) λb ob q=>Aj _ q;refine Aa (Ek (Aa (Bc (JN I4 hH hB NG (Heap.IsSliceOf.new ..) r2 r3 h0 Xh hc hz λs' I'=>?_))));exact wpAny_release ⟨σ,_,I',q⟩
end
end L2
variable {k':Nat}{bt:Cu}
namespace L2
open PySem PySem.Spec PyProof.Rows
def nZ (l:db) (H H':Hp):Prop:=∀b u,b≠l->H b=bd u->H' b=bd u
def kI {p:db} (h:H p=bv) (o:HO):j8 H (upd H p o):=λb u q=>by rw [aB (bK q h)];exact q
def JP {p:db} (o:HO):nZ p H (upd H p o):=λb u n q=>by rw [aB n];exact q
def kN (H:Hp) (o:HO) (Q:VK):Prop:=∀p H',j8 H H'->H' p=bd o->H p=bv->Q (.ref p) H'
def kN.at {o:HO}{Q:VK} (h:kN H o Q) (p:db) (hp:H p=bv):Q (.ref p) (upd H p o):=h p _ (kI hp o) aR hp
def xR (H:Hp) (l:db) (o:HO) (Q:Hp->Prop):Prop:=∀H',nZ l H H'->H' l=bd o->Q H'
def xR.at {o:HO}{Q:Hp->Prop} (h:xR H l o Q):Q (upd H l o):=h _ (JP o) aR
def hJ.mono {f:ci->ci->Sem ci}{r:R2} (h:hJ X f r) (hr:∀x y H Q,r' x y H Q->r x y H Q):hJ X f r':=λZ s σ H x y v u Q I rx ry q=>h Z s σ H x y v u Q I rx ry (hr _ _ _ _ q)
def bQ.mono {f:ci}{r r':List V->Hp->VK->Prop} (h:bQ X f r) (hr:∀xs H Q,r' xs H Q->r xs H Q):bQ X f r':=λZ s σ H xs us Q I rx q=>h Z s σ H xs us Q I rx (hr _ _ _ q)
def Ju.mono {id:String}{r r':V->List V->Hp->VK->Prop} (h:Ju X id r) (hr:∀x xs H Q,r' x xs H Q->r x xs H Q):Ju X id r':=λZ s σ H x xs v us Q I rx rv q=>h Z s σ H x xs v us Q I rx rv (hr _ _ _ _ q)
def HK.mono {r r':HJ} (h:HK X r) (hr:∀o i v H Q,r' o i v H Q->r o i v H Q):HK X r':=λZ s σ H o i v ov iv u Q I ro ri rv q=>h Z s σ H o i v ov iv u Q I ro ri rv (hr _ _ _ _ _ q)
section
variable {t:TA}
def X3 (t:TA):TE:=λσ H Q=>t σ H λxs H1=>xs.length<=sizeLine/\kN H1 (.tup xs) Q
def X8 (t:TA):TE:=λσ H Q=>t σ H λxs H1=>xs.length<=sizeLine/\kN H1 (.lst xs) Q
def QD {x1} (h:PA X es t):PE X (.Tuple es x1 pos) (X3 t):=by
 intro Z s σ H Q I hq;refine wpAny_Tuple_spliced (bD (h pos Z s σ H _ I hq) λus s1 ⟨xs,H1,I1,r,z,q⟩=>⟨by rw [<- r.length];exact z,?_⟩);have hf:=I1.bG.fresh (An _);refine⟨.ref s1.heap.objs.size,upd H1 s1.heap.objs.size (.tup xs),I1.laid (t':=s1.toks) (λb u e=>Aj _ e) (An _) ?_,rfl,q.at _ hf⟩;exact⟨z,us,r,⟨_,Aq _ rfl,rfl,_,rfl⟩⟩
def Io (h:PA X es t):PE X (.List es pos) (X8 t):=by
 intro Z s σ H Q I hq;refine wpAny_List_spliced (bD (h pos Z s σ H _ I hq) λus s1 ⟨xs,H1,I1,r,z,q⟩=>⟨by rw [<- r.length];exact z,?_⟩);have hf:=I1.bG.fresh (An _);refine⟨.ref s1.heap.objs.size,upd H1 s1.heap.objs.size (.lst xs),I1.laid (t':=s1.toks) (λb u e=>Aj _ e) (An _) ?_,rfl,q.at _ hf⟩;exact⟨z,us,0,r,Aq _ rfl⟩
def Us:TE:=λ_ H Q=>kN H (.dK []) Q
def MM:PE X (.Dict [] [] pos) Us:=λZ s σ H Q I h=>MK Z s σ H Q I λp hp=>h.at p hp
def S6 (K:Ab):R2:=λx y H Q=>match x with
 | .int i=>∃j,y=.int j/\Q (.int (i+j)) H
 | .str i=>∃j,y=.str j/\i.length+j.length<=sizeLine/\Q (.str (i++j)) H
 | .ref a=>(∃b xs zs,y=.ref b/\H a=bd (.lst xs)/\H b=bd (.lst zs)/\xs.length+zs.length<=sizeLine/\kN H (.lst (xs++zs)) Q)\/S8 K x y H Q
 | _=>False
def QQ:hJ X (sw .Add) (S6 X.K):=by
 refine ((Vg.or FX).or (Vf.or Iv)).mono λx y H Q h=>?_;cases x with
 | int i=>obtain⟨j,rfl,q⟩:=h;exact .inl (.inl ⟨i,j,rfl,rfl,q⟩)
 | str i=>obtain⟨j,rfl,hl,q⟩:=h;exact .inl (.inr ⟨i,j,rfl,rfl,hl,q⟩)
 | ref a=>
  rcases h with⟨b,xs,zs,rfl,h1,h2,hz,q⟩ | h
  ·exact .inr (.inl ⟨a,b,xs,zs,rfl,rfl,h1,h2,hz,λp hp=>q.at p hp⟩)
  ·exact .inr (.inr h)
 | _=>exact h.elim
def QL:hJ X (sw .Mult) (rI wP λi j=>.int (i*j)):=opI λ_ _ _ _ _ _ _ hc q=>mul_int q hc
def Hn:bQ X (.type "list") (λxs H Q=>∃p ys,xs=[.ref p]/\(cU X.K H p ys\/d9 X.K H p ys)/\kN H (.lst ys) Q):=xh.mono λxs H Q ⟨p,ys,e,h,q⟩=>⟨p,ys,e,h,λl hl=>q.at l hl⟩
def Mr:V->List V->Hp->VK->Prop:=λx vs H Q=>∃l xs y,x=.ref l/\vs=[y]/\H l=bd (.lst xs)/\xs.length < sizeLine/\xR H l (.lst (xs++[y])) (Q .aU)
def rm:Ju X "list.append" Mr:=J0.mono λx xs H Q ⟨l,ys,y,e1,e2,h,hz,q⟩=>⟨l,ys,y,e1,e2,h,hz,q.at⟩
def JS (K:Ab):V->List V->Hp->VK->Prop:=λx vs H Q=>∃l b xs zs,x=.ref l/\vs=[.ref b]/\H l=bd (.lst xs)/\d9 K H b zs/\xs.length+zs.length<=sizeLine/\xR H l (.lst (xs++zs)) (Q .aU)
def yD:Ju X "list.extend" (JS X.K):=F6.mono λx xs H Q ⟨l,b,ys,zs,e1,e2,h1,h2,hz,q⟩=>⟨l,b,ys,zs,e1,e2,h1,h2,hz,q.at⟩
def Yy:V->List V->Hp->VK->Prop:=λx vs H Q=>∃l xs y,x=.ref l/\vs=[]/\H l=bd (.lst (xs++[y]))/\xR H l (.lst xs) (Q y)
def Q2:Ju X "list.pop" Yy:=Vo.mono λx xs H Q ⟨l,ys,y,e1,e2,h,q⟩=>⟨l,ys++[y],y,e1,e2,h,by simp,by rw [List.dropLast_concat];exact q.at⟩
def UJ:HJ:=λo i v H Q=>∃p xs k j,o=.ref p/\i=.int k/\H p=bd (.lst xs)/\nu xs.length k=bd j/\xR H p (.lst (xs.set j v)) Q
def n9:HK X UJ:=set_list.mono λo i v H Q ⟨p,xs,k,j,e1,e2,h,hj,q⟩=>⟨p,xs,k,j,e1,e2,h,hj,q.at⟩
end
section
variable (K:Ab) (hK:X.K=K) {t:TA}{name:Str}{Xc:String}{r:V->List V->Hp->VK->Prop}
include hK
def IM:Pn X (rIx K):=hK▸VQ
def QP:hJ X (sw .Add) (S6 K):=hK▸QQ
def UL (K:Ab):List V->Hp->VK->Prop:=λxs H Q=>∃x n,xs=[x]/\aaA K x H n/\Q (.int n) H
def uT:bQ X (.builtin "len") (UL K):=hK▸OQ
def Mo (K:Ab):List V->Hp->VK->Prop:=λxs H Q=>∃p ys,xs=[.ref p]/\(cU K H p ys\/d9 K H p ys)/\kN H (.lst ys) Q
def Hl:bQ X (.type "list") (Mo K):=hK▸Hn
def YJ (K:Ab):List V->Hp->VK->Prop:=λxs H Q=>∃(p:db) (bs:List Bool),xs=[.ref p]/\cU K H p (bs.map V.bl)/\Q (.bl (bs.all id)) H
def Lc (hc:X.calm=true):bQ X (.builtin "all") (YJ K):=hK▸Hs hc
def YI (K:Ab):List V->Hp->VK->Prop:=λxs H Q=>∃(p:db) (bs:List Bool),xs=[.ref p]/\cU K H p (bs.map V.bl)/\Q (.bl (bs.any id)) H
def Lb (hc:X.calm=true):bQ X (.builtin "any") (YI K):=hK▸Hr hc
def UK (K:Ab):R2:=λx y H Q=>∃p q xs,x=.ref p/\y=.ref q/\cU K H p xs/\cU K H q []/\Q (.bl (!xs.isEmpty)) H
def qY (hu:X.A.units < o0):hJ X (lc .NotEq) (UK K):=hK▸JX hu
def ab4 (K:Ab) (ta:TE):TT:=λσ H Q=>ta σ H λx H'=>∃k,WQ K x H' k/\Q k H'
def ur (ha:PE X a ta) (he:∀Æ,isTrue a X.env Æ=(do let v <- Æ;Gf a.pos;sn [v] (truthy v))):PT X a (ab4 K ta):=hK▸Mt ha he
def QG (pa:PlainAttrs T) (slot:Slot T name Xc) (IV:typeOf (.builtin Xc)=pure (.type "method_descriptor")) (hm:MtR X Xc r) (ho:PE X o to)
  (dZ:py o name X.env (kt o X.env)=kt o X.env:=by rfl) (dY:(Â.endLine==bt.line)=true:=by rfl):PE X (.Call (.Attribute o name Â) [] [] bt) (Yd K T r to):=hK▸U4 pa slot IV hm ho dZ dY
def om (pa:PlainAttrs T) (slot:Slot T name Xc) (IV:typeOf (.builtin Xc)=pure (.type "method_descriptor")) (hm:MtR X Xc r) (ho:PE X o to) (ha:PA X (e::es) t)
  (dZ:py o name X.env (kt o X.env)=kt o X.env:=by rfl)
  (mw:((kw bt (ce (e::es) X.env)).all (λx=>!x.1)&&(Fa bt (wv [] X.env)).all (λx=>x.1.isSome)
   && decide ((e::es).length+([]:List tz).length+(if ([]:List tz).isEmpty then 0 else 1) < 30))=true:=by rfl)
  (dY:(Â.endLine==bt.line)=true:=by rfl) (hs:ce (e::es) X.env=(false,kt e X.env)::ce es X.env:=by rfl) (eB:(kw bt (ce es X.env)).any (·.1)=false:=by rfl) :
  PE X (.Call (.Attribute o name Â) (e::es) [] bt) (tBM K T r to t):=hK▸YR pa slot IV hm ho ha dZ mw dY hs eB
omit hK
end
structure SQ (P:tt) (w:wE) (K:Ab) (mg:Str->Option ci) (base:pc) (x:Str) (k:Nat) (ps:List Str) (sp:Sp) where
 f:db
 fd:Fk
 ok:gm P w K mg base lO k f fd ps sp
 bi:Binds K fd ps []
 kp:CI K (.ref f)=true
 at':mg x=bd (.ref f)
section
variable {t:TA}
def Yc (sp:Sp) (t:TA):TE:=λσ H Q=>t σ H λvs H1=>sp vs H1 Q E0
def MR (G:SQ X.prog X.w X.K X.mg X.base x k ps sp) (hr:cX k' X.A) (hk:k<=k') (hg:Gl X x) (ha:PA X (e::es) t) (nA:(x==("__debug__":Str))=false:=by decide)
  (he:ce (e::es) X.env=(false,kt e X.env)::ce es X.env:=by rfl) (dH:(kw pos (ce es X.env)).any (·.1)=false:=by rfl) :
  PE X (.Call (.Name x p) (e::es) [] pos) (Yc sp t):=by
 intro Z s σ H Q I h;refine BJ (ID I hg G.at' ?_ nA);refine Fm (h₀:=X.base) I.ok.mod.kin G.kp (bD (ha pos Z s σ H _ I h) λus s1 ⟨vs,H1,I1,r,q⟩=>⟨I1.tG,?_⟩) he dH;refine Mg (dvs:=[]) (ds:=[]) G.ok (hr.mono hk) G.bi .nil Ta I1 r ?_;rw [CY];exact q
end
section
theorem OY {xs:List α} (h0:0<=i) (h1:i < xs.length):∃v,cn xs i=bd v/\xs[i.toNat]?=bd v:=by
 have hk:i.toNat < xs.length:=by omega
 have q:=bC (by rw [Ad hk]);have e:((i.toNat:Nat):Int)=i:=by omega
 rw [e] at q;exact⟨_,q,by rw [Ad hk]⟩
def Te {j:Int} (h1:-18446744073709551616 < i) (h2:i < 18446744073709551616):wP i j:=SR.ok (.inl ⟨h1,h2⟩)
def mul_r {j:Int} (h1:-18446744073709551616 < j) (h2:j < 18446744073709551616):wP i j:=SR.ok (.inr ⟨h1,h2⟩)
end
def a9 (h:n<=1000):n<=sizeLine:=DT (uo h)
section
variable (K:Ab) (hK:X.K=K)
include hK
def UN (K:Ab):R2:=λx y H Q=>∃p q xs,x=.ref p/\y=.ref q/\cU K H p xs/\cU K H q []/\Q (.bl xs.isEmpty) H
def qZ (hu:X.A.units < o0):hJ X (lc .Eq) (UN K):=by
 subst hK;intro Z s σ H x y v u Q I rx ry h;obtain⟨p,q,xs,rfl,rfl,hp,hq,k⟩:=h;cases rx;cases ry;obtain⟨au,r,pl,hz⟩:=I.list hp;obtain⟨cD,r2,YM,hz2⟩:=I.list hq;cases r2;cases xs with
 | nil=>
  cases r;refine ER (Fz (e:=λ_=>true) pl.isList YM.isList rfl hu λj h1=>absurd h1 (by simp)) ?_;exact⟨.bl true,H,I,rfl,k⟩
 | cons y ys=>
  have hl:=r.length;refine ER (Eh pl.isList YM.isList (by simp at hl ⊢;intro z;subst z;simp at hl) hu) ?_;exact⟨.bl false,H,I,rfl,k⟩
omit hK
end
end L2
variable {p1:Cu}
namespace L2
open PySem PySem.Spec PyProof.Rows
theorem Vals.yf:∀{xs:List V}{us:List ci},Vals xs us->Vals xs.reverse us.reverse
 | _,_,.nil=>.nil
 | _,_,.cons h t=>by rw [De,De];exact (Vals.yf t).append (.cons h .nil)
def Vu:Ge (.type "list_reverseiterator") (Cn "__len__")=pure bv:=by kernel_rfl
def Q8:Ge (.type "list_reverseiterator") (Cn "__length_hint__")=pure (bd (.builtin "list_reverseiterator.__length_hint__")):=by kernel_rfl
def P9:splitId "list_reverseiterator.__length_hint__"=bd ("list_reverseiterator","__length_hint__"):=by kernel_rfl
def P0:isSubtype (.type "list_reverseiterator") (.type "list_reverseiterator")=pure true:=by kernel_rfl
def NJ {r:db}{Q:Bool->dL->Prop} (h:s.heap.IsRevIter r l i) (q:Q false s):d4 (d5 prog w) A (Builtin.List.listLengthHint (AB r)) Q E s:=by
 refine Aa (DE h.typeIs Vu ?_);refine Aa (DE h.typeIs Q8 ?_);dsimp only;rw [P9];dsimp only;refine Aa (Dm h.typeIs P0 ?_);rw [if_neg ⋯];exact Ah q
def tD {r S:db} (hA:A.handled=bv) (h:s.heap.IsRevIter r l (items.size-1)) (hl:s.heap.IsList l items) (NG:l≠r) (ĥ:S≠r) (hSl:S≠l) (hz:items.size<=sizeLine)
  (hS:s.heap.get? S=bd {cls:=BW "list",data:=E4 #[]})
  (q:∀(h':pc) (tk:Nat) (Å:Array ci) (c:Nat),(∀b o,b≠S->b≠r->s.heap.get? b=bd o->h'.get? b=bd o)->h'.get? S=bd {cls:=BW "list",data:=E4 Å c}->ItemsOf (λi v=>items[items.size-1-i]?=bd v) Å items.size->R (.ok (.ret .none)) {s with heap:=h',toks:=tk}) :
  d4 (d5 prog w) A.in1 (Da.«list.__init__» {pos:=[AB S,AB r]})
   (λfin s'=>match fin with | FH f=>R (Except.ok f) s' | Fin.again c'=>c'.quiet=true/\GE (d5 prog w) A c' R s') (λe s'=>R (Except.error e) s') s:=by
 unfold Da.«list.__init__»;refine Aa (wpAny_listItems hS rfl ?_);refine Aa ?_;refine DC hS rfl ?_ (by simp) (by simp);refine Aa (Dw ?_);have k1:∀b o,b≠S->s.heap.get? b=bd o->(s.heap.update S (Bl λ_=>#[])).get? b=bd o:=λb o hb e=>by rw [C6 _ _ (BE hb)];exact e
 have hS1:=CD (Bl λ_=>#[]) hS rfl;generalize s.heap.update S (Bl λ_=>#[])=h1 at k1 hS1 ⊢;have ô:h1.IsRevIter r l (items.size-1):=let ⟨o,e,p⟩:=h;⟨o,k1 _ _ (BE ĥ) e,p⟩;have Ĝ:h1.IsList l items:=let ⟨o,e,p⟩:=hl;⟨o,k1 _ _ (BE hSl) e,p⟩;unfold Builtin.List.listExtendWith;refine Aa (Co (T:="list_reverseiterator") ô.typeIs ?_);rw [if_neg (by
  have e1:Builtin.List.listSameRef (AB S) (AB r)=false:=by
   unfold Builtin.List.listSameRef;simpa using ĥ
  rw [e1];decide)]
 refine Aa (wpAny_pyIter_revIter ô ?_);refine Aa (Bc (NJ ô ?_));rw [if_neg ⋯];refine Ah ⟨plainId_quiet F.plain_extend_loop _,?_⟩;refine codeAny_extend_loopS (Walks.toS (Walks.listRev (A:=A.in1) hA r l NG items)) hz S (by simp [ĥ,hSl]) .none items.size 0 _ #[] _ (DS _) (A5 _) ⟨A5 _,by simpa using ô,Ĝ⟩ hS1 (ItemsOf.nil _) ?_;intro s' Å c mv e io;rw [mv.eq_with];exact q s'.heap s'.toks Å c (λb o n1 n2 e'=>mv.heap b o (by simp [n1,n2]) (k1 b o n1 e')) e io
def tZ {r:db} (hA:A.handled=bv) (h:s.heap.IsRevIter r l (items.size-1)) (hl:s.heap.IsList l items) (NG:l≠r) (hz:items.size<=sizeLine)
  (q:∀(h':pc) (tk:Nat) (Å:Array ci) (c:Nat),(∀b o,b≠r->s.heap.get? b=bd o->h'.get? b=bd o)->h'.get? s.heap.objs.size=bd {cls:=BW "list",data:=E4 Å c}->ItemsOf (λi v=>items[items.size-1-i]?=bd v) Å items.size->Q (.ref s.heap.objs.size) {s with heap:=h',toks:=tk}) :
  d4 (d5 prog w) A (call (BW "list") [AB r]) Q E s:=by
 have lr:=let ⟨_,e,_⟩:=h;Ar e;have ll:=let ⟨_,e,_⟩:=hl;Ar e;refine callType_codes F.called_list (F.typeCall_list_1 _) F.entry_list_init (code_list_new (Q₁:=λv s₁=>v=.ref s.heap.objs.size/\s₁={s with heap:=s.heap.push {cls:=BW "list",data:=E4 #[]}}) _ ⟨rfl,rfl⟩) ?_;rintro obj s₁ ⟨rfl,rfl⟩;refine⟨⟨_,Aq _ rfl,rfl⟩,F.args_list_init_2 _ _,?_⟩;have kp:∀b o,s.heap.get? b=bd o->(s.heap.push {cls:=BW "list",data:=E4 #[]}).get? b=bd o:=λb o e=>Aj _ e;refine tD (A:=A.in1) (items:=items) (l:=l) hA (let ⟨o,e,p⟩:=h;⟨o,kp _ _ e,p⟩) (let ⟨o,e,p⟩:=hl;⟨o,kp _ _ e,p⟩) NG (λz=>by rw [z] at lr;exact A6 _ lr) (λz=>by rw [z] at ll;exact A6 _ ll) hz (Aq _ rfl) ?_;intro h' tk Å c k e io;exact⟨rfl,q h' tk Å c (λb o n e'=>k b o (λz=>by rw [z] at e';exact A6 _ (Ar e')) n (kp b o e')) e io⟩
def tLR (K:Ab) (te:TE):TE:=λσ H Q=>te σ H λx H1=>∃p ys,x=.ref p/\cU K H1 p ys/\kN H1 (.lst ys.reverse) Q
section
variable (K:Ab) (hK:X.K=K) {q1 q2:Pos}
include hK
theorem FV (hc:X.calm=true) (Ġ:Gl X "list") (ě:X.mg "list"=bv) (ğ:Gl X "reversed") (Xe:X.mg "reversed"=bv) (he:PE X e te)
  (zL:ce [.Call (.Name "reversed" q1) [e] [] q2] X.env=(false,kt (.Call (.Name "reversed" q1) [e] [] q2) X.env)::ce [] X.env:=by rfl) (qo:ce [e] X.env=(false,kt e X.env)::ce [] X.env:=by rfl) :
  PE X (.Call (.Name "list" p1) [.Call (.Name "reversed" q1) [e] [] q2] [] p2) (tLR K te):=by
 intro Z s σ H Q I h;subst hK;refine BJ (jQ I Ġ ě boot_list ?_ ⋯ ⋯);refine Bi ?_ zL rfl;refine Ci ?_;refine BJ (jQ I ğ Xe boot_reversed ?_ ⋯ ⋯);refine Bi ?_ qo rfl;rw [qo];refine Ci (bD (he Z s σ H _ I h) λu s1 ⟨x,H1,I1,r1,pa,ys,ex,hS,q⟩=>CG ?_);subst ex;cases r1;obtain⟨au,rv,pl,hz⟩:=I1.list hS;have Á:=rv.length;have lp:=let ⟨_,e,_⟩:=pl.isList;Ar e;refine call_reversed_list pl.isList ?_;refine CG ?_;have kp:∀b o,s1.heap.get? b=bd o->(s1.heap.push (revObj pa (au.toArray.size-1))).get? b=bd o:=λb o e=>Aj _ e;refine tZ (items:=au.toArray) (l:=pa) (r:=s1.heap.objs.size) (I1.ok.hd hc) ⟨_,Aq _ rfl,rfl,rfl⟩ (let ⟨o,e,p⟩:=pl.isList;⟨o,kp _ _ e,p⟩) (λz=>by rw [z] at lp;exact A6 _ lp) (by rw [Ai];omega) ?_;intro h' tk Å c k e io;have kk:∀b o,s1.heap.get? b=bd o->h'.get? b=bd o:=λb o eb=>k b o (λz=>by rw [z] at eb;exact A6 _ (Ar eb)) (kp b o eb);have ea:Å=au.reverse.toArray:=by
  obtain⟨z1,z2⟩:=io;apply Array.ext
  ·rw [z1,Ai,Ai,Ca]
  ·intro j h1 h2;have:=z2 j Å[j] (CP h1);rw [Ai] at this;have hj:j < au.length:=by rw [z1,Ai] at h1;exact h1
   rw [E1] at this;have e3:au.reverse[j]?=bd Å[j]:=by rw [List.getElem?_reverse hj];exact this
   rw [Dx];exact (Option.some.inj (((Ad (by rw [Ca];exact hj)).symm.trans e3))).symm
 subst ea;have qo:s1.heap.objs.size<=(s1.heap.push (revObj pa (au.toArray.size-1))).objs.size:=by simp [Heap.push]
 refine⟨.ref _,upd H1 _ (.lst ys.reverse),I1.laid (t':=tk) kk qo ?_,rfl,q.at _ (I1.bG.fresh qo)⟩;exact⟨by rw [Ca];exact hz,au.reverse,c,rv.yf,e⟩
end
end L2
variable {y:BZ}
namespace My
open PySem PySem.Spec PyProof.Rows L2
def Wd (x:Str):Prop:=1<=x.length/\x.length<=8/\∀c∈x.cps.toList,97<=c/\c < 123
def Part (x:Str) (n:Nat):Prop:=x.length<=n/\∀c∈x.cps.toList,97<=c/\c < 123
theorem Part.append {m:Nat} (a:Part x m) (b:Part y n):Part (x++y) (m+n):=by
 refine⟨?_,λc hc=>?_⟩
 ·rw [C5];have:=a.1;have:=b.1;omega
 ·rw [Str.cps_append,Array.toList_append] at hc;rcases AX.mp hc with h | h
  ·exact a.2 c h
  ·exact b.2 c h
theorem tE {d st:Int} (h:st=1\/st=3\/st=5\/st=7\/st=9\/st=11) (hn:n<=26):((Av n).map λk:Nat=>bd (97+((d+st*(0+(k:Int))) % 26).toNat)).Nodup:=by
 unfold List.Nodup;rw [Ef];refine List.Pairwise.imp_of_mem ?_ Df;intro a b ha hb ZR hz;have ü:=AI.mp hb;have GA:=Option.some.inj hz;rcases h with rfl | rfl | rfl | rfl | rfl | rfl <;> omega
def vS {g:α->β}{l:List α} (h:(l.map g).Nodup):l.Nodup:=(Ef.mp h).imp λh e=>h (congrArg g e)
def Jy (x y:Str) (c:Nat):(x++⟨#[c]⟩++y).cps[x.length]?=bd c:=by
 show ((x.cps++#[c])++y.cps)[x.cps.size]?=bd c;rw [Array.getElem?_append_left (by simp),Array.getElem?_append_right (An _)];simp
def Gk:∀k:_root_.Fin 26,cn ("abcdefghijklmnopqrstuvwxyz":Str).cps.toList (k.val:Int)=bd (97+k.val):=by decide +kernel
theorem J4 {n:Int} (h0:0<=n) (h1:n < 26):cn ("abcdefghijklmnopqrstuvwxyz":Str).cps.toList n=bd (97+n.toNat):=by
 have e:=Gk ⟨n.toNat,by omega⟩;have e2:((n.toNat:Nat):Int)=n:=by omega
 rw [e2] at e;exact e
def MW {c:Nat} (h0:97<=c) (h1:c < 123):Part ⟨#[c]⟩ 1:=by
 refine⟨An _,λd hd=>?_⟩;have:d=c:=by simpa using hd
 subst this;exact⟨h0,h1⟩
inductive Tr where
 | leaf (x:Str)
 | node (l r:Tr)
def Tr.aG:Tr->List Str
 | .leaf x=>[x]
 | .node l r=>l.aG++r.aG
def Tr.size:Tr->Nat
 | .leaf _=>1
 | .node l r=>l.size+r.size+1
def Tr.depth:Tr->Nat
 | .leaf _=>0
 | .node l r=>max l.depth r.depth+1
def Tr.Ws (t:Tr):Prop:=∀x∈t.aG,Wd x
theorem Tr.mr:∀t:Tr,1<=t.aG.length
 | .leaf _=>An _
 | .node l r=>by have:=l.mr;show 1<=(l.aG++r.aG).length;rw [Ae];omega
theorem Tr.nP:∀t:Tr,t.depth < t.aG.length
 | .leaf _=>Dn 0
 | .node l r=>by
  have h1:=l.nP;have h2:=r.nP;have h3:=l.mr;have h4:=r.mr;show max l.depth r.depth+1 < (l.aG++r.aG).length;rw [Ae];omega
theorem Tr.size_eq:∀t:Tr,t.size+1=2*t.aG.length
 | .leaf _=>rfl
 | .node l r=>by
  have h1:=l.size_eq;have h2:=r.size_eq;show l.size+r.size+1+1=2*(l.aG++r.aG).length;rw [Ae];omega
def rL:∀k:_root_.Fin 26,(!(Builtin.Str.occurrences ("abcdefghijklmnopqrstuvwxyz":Str) ⟨#[97+k.val]⟩ 0 ("abcdefghijklmnopqrstuvwxyz":Str).length 1).isEmpty)=true:=by decide +kernel
theorem Gy {c:Nat} (h0:97<=c) (h1:c < 123):(!(Builtin.Str.occurrences ("abcdefghijklmnopqrstuvwxyz":Str) ⟨#[c]⟩ 0 ("abcdefghijklmnopqrstuvwxyz":Str).length 1).isEmpty)=true:=by
 have e:=rL ⟨c-97,by omega⟩;have e2:97+(c-97)=c:=by omega
 simp only [e2] at e;exact e
def sizes (ts:List Tr):Nat:=(ts.map Tr.size).sum
def bR (a b:List Tr):sizes (a++b)=sizes a+sizes b:=by unfold sizes;rw [A3,List.sum_append]
def fh (t:Tr):sizes [t]=t.size:=by simp [sizes]
theorem Tr.size_pos:∀t:Tr,1<=t.size
 | .leaf _=>An _
 | .node l r=>by show 1<=l.size+r.size+1;omega
theorem len_sizes:∀ts:List Tr,ts.length<=sizes ts
 | []=>An _
 | t::r=>by have:=len_sizes r;have:=t.size_pos;show r.length+1<=t.size+sizes r;omega
def Tr.post:Tr->List Tr
 | .leaf x=>[.leaf x]
 | .node l r=>l.post++r.post++[.node l r]
def Tr.post_len:∀t:Tr,t.post.length=t.size
 | .leaf _=>rfl
 | .node l r=>by show (l.post++r.post++[_]).length=l.size+r.size+1;rw [Ae,Ae,l.post_len,r.post_len];rfl
def posts (ts:List Tr):List Tr:=(ts.map Tr.post).flatten
def jL (a b:List Tr):posts (a++b)=posts a++posts b:=by unfold posts;rw [A3,List.flatten_append]
def oh (t:Tr):posts [t]=t.post:=by simp [posts]
def JT (t u:Tr):posts [t,u]=t.post++u.post:=by simp [posts]
inductive Ent where
 | word (x:Str)
 | pair (a b:Nat)
def Tr.nd:Tr->Nat->List Ent
 | .leaf x,_=>[.word x]
 | .node l r,o=>l.nd o++r.nd (o+l.size)++[.pair (o+l.size-1) (o+l.size+r.size-1)]
def Tr.br:∀(t:Tr) (o:Nat),(t.nd o).length=t.size
 | .leaf _,_=>rfl
 | .node l r,o=>by show (l.nd o++r.nd (o+l.size)++[_]).length=l.size+r.size+1;rw [Ae,Ae,l.br,r.br];rfl
def run:List Tr->List Ent->List Nat->Option (List Ent×List Nat)
 | [],À,ls=>bd (À,ls)
 | .leaf x::k,À,ls=>run k (À++[.word x]) (À.length::ls)
 | .node _ _::k,À,b::a::ls=>run k (À++[.pair a b]) (À.length::ls)
 | .node _ _::_,_,_=>bv
theorem qQ:∀(t:Tr) (k:List Tr) (À:List Ent) (ls:List Nat),run (t.post++k) À ls=run k (À++t.nd À.length) ((À.length+t.size-1)::ls)
 | .leaf x,k,À,ls=>rfl
 | .node l r,k,À,ls=>by
  have e1:(Tr.node l r).post++k=l.post++(r.post++(Tr.node l r::k)):=by show l.post++r.post++[_]++k=_;simp
  rw [e1,qQ l,qQ r];have e2:(À++l.nd À.length).length=À.length+l.size:=by rw [Ae,l.br]
  rw [e2];show run k _ _=run k _ _;have e3:(À++l.nd À.length++r.nd (À.length+l.size)).length=À.length+(Tr.node l r).size-1:=by
   rw [Ae,Ae,l.br,r.br];show _=À.length+(l.size+r.size+1)-1;omega
  rw [e3];have e4:À++(Tr.node l r).nd À.length=À++l.nd À.length++r.nd (À.length+l.size)++[.pair (À.length+l.size-1) (À.length+l.size+r.size-1)]:=by
   show À++(l.nd À.length++r.nd (À.length+l.size)++[_])=_;simp
  rw [e4]
def JQ (t:Tr):run t.post [] []=bd (t.nd 0,[t.size-1]):=by
 have:=qQ t [] [] [];rw [CY] at this;rw [this];show bd ([]++t.nd 0,[0+t.size-1])=_;simp
end My
variable {xs:List L2.V}{x:A4}{i:Nat}{σ:L2.St}
namespace L2
open PySem PySem.Spec PyProof.Rows
def iq {t:db} (h:s.heap.IsTupleIter it t i) (ht:s.heap.IsTuple t items) (hx:items[i]?=bd x)
  (q:∀h':pc,h'.IsTupleIter it t (i+1)->Cc it s.heap h'->Q x {s with heap:=h'}):d4 (d5 prog w) A (Builtin.SmallTypes.nextOf (.ref it)) Q E s:=by
 unfold Builtin.SmallTypes.nextOf;refine Aa (AY h.typeIs Cg (Be Cg h.typeIs DQ ?_ (DA _)));obtain⟨o,ho,hc,hd⟩:=id h;obtain⟨ot,Ě,htc,n,ĕ⟩:=id ht;show d4 _ _ (field (.ref it) 0 >>= λseq=>_) _ _ s;refine Aa (A1 ho hd rfl ?_);refine Aa (A1 ho hd rfl ?_);refine Aa (BG Ě ĕ ?_);show d4 _ _ (match items[i]? with | some x=>(do zn (.ref it) 1 (wn ((i:Int)+1));ret x) | none=>_) _ _ s;rw [hx];refine Aa (D3 ho hd (show 1 < 2 by decide) ?_);refine Ah ⟨x,rfl,Ah (q _ ⟨_,CD _ ho (by rw [EX (CZ hd _)]),by rw [Obj.cls_mapFields];exact hc,by rw [CZ hd];rfl⟩ (Cc.update ..))⟩
def P5 {Q:α->dL->Prop} (hA:A.handled=bv)
  (q:∀(h':pc) (e:db),(∀b o,s.heap.get? b=bd o->h'.get? b=bd o)->(∃o,h'.get? e=bd o/\o.cls=.type "StopIteration")->E (.ref e) {s with heap:=h'}):d4 (d5 prog w) A (Builtin.SmallTypes.stopIteration (α:=α)) Q E s:=by
 refine Aa ?_;refine Aa (CK ?_ (by show 0<=sizeLine;decide));refine Aa (CA (a:=AW) rfl ?_);refine Bp ?_ (sizeOk_excFields ..);unfold raiseNew;refine Aa (wpAny_handled ?_);rw [hA];refine wpAny_throw (q _ _ (λb o e=>Aj _ (Aj _ e)) ⟨_,Aq _ rfl,rfl⟩)
def je {t:db} (hA:A.handled=bv) (h:s.heap.IsTupleIter it t i) (ht:s.heap.IsTuple t items) (hx:items[i]?=bv)
  (q:∀(h':pc) (e:db),FD it s.heap h'->(∃o,h'.get? e=bd o/\o.cls=.type "StopIteration")->E (.ref e) {s with heap:=h'}):d4 (d5 prog w) A (Builtin.SmallTypes.nextOf (.ref it)) Q E s:=by
 unfold Builtin.SmallTypes.nextOf;refine Aa (AY h.typeIs Cg (Be Cg h.typeIs DQ ?_ (DA _)));obtain⟨o,ho,hc,hd⟩:=id h;obtain⟨ot,Ě,htc,n,ĕ⟩:=id ht;show d4 _ _ (field (.ref it) 0 >>= λseq=>_) _ _ s;refine Aa (A1 ho hd rfl ?_);refine Aa (A1 ho hd rfl ?_);refine Aa (BG Ě ĕ ?_);show d4 _ _ (match items[i]? with | some x=>(do zn (.ref it) 1 (wn ((i:Int)+1));ret x) | none=>(do rule _;zn (.ref it) 0 .none;Builtin.SmallTypes.stopIteration)) _ _ s;rw [hx];refine Aa (C1 ?_);refine Aa (D3 ho hd (show 0 < 2 by decide) ?_);refine P5 (A:=A.in1) hA λh' e k ex=>q h' e (λb o n eb=>k b o ?_) ex;rw [(Cc.update _ _ _).2 b n];exact eb
def Inv.qI {t':Nat}{ch:List db}{a:db}{o:HO} (I:Inv X Z σ H s) (hf:∀b∈ch,ue X Z H b) (k:∀b u,b∉ch->s.heap.get? b=bd u->h'.get? b=bd u)
  (hp:s.heap.objs.size<=a) (new:bq X.prog X.w (upd H a o) h' a o):Inv X Z σ (upd H a o) {s with heap:=h',toks:=t'}:=by
 have hn:=I.bG.fresh hp;have Td:∀b u,H b=bd u->b∉ch:=λb u e z=>by rw [(hf b z).1] at e;cases e
 have nL:X.env.locals∉ch:=λz=>(hf _ z).2.1 rfl;refine I.step (g':=s.gens) (d':=s.drawn) (ch:=ch) (λb hb=>⟨(hf b hb).2.2.2.1,(hf b hb).2.1,(hf b hb).2.2.2.2.1,(hf b hb).2.2.2.2.2⟩) (λb u _ _ hc e _=>k b u hc e) (λb u _ _ hc e _=>⟨u.slots,k b u hc e⟩)
  (λb u _ e n=>by rw [aB (AM (AA (Ar e) hp))];exact n) (λb u hc e=>⟨u,k b u hc e⟩) (λb xs e=>by rw [aB (bK e hn)];exact e) (λb u xs e=>by rw [aB (bK e hn)];exact e)
  (λb ps e=>⟨#[],by rw [aB (bK e hn),e];simp⟩) (λm hm=>?_) (λb u e=>?_) I.bare
 ·obtain⟨o',es,ep,ho,r⟩:=hm;exact⟨o',es,ep,k _ o' nL ho,r⟩
 ·by_cases hb:b=a
  ·subst hb;rw [aR] at e;cases e;exact new
  ·rw [aB hb] at e;refine (I.bG b u e).vt (λc v hc q=>k c v ?_ q) (λc q=>by rw [aB (bK q hn)];exact q) λc xs q=>by rw [aB (bK q hn)];exact q
   rcases hc with z | z
   ·rw [z];exact Td b u e
   ·exact Td c _ z
def Inv.vi {t':Nat}{ch:List db} (I:Inv X Z σ H s) (hf:∀b∈ch,ue X Z H b) (k:∀b u,b∉ch->s.heap.get? b=bd u->h'.get? b=bd u) :
  Inv X Z σ H {s with heap:=h',toks:=t'}:=by
 have Td:∀b u,H b=bd u->b∉ch:=λb u e z=>by rw [(hf b z).1] at e;cases e
 have nL:X.env.locals∉ch:=λz=>(hf _ z).2.1 rfl;refine I.step (g':=s.gens) (d':=s.drawn) (ch:=ch) (λb hb=>⟨(hf b hb).2.2.2.1,(hf b hb).2.1,(hf b hb).2.2.2.2.1,(hf b hb).2.2.2.2.2⟩) (λb u _ _ hc e _=>k b u hc e) (λb u _ _ hc e _=>⟨u.slots,k b u hc e⟩)
  (λ_ _ _ _ n=>n) (λb u hc e=>⟨u,k b u hc e⟩) (λ_ _ e=>e) (λ_ _ _ e=>e) (λb ps e=>⟨#[],by rw [e];simp⟩) (λm hm=>?_) (λb u e=>?_) I.bare
 ·obtain⟨o',es,ep,ho,r⟩:=hm;exact⟨o',es,ep,k _ o' nL ho,r⟩
 ·refine (I.bG b u e).vt (λc v hc q=>k c v ?_ q) (λ_ q=>q) λ_ _ q=>q;rcases hc with z | z
  ·rw [z];exact Td b u e
  ·exact Td c _ z
def kz (h:Vals xs us):∀{i:Nat}{x:V},xs[i]?=bd x->∃u,us[i]?=bd u/\RelV x u:=by
 induction h with
 | nil=>intro i x e;simp at e
 | cons r t ih=>
  intro i x e;cases i with
  | zero=>simp at e;subst e;exact⟨_,rfl,r⟩
  | succ i=>exact ih (by simpa using e)
end L2
variable {e:BO}{Ì:A4}{Ð:List BN}{kk:Nat}
namespace L2
open PySem PySem.Spec PyProof.Rows
def pM {E:ci->dL->Prop}{t:db} (LB:e≠it) (ó:t≠e) (RB:t≠it)
  (hz:IsEnum s.heap e it i Ì) (hi:s.heap.IsTupleIter it t i) (ht:s.heap.IsTuple t items) (hx:items[i]?=bd x)
  (q:∀(h':pc) (tk:Nat),IsEnumOut h' e it (i+1:Nat) x s.heap.objs.size->h'.IsTupleIter it t (i+1)->IsPair h' s.heap.objs.size (.int i s.toks) x->(∀c o,c≠e->c≠it->s.heap.get? c=bd o->h'.get? c=bd o)->Q (.ref s.heap.objs.size) {s with heap:=h',toks:=tk}) :
  d4 (d5 prog w) A (Da.«enumerate.__next__» {pos:=[.ref e]}) (λfin s'=>∃v,fin=FH (FG v)/\Q v s') E s:=by
 show d4 _ _ (field (.ref e) 2 >>= λr=>_) _ _ s;refine Aa (A1 hz rfl rfl ?_);refine Aa (iq hi ht hx λh1 j1 b1=>?_);have z1:=(b1.2 _ LB).trans hz;refine Aa (A1 z1 rfl rfl ?_);refine Aa (A1 z1 rfl rfl ?_);refine Aa (wpAny_mkInt ?_);refine Aa (A2 z1 (show 3 < 6 by decide) λh2 z2 b2=>?_);refine Aa (A2 z2 (show 4 < 6 by decide) λh3 z3 b3=>?_);have sz3:=b3.1.trans (b2.1.trans b1.1);have Í:∀b,b≠e->b≠it->h3.get? b=s.heap.get? b:=λb n1 n2=>(b3.2 b n1).trans ((b2.2 b n1).trans (b1.2 b n2));refine Aa (CK ?_ (by show 2<=sizeLine;decide));have kp:∀b o,h3.get? b=bd o->(h3.push {cls:=.type "tuple",data:=.seq [DV i s.toks,x].toArray}).get? b=bd o:=λb o e=>Aj _ e;have Vm:(h3.push {cls:=.type "tuple",data:=.seq [DV i s.toks,x].toArray}).get? h3.objs.size=bd {cls:=.type "tuple",data:=.seq #[.int i s.toks,x]}:=Aq _ rfl;generalize h3.push {cls:=.type "tuple",data:=.seq [DV i s.toks,x].toArray}=h4 at kp Vm ⊢;have z4:h4.get? e=bd {cls:=.type "enumerate",data:=.fields #[.none,.bool false,.ref it,wn (i+1),.none,Ì]}:=kp _ _ z3;refine Aa ?_;refine Aa (A1 z4 rfl rfl ?_);refine Ah ?_;refine Aa (C1 ?_);refine Aa (A1 z4 rfl rfl ?_);refine Aa (A2 z4 (show 5 < 6 by decide) λh5 z5 b5=>?_);refine Aa ?_;refine Aa (A2 z5 (show 0 < 6 by decide) λh6 z6 b6=>?_);refine A2 z6 (show 1 < 6 by decide) λh7 z7 b7=>?_;refine Aa (Dw ?_);have V7:∀b,b≠e->h7.get? b=h4.get? b:=λb n=>(b7.2 b n).trans ((b6.2 b n).trans (b5.2 b n));have ne:s.heap.objs.size≠e:=λz=>by have:=Ar hz;rw [<- z] at this;exact A6 _ this
 refine Ah ⟨.ref h3.objs.size,rfl,?_⟩;rw [sz3] at z7 Vm ⊢;refine q h7 _ ?_ ?_ ?_ ?_
 ·exact z7
 ·obtain⟨o,eo,p⟩:=j1;refine⟨o,?_,p⟩;rw [V7 _ (BE LB)];exact kp _ _ ((b3.2 _ (BE LB)).trans ((b2.2 _ (BE LB)).trans eo))
 ·rw [IsPair,V7 _ ne];exact Vm
 ·intro c o n1 n2 ec;rw [V7 _ n1];exact kp _ _ ((Í _ n1 n2).trans ec)
def so {t:db}{Q:PySem.Fin->dL->Prop} (hA:A.handled=bv)
  (hz:IsEnum s.heap e it i Ì) (hi:s.heap.IsTupleIter it t i) (ht:s.heap.IsTuple t items) (hx:items[i]?=bv)
  (q:∀(h':pc) (x:db),(∀c o,c≠it->s.heap.get? c=bd o->h'.get? c=bd o)->(∃o,h'.get? x=bd o/\o.cls=.type "StopIteration")->E (.ref x) {s with heap:=h'}) :
  d4 (d5 prog w) A (Da.«enumerate.__next__» {pos:=[.ref e]}) Q E s:=by
 show d4 _ _ (field (.ref e) 2 >>= λr=>_) _ _ s;refine Aa (A1 hz rfl rfl ?_);exact Aa (je hA hi ht hx λh' x k ex=>q h' x (λc o n e'=>k c o n e') ex)
def mX {t:db}{Q:Option ci->dL->Prop} (LB:e≠it) (ó:t≠e) (RB:t≠it)
  (hz:IsEnum s.heap e it i Ì) (hi:s.heap.IsTupleIter it t i) (ht:s.heap.IsTuple t items) (hx:items[i]?=bd x)
  (q:∀(h':pc) (tk:Nat),IsEnumOut h' e it (i+1:Nat) x s.heap.objs.size->h'.IsTupleIter it t (i+1)->IsPair h' s.heap.objs.size (.int i s.toks) x->(∀c o,c≠e->c≠it->s.heap.get? c=bd o->h'.get? c=bd o)->Q (bd (.ref s.heap.objs.size)) {s with heap:=h',toks:=tk}) :
  d4 (d5 prog w) A (pyNext (.ref e)) Q E s:=by
 have ty:s.TypeIs (.ref e) "enumerate":=⟨_,hz,rfl⟩;refine Aa (CV (AY ty CF (Be CF ty EB ?_ (Ep _))));exact pM LB ó RB hz hi ht hx λh' tk a b c d=>Ah (q h' tk a b c d)
def og {t:db}{Q:Option ci->dL->Prop} (hA:A.handled=bv)
  (hz:IsEnum s.heap e it i Ì) (hi:s.heap.IsTupleIter it t i) (ht:s.heap.IsTuple t items) (hx:items[i]?=bv)
  (q:∀h':pc,(∀c o,c≠it->s.heap.get? c=bd o->h'.get? c=bd o)->Q bv {s with heap:=h'}) :
  d4 (d5 prog w) A (pyNext (.ref e)) Q E s:=by
 have ty:s.TypeIs (.ref e) "enumerate":=⟨_,hz,rfl⟩;refine Aa (CV (AY ty CF (Be CF ty EB ?_ (Ep _))));refine so (A:=A.in1) hA hz hi ht hx λh' x k ex=>?_;obtain⟨o,eo,hc⟩:=ex;refine Aa (Dm (T:="StopIteration") ⟨o,eo,hc⟩ isSubtype_stop ?_);exact Ah (q h' k)
def pB (t:db) (items:Array ci):Meets (Da.«enumerate.__new__» {pos:=[.type "enumerate",.ref t]}) (λ_ R s=>s.heap.IsTuple t items/\
  ∀h':pc,IsEnum h' (s.heap.objs.size+1) s.heap.objs.size (0:Nat) .none->h'.IsTupleIter s.heap.objs.size t 0->(∀b o,s.heap.get? b=bd o->h'.get? b=bd o)->R (.ok (.ret (.ref (s.heap.objs.size+1)))) {s with heap:=h'}):=
 .of_wp λprog w A R s h=>by
  obtain⟨h1,q⟩:=h;refine Aa ?_;refine Aa (CA (a:=true) rfl ?_);refine Aa (CA sub_enumerate ?_);refine Ah ?_;refine Aa ?_;refine Aa (wpAny_stack_any λst=>Ah ?_);have fin:d4 (d5 prog w) A.in1 (pyIter (.ref t) >>= λit=>(Builtin.SmallTypes.newRecord (.type "enumerate") (Builtin.SmallTypes.ownedTupleFields++[it,wn 0,.none,.none]) >>= λr=>ret r)) (λfin s'=>∃v,fin=FH (FG v)/\R (Except.ok (FG v)) s') (λe s'=>R (Except.error e) s') s:=by
   refine Aa (C2 h1 ?_);have k1:∀b o,s.heap.get? b=bd o->(s.heap.push {cls:=.type "tuple_iterator",data:=.fields #[.ref t,.int 0 0]}).get? b=bd o:=λb o e=>Aj _ e;have g1:(s.heap.push {cls:=.type "tuple_iterator",data:=.fields #[.ref t,.int 0 0]}).get? s.heap.objs.size=bd {cls:=.type "tuple_iterator",data:=.fields #[.ref t,.int 0 0]}:=Aq _ rfl;have z1:(s.heap.push {cls:=.type "tuple_iterator",data:=.fields #[.ref t,.int 0 0]}).objs.size=s.heap.objs.size+1:=CJ ..;generalize s.heap.push {cls:=.type "tuple_iterator",data:=.fields #[.ref t,.int 0 0]}=tM at k1 g1 z1 ⊢;show d4 _ _ (newObj (.type "enumerate") (.fields #[.none,.bool false,.ref s.heap.objs.size,wn 0,.none,.none]) >>= λr=>ret r) _ _ _;refine Aa (Bp ?_ (by simp [sizeOk];decide));have g2:(tM.push {cls:=.type "enumerate",data:=.fields #[.none,.bool false,.ref s.heap.objs.size,wn 0,.none,.none]}).get? tM.objs.size=bd {cls:=.type "enumerate",data:=.fields #[.none,.bool false,.ref s.heap.objs.size,wn 0,.none,.none]}:=Aq _ rfl;refine Ah ⟨.ref tM.objs.size,rfl,?_⟩;rw [z1] at g2 ⊢;exact q _ g2 ⟨_,Aj _ g1,rfl,rfl⟩ λb o e=>Aj _ (k1 _ _ e)
  refine wpAny_ite_split (λ_=>?_) (λ_=>?_)
  ·exact Aa (CA (a:=(AB t,bv)) rfl fin)
  ·exact Aa (CA (a:=(AB t,bv)) rfl fin)
def Ho {t:db} (h1:s.heap.IsTuple t items)
  (q:∀h':pc,IsEnum h' (s.heap.objs.size+1) s.heap.objs.size (0:Nat) .none->h'.IsTupleIter s.heap.objs.size t 0->(∀b o,s.heap.get? b=bd o->h'.get? b=bd o)->Q (.ref (s.heap.objs.size+1)) {s with heap:=h'}) :
  d4 (d5 prog w) A (call (.type "enumerate") [.ref t]) Q E s:=
 callType_new F.called_enumerate ⋯ (F.typeCall_enumerate_1 _) (F.newCall_enumerate_1 _) (λo=>F.args_object_init_2 o _) F.entry_enumerate_new (pB t items) ⟨h1,λh' z i k=>⟨⟨_,z,rfl⟩,q h' z i k⟩⟩
def Ite (K:Ab) (a:db):It where
 go:=λi H=>∃xs x,d9 K H a xs/\xs[i]?=bd x
 SU:=λi H v H'=>∃p x,v=.ref p/\H p=bv/\H'=upd H p (.tup [.int i,x])/\∀xs,d9 K H a xs->xs[i]?=bd x
 stop:=λi H=>∃xs,d9 K H a xs/\xs.length<=i
theorem JB {K:Ab}{t:db} (LB:e≠it) (ó:t≠e) (RB:t≠it):Turn P w K (.Tuple Ð kk pos) (Ite K t) [e,it] e (λi h=>(∃Ì,IsEnum h e it (i:Nat) Ì)/\h.IsTupleIter it t i) where
 mem:=by simp
 obj:=λi h st b hb=>by
  simp only [Ay,BC,or_false] at hb;rcases hb with rfl | rfl
  ·obtain⟨⟨_,e⟩,_⟩:=st;exact⟨_,e,λv z=>by cases z⟩
  ·obtain⟨_,⟨o,e,_,d⟩⟩:=st;exact⟨o,e,λv z=>by rw [d] at z;cases z⟩
 keep:=λi h h' st k=>⟨let ⟨o,e'⟩:=st.1;⟨o,k e (by simp) _ e'⟩,let ⟨o,e',p⟩:=st.2;⟨o,k it (by simp) _ e',p⟩⟩
 item:=by
  intro X hP hw hK hc i Z s σ H E I hf st hg;subst hP hw hK;obtain⟨xs,x,hx,gx⟩:=hg;obtain⟨au,rx,tx,_⟩:=I.tuple hx;obtain⟨u,gu,ru⟩:=kz rx gx;obtain⟨⟨Ì,hz⟩,hi⟩:=st;refine mX LB ó RB hz hi tx (by simpa using gu) λh' tk zo j np k=>?_;refine⟨_,rfl,?_⟩;refine D4 zo λh2 z2 b2=>?_;have le:=Ar hz;have li:=let ⟨_,e',_⟩:=hi;Ar e';have lt:∀b∈[e,it],b < s.heap.objs.size:=λb hb=>by
   simp only [Ay,BC,or_false] at hb;rcases hb with rfl | rfl
   ·exact le
   ·exact li
  have nz:s.heap.objs.size≠e:=λz=>A6 _ (by have:=le;rw [<- z] at this;exact this);have Zg:∀b o,b∉[e,it]->s.heap.get? b=bd o->h2.get? b=bd o:=λb o hb e'=>by
   have GA:b≠e:=λq=>hb (by simp [q]);rw [b2.2 b GA];exact k b o GA (λq=>hb (by simp [q])) e'
  have Y4:h2.get? s.heap.objs.size=bd {cls:=.type "tuple",data:=.seq #[.int i s.toks,u]}:=(b2.2 _ nz).trans np;have ZK:=I.bG.fresh (An s.heap.objs.size);refine⟨.ref s.heap.objs.size,upd H s.heap.objs.size (.tup [.int i,x]),I.qI (t':=tk) hf Zg (An _) ⟨by show 2<=sizeLine;decide,[.int i s.toks,u],.cons ⟨_,rfl⟩ (.cons ru .nil),⟨_,Y4,rfl,_,rfl⟩⟩,rfl,⟨_,x,rfl,ZK,rfl,λxs' h'=>by rw [I.lh h' hx];exact gx⟩,⟨⟨_,z2⟩,let ⟨o,e',p⟩:=j;⟨o,(b2.2 _ (BE LB)).trans e',p⟩⟩,λb hb=>?_⟩;rw [aB (AM (lt b hb))];exact (hf b hb).1
 done:=by
  intro X hP hw hK hc i Z s σ H E I hf st hg;subst hP hw hK;obtain⟨xs,hx,hl⟩:=hg;obtain⟨au,rx,tx,_⟩:=I.tuple hx;have el:=rx.length;obtain⟨⟨Ì,hz⟩,hi⟩:=st;refine og (I.ok.hd hc) hz hi tx (by simp;omega) λh' k=>⟨rfl,I.vi (t':=s.toks) hf λb o hb e'=>k b o (λz=>hb (by simp [z])) e'⟩
 self:=λA i s Q E st h=>let ⟨_,e'⟩:=st.1;C8 e' h
end L2
namespace My
open PySem PySem.Spec PyProof.Rows L2
def O4 (l:List V) (i:Nat):Ent->List V
 | .word _=>l
 | .pair a b=>(l.set a (.int i)).set b (.int i)
def ah:List Ent->Nat->List V->List V
 | [],_,l=>l
 | e::es,i,l=>ah es (i+1) (O4 l i e)
theorem xq:∀(es:List Ent) (e:Ent) (i:Nat) (l:List V),ah (es++[e]) i l=O4 (ah es i l) (i+es.length) e
 | [],e,i,l=>rfl
 | x::es,e,i,l=>by
  show ah (es++[e]) (i+1) (O4 l i x)=O4 (ah es (i+1) (O4 l i x)) (i+(es.length+1)) e;rw [xq es e];congr 1;omega
def SE (l:List V) (i:Nat) (e:Ent):(O4 l i e).length=l.length:=by cases e with
 | word=>rfl
 | pair=>show ((l.set _ _).set _ _).length=_;rw [BS,BS]
theorem Hv:∀(es:List Ent) (i:Nat) (l:List V),(ah es i l).length=l.length
 | [],_,_=>rfl
 | e::es,i,l=>by show (ah es (i+1) (O4 l i e)).length=_;rw [Hv es,SE]
end My
namespace L2
open PySem PySem.Spec PyProof.Rows
def YD (K:Ab):V->V->Hp->VK->Prop:=λo i H Q=>∃p xs k x,o=.ref p/\i=.int k/\cU K H p xs/\0<=k/\k < 1000/\xs[k.toNat]?=bd x/\Q x H
theorem NR (K:Ab) (hK:X.K=K):aay X (YD K):=λZ s σ H o i ov iv Q I ro ri h=>by
 obtain⟨p,xs,k,x,rfl,rfl,hp,k0,k1,hx,q⟩:=h;subst hK;cases ro;obtain⟨t,rfl⟩:=ri;obtain⟨au,r,pl,hz⟩:=I.list hp;obtain⟨u,gu,ru⟩:=kz r hx;exact wpAny_getItem_list pl.isList k0 ∅ (by simpa using gu) ⟨x,H,I,ru,q⟩
end L2
variable {x:BZ}
namespace My
open PySem PySem.Spec PyProof.Rows L2
theorem LL {c:Nat} (a:Part x 1) (b:Part y 6) (h0:97<=c) (h1:c < 123):Wd (x++⟨#[c]⟩++y):=by
 have q:=(a.append (MW h0 h1)).append b;refine⟨?_,q.1,q.2⟩;rw [C5,C5];show 1<=x.length+1+y.length;omega
end My
namespace L2
open PySem PySem.Spec PyProof.Rows
def Itd (lo:Int) (n:Nat):It:=⟨λi _=>i < n,λi H x H'=>H'=H/\x=.int (lo-i),λi _=>n<=i⟩
theorem xT {K:Ab} (it:db) (lo:Int) (n:Nat):Turn P w K tg (Itd lo n) [it] it (λi h=>IsRangeIter h it (lo+(i:Nat)*(-1)) ((n:Int)-(i:Nat)) (-1)) where
 mem:=by simp
 obj:=λi h st b hb=>by
  have e:b=it:=by simpa using hb
  subst e;exact⟨_,st,λv z=>by
   have z':=z;cases z'⟩
 keep:=λi h h' st k=>k it (by simp) _ st
 item:=by
  intro X hP hw hK hc i Z s σ H E I hf st hg;subst hP hw hK;obtain⟨f0,f1,f2,f3,f4,f5⟩:=hf it (by simp);have W:=Walks.range (prog:=X.prog) (w:=X.w) (I.ok.hd hc) it lo (-1) n;refine W.item i s _ _ hg st λv h' tk hv mI kk=>?_;obtain⟨t,rfl⟩:=hv;have I1:Inv X Z σ H {s with heap:=h',toks:=tk}:=I.turned (λb o hb e=>kk b o (by simpa using hb) e) f0 f1 f3 f4 f5;refine⟨_,rfl,rR (s:={s with heap:=h',toks:=tk}) (n:="range_iterator") mI rfl rfl ⋯ ⟨.int (lo-i),H,I1,⟨t,?_⟩,⟨rfl,rfl⟩,mI,λb hb=>(hf b hb).1⟩⟩;rw [show lo+(i:Int)*(-1)=lo-i by omega]
 done:=by
  intro X hP hw hK hc i Z s σ H E I hf st hg;obtain⟨f0,f1,f2,f3,f4,f5⟩:=hf it (by simp);exact wpAny_pyNext_range_end (I.ok.hd hc) st (by have:n<=i:=hg;omega) λh' eb=>⟨rfl,I.turned (t':=s.toks) (λb o hb e=>eb b o hb e) f0 f1 f3 f4 f5⟩
 self:=λ_ _ _ _ _ st h=>wpAny_pyIter_rangeiter st h
section
theorem JR {σ:St}{R:It->Hp->Prop}{lo hi:Int}{t u v:Tok}{tk:Nat} (I:Inv X Z σ H s) (h1:-(2 ^ 62)<=lo) (h2:lo < 2 ^ 62) (h3:-(2 ^ 62)<=hi) (h4:hi < 2 ^ 62)
  (q:R (Itd lo (lo-hi).toNat) H):d4 (d5 X.prog X.w) X.A (pyIter (.ref s.heap.objs.size)) (PIE X Z σ tg R) E {s with heap:=s.heap.push {cls:=.type "range",data:=.fields #[.int lo t,.int hi u,.int (-1) v]},toks:=tk}:=by
 refine wpAny_pyIter_range (IsRange.new ..) (PySem.W.small_down h1 h2 h3 h4) ?_;have I1:Inv X Z σ H {s with heap:=s.heap.push {cls:=.type "range",data:=.fields #[.int lo t,.int hi u,.int (-1) v]},toks:=tk}:=I.kept λb o e=>Aj _ e;refine⟨(s.heap.push {cls:=.type "range",data:=.fields #[.int lo t,.int hi u,.int (-1) v]}).objs.size,[(s.heap.push {cls:=.type "range",data:=.fields #[.int lo t,.int hi u,.int (-1) v]}).objs.size],_,_,H,rfl,
  I1.kept (t':=tk) λb o e=>Aj _ e,xT _ lo (lo-hi).toNat,?_,λb hb=>?_,q⟩
 ·have e1:lo+((0:Nat):Int)*(-1)=lo:=by simp
  have e2:(((lo-hi).toNat:Nat):Int)-((0:Nat):Int)=Builtin.Range.rangeSize lo hi (-1):=by rw [PySem.W.rangeSize_down];split <;> omega
  show IsRangeIter _ _ (lo+((0:Nat):Int)*(-1)) ((((lo-hi).toNat:Nat):Int)-((0:Nat):Int)) (-1);rw [e1,e2];exact Aq _ rfl
 ·have e:b=(s.heap.push {cls:=.type "range",data:=.fields #[.int lo t,.int hi u,.int (-1) v]}).objs.size:=by simpa using hb
  subst e;exact I1.tS (An _) (I1.bG.fresh (An _))
def Zo (ta:TA):TI:=λσ H R=>ta σ H λvs H1=>∃i j:Int,vs=[.int i,.int j,.int (-1)]/\(-(2 ^ 62)<=i/\i < 2 ^ 62/\-(2 ^ 62)<=j/\j < 2 ^ 62)/\R (Itd i (i-j).toNat) H1
def JV {c:lm}{ta:TA} (hg:Gl X "range") (hm:X.mg "range"=bv) (ha:PA X [a,b,c] ta) (hs:ce [a,b,c] X.env=[(false,kt a X.env),(false,kt b X.env),(false,kt c X.env)]:=by rfl) (qo:ce [b,c] X.env=[(false,kt b X.env),(false,kt c X.env)]:=by rfl) :
  PI X tg (.Call (.Name "range" p) [a,b,c] [] pos) (Zo ta):=by
 intro Z s σ H R I h;refine Call_ (jQ I hg hm boot_range (Bi (bD (ha pos Z s σ H _ I h) λus s1 ⟨vs,H1,I1,r1,q1⟩=>?_) (by rw [hs,qo]) (by rw [qo];rfl)));obtain⟨i,j,e,⟨q1,q2,q3,q4⟩,q⟩:=q1;subst e;cases r1 with
 | cons r rr=>
  cases rr with
  | cons r' rr=>
   cases rr with
   | cons r'' rr=>
    cases rr;obtain⟨t,rfl⟩:=r;obtain⟨t',rfl⟩:=r';obtain⟨t'',rfl⟩:=r'';refine call_range_3 ⋯ (JR I1 q1 q2 q3 q4 q) (.inl ?_);unfold Builtin.divisionGoesByPylong;have e1:decide ((if ((-1:Int)==0)=true then 0 else (-1:Int).natAbs.log2 / 30+1) > 300)=false:=by decide
    simp only [e1,Fb]
end
def aaC (K:Ab) (a:db):It where
 go:=λi H=>∃xs x,cU K H a xs/\xs[i]?=bd x
 SU:=λi H v H'=>∃p x,v=.ref p/\H p=bv/\H'=upd H p (.tup [.int i,x])/\∀xs,cU K H a xs->xs[i]?=bd x
 stop:=λi H=>∃xs,cU K H a xs/\xs.length<=i
theorem zV {K:Ab}{t:db} (LB:e≠it):Turn P w K (.Tuple Ð kk pos) (aaC K t) [e,it] e (λi h=>(∃Ì,IsEnum h e it (i:Nat) Ì)/\h.IsListIter it t i) where
 mem:=by simp
 obj:=λi h st b hb=>by
  simp only [Ay,BC,or_false] at hb;rcases hb with rfl | rfl
  ·obtain⟨⟨_,e⟩,_⟩:=st;exact⟨_,e,λv z=>by cases z⟩
  ·obtain⟨_,⟨o,e,_,d⟩⟩:=st;exact⟨o,e,λv z=>by rw [d] at z;cases z⟩
 keep:=λi h h' st k=>⟨let ⟨o,e'⟩:=st.1;⟨o,k e (by simp) _ e'⟩,let ⟨o,e',p⟩:=st.2;⟨o,k it (by simp) _ e',p⟩⟩
 item:=by
  intro X hP hw hK hc i Z s σ H E I hf st hg;subst hP hw hK;obtain⟨xs,x,hx,gx⟩:=hg;obtain⟨au,rx,tx,_⟩:=I.list hx;obtain⟨u,gu,ru⟩:=kz rx gx;obtain⟨⟨Ì,hz⟩,hi⟩:=st;refine wpAny_pyNext_enum_item hz hi tx.isList (by simpa using gu) LB λh' zo j np _ k=>?_;refine⟨_,rfl,?_⟩;refine D4 zo λh2 z2 b2=>?_;have le:=Ar hz;have li:=let ⟨_,e',_⟩:=hi;Ar e';have lt:∀b∈[e,it],b < s.heap.objs.size:=λb hb=>by
   simp only [Ay,BC,or_false] at hb;rcases hb with rfl | rfl
   ·exact le
   ·exact li
  have nz:s.heap.objs.size≠e:=λz=>A6 _ (by have:=le;rw [<- z] at this;exact this);have Zg:∀b o,b∉[e,it]->s.heap.get? b=bd o->h2.get? b=bd o:=λb o hb e'=>by
   have GA:b≠e:=λq=>hb (by simp [q]);rw [b2.2 b GA];exact k b o GA (λq=>hb (by simp [q])) e'
  have Y4:h2.get? s.heap.objs.size=bd {cls:=.type "tuple",data:=.seq #[.int i s.toks,u]}:=(b2.2 _ nz).trans np;have ZK:=I.bG.fresh (An s.heap.objs.size);refine⟨.ref s.heap.objs.size,upd H s.heap.objs.size (.tup [.int i,x]),I.qI (t':=s.toks+1) hf Zg (An _) ⟨by show 2<=sizeLine;decide,[.int i s.toks,u],.cons ⟨_,rfl⟩ (.cons ru .nil),⟨_,Y4,rfl,_,rfl⟩⟩,rfl,⟨_,x,rfl,ZK,rfl,λxs' h'=>by rw [I.yJ h' hx];exact gx⟩,⟨⟨_,z2⟩,let ⟨o,e',p⟩:=j;⟨o,(b2.2 _ (BE LB)).trans e',p⟩⟩,λb hb=>?_⟩;rw [aB (AM (lt b hb))];exact (hf b hb).1
 done:=by
  intro X hP hw hK hc i Z s σ H E I hf st hg;subst hP hw hK;obtain⟨xs,hx,hl⟩:=hg;obtain⟨au,rx,tx,_⟩:=I.list hx;have el:=rx.length;obtain⟨⟨Ì,hz⟩,hi⟩:=st;refine wpAny_pyNext_enum_end (I.ok.hd hc) hz hi tx.isList (by simp;omega) λh' k=>⟨rfl,I.vi (t':=s.toks) hf λb o hb e'=>k b o (λz=>hb (by simp [z])) e'⟩
 self:=λA i s Q E st h=>let ⟨_,e'⟩:=st.1;C8 e' h
end L2
namespace My
open PySem PySem.Spec PyProof.Rows L2
def en:Tr->Nat->Nat->Ent
 | .leaf x,_,_=>.word x
 | .node l r,o,j=>if j < l.size then en l o j else if j < l.size+r.size then en r (o+l.size) (j-l.size) else .pair (o+l.size-1) (o+l.size+r.size-1)
def up:Tr->Nat->Nat->List Nat->List Nat
 | .leaf _,o,_,ab=>o::ab
 | .node l r,o,j,ab=>if j < l.size then up l o j ((o+l.size+r.size)::ab) else if j < l.size+r.size then up r (o+l.size) (j-l.size) ((o+l.size+r.size)::ab) else (o+l.size+r.size)::ab
def j3:Tr->Nat->Nat->V->V
 | .leaf _,_,_,p=>p
 | .node l r,o,j,p=>if j < l.size then j3 l o j (.int (o+l.size+r.size:Nat)) else if j < l.size+r.size then j3 r (o+l.size) (j-l.size) (.int (o+l.size+r.size:Nat)) else p
def be:Tr->Nat->Nat->List Nat
 | .leaf _,o,_=>[o]
 | .node l r,o,j=>if j < l.size then be l o j else if j < l.size+r.size then be r (o+l.size) (j-l.size) else be l o (l.size-1)++be r (o+l.size) (r.size-1)
theorem e7:∀(t:Tr) (o j:Nat),j < t.size->(t.nd o)[j]?=bd (en t o j)
 | .leaf x,o,j,h=>by
  have:j=0:=by have:j < 1:=h;omega
  subst this;rfl
 | .node l r,o,j,h=>by
  have es:(Tr.node l r).size=l.size+r.size+1:=rfl;have hn:(Tr.node l r).nd o=l.nd o++r.nd (o+l.size)++[.pair (o+l.size-1) (o+l.size+r.size-1)]:=rfl;have ln:=l.br o;have rn:=r.br (o+l.size);unfold en;by_cases c1:j < l.size
  ·rw [if_pos c1,hn,A9,AD ∅];exact e7 l o j c1
  ·rw [if_neg c1];by_cases c2:j < l.size+r.size
   ·rw [if_pos c2,hn,A9,AE ∅,AD ∅,ln];exact e7 r _ _ ∅
   ·rw [if_neg c2,hn,AE (by rw [Ae];omega),Ae,ln,rn];have:j-(l.size+r.size)=0:=by omega
    rw [this];rfl
theorem OU:∀(t:Tr) (o j:Nat),j < t.size->(∃x,en t o j=.word x/\be t o j=[o+j])\/∃a b,en t o j=.pair (o+a) (o+b)/\a < j/\b < j/\be t o j=be t o a++be t o b
 | .leaf x,o,j,h=>by
  have:j=0:=by have:j < 1:=h;omega
  subst this;exact .inl ⟨x,rfl,rfl⟩
 | .node l r,o,j,h=>by
  have es:(Tr.node l r).size=l.size+r.size+1:=rfl;have lp:=l.size_pos;have rp:=r.size_pos;by_cases c1:j < l.size
  ·have e1:en (.node l r) o j=en l o j:=by rw [en,if_pos c1]
   have e2:∀k,k < l.size->be (.node l r) o k=be l o k:=λk hk=>by rw [be,if_pos hk]
   rw [e1];rcases OU l o j c1 with⟨x,q1,q2⟩ | ⟨a,b,q1,q2,q3,q4⟩
   ·exact .inl ⟨x,q1,by rw [e2 j c1];exact q2⟩
   ·exact .inr ⟨a,b,q1,q2,q3,by rw [e2 j c1,e2 a ∅,e2 b ∅];exact q4⟩
  ·by_cases c2:j < l.size+r.size
   ·have e1:en (.node l r) o j=en r (o+l.size) (j-l.size):=by rw [en,if_neg c1,if_pos c2]
    have e2:∀k,k < r.size->be (.node l r) o (l.size+k)=be r (o+l.size) k:=λk hk=>by
     rw [be,if_neg ∅,if_pos ∅];congr 1;omega
    have ej:j=l.size+(j-l.size):=by omega
    rw [e1];rcases OU r (o+l.size) (j-l.size) ∅ with⟨x,q1,q2⟩ | ⟨a,b,q1,q2,q3,q4⟩
    ·refine .inl ⟨x,q1,?_⟩;rw [ej,e2 _ ∅,q2];congr 1;omega
    ·refine .inr ⟨l.size+a,l.size+b,?_,by omega,by omega,?_⟩
     ·rw [q1,A7,A7]
     ·rw [e2 a ∅,e2 b ∅,ej,e2 _ ∅,q4]
   ·have ej:j=l.size+r.size:=by omega
    refine .inr ⟨l.size-1,l.size+r.size-1,?_,by omega,by omega,?_⟩
    ·rw [en,if_neg c1,if_neg c2];congr 1 <;> omega
    ·rw [be,if_neg c1,if_neg c2,be,if_pos ∅,be,if_neg ∅,if_pos ∅];congr 2;omega
theorem mj:∀(t:Tr) (o j:Nat) (p:V) (ab:List Nat),j < t.size->(j=t.size-1/\j3 t o j p=p/\up t o j ab=(o+j)::ab)\/∃a,j < a/\a < t.size/\j3 t o j p=.int (o+a:Nat)/\up t o j ab=(o+j)::up t o a ab
 | .leaf x,o,j,p,ab,h=>by
  have:j=0:=by have:j < 1:=h;omega
  subst this;exact .inl ⟨rfl,rfl,rfl⟩
 | .node l r,o,j,p,ab,h=>by
  have es:(Tr.node l r).size=l.size+r.size+1:=rfl;have lp:=l.size_pos;have rp:=r.size_pos;have er:up (.node l r) o (l.size+r.size) ab=(o+l.size+r.size)::ab:=by rw [up,if_neg ∅,if_neg ∅]
  by_cases c1:j < l.size
  ·have e1:j3 (.node l r) o j p=j3 l o j (.int (o+l.size+r.size:Nat)):=by rw [j3,if_pos c1]
   have e2:∀k,k < l.size->up (.node l r) o k ab=up l o k ((o+l.size+r.size)::ab):=λk hk=>by rw [up,if_pos hk]
   rw [e1,e2 j c1];rcases mj l o j (.int (o+l.size+r.size:Nat)) ((o+l.size+r.size)::ab) c1 with⟨q1,q2,q3⟩ | ⟨a,q1,q2,q3,q4⟩
   ·refine .inr ⟨l.size+r.size,by omega,by omega,by rw [q2,A7],by rw [q3,er]⟩
   ·exact .inr ⟨a,q1,by omega,q3,by rw [q4,e2 a q2]⟩
  ·by_cases c2:j < l.size+r.size
   ·have e1:j3 (.node l r) o j p=j3 r (o+l.size) (j-l.size) (.int (o+l.size+r.size:Nat)):=by rw [j3,if_neg c1,if_pos c2]
    have e2:∀k,k < r.size->up (.node l r) o (l.size+k) ab=up r (o+l.size) k ((o+l.size+r.size)::ab):=λk hk=>by
     rw [up,if_neg ∅,if_pos ∅];congr 1;omega
    obtain⟨i,rfl⟩:∃i,j=l.size+i:=⟨j-l.size,by omega⟩;have ei:l.size+i-l.size=i:=by omega
    rw [e1,e2 i ∅,ei];rcases mj r (o+l.size) i (.int (o+l.size+r.size:Nat)) ((o+l.size+r.size)::ab) ∅ with⟨q1,q2,q3⟩ | ⟨a,q1,q2,q3,q4⟩
    ·refine .inr ⟨l.size+r.size,by omega,by omega,by rw [q2,A7],by rw [q3,er,A7]⟩
    ·exact .inr ⟨l.size+a,by omega,by omega,by rw [q3,A7],by rw [q4,e2 a q2,A7]⟩
   ·have ej:j=l.size+r.size:=by omega
    refine .inl ⟨by omega,by rw [j3,if_neg c1,if_neg c2],?_⟩;rw [ej,er,A7]
def md:Tr->Nat->V->List V
 | .leaf _,_,p=>[p]
 | .node l r,o,p=>md l o (.int (o+l.size+r.size:Nat))++md r (o+l.size) (.int (o+l.size+r.size:Nat))++[p]
theorem jZ:∀(t:Tr) (o:Nat) (p:V),(md t o p).length=t.size
 | .leaf _,_,_=>rfl
 | .node l r,o,p=>by
  unfold md;rw [Ae,Ae,jZ l,jZ r];rfl
theorem Jr (t:Tr) (o:Nat) (p q:V) (A B:List V):(A++md t o p++B).set (A.length+t.size-1) q=A++md t o q++B:=by
 have key:∃I,md t o p=I++[p]/\md t o q=I++[q]:=by
  cases t with
  | leaf _=>exact⟨[],rfl,rfl⟩
  | node l r=>exact⟨_,rfl,rfl⟩
 obtain⟨I,e1,e2⟩:=key;have h1:=jZ t o p;rw [e1,Ae] at h1;have hU:I.length+1=t.size:=h1;rw [e1,e2];have ei:A.length+t.size-1=(A++I).length:=by rw [Ae];omega
 rw [ei,show A++(I++[p])++B=(A++I)++p::B by simp,EY _ _ (An _),Cp];simp
theorem O3:∀(es fs:List Ent) (i:Nat) (l:List V),ah (es++fs) i l=ah fs (i+es.length) (ah es i l)
 | [],fs,i,l=>rfl
 | e::es,fs,i,l=>by
  show ah (es++fs) (i+1) (O4 l i e)=ah fs (i+(es.length+1)) (ah es (i+1) (O4 l i e));rw [O3 es fs];congr 1;omega
theorem Hw:∀(t:Tr) (A B:List V),ah (t.nd A.length) A.length (A++Al t.size .aU++B)=A++md t A.length .aU++B
 | .leaf x,A,B=>rfl
 | .node l r,A,B=>by
  have es:(Tr.node l r).size=l.size+r.size+1:=rfl;have hn:(Tr.node l r).nd A.length=l.nd A.length++r.nd (A.length+l.size)++[.pair (A.length+l.size-1) (A.length+l.size+r.size-1)]:=rfl;have ln:=l.br A.length;have rn:=r.br (A.length+l.size);have h1:=Hw l A (Al r.size .aU++([V.aU]++B));have e0:A++Al (Tr.node l r).size V.aU++B=A++Al l.size .aU++(Al r.size .aU++([V.aU]++B)):=by
   rw [es,<- Dh,<- Dh];simp only [A9];rfl
  rw [hn,xq,O3,e0,h1,ln];have la:(A++md l A.length V.aU).length=A.length+l.size:=by rw [Ae,jZ]
  have h2:=Hw r (A++md l A.length V.aU) ([V.aU]++B);rw [la] at h2;have e1:A++md l A.length V.aU++(Al r.size V.aU++([V.aU]++B))=A++md l A.length V.aU++Al r.size V.aU++([V.aU]++B):=by simp [A9]
  rw [e1,h2,Ae,ln,rn];show ((_:List V).set (A.length+l.size-1) _).set (A.length+l.size+r.size-1) _=_;have s1:=Jr l A.length .aU (.int (A.length+(l.size+r.size):Nat)) A (md r (A.length+l.size) V.aU++([V.aU]++B));have e2:A++md l A.length V.aU++md r (A.length+l.size) V.aU++([V.aU]++B)=A++md l A.length V.aU++(md r (A.length+l.size) V.aU++([V.aU]++B)):=by simp [A9]
  rw [e2,s1];have lb:(A++md l A.length (V.int (A.length+(l.size+r.size):Nat))).length=A.length+l.size:=by rw [Ae,jZ]
  have s2:=Jr r (A.length+l.size) .aU (.int (A.length+(l.size+r.size):Nat)) (A++md l A.length (V.int (A.length+(l.size+r.size):Nat))) ([V.aU]++B);rw [lb] at s2;have e3:A++md l A.length (V.int (A.length+(l.size+r.size):Nat))++(md r (A.length+l.size) V.aU++([V.aU]++B))=A++md l A.length (V.int (A.length+(l.size+r.size):Nat))++md r (A.length+l.size) V.aU++([V.aU]++B):=by simp [A9]
  rw [e3,s2];have e4:md (.node l r) A.length .aU=md l A.length (.int (A.length+l.size+r.size:Nat))++md r (A.length+l.size) (.int (A.length+l.size+r.size:Nat))++[.aU]:=rfl;rw [e4,A7 A.length l.size r.size];simp [A9]
theorem xn:∀(t:Tr) (o j:Nat) (p:V),j < t.size->(md t o p)[j]?=bd (j3 t o j p)
 | .leaf x,o,j,p,h=>by
  have:j=0:=by have:j < 1:=h;omega
  subst this;rfl
 | .node l r,o,j,p,h=>by
  have es:(Tr.node l r).size=l.size+r.size+1:=rfl;have ln:=jZ l o (.int (o+l.size+r.size:Nat));have rn:=jZ r (o+l.size) (.int (o+l.size+r.size:Nat));unfold md j3;by_cases c1:j < l.size
  ·rw [if_pos c1,A9,AD ∅];exact xn l _ _ _ c1
  ·rw [if_neg c1];by_cases c2:j < l.size+r.size
   ·rw [if_pos c2,A9,AE ∅,AD ∅,ln];exact xn r _ _ _ ∅
   ·rw [if_neg c2,AE (by rw [Ae];omega),Ae,ln,rn];have:j-(l.size+r.size)=0:=by omega
    rw [this];rfl
def WM (t:Tr) (h:j < t.size):(ah (t.nd 0) 0 (Al t.size .aU))[j]?=bd (j3 t 0 j .aU):=by
 have q:=Hw t [] [];have e:([]:List V)++Al t.size .aU++[]=Al t.size .aU:=by simp
 have e2:([]:List V)++md t ([]:List V).length .aU++[]=md t 0 .aU:=by simp
 rw [e,e2] at q;have q':ah (t.nd 0) 0 (Al t.size .aU)=md t 0 .aU:=q;rw [q'];exact xn t 0 j .aU h
end My
variable {H1:L2.Hp}{ι:List BO}
namespace PL
section
open PySem PySem.Spec PyProof.Rows L2
variable {K:Ab}
def Ua (K:Ab) (H:Hp) (a:db) (xs:List V):Prop:=(∃o,H a=bd (.cO o (.lst xs)))\/
  ∃(o:Obj) (au:Array ci) (n:Nat),K.lookup a=bd o/\o.cls=.type "list"/\o.dict=bv/\o.data=.seq au n/\au.size<=sizeLine/\Vals xs au.toList
def Ua.sq {a:db} (h:Ua K H a xs):cU K H a xs:=h.elim (λh=>.inl (.inr h)) .inr
structure bw (K:Ab) (H H':Hp):Prop where
 t:∀p vs,H p=bd (.tup vs)->H' p=bd (.tup vs)
 z:∀p o u,H p=bd (.cO o u)->H' p=bd (.cO o u)
def bw.f {H H':Hp} (t:bw K H H') (p:db) (vs:List V) (h:Ua K H p vs):Ua K H' p vs:=h.elim (λ⟨o,h⟩=>.inl ⟨o,t.z _ _ _ h⟩) .inr
def bw.refl (H:Hp):bw K H H:=⟨λ_ _ h=>h,λ_ _ _ h=>h⟩
def bw.trans (a:bw K H H1) (b:bw K H1 H2):bw K H H2:=⟨λp vs h=>b.t p vs (a.t p vs h),λp o w h=>b.z p o w (a.z p o w h)⟩
def _root_.L2.j8.eZ (s:j8 H H'):bw K H H':=⟨λp vs h=>s _ _ h,λp o u h=>s _ _ h⟩
inductive PV where
 | aU | bl (b:Bool) | int (i:Int) | str (x:Str) | tup (l:List PV) | ref (n:Nat) | ty (n:String) | cl (l:List PV) | dv (ks vs:List PV)
def kP:Key->PV
 | .inl i=>.int i
 | .inr x=>.str x
inductive PO where
 | lst (xs:List PV) | dk (kvs:List (Key×PV)) | dt (kvs:List (List Key×PV)) | opq (φ:List V->Prop)
abbrev PH:=List PO
abbrev xH:=List (Option PV)
mutual
inductive VR (K:Ab) (ι:List db) (H:Hp):V->PV->Prop
 | aU:VR K ι H .aU .aU
 | bl (b:Bool):VR K ι H (.bl b) (.bl b)
 | int (i:Int):VR K ι H (.int i) (.int i)
 | str (x:Str):VR K ι H (.str x) (.str x)
 | ty (n:String):VR K ι H (.ty n) (.ty n)
 | tup {p:db}{vs:List V}{l:List PV} (h:H p=bd (.tup vs)) (r:aL K ι H vs l):VR K ι H (.ref p) (.tup l)
 | ref {n:Nat}{a:db} (h:ι[n]?=bd a):VR K ι H (.ref a) (.ref n)
 | cl {a:db}{vs:List V}{l:List PV} (h:Ua K H a vs) (r:aL K ι H vs l):VR K ι H (.ref a) (.cl l)
 | dk {a:db}{o:Obj}{kvs:List (Key×V)}{ks l:List PV} (h:H a=bd (.cO o (.dK kvs))) (e:ks=kvs.map λkv=>kP kv.1) (r:aL K ι H (kvs.map (·.2)) l):VR K ι H (.ref a) (.dv ks l)
 | dt {a:db}{o:Obj}{kvs:List (List Key×V)}{ks l:List PV} (h:H a=bd (.cO o (.dT kvs))) (e:ks=kvs.map λkv=>.tup (kv.1.map kP)) (r:aL K ι H (kvs.map (·.2)) l):VR K ι H (.ref a) (.dv ks l)
inductive aL (K:Ab) (ι:List db) (H:Hp):List V->List PV->Prop
 | nil:aL K ι H [] []
 | cons {v:V}{p:PV}{vs:List V}{ps:List PV} (r:VR K ι H v p) (t:aL K ι H vs ps):aL K ι H (v::vs) (p::ps)
end
section
variable {ι':List db}
mutual
theorem VR.mono (ht:bw K H H') (hi:∀(n:Nat) (a:db),ι[n]?=bd a->ι'[n]?=bd a):∀{v:V}{p:PV},VR K ι H v p->VR K ι' H' v p
 | _,_,.aU=>.aU
 | _,_,.bl b=>.bl b
 | _,_,.int i=>.int i
 | _,_,.str x=>.str x
 | _,_,.ty n=>.ty n
 | _,_,.tup h r=>.tup (ht.t _ _ h) (aL.mono ht hi r)
 | _,_,.cl h r=>.cl (ht.f _ _ h) (aL.mono ht hi r)
 | _,_,.dk h e r=>.dk (ht.z _ _ _ h) e (aL.mono ht hi r)
 | _,_,.dt h e r=>.dt (ht.z _ _ _ h) e (aL.mono ht hi r)
 | _,_,.ref h=>.ref (hi _ _ h)
theorem aL.mono (ht:bw K H H') (hi:∀(n:Nat) (a:db),ι[n]?=bd a->ι'[n]?=bd a):∀{vs:List V}{ps:List PV},aL K ι H vs ps->aL K ι' H' vs ps
 | _,_,.nil=>.nil
 | _,_,.cons r t=>.cons (VR.mono ht hi r) (aL.mono ht hi t)
end
theorem aL.length:∀{vs:List V}{ps:List PV},aL K ι H vs ps->vs.length=ps.length
 | _,_,.nil=>rfl
 | _,_,.cons _ t=>by rw [Ao,Ao,aL.length t]
theorem aL.get:∀{vs:List V}{ps:List PV}{i:Nat}{p:PV},aL K ι H vs ps->ps[i]?=bd p->∃v,vs[i]?=bd v/\VR K ι H v p
 | _,_,_,_,.nil,e=>by simp at e
 | _,_,0,_,.cons r _,e=>by simp at e;subst e;exact⟨_,rfl,r⟩
 | _,_,i+1,p,.cons _ t,e=>by
  obtain⟨v,h1,h2⟩:=aL.get (i:=i) (p:=p) t (by simpa using e);exact⟨v,by simpa using h1,h2⟩
theorem aL.ZT:∀{vs:List V}{ps:List PV}{i:Nat}{v:V},aL K ι H vs ps->vs[i]?=bd v->∃p,ps[i]?=bd p/\VR K ι H v p
 | _,_,_,_,.nil,e=>by simp at e
 | _,_,0,_,.cons r _,e=>by simp at e;subst e;exact⟨_,rfl,r⟩
 | _,_,i+1,p,.cons _ t,e=>by
  obtain⟨v,h1,h2⟩:=aL.ZT (i:=i) (v:=p) t (by simpa using e);exact⟨v,by simpa using h1,h2⟩
theorem aL.set {p:PV} (r:VR K ι H v p):∀{vs:List V}{ps:List PV} (i:Nat),aL K ι H vs ps->aL K ι H (vs.set i v) (ps.set i p)
 | _,_,_,.nil=>.nil
 | _,_,0,.cons _ t=>.cons r t
 | _,_,i+1,.cons q t=>.cons q (aL.set r i t)
theorem aL.append:∀{xs ys:List V}{us ws:List PV},aL K ι H xs us->aL K ι H ys ws->aL K ι H (xs++ys) (us++ws)
 | _,_,_,_,.nil,s=>s
 | _,_,_,_,.cons r t,s=>.cons r (aL.append t s)
theorem aL.take:∀{xs:List V}{us:List PV} (n:Nat),aL K ι H xs us->aL K ι H (xs.take n) (us.take n)
 | _,_,0,_=>.nil
 | _,_,_+1,.nil=>.nil
 | _,_,n+1,.cons r t=>.cons r (aL.take n t)
theorem aL.drop:∀{xs:List V}{us:List PV} (n:Nat),aL K ι H xs us->aL K ι H (xs.drop n) (us.drop n)
 | _,_,0,r=>r
 | _,_,_+1,.nil=>.nil
 | _,_,n+1,.cons _ t=>aL.drop n t
theorem aL.reverse:∀{xs:List V}{us:List PV},aL K ι H xs us->aL K ι H xs.reverse us.reverse
 | _,_,.nil=>.nil
 | _,_,.cons r t=>by rw [De,De];exact (aL.reverse t).append (.cons r .nil)
def aL.one {p:PV} (r:VR K ι H v p):aL K ι H [v] [p]:=.cons r .nil
end
structure Go (ι ι':List db) (H H':Hp):Prop where
 ext:∃m,ι'=ι++m
 new:∀a,a∈ι'->a∉ι->H a=bv
 keep:∀a o,a∉ι->H a=bd o->H' a=bd o
def Go.refl (ι:List db) (H:Hp):Go ι ι H H:=⟨⟨[],by simp⟩,λa h n=>absurd h n,λ_ _ _ h=>h⟩
def OR (K:Ab) (ι:List db) (H:Hp) (a:db):PO->Prop
 | .lst xs=>∃vs,H a=bd (.lst vs)/\aL K ι H vs xs
 | .dk kvs=>∃vs:List (Key×V),H a=bd (.dK vs)/\vs.map (·.1)=kvs.map (·.1)/\aL K ι H (vs.map (·.2)) (kvs.map (·.2))
 | .dt kvs=>∃vs:List (List Key×V),H a=bd (.dT vs)/\vs.map (·.1)=kvs.map (·.1)/\aL K ι H (vs.map (·.2)) (kvs.map (·.2))
 | .opq φ=>∃vs,H a=bd (.lst vs)/\φ vs
structure HR (K:Ab) (ι:List db) (H:Hp) (h:PH):Prop where
 nd:ι.Nodup
 len:ι.length=h.length
 obj:∀(n:Nat) (a:db) (o:PO),ι[n]?=bd a->h[n]?=bd o->OR K ι H a o
theorem iM {l:List α}{x y:α} (h:(l++[x])[n]?=bd y):l[n]?=bd y\/(n=l.length/\y=x):=by
 by_cases hn:n < l.length
 ·rw [AD hn] at h;exact .inl h
 ·rw [AE ∅] at h;obtain⟨k,hk⟩:∃k,k=n-l.length:=⟨_,rfl⟩;rw [<- hk] at h;cases k with
  | zero=>simp at h;exact .inr ⟨by omega,h.symm⟩
  | succ k=>simp at h
end
end PL
variable {e:BN}
namespace PL
section
open PySem PySem.Spec PyProof.Rows L2
variable {K:Ab}
abbrev QV:=PV->PH->Prop
structure ME where
 run:xH->PH->QV->Prop
 mono:∀{ps h}{Q Q':QV},(∀v h',Q v h'->Q' v h')->run ps h Q->run ps h Q'
structure MT where
 run:xH->PH->(Bool->PH->Prop)->Prop
 mono:∀{ps h}{Q Q':Bool->PH->Prop},(∀v h',Q v h'->Q' v h')->run ps h Q->run ps h Q'
structure MA where
 run:xH->PH->(List PV->PH->Prop)->Prop
 mono:∀{ps h}{Q Q':List PV->PH->Prop},(∀v h',Q v h'->Q' v h')->run ps h Q->run ps h Q'
structure ML where
 run:xH->PH->(List PV->PH->Prop)->Prop
 mono:∀{ps h}{Q Q':List PV->PH->Prop},(∀v h',Q v h'->Q' v h')->run ps h Q->run ps h Q'
structure Src where
 items:List PV
 ok:PH->Prop
 fz:Bool
structure MI where
 run:xH->PH->(Src->PH->Prop)->Prop
 mono:∀{ps h}{Q Q':Src->PH->Prop},(∀v h',Q v h'->Q' v h')->run ps h Q->run ps h Q'
structure PD where
 nx:xH->PH->Prop
 rt:QV
 bk:xH->PH->Prop
 ct:xH->PH->Prop
structure PD.Le (D D':PD):Prop where
 nx:∀ps h,D.nx ps h->D'.nx ps h
 rt:∀v h,D.rt v h->D'.rt v h
 bk:∀ps h,D.bk ps h->D'.bk ps h
 ct:∀ps h,D.ct ps h->D'.ct ps h
structure MS where
 run:PD->xH->PH->Prop
 mono:∀{D D' ps h},PD.Le D D'->run D ps h->run D' ps h
structure MG where
 run:PV->xH->PH->(xH->PH->Prop)->Prop
 mono:∀{v ps h}{Q Q':xH->PH->Prop},(∀ps h,Q ps h->Q' ps h)->run v ps h Q->run v ps h Q'
def pQ (K:Ab) (ι:List db) (H:Hp) (Q:VK):QV:=λp h'=>∀ι' v H',Go ι ι' H H'->HR K ι' H' h'->VR K ι' H' v p->Q v H'
def PE.imp {t t':TE} (h:PE X e t) (f:∀σ H Q,t' σ H Q->t σ H Q):PE X e t':=λZ s σ H Q I q=>h Z s σ H Q I (f _ _ _ q)
def PT.imp {t t':TT} (h:PT X e t) (f:∀σ H Q,t' σ H Q->t σ H Q):PT X e t':=λZ s σ H Q I q=>h Z s σ H Q I (f _ _ _ q)
def PW.imp {t t':TT} (h:PW X e t) (f:∀σ H Q,t' σ H Q->t σ H Q):PW X e t':=λw Z s σ H Q I q=>h w Z s σ H Q I (f _ _ _ q)
def PA.imp {e:List lm}{t t':TA} (h:PA X e t) (f:∀σ H Q,t' σ H Q->t σ H Q):PA X e t':=λpos Z s σ H Q I q=>h pos Z s σ H Q I (f _ _ _ q)
def PS.imp {e:t0}{t t':TS} (h:PS X e t) (f:∀D σ H,t' D σ H->t D σ H):PS X e t':=λZ s σ H D I q=>h Z s σ H D I (f _ _ _ q)
def qC.imp {e:List t0}{t t':TS} (h:qC X e t) (f:∀D σ H,t' D σ H->t D σ H):qC X e t':=λZ s σ H D I q=>h Z s σ H D I (f _ _ _ q)
def PG.imp {t t':TG} (h:PG X e t) (f:∀v σ H Q,t' v σ H Q->t v σ H Q):PG X e t':=λZ s σ H v u Q I r q=>h Z s σ H v u Q I r (f _ _ _ _ q)
def PI.imp {t t':TI} (h:PI X tg e t) (f:∀σ H Q,t' σ H Q->t σ H Q):PI X tg e t':=λZ s σ H R I q=>h Z s σ H R I (f _ _ _ q)
section
abbrev P2:=PV->PV->PH->QV->Prop
structure M2 where
 f:P2
 mono:∀{x y h}{Q Q':QV},(∀v h',Q v h'->Q' v h')->f x y h Q->f x y h Q'
def M2.Ok (K:Ab) (r:R2) (m:M2):Prop:=∀{ι H h u v x y Q},HR K ι H h->VR K ι H u x->VR K ι H v y->m.f x y h (pQ K ι H Q)->r u v H Q
end
end
section
open PySem PySem.Spec PyProof.Rows L2
variable {K:Ab}
section
def kT:∀{vs:List V}{l:List PV},aL K ι H vs l->(!l.isEmpty)=!vs.isEmpty
 | _,_,.nil=>rfl
 | _,_,.cons _ _=>rfl
structure MQ where
 run:xH->PH->(Src->PH->Prop)->Prop
 mono:∀{ps h}{Q Q':Src->PH->Prop},(∀v h',Q v h'->Q' v h')->run ps h Q->run ps h Q'
end
end
open PySem PySem.Spec PyProof.Rows L2
section
structure MGs where
 run:List PV->xH->PH->(xH->PH->Prop)->Prop
 mono:∀{v ps h}{Q Q':xH->PH->Prop},(∀ps h,Q ps h->Q' ps h)->run v ps h Q->run v ps h Q'
end
section
variable {K:Ab}
section
structure xI where
 f:List PV->PH->QV->Prop
 mono:∀{l h}{Q Q':QV},(∀v h',Q v h'->Q' v h')->f l h Q->f l h Q'
def xI.Ok (K:Ab) (r:List V->Hp->VK->Prop) (m:xI):Prop:=∀{ι H h vs l Q},HR K ι H h->aL K ι H vs l->m.f l h (pQ K ι H Q)->r vs H Q
end
end
end PL
variable {g':Int->Int->L2.V}{g:Int->Int->PL.PV}
namespace PL
section
open PySem PySem.Spec PyProof.Rows L2
variable {K:Ab}
def aI (g:Int->Int->PV):M2:=⟨λx y h Q=>match x,y with | .int i,.int j=>Q (g i j) h | _,_=>False,λf q=>by
 revert q
 split
 ·exact f _ _
 ·exact λz=>z⟩
def WO (C:Int->Int->Prop) (g:Int->Int->PV):M2:=⟨λx y h Q=>match x,y with | .int i,.int j=>C i j/\Q (g i j) h | _,_=>False,λf q=>by
 revert q
 split
 ·exact λq=>⟨q.1,f _ _ q.2⟩
 ·exact λz=>z⟩
def zC (hg:∀ι H i j,VR K ι H (g' i j) (g i j)):M2.Ok K (Qo g') (aI g):=by
 intro ι H h u v x y Q hr hu hv q;unfold aI at q;dsimp only at q;revert q
 split
 ·intro q;cases hu;cases hv;exact⟨_,_,rfl,rfl,q ι _ H (Go.refl _ _) hr (hg _ _ _ _)⟩
 ·exact Bn
def xr {C:Int->Int->Prop} (hg:∀ι H i j,VR K ι H (g' i j) (g i j)):M2.Ok K (rI C g') (WO C g):=by
 intro ι H h u v x y Q hr hu hv q;unfold WO at q;dsimp only at q;revert q
 split
 ·intro q;cases hu;cases hv;exact⟨_,_,rfl,rfl,q.1,q.2 ι _ H (Go.refl _ _) hr (hg _ _ _ _)⟩
 ·exact Bn
def oq:=aI λi j=>.int (i-j)
def ou:=WO wP λi j=>.int (i*j)
def oDiv:=WO SS λi j=>.int (i / j)
def oMod:=WO (λ_ j=>0 < j) λi j=>.int (i % j)
def yA:=WO Pc λi j=>.int (i ^ j.toNat)
def oLt:=aI λi j=>.bl (decide (i < j))
def oLe:=aI λi j=>.bl (decide (i<=j))
def Y3:=aI λi j=>.bl (decide (j < i))
def oGe:=aI λi j=>.bl (decide (j<=i))
section
def aL.jN:∀{vs:List V}{l:List PV},aL K ι H vs l->(vs=[]↔l=[])
 | _,_,.nil=>by simp
 | _,_,.cons _ _=>by simp
end
mutual
def PV.dat:PV->Bool
 | .tup l=>tX l
 | .ref _=>false
 | .ty _=>false
 | .cl _=>false
 | .dv _ _=>false
 | _=>true
def tX:List PV->Bool
 | []=>true
 | x::l=>x.dat&&tX l
end
end
section
open PySem PySem.Spec PyProof.Rows L2
variable {K:Ab}
section
def PV.lT:PV->Bool
 | .aU=>true
 | _=>false
def F0:M2:=⟨λx y h Q=>match y with | .aU=>Q (.bl x.lT) h | _=>False,λf q=>by
 revert q
 split
 ·exact f _ _
 ·exact λz=>z⟩
def Kc {x:PV} (h:VR K ι H v x):decide (v=.aU)=x.lT:=by cases h <;> simp [PV.lT]
def QW:M2.Ok K (λx y H Q=>y=.aU/\Q (.bl (decide (x=.aU))) H) F0:=by
 intro ι H h u v x y Q hr hu hv q;cases hv with
 | aU=>exact⟨rfl,q ι _ H (Go.refl _ _) hr (by rw [Kc hu];exact .bl _)⟩
 | _=>exact q.elim
def acz:M2:=⟨λx y h Q=>match x,y with | .bl i,.bl j=>Q (.bl (i==j)) h | _,_=>False,λf q=>by
 revert q
 split
 ·exact f _ _
 ·exact λz=>z⟩
def m6:M2:=⟨λx y h Q=>match x,y with | .bl i,.bl j=>Q (.bl (!(i==j))) h | _,_=>False,λf q=>by
 revert q
 split
 ·exact f _ _
 ·exact λz=>z⟩
def FZ:M2.Ok K (λx y H Q=>∃i j,x=.bl i/\y=.bl j/\Q (.bl (!(i==j))) H) m6:=by
 intro ι H h u v x y Q hr hu hv q;cases hu <;> first
  | exact q.elim
  | (cases hv <;> first | exact q.elim | exact⟨_,_,rfl,rfl,q ι _ H (Go.refl _ _) hr (.bl _)⟩)
end
end
end PL
variable {l:List PL.PV}
namespace PL
section
open PySem PySem.Spec PyProof.Rows L2
variable {K:Ab}
section
def Mj {v':V}{w:ci} (h:RelV v w) (h':RelV v' w):v=v':=Option.some.inj (h.abs.symm.trans h'.abs)
end
section
variable {c:lm}
def mIx (a:MQ) (b:ME):ME:=⟨λps h Q=>a.run ps h λS h1=>b.run ps h1 λy h2=>match y with
 | .int k=>S.ok h2/\match cn S.items k with | some v=>Q v h2 | none=>False
 | _=>False,λf q=>a.mono (λ_ _ q=>b.mono (λ_ _ q=>by
  revert q
  split
  ·rintro⟨q0,q⟩;refine⟨q0,?_⟩;revert q
   split
   ·exact f _ _
   ·exact λz=>z
  ·exact λz=>z) q) q⟩
def aL.cn (r:aL K ι H vs l) {k:Int}{p:PV} (e:L2.cn l k=bd p):∃v,L2.cn vs k=bd v/\VR K ι H v p:=by
 unfold L2.cn at e ⊢;rw [r.length];cases z:nu l.length k with
 | none=>rw [z] at e;cases e
 | some j=>
  rw [z] at e;exact r.get e
def M3:M2:=⟨λx y h Q=>match x,y with
 | .str z,.int k=>z.length<=sizeLine/\match L2.cn z.cps.toList k with | some c=>Q (.str ⟨#[c]⟩) h | none=>False
 | _,_=>False,λf q=>by
  revert q
  split
  ·rintro⟨q0,q⟩;refine⟨q0,?_⟩;revert q
   split
   ·exact f _ _
   ·exact λz=>z
  ·exact λz=>z⟩
def QU:M2.Ok K UM M3:=by
 intro ι H h u v x y Q hr hu hv q;unfold M3 at q;dsimp only at q;revert q
 split
 ·rename_i z k;rintro⟨q0,q⟩;cases hu;cases hv;cases e:L2.cn z.cps.toList k with
  | none=>rw [e] at q;exact q.elim
  | some c=>rw [e] at q;exact⟨z,k,c,rfl,rfl,q0,e,q ι _ H (Go.refl _ _) hr (.str _)⟩
 ·exact Bn
def dF:xI:=⟨λl h Q=>match l with
 | [.str y]=>y.length<=sizeLine/\Q (.int y.length) h
 | [.tup l]=>Q (.int l.length) h
 | [.cl l]=>Q (.int l.length) h
 | [.ref n]=>match h[n]? with
  | some (.lst xs)=>Q (.int xs.length) h
  | _=>False
 | _=>False,λf q=>by
  revert q
  split
  ·exact λq=>⟨q.1,f _ _ q.2⟩
  ·exact f _ _
  ·exact f _ _
  ·split
   ·exact f _ _
   ·exact λz=>z
  ·exact λz=>z⟩
def Sw (K:Ab):xI.Ok K (UL K) dF:=by
 intro ι H h vs l Q hr hv q;unfold dF at q;dsimp only at q;revert q
 split
 ·intro q;cases hv with
  | cons x t=>cases t;cases x;exact⟨_,_,rfl,⟨q.1,rfl⟩,q.2 ι _ H (Go.refl _ _) hr (.int _)⟩
 ·intro q;cases hv with
  | cons x t=>
   cases t;cases x with
   | tup e r=>exact⟨_,_,rfl,.inr ⟨_,d9.of e,r.length.symm⟩,q ι _ H (Go.refl _ _) hr (.int _)⟩
 ·intro q;cases hv with
  | cons x t=>
   cases t;cases x with
   | cl e r=>exact⟨_,_,rfl,.inl ⟨_,e.sq,r.length.symm⟩,q ι _ H (Go.refl _ _) hr (.int _)⟩
 ·rename_i n;cases hv with
  | cons x t=>
   cases t;cases x with
   | @ref _ a e=>
   split
   ·rename_i xs hn;intro q;obtain⟨ws,e1,e2⟩:=hr.obj n a _ e hn;exact⟨_,_,rfl,.inl ⟨ws,cU.of e1,e2.length.symm⟩,q ι _ H (Go.refl _ _) hr (.int _)⟩
   ·exact Bn
 ·exact Bn
inductive Kd where
 | str | tup | int | bool
def Kd.name:Kd->String
 | .str=>"str" | .tup=>"tuple" | .int=>"int" | .bool=>"bool"
def Kd.is:Kd->PV->Bool
 | .str,.str _=>true
 | .tup,.tup _=>true
 | .int,.int _=>true
 | .int,.bl _=>true
 | .bool,.bl _=>true
 | _,_=>false
def YB (K:Ab):List V->Hp->VK->Prop:=λxs H Q=>∃x c t b,xs=[x,.ty c]/\(lS K H x t\/(t=.type "tuple"/\∃a vs,x=.ref a/\d9 K H a vs))/\Bz K t (.type c)=bd b/\Q (.bl b) H
def K7 (K:Ab) (hK:X.K=K):bQ X (.builtin "isinstance") (YB K):=by
 subst hK;intro Z s σ H xs us Q I r h;obtain⟨x,c,t,b,rfl,ty | ⟨rfl,a,vs,rfl,hT⟩,e,q⟩:=h
 ·exact o9 Z s σ H _ us Q I r ⟨x,c,t,b,rfl,ty,e,q⟩
 ·obtain⟨u,w,rfl,r1,r2⟩:=vals2 r;cases r1;cases r2;obtain⟨au,_,⟨o,h1,h2,_⟩,_⟩:=I.tuple hT;exact Bd Fj I.tG ⟨o,h1,h2⟩ e (λz=>nomatch z) λtk=>⟨.bl b,H,I.tok _,rfl,q⟩
def qk (K:Ab):(∀k:Kd,Bz K (.type "NoneType") (.type k.name)=bd false)/\(∀k:Kd,Bz K (.type "list") (.type k.name)=bd false)/\(∀k:Kd,Bz K (.type "dict") (.type k.name)=bd false):=
 ⟨λk=>by cases k <;> kernel_rfl,λk=>by cases k <;> kernel_rfl,λk=>by cases k <;> kernel_rfl⟩
def VF (K:Ab) (b:Bool) (k:Kd):Bz K (.type "bool") (.type k.name)=bd (k.is (.bl b)):=by cases k <;> kernel_rfl
def Rl (K:Ab) (b:Int) (k:Kd):Bz K (.type "int") (.type k.name)=bd (k.is (.int b)):=by cases k <;> kernel_rfl
def Rk (K:Ab) (b:Str) (k:Kd):Bz K (.type "str") (.type k.name)=bd (k.is (.str b)):=by cases k <;> kernel_rfl
def Rj (K:Ab) (b:List PV) (k:Kd):Bz K (.type "tuple") (.type k.name)=bd (k.is (.tup b)):=by cases k <;> kernel_rfl
def OX:xI:=⟨λl h Q=>match l with | [.int i]=>Q (.int (if i < 0 then -i else i)) h | _=>False,λf q=>by
 revert q
 split
 ·exact f _ _
 ·exact λz=>z⟩
def Sz:xI.Ok K (λxs H Q=>∃i,xs=[.int i]/\Q (.int (if i < 0 then -i else i)) H) OX:=by
 intro ι H h vs l Q hr hv q;unfold OX at q;dsimp only at q;revert q
 split
 ·intro q;cases hv with
  | cons x t=>cases t;cases x;exact⟨_,rfl,q ι _ H (Go.refl _ _) hr (.int _)⟩
 ·exact Bn
def sJ:xI:=⟨λl h Q=>match l with | [.int i]=>Q (.int i) h | [.bl k]=>Q (.int (if k then 1 else 0)) h | _=>False,λf q=>by
 revert q
 split
 ·exact f _ _
 ·exact f _ _
 ·exact λz=>z⟩
def Sx:xI.Ok K (λxs H Q=>(∃i,xs=[.int i]/\Q (.int i) H)\/∃k,xs=[.bl k]/\Q (.int (if k then 1 else 0)) H) sJ:=by
 intro ι H h vs l Q hr hv q;unfold sJ at q;dsimp only at q;revert q
 split
 ·intro q;cases hv with
  | cons x t=>cases t;cases x;exact .inl ⟨_,rfl,q ι _ H (Go.refl _ _) hr (.int _)⟩
 ·intro q;cases hv with
  | cons x t=>cases t;cases x;exact .inr ⟨_,rfl,q ι _ H (Go.refl _ _) hr (.int _)⟩
 ·exact Bn
def OW:xI:=⟨λl h Q=>match l with | [.int i,.int j]=>Q (.int (if j > i then j else i)) h | _=>False,λf q=>by
 revert q
 split
 ·exact f _ _
 ·exact λz=>z⟩
def OV:xI:=⟨λl h Q=>match l with | [.int i,.int j]=>Q (.int (if j < i then j else i)) h | _=>False,λf q=>by
 revert q
 split
 ·exact f _ _
 ·exact λz=>z⟩
def Sv:xI.Ok K (λxs H Q=>∃i j,xs=[.int i,.int j]/\Q (.int (if j > i then j else i)) H) OW:=by
 intro ι H h vs l Q hr hv q;unfold OW at q;dsimp only at q;revert q
 split
 ·intro q;cases hv with
  | cons x t=>cases t with
   | cons y t=>cases t;cases x;cases y;exact⟨_,_,rfl,q ι _ H (Go.refl _ _) hr (.int _)⟩
 ·exact Bn
def Su:xI.Ok K (λxs H Q=>∃i j,xs=[.int i,.int j]/\Q (.int (if j < i then j else i)) H) OV:=by
 intro ι H h vs l Q hr hv q;unfold OV at q;dsimp only at q;revert q
 split
 ·intro q;cases hv with
  | cons x t=>cases t with
   | cons y t=>cases t;cases x;cases y;exact⟨_,_,rfl,q ι _ H (Go.refl _ _) hr (.int _)⟩
 ·exact Bn
end
end
section
open PySem PySem.Spec PyProof.Rows L2
variable {K:Ab}
section
def Mm (K:Ab):List V->Hp->VK->Prop:=λxs H Q=>∃p ys,xs=[.ref p]/\((cU K H p ys/\kN H (.tup ys) Q)\/(d9 K H p ys/\Q (.ref p) H))
def K4 (K:Ab) (hK:X.K=K):bQ X (.type "tuple") (Mm K):=by
 subst hK;exact tY.mono λxs H Q ⟨p,ys,e,h⟩=>⟨p,ys,e,h.imp (λ⟨h1,h2⟩=>⟨h1,λl hl=>h2.at l hl⟩) λz=>z⟩
theorem oT:∀{bs:List Bool}{vs:List V},aL K ι H vs (bs.map PV.bl)->vs=bs.map V.bl
 | [],_,h=>by cases h;rfl
 | b::bs,_,h=>by
  cases h with
  | cons x t=>cases x;rw [oT t];rfl
structure MQL where
 run:xH->PH->(Src->PH->Prop)->Prop
 mono:∀{ps h}{Q Q':Src->PH->Prop},(∀v h',Q v h'->Q' v h')->run ps h Q->run ps h Q'
structure MO where
 run:xH->PH->(Option Int->PH->Prop)->Prop
 mono:∀{ps h}{Q Q':Option Int->PH->Prop},(∀v h',Q v h'->Q' v h')->run ps h Q->run ps h Q'
def PO.imp {e:Option lm}{t t':TO} (h:L2.PO X e t) (f:∀σ H Q,t' σ H Q->t σ H Q):L2.PO X e t':=λZ s σ H Q I q=>h Z s σ H Q I (f _ _ _ q)
def kl (xs:List PV) (lo hi:Option Int):List PV:=(xs.drop (HT.d7 xs.length 0 lo)).take (HT.d7 xs.length xs.length hi-HT.d7 xs.length 0 lo)
def aL.cut (r:aL K ι H vs l) (lo hi:Option Int):aL K ι H (xf vs lo hi) (kl l lo hi):=by
 unfold xf kl;rw [r.length];exact (r.drop _).take _
end
end
end PL
variable {e1:BN}{t1:L2.TE}{tp:Cu}
namespace PL
section
open PySem PySem.Spec PyProof.Rows L2
variable {K:Ab}
section
variable {c:lm}
def ka (lo:Int) (n:Nat):List PV:=(Av n).map λ(i:Nat)=>.int (lo+(i:Int))
def jv (lo:Int) (n:Nat):(ka lo n).length=n:=by unfold ka;simp
def oE {lo:Int}{p:PV} (h:(ka lo n)[i]?=bd p):i < n/\p=.int (lo+i):=by
 unfold ka at h;rw [Ag] at h;cases z:(Av n)[i]? with
 | none=>rw [z] at h;cases h
 | some k=>
  rw [z] at h;obtain⟨h1,h2⟩:=Ak.mp z;simp at h1 h2;subst h2;exact⟨h1,(Option.some.inj h).symm⟩
def lY (lo:Int) (n:Nat):List PV:=(Av n).map λ(i:Nat)=>.int (lo-(i:Int))
def uS (lo:Int) (n:Nat):(lY lo n).length=n:=by unfold lY;simp
def oQ {lo:Int}{p:PV} (h:(lY lo n)[i]?=bd p):i < n/\p=.int (lo-i):=by
 unfold lY at h;rw [Ag] at h;cases z:(Av n)[i]? with
 | none=>rw [z] at h;cases h
 | some k=>
  rw [z] at h;obtain⟨h1,h2⟩:=Ak.mp z;simp at h1 h2;subst h2;exact⟨h1,(Option.some.inj h).symm⟩
def Qc (i:Int):Prop:=-(2 ^ 62)<=i/\i < 2 ^ 62
def aa3 (m:MA):MI:=⟨λps h Q=>m.run ps h λl h1=>match l with | [.int j]=>Qc j/\Q ⟨ka 0 j.toNat,λ_=>True,false⟩ h1 | _=>False,λf q=>m.mono (λl h1 q=>by
 revert q
 split
 ·exact λq=>⟨q.1,f _ _ q.2⟩
 ·exact λz=>z) q⟩
def d6 (k:Nat):List PV->List PV
 | []=>[]
 | x::l=>.tup [.int (k:Int),x]::d6 (k+1) l
theorem cI:∀(k:Nat) (l:List PV),(d6 k l).length=l.length
 | _,[]=>rfl
 | k,x::l=>by rw [d6,Ao,Ao,cI]
theorem gE:∀{k:Nat}{l:List PV}{i:Nat}{p:PV},(d6 k l)[i]?=bd p->∃x,l[i]?=bd x/\p=.tup [.int ((k+i:Nat):Int),x]
 | _,[],_,_,h=>by simp [d6] at h
 | k,x::l,0,p,h=>by simp [d6] at h;subst h;exact⟨x,rfl,by simp⟩
 | k,x::l,i+1,p,h=>by
  obtain⟨y,h1,h2⟩:=gE (k:=k+1) (l:=l) (i:=i) (p:=p) (by simpa [d6] using h);exact⟨y,by simpa using h1,by rw [h2,show k+1+i=k+(i+1) by omega]⟩
def VW (K:Ab) (t1:TE):TI:=λσ H R=>t1 σ H λx H1=>∃a,x=.ref a/\(((∃xs,cU K H1 a xs)/\R (aaC K a) H1)\/((∃xs,d9 K H1 a xs)/\R (Ite K a) H1))
def Mz {X:Cx} (K:Ab) (hK:X.K=K) (hg:Gl X "enumerate") (hm:X.mg "enumerate"=bv) (h1:PE X e1 t1)
  (zL:ce [e1] X.env=(false,kt e1 X.env)::ce [] X.env:=by rfl):PI X (.Tuple Ð kk tp) (.Call (.Name "enumerate" p1) [e1] [] p2) (VW K t1):=by
 subst hK;intro Z s σ H R I h;refine BJ (jQ I hg hm boot_enumerate ?_ ⋯ ⋯);refine Bi ?_ zL rfl;rw [zL];refine Ci (bD (h1 Z s σ H _ I h) λu1 s1 ⟨x,H1,I1,r1,a,ex,hh⟩=>CG ?_);subst ex;cases r1;have d1:s1.heap.objs.size+1≠s1.heap.objs.size:=Nat.succ_ne_self _;rcases hh with⟨⟨xs,hx⟩,q⟩ | ⟨⟨xs,hx⟩,q⟩
 ·obtain⟨au,rx,tx,_⟩:=I1.list hx;refine call_enumerate_list tx.isList λh' ze hi _ k=>?_;refine C8 ze ?_;refine⟨_,_,_,_,H1,rfl,I1.kept (t':=s1.toks) k,zV d1,⟨⟨_,ze⟩,hi⟩,λc hc=>?_,q⟩;have Ú:s1.heap.objs.size<=c:=by
   simp only [Ay,BC,or_false] at hc;rcases hc with rfl | rfl
   ·exact BB _ _
   ·exact An _
  exact I1.tS Ú (I1.bG.fresh Ú)
 ·obtain⟨au,rx,tx,_⟩:=I1.tuple hx;have l1:=let ⟨_,e,_⟩:=tx;Ar e;refine Ho tx λh' ze hi k=>?_;refine C8 ze ?_;refine⟨_,_,_,_,H1,rfl,I1.kept (t':=s1.toks) k,JB d1 (AM (AA l1 (BB _ 1))) (AM l1),⟨⟨_,ze⟩,hi⟩,λc hc=>?_,q⟩;have Ú:s1.heap.objs.size<=c:=by
   simp only [Ay,BC,or_false] at hc;rcases hc with rfl | rfl
   ·exact BB _ _
   ·exact An _
  exact I1.tS Ú (I1.bG.fresh Ú)
def gr:List PV->List PV->List PV
 | x::l,y::m=>.tup [x,y]::gr l m
 | _,_=>[]
theorem mL:∀{l m:List PV}{i:Nat}{p:PV},(gr l m)[i]?=bd p->∃x y,l[i]?=bd x/\m[i]?=bd y/\p=.tup [x,y]
 | [],m,i,p,h=>by simp [gr] at h
 | x::l,[],i,p,h=>by simp [gr] at h
 | x::l,y::m,0,p,h=>by simp [gr] at h;subst h;exact⟨x,y,rfl,rfl,rfl⟩
 | x::l,y::m,i+1,p,h=>by
  obtain⟨u,w,h1,h2,h3⟩:=mL (l:=l) (m:=m) (i:=i) (p:=p) (by simpa [gr] using h);exact⟨u,w,by simpa using h1,by simpa using h2,h3⟩
end
end
section
open PySem PySem.Spec PyProof.Rows L2
variable {K:Ab}
section
def Tv:M2:=aI λi j=>.int (i+j)
def Zl {g:Int->Int->Int}:M2.Ok K (ipI g) (aI λi j=>.int (g i j)):=by
 intro ι H h u v x y Q hr hu hv q;unfold aI at q;dsimp only at q;revert q
 split
 ·intro q;cases hu;cases hv;exact⟨_,_,rfl,rfl,q ι _ H (Go.refl _ _) hr (.int _)⟩
 ·exact Bn
end
end
end PL
variable {p3 p4:Cu}
namespace PL
open PySem PySem.Spec PyProof.Rows L2
section
variable {K:Ab}
section
structure JC (X:Cx) (K:Ab) (op:CmpOp) (b:lm) (m:M2):Prop where
 p:∃r,hJ X (lc op) r/\M2.Ok K r m
 k:mo op b=false
def IK:JC X K .Lt b oLt:=⟨⟨_,YW,zC λ_ _ _ _=>.bl _⟩,kL _⟩
def IL:JC X K .LtE b oLe:=⟨⟨_,YX,zC λ_ _ _ _=>.bl _⟩,kL _⟩
def Tu:JC X K .Gt b Y3:=⟨⟨_,YY,zC λ_ _ _ _=>.bl _⟩,kL _⟩
def Zj:JC X K .GtE b oGe:=⟨⟨_,YZ,zC λ_ _ _ _=>.bl _⟩,kL _⟩
def wq:JC X K .Is b F0:=⟨⟨_,Vc,QW⟩,kL _⟩
def uF:JC X K .IsNot b m6:=⟨⟨_,yz,FZ⟩,kL _⟩
def af8:M2:=⟨λx y h Q=>match x,y with | .str i,.str j=>Q (.bl (decide (i.cps.toList < j.cps.toList))) h | _,_=>False,λf q=>by
 revert q
 split
 ·exact f _ _
 ·exact λz=>z⟩
def QX:M2:=⟨λx y h Q=>match x,y with | .str i,.str j=>Q (.bl (!(Builtin.Str.occurrences j i 0 j.length 1).isEmpty)) h | _,_=>False,λf q=>by
 revert q
 split
 ·exact f _ _
 ·exact λz=>z⟩
def VO (hk:mo .In b=false):JC X K .In b QX:=⟨⟨_,JY,by
 intro ι H h u v x y Q hr hu hv q;unfold QX at q;dsimp only at q;revert q
 split
 ·intro q;cases hu;cases hv;exact⟨_,_,rfl,rfl,q ι _ H (Go.refl _ _) hr (.bl _)⟩
 ·exact Bn⟩,hk⟩
end
end
theorem zu:∀{l:List PV},tX l=true↔∀x∈l,x.dat=true
 | []=>by simp [tX]
 | x::l=>by rw [tX,AO,zu];simp
section
variable {K:Ab}
section
variable {c:lm}
def Ol (h:aL K ι H vs l):vs.isEmpty=l.isEmpty:=by cases h <;> rfl
def aL.rep (h:aL K ι H vs l):∀k:Nat,aL K ι H (Al k vs).flatten (Al k l).flatten
 | 0=>.nil
 | k+1=>by
  rw [Bu,Bu,B5,B5];exact h.append (h.rep k)
def Mn:V->List V->Hp->VK->Prop:=λx vs H Q=>∃(l:db) (ns:List Int) (k:Int),x=.ref l/\vs=[.int k]/\H l=bd (.lst (ns.map V.int))/\k∈ns/\xR H l (.lst ((ns.erase k).map V.int)) (Q .aU)
theorem ints_get:∀{us:List ci}{ns:List Int},wS us ns->∀(i:Nat) (hi:i < us.length),∃n t,ns[i]?=bd n/\us[i]=.int n t
 | _,_,.nil,i,hi=>by simp at hi
 | _,_,.cons _ _ r,i,hi=>by
  cases i with
  | zero=>exact⟨_,_,rfl,rfl⟩
  | succ i=>exact ints_get r i (by simpa using hi)
theorem Ny {k:Int}:∀{ns:List Int}{m:Nat},ns[m]?=bd k->ns.idxOf k<=m
 | [],m,h=>by simp at h
 | a::ns,0,h=>by
  have:a=k:=by simpa using h
  subst this;simp
 | a::ns,m+1,h=>by
  have:=Ny (ns:=ns) (m:=m) (by simpa using h);rw [List.idxOf_cons];by_cases c:a=k
  ·have:(a==k)=true:=by simpa using c
   rw [this];exact A5 _
  ·have c2:(a==k)=false:=by simpa using c
   rw [c2];exact Nat.succ_le_succ this
theorem uP (f:α->β):∀(l:List α) (j:Nat),(l.eraseIdx j).map f=(l.map f).eraseIdx j
 | [],_=>rfl
 | a::l,0=>rfl
 | a::l,j+1=>by
  show f a::(l.eraseIdx j).map f=f a::(l.map f).eraseIdx j;rw [uP f l j]
def isK (k:Int):ci->Bool
 | .int a _=>a==k
 | _=>false
def sW (r:Vals vs us):∀j,Vals (vs.eraseIdx j) (us.eraseIdx j):=by
 induction r with
 | nil=>intro j;exact .nil
 | cons h r ih=>
  intro j;cases j with
  | zero=>exact r
  | succ j=>exact .cons h (ih j)
theorem F5:Ju X "list.remove" Mn:=by
 intro Z s σ H x vs v us Q I rx rv h;obtain⟨l,ns,k,rfl,rfl,hH,hk,q⟩:=h;cases rx;obtain⟨u,rfl,ru⟩:=rv.one;obtain⟨t,rfl⟩:=ru;obtain⟨z,au,n,r,hl,e⟩:=I.oy hH;have hi:=intsAre_of r;have Á:ns.length=au.length:=by rw [Af] at hl;omega
 have hj:=BM hk;have hej:ns.erase k=ns.eraseIdx (ns.idxOf k):=by rw [List.erase_eq_eraseIdx_of_idxOf rfl]
 refine u8 F.slot_list_remove ⟨_,e,rfl⟩ F.entry_list_remove (F.args_list_remove_2 _ _) (MeetsSeq.list_remove l au.toArray n (.int k t) (isK k) (λy hy=>?_) (ns.idxOf k) (by rw [Ai];omega) ?_ (λm hm kh=>?_) (by rw [Ai];omega)) ⟨e,?_⟩
 ·have Rz:y∈au:=by simpa using hy
  obtain⟨i,ZI⟩:=CM Rz;obtain⟨h1,h2⟩:=Ak.mp ZI;obtain⟨n',t',g1,g2⟩:=ints_get hi i h1;rw [<- h2,g2];exact MeetsSeq.EqGives.int _ _ _ _
 ·have h1:ns.idxOf k < au.length:=by omega
  obtain⟨n',t',g1,g2⟩:=ints_get hi (ns.idxOf k) h1;have g3:ns[ns.idxOf k]?=bd k:=by rw [Ad hj,List.getElem_idxOf hj]
  rw [g3] at g1;cases g1;rw [Dx,g2];simp [isK]
 ·have h1:m < au.length:=by rw [Ai] at hm;exact hm
  obtain⟨n',t',g1,g2⟩:=ints_get hi m h1;rw [Dx,g2];have:n'≠k:=λz=>by
   subst z;have:=Ny g1;omega
  simp [isK,this]
 ·refine⟨.aU,_,I.Gh (its':=au.eraseIdx (ns.idxOf k)) (ys:=(ns.erase k).map V.int) hH e (by simp [Array.toList_eraseIdxIfInBounds,<- Ez]) ?_ ?_,rfl,q.at⟩
  ·rw [hej,uP];exact sW r _
  ·rw [hej,Af,List.length_eraseIdx]
   split <;> omega
theorem lF:∀{ns:List Int}{vs:List V},aL K ι H vs (ns.map PV.int)->vs=ns.map V.int
 | [],_,h=>by cases h;rfl
 | b::bs,_,h=>by
  cases h with
  | cons x t=>cases x;rw [lF t];rfl
theorem ny (ι:List db) (H:Hp):∀ns:List Int,aL K ι H (ns.map V.int) (ns.map PV.int)
 | []=>.nil
 | n::ns=>.cons (.int n) (ny ι H ns)
def UI (K:Ab):List V->Hp->VK->Prop:=λxs H Q=>∃(p:db) (ns:List Int),xs=[.ref p]/\cU K H p (ns.map V.int)/\ns.length < 64/\∀ms:List Int,ms.Perm ns->ms.Pairwise (·<=·)->kN H (.lst (ms.map V.int)) Q
theorem Hk (K:Ab) (hK:X.K=K):bQ X (.builtin "sorted") (UI K):=by
 subst hK;intro Z s σ H xs us Q I r h;obtain⟨p,ns,rfl,hq,ZS,q⟩:=h;obtain⟨u,rfl,rx⟩:=vals1 r;cases rx;obtain⟨au,r',pl,hz⟩:=I.list hq;have hi:=intsAre_of r';have hl:=r'.length;rw [Af] at hl hz;refine PyProof.Rows.sorted_ints pl.isList hi ∅ λout ms a1 a2 a3=>?_;obtain⟨e,he⟩:=sortedAll_at s.heap au out;refine⟨.ref (s.heap.objs.size+1),_,I.laid (t':=s.toks) (λ_ _=>sortedAll_old) (E7 _) (show bq X.prog X.w _ _ _ (.lst (ms.map V.int)) from⟨?_,out.toList,e,n6 a1,?_⟩),rfl,(q ms a2 a3).at _ (I.bG.fresh (E7 _))⟩
 ·rw [Af,a2.length_eq];exact hz
 ·rw [Array.toArray_toList];exact he
end
end
end PL
variable {xs:Array A4}{a:BO}{o:FC}
namespace L2
open PySem PySem.Spec PyProof.Rows
def mx {name:Str}{Q:Option ci->dL->Prop}
  (hx:s.heap.get? a=bd o) (hc:o.cls=.type "list") (jw:o.data=.seq xs k) (hd:o.dict=bv) (ZA:Ge (.type "list") name=pure bv) (Zz:(["__module__","__name__","__qualname__","__doc__","__annotations__"]:List Str).contains name=false) (hA:A.handled=bv)
  (h:∀h' tk e,Heap.NewExcOf s.heap h' e "AttributeError"->Q bv {s with heap:=h',toks:=tk}) (hsz:name.length+100<=sizeLine:=by size_fits) :
  d4 (d5 prog w) A (getAttr? (.ref a) name) Q E s:=by
 obtain⟨c,dct,dat,sl⟩:=o;simp only at hc jw hd;subst hc jw hd;obtain⟨hp,g,d,tk,os⟩:=s;have hT:∀æ,(⟨hp,g,d,æ,os⟩:dL).TypeIs (.ref a) "list":=λ_=>⟨_,hx,rfl⟩;have f1:=sub_AttributeError;have f3:=CU.lookup;have f4:=CU.bind (.ref a);have f5:=am_list_getattr_none
 repeat (any_goals (first | assumption | exact hT _ | ((with_reducible show d4 _ _ (call (Value.builtin "list.__getattribute__") _ _) _ _ _);refine u8 CU (hT _) am_entry_list_getattribute (F.args_list_getattribute_2 _ _) (meets_getattribute_miss_list a xs k sl name _ ZA Zz hsz) ⟨hx,hA,λh' æ e uH=>?_⟩) | wp_step))
 obtain⟨t',u',he⟩:=uH.there;unfold getattributeRaised
 repeat (any_goals (first | assumption | wp_step))
 exact h _ _ _ uH.of
end L2
variable {b d:BO}{v:A4}
namespace L2
open PySem PySem.Spec PyProof.Rows
def iB:entryFor table "dict.update.loop"=bd Da.«dict.update.loop»:=entryFor_of_fast (by kernel_rfl)
def ip:plainId "dict.update.loop"=true:=by decide +kernel
section
variable {K:Type} [DecidableEq K] {knd:KeyKind prog w K}
def xD (knd:KeyKind prog w K) (h:pc) (it d:db) (v:ci) (x:List K×db×ci):Prop:=
 ∃pa o n,v=.ref pa/\pa≠it/\pa≠d/\x.2.1≠it/\x.2.1≠d/\h.get? pa=bd o/\o.cls=.type "tuple"/\o.data=.seq #[.ref x.2.1,x.2.2] n/\(pr knd).is h x.1 x.2.1
def vj {k:List K} (x:(pr knd).is h k b) (kp:∀o,h.get? b=bd o->h'.get? b=bd o):(pr knd).is h' k b:=by
 obtain⟨o,au,n,h1,h2⟩:=x;exact⟨o,au,n,kp _ h1,h2⟩
def xD.keep {x:List K×db×ci} (p:xD knd h it d v x) (kp:∀b o,b≠it->b≠d->h.get? b=bd o->h'.get? b=bd o):xD knd h' it d v x:=by
 obtain⟨pa,o,n,e,n1,n2,n3,n4,h1,h2,h3,h4⟩:=p;exact⟨pa,o,n,e,n1,n2,n3,n4,kp _ _ n1 n2 h1,h2,h3,vj h4 λo q=>kp _ _ n3 n4 q⟩
def xa {xs:List (List K×db×ci)} (m:h.DictOfH (pr knd) d xs) (hd:d≠it) (hx:∀x∈xs,x.2.1≠it) (kp:∀b o,b≠it->h.get? b=bd o->h'.get? b=bd o):h'.DictOfH (pr knd) d xs:=by
 obtain⟨o,es,ep,ho,hc,Ģ,he,his,hn⟩:=m;exact⟨o,es,ep,kp _ _ hd ho,hc,Ģ,he,λx q=>vj (his x q) λo z=>kp _ _ (hx x q) z,hn⟩
def xW {xs:List (List K×db×ci)}{k:List K} (hx:∀x∈xs,x.2.1≠it) (hb:b≠it):∀x∈FB xs k b v,x.2.1≠it:=by
 intro x q;unfold FB at q
 split at q
 ·obtain⟨y,hy,rfl⟩:=Au.mp q;have e:(putAt k v y).2.1=y.2.1:=by unfold putAt;split <;> rfl
  rw [e];exact hx y hy
 ·rcases AX.mp q with q | q
  ·exact hx x q
  ·rw [AR.mp q];exact hb
def xX {xs:List (List K×db×ci)}{k:List K}:(FB xs k b v).length<=xs.length+1:=by
 unfold FB
 split <;> simp
theorem xQ (hA:A.handled=bv) (hu:A.units+1 < o0) {l:db} (hz:items.size+items.size<=sizeLine) (ġ:d≠it) (hli:l≠it) (hld:l≠d) :
  ∀(k i:Nat) (ys xs:List (List K×db×ci)) (s:dL),items.size-i=k->i<=items.size->ys.length=items.size-i->xs.length<=i->s.heap.IsListIter it l i->s.heap.IsList l items->s.heap.DictOfH (pr knd) d xs->(∀x∈xs,x.2.1≠it)->
   (∀j x,ys[j]?=bd x->∃v,items[i+j]?=bd v/\xD knd s.heap it d v x)->
   (∀h' tk,h'.DictOfH (pr knd) d (ys.foldl (λa y=>FB a y.1 y.2.1 y.2.2) xs)->(∀b o,b≠it->b≠d->s.heap.get? b=bd o->h'.get? b=bd o)->R (.ok (.ret .none)) {s with heap:=h',toks:=tk})->
   GE (d5 prog w) A (.builtin "dict.update.loop" ⟨[.ref d,.ref it,wn i,.none],[]⟩) R s:=by
 intro k
 induction k with
 | zero=>
  intro i ys xs s hk hi hy hxl Ö hl hd hx hp q;have e0:ys=[]:=Dy ∅;subst e0;refine codeAny_builtin iB ?_;refine Aa (wpAny_pyNext_list_end (A:=A.in1) hA Ö hl (by rw [EL];omega) λh' ex=>?_);have kp:=ex;exact Aa (Ah (Ah (q h' s.toks (xa hd ġ hx kp) λb o n1 _ e=>kp b o n1 e)))
 | succ k ih=>
  intro i ys xs s hk hi hy hxl Ö hl hd hx hp q
  match ys,hy,hp,q with
  | [],hy,_,_=>exact absurd hy (by simp only [Bf];omega)
  | y::ys,hy,hp,q=>
  obtain⟨v,hv,pa⟩:=hp 0 y rfl;refine codeAny_builtin iB ?_;refine Aa (wpAny_pyNext_list_item Ö hl (by simpa using hv) λh1 adp sb=>?_);have Ri:∀b o,b≠it->s.heap.get? b=bd o->h1.get? b=bd o:=λb o hb e=>(sb.2 b hb).trans e;have pa1:=pa.keep λb o n1 _ e=>Ri b o n1 e;have ZO:=xa hd ġ hx Ri;have Ĝ:h1.IsList l items:=let ⟨o,e,p⟩:=hl;⟨o,Ri _ _ hli e,p⟩;obtain⟨p,o,n,rfl,n1,n2,n3,n4,g1,g2,g3,g4⟩:=pa1;refine Aa (Bc (Aa (wpAny_tryCatch ?_)));refine Aa (Co (T:="tuple") ⟨_,g1,g2⟩ ?_);refine Aa (BG g1 g3 (Ah ?_));refine Bc (wpAny_dictSet_heap (knd:=pr knd) (EQ hu) g4 ZO (λh2 Î sb2=>?_) ∅);have Ċ:∀b o,b≠d->h1.get? b=bd o->h2.get? b=bd o:=λb o hb e=>(sb2.2 b hb).trans e;refine Ah ⟨plainId_quiet ip _,?_⟩;have kp:∀b o,b≠it->b≠d->s.heap.get? b=bd o->h2.get? b=bd o:=λb o a1 a2 e=>Ċ _ _ a2 (Ri _ _ a1 e);refine ih (i+1) ys (FB xs y.1 y.2.1 y.2.2) _ ∅ ∅ (by rw [Ao] at hy;omega) (Bk xX ∅) ?_ ?_ Î (xW hx n3) (λj x hj=>?_) (λh' tk dd k3=>?_)
  ·obtain⟨o',e1,e2⟩:=adp;exact⟨o',Ċ _ _ (BE ġ) e1,e2⟩
  ·obtain⟨o',e1,e2⟩:=Ĝ;exact⟨o',Ċ _ _ hld e1,e2⟩
  ·obtain⟨v',h3,h4⟩:=hp (j+1) x hj;exact⟨v',by rw [show i+1+j=i+(j+1) by omega];exact h3,h4.keep kp⟩
  ·exact q h' tk dd λb o a1 a2 e=>k3 b o a1 a2 (kp b o a1 a2 e)
end
def vX:Ge (.type "list") (Cn "keys")=pure bv:=am_miss_of_fast (by decide +kernel)
section
variable {K:Type} [DecidableEq K] {knd:KeyKind prog w K}
theorem pP {l:db}{ys:List (List K×db×ci)} (hA:A.handled=bv) (hu:A.units+2 < o0) (ho:s.heap.get? l=bd o) (hc:o.cls=.type "list") (jw:o.data=.seq items n) (hd:o.dict=bv)
  (hz:items.size+items.size<=sizeLine) (hy:ys.length=items.size)
  (hp:∀(j:Nat) (x:List K×db×ci),ys[j]?=bd x->∃(pa:db) (op:Obj) (m:Nat),items[j]?=bd (AB pa)/\s.heap.get? pa=bd op/\op.cls=.type "tuple"/\op.data=.seq #[AB x.2.1,x.2.2] m/\(pr knd).is s.heap x.1 x.2.1)
  (q:∀h' tk,(∀b o,s.heap.get? b=bd o->h'.get? b=bd o)->h'.DictOfH (pr knd) s.heap.objs.size (ys.foldl (λa y=>FB a y.1 y.2.1 y.2.2) [])->Q (.ref s.heap.objs.size) {s with heap:=h',toks:=tk}) :
  d4 (d5 prog w) A (call (.type "dict") [.ref l]) Q E s:=by
 refine callType_codes (Q₁:=λobj s₁=>obj=.ref s.heap.objs.size/\s₁={s with heap:=s.heap.push {cls:=.type "dict",data:=.dict #[]}}) F.kt_called_dict (F.kt_typeCall_dict_1 _) F.entry_dict_init (kt_code_dict_new _ ⟨rfl,rfl⟩) ?_;rintro obj s₁ ⟨rfl,rfl⟩;have ð:∀b o,s.heap.get? b=bd o->(s.heap.push {cls:=.type "dict",data:=.dict #[]}).get? b=bd o:=λb o e=>Aj _ e;have RG:(s.heap.push {cls:=.type "dict",data:=.dict #[]}).DictOf knd s.heap.objs.size []:=Heap.DictOf.new s.heap;have Zy:(s.heap.push {cls:=.type "dict",data:=.dict #[]}).DictOfH (pr knd) s.heap.objs.size []:=⟨_,#[],0,Aq _ rfl,⟨rfl,rfl,rfl⟩,rfl,rfl,λx hx=>absurd hx (BC),E9⟩;have ls:∀b o,s.heap.get? b=bd o->b≠s.heap.objs.size:=λb o e z=>by subst z;exact A6 _ (Ar e)
 refine⟨RG.typeIs,F.args_dict_init_2 _ _,?_⟩;refine Aa ?_;refine Aa (wpAny_notOrdered_dict RG.typeIs ?_);refine Ah ?_;refine Aa (Co (T:="list") ⟨_,ð _ _ ho,hc⟩ ?_);refine Aa (mx (ð _ _ ho) hc jw hd vX (by decide +kernel) hA (λh1 tk e nx=>?_) ⋯);refine Aa (C1 (Aa ?_));refine CH (items:=items) ⟨_,nx.keeps _ _ (ð _ _ ho),hc,n,jw⟩ ?_;have hsz:=Ar (nx.keeps _ _ (Aq s.heap rfl));have Ri:∀b o,s.heap.get? b=bd o->(h1.push {cls:=.type "list_iterator",data:=.fields #[.ref l,.int 0 0]}).get? b=bd o:=λb o e=>Aj _ (nx.keeps _ _ (ð _ _ e));have ni:∀b o,s.heap.get? b=bd o->b≠h1.objs.size:=λb o e z=>by
  have h3:=Ar e;subst z;exact A6 _ (Nat.lt_trans h3 hsz)
 refine Ah ⟨plainId_quiet ip _,?_⟩;refine xQ (A:=A.in1) (knd:=knd) hA (by show A.units+1+1 < _;omega) (items:=items) (d:=s.heap.objs.size) (it:=h1.objs.size) (l:=l) hz (AM hsz) (ni _ _ ho) (ls _ _ ho) items.size 0 ys [] _ (DS _) (A5 _) (by rw [hy];rfl) (An _)
  ⟨_,Aq _ rfl,rfl,rfl⟩ ⟨_,Ri _ _ ho,hc,n,jw⟩ ?_ (λx hx=>nomatch hx) (λj x hj=>?_) (λh' æ dd kp=>?_)
 ·refine xa (it:=h1.objs.size) Zy (AM hsz) (λx hx=>nomatch hx) λb o _ e=>Aj _ (nx.keeps _ _ e)
 ·obtain⟨pa,op,m,e1,e2,e3,e4,e5⟩:=hp j x hj;have kb:∃ob,s.heap.get? x.2.1=bd ob:=let ⟨ob,_,_,z,_⟩:=e5;⟨ob,z⟩;obtain⟨ob,eb⟩:=kb;exact⟨.ref pa,by rw [Az];exact e1,pa,op,m,rfl,ni _ _ e2,ls _ _ e2,ni _ _ eb,ls _ _ eb,Ri _ _ e2,e3,e4,vj e5 λo z=>Ri _ _ z⟩
 ·exact⟨rfl,q h' æ (λb o e=>kp b o (ni _ _ e) (ls _ _ e) (Ri _ _ e)) dd⟩
end
structure Pz where
 pa:db
 k:List Key
 b:db
 v:V
def Pz.At (H:Hp) (z:Pz):Prop:=H z.pa=bd (.tup [.ref z.b,z.v])/\H z.b=bd (.tup (z.k.map kV))
def UO (K:Ab):List V->Hp->VK->Prop:=λxs H Q=>∃(p:db) (zs:List Pz),xs=[.ref p]/\cU K H p (zs.map λz=>.ref z.pa)/\(∀z∈zs,z.At H)/\(zs.map (·.k)).Nodup/\zs.length<=1000/\kN H (.dT (zs.map λz=>(z.k,z.v))) Q
theorem o6 {K:Type} [DecidableEq K]:∀(ys xs:List (K×db×ci)),((xs++ys).map (·.1)).Nodup->ys.foldl (λa y=>FB a y.1 y.2.1 y.2.2) xs=xs++ys
 | [],xs,_=>by simp
 | y::ys,xs,h=>by
  have hn:atKey xs y.1=bv:=by
   cases e:atKey xs y.1 with
   | none=>rfl
   | some p=>
    exfalso;rw [A3,Aw] at h;have h2:=(Cq.mp h).2.2;have hm:y.1∈xs.map (·.1):=by
     by_cases hc:y.1∈xs.map (·.1)
     ·exact hc
     ·rw [atKey_none_of_get (λj q hj=>?_)] at e
      ·cases e
      ·exact hc (Au.mpr ⟨_,Br hj,rfl⟩)
    exact h2 _ hm _ BA rfl
  rw [List.foldl_cons,storedH_new hn,o6 ys (xs++[(y.1,y.2.1,y.2.2)]) (by simpa using h)];simp
section
theorem Hq (K:Ab) (hK:X.K=K) (hc:X.calm=true) (hu:X.A.units+2 < o0):bQ X (.type "dict") (UO K):=by
 subst hK;intro Z s σ H xs us Q I r h;obtain⟨p,zs,rfl,hq,hz,hn,hl,q⟩:=h;obtain⟨u,rfl,rx⟩:=vals1 r;cases rx;obtain⟨au,rv,pl,hsz⟩:=I.list hq;obtain⟨o,n,ho,Pl,hd,jw⟩:=pl;have å:∀(zs:List Pz) (au:List ci),(∀z∈zs,z.At H)->Vals (zs.map λz=>V.ref z.pa) au->∃ys:List (List Key×db×ci),ys.map (·.1)=zs.map (·.k)/\KT H (zs.map λz=>(z.k,z.v)) ys/\
   ∀(j:Nat) (x:List Key×db×ci),ys[j]?=bd x->∃(pa:db) (op:Obj) (m:Nat),au[j]?=bd (AB pa)/\s.heap.get? pa=bd op/\op.cls=.type "tuple"/\op.data=.seq #[AB x.2.1,x.2.2] m/\(pr (cj X.prog X.w)).is s.heap x.1 x.2.1:=by
  intro zs
  induction zs with
  | nil=>intro au _ _;exact⟨[],rfl,.nil,λj x h=>by simp at h⟩
  | cons z zs ih=>
   intro au ha hv;cases hv with
   | @cons _ u _ us ru rus=>
   cases ru;obtain⟨ys,e1,e2,e3⟩:=ih us (λy hy=>ha y (AV _ hy)) rus;obtain⟨a1,a2⟩:=ha z BA;obtain⟨_,its',r',op,h1,h2,m,h3⟩:=(show bq X.prog X.w H s.heap z.pa (.tup [.ref z.b,z.v]) from I.bG _ _ a1);obtain⟨w,rfl,iK⟩:∃w,its'=[AB z.b,w]/\RelV z.v w:=by
    cases r' with
    | cons q1 q2=>cases q1;cases q2 with
     | cons q3 q4=>cases q4;exact⟨_,rfl,q3⟩
   refine⟨(z.k,z.b,w)::ys,by rw [Aw,Aw,e1],.cons ⟨rfl,a2,iK⟩ e2,λj x hj=>?_⟩;cases j with
   | zero=>
    cases hj;exact⟨z.pa,op,m,rfl,h1,h2,h3,rF I.bG a2⟩
   | succ j=>exact e3 j x hj
 obtain⟨ys,e1,e2,e3⟩:=å zs au hz rv;have Á:=rv.length;rw [Af] at Á;have ò:ys.length=zs.length:=by have:=congrArg BU e1;simpa using this
 have hs:(1000:Nat)+1000<=sizeLine:=by decide
 refine pP (knd:=cj X.prog X.w) (items:=au.toArray) (ys:=ys) (I.ok.hd hc) hu ho Pl jw hd (by rw [Ai];omega) (by rw [Ai];omega) (λj x hj=>?_) (λh' tk kp dd=>?_)
 ·obtain⟨pa,op,m,g1,g2⟩:=e3 j x hj;exact⟨pa,op,m,by rw [E1];exact g1,g2⟩
 ·rw [o6 ys [] (by rw [List.nil_append,e1];exact hn),List.nil_append] at dd;obtain⟨od,es,ep,õ,h2,h3,h4,_,h5⟩:=dd;have adB:=beq_eq_false_iff_ne.mpr (BE (AM I.big));have fr:=I.bG.fresh (An s.heap.objs.size);refine⟨.ref s.heap.objs.size,_,I.laid (t':=tk) kp (An _) (show bq X.prog X.w (upd H s.heap.objs.size (.dT (zs.map λz=>(z.k,z.v)))) h' _ (.dT _) from⟨?_,adB,ys,?_,od,es,ep,õ,h2,h3,h4,h5⟩),rfl,q.at _ fr⟩
  ·rw [Af];exact Bk hl ⋯
  ·refine e2.keeps λc xs ec=>?_;rw [aB (λz=>by subst z;rw [fr] at ec;cases ec)];exact ec
end
end L2
variable {es:Array PySem.DictEntry}{ep:Nat}
namespace L2
open PySem PySem.Spec PyProof.Rows
section
def SI (h:pc) (d:db) (es:Array DictEntry) (ep:Nat):Prop:=∃o,h.get? d=bd o/\o.ExactDict/\o.data=.dict es ep
theorem M6 {Q:Option ci->dL->Prop} (Ö:s.heap.IsKeyIter it d i es.size ep) (hm:SI s.heap d es ep) (hi:i < es.size)
  (q:∀h',h'.IsKeyIter it d (i+1) es.size ep->Cc it s.heap h'->Q (bd es[i].key) {s with heap:=h'}):d4 (d5 prog w) A (pyNext (.ref it)) Q E s:=by
 have ty:=Ö.typeIs;obtain⟨o,ho,hc,hd⟩:=id Ö;obtain⟨od,RF,-,RJ⟩:=hm;have ZG:(s.heap.update it (Obj.mapFields (·.setIfInBounds 1 (wn ((i:Int)+1))))).IsKeyIter it d (i+1) es.size ep:=⟨_,CD _ ho (EX (CZ hd _)),(Obj.cls_mapFields ..).trans hc,by rw [CZ hd];simp [wn]⟩;refine Aa (CV (AY (name:=Cn "__next__") ty BH (Be BH ty Dq ?_ (Dk _))));refine Aa (Ah (Aa (Aa ?_)))
 first | refine Aa (B3 ty (Ah ?_)) | refine Aa (Cr ty (Ah ?_))
 refine Aa (wpAny_fieldsOf ho hd ?_);show d4 _ _ (if (AB d==AW)=true then _ else _) _ _ s;rw [if_neg (λz:(AB d==AW)=true=>AU z)];refine Aa (Ah (Aa (Ee RF RJ ?_)));rw [if_neg (by simp)];refine Aa (Ah (Aa (ES RF RJ ?_)));rw [if_neg (by simp)];refine Ah ?_;have i0:¬((i:Int) < 0):=by omega
 simp only [i0,if_false,AZ,CP hi];refine Aa ?_
 first | refine Aa (B3 ty (Ah ?_)) | refine Aa (Cr ty (Ah ?_))
 refine Aa (wpAny_isOneOf_keyiter ty ?_);show d4 _ _ (zn (.ref it) 1 (wn ((i:Int)+1)) >>= _) _ _ s;refine Aa (D3 ho hd (by simp) (Aa (Bc (Aa (wpAny_isOneOf_keyiter (s:={s with heap:=s.heap.update it (Obj.mapFields (·.setIfInBounds 1 (wn ((i:Int)+1))))}) ZG.typeIs ?_)))));exact Ah (Ah ⟨_,rfl,Ah (q _ ZG (Cc.update ..))⟩)
theorem R5 {Q:Option ci->dL->Prop} (hh:A.handled=bv) (Ö:s.heap.IsKeyIter it d i es.size ep) (hm:SI s.heap d es ep) (hi:es.size<=i)
  (q:∀h',FD it s.heap h'->Q bv {s with heap:=h'}):d4 (d5 prog w) A (pyNext (.ref it)) Q E s:=by
 have ty:=Ö.typeIs;obtain⟨o,ho,hc,hd⟩:=id Ö;obtain⟨od,RF,-,RJ⟩:=hm;refine Aa (CV (AY (name:=Cn "__next__") ty BH (Be BH ty Dq ?_ (Dk _))));refine Aa (Ah (Aa (Aa ?_)))
 first | refine Aa (B3 ty (Ah ?_)) | refine Aa (Cr ty (Ah ?_))
 refine Aa (wpAny_fieldsOf ho hd ?_);show d4 _ _ (if (AB d==AW)=true then _ else _) _ _ s;rw [if_neg (λz:(AB d==AW)=true=>AU z)];refine Aa (Ah (Aa (Ee RF RJ ?_)));rw [if_neg (by simp)];refine Aa (Ah (Aa (ES RF RJ ?_)));rw [if_neg (by simp)];refine Ah ?_;have i0:¬((i:Int) < 0):=by omega
 simp only [i0,if_false,AZ,EL hi];refine Aa ?_
 first | refine Aa (B3 ty (Ah ?_)) | refine Aa (Cr ty (Ah ?_))
 show d4 _ _ (zn (.ref it) 0 .none >>= _) _ _ s;refine Aa (D3 ho hd (by simp) ?_);refine Aa ?_;refine Aa (Bp (Aa (m:=firstArgMember _ _) (CA (a:=AW) (by first | rfl | (simp only [firstArgMember];rfl)) (Bp ?_ (by size_fits)))) (by size_fits));unfold raiseNew;refine Aa (wpAny_handled ?_);rw [show A.in1.handled=bv from hh];refine Aa (Ah (wpAny_throw ?_));refine Aa (Dm (T:="StopIteration") (b:=true) ⟨_,Aq _ rfl,rfl⟩ isSubtype_stop ?_);exact Ah (q _ (((Cc.update ..).extBut.push _).push _))
def Nu (hs:(d==ul)=false) (hm:SI s.heap d es ep)
  (q:Q (.ref s.heap.objs.size) {s with heap:=s.heap.push {cls:=.type "dict_keyiterator",data:=.fields #[.ref d,.int 0 0,.int es.size 0,.int ep 0]}}):d4 (d5 prog w) A (pyIter (.ref d)) Q E s:=by
 obtain⟨od,RF,hx,RJ⟩:=hm;have ty:s.TypeIs (.ref d) "dict":=⟨_,RF,hx.1⟩;refine wpAny_pyIter_slot ty F.slot_dict_iter (Be F.slot_dict_iter ty F.entry_dict_iter ?_ (F.args_dict_iter_1 _));refine Aa ?_;refine Aa (wpAny_notOrdered_dict ty ?_);refine Ah ?_;show d4 _ _ (Builtin.Dict.showsAll d >>= _) _ _ s;unfold Builtin.Dict.showsAll;rw [if_neg (by rw [hs];exact AU)];refine Aa (Ah (Aa (Ee RF RJ (Aa (ES RF RJ ?_)))));exact Aa (Bp (Ah ⟨_,rfl,"dict_keyiterator",_,⟨_,Aq _ rfl,rfl⟩,BH.lookup,q⟩))
end
end L2
variable {u:L2.HO}
namespace L2
open PySem PySem.Spec PyProof.Rows
section
variable {σ:St}
def Inv.freeze (I:Inv X Z σ H s) (e:H a=bd (.dT kvs)):∃o,Inv X Z σ (upd H a (.cO o (.dT kvs))) s:=by
 obtain⟨z,hs,xs,r,o,es,ep,h1,h2,h3,h4,h5⟩:=(show bq X.prog X.w H s.heap a (.dT kvs) from I.bG a _ e);refine⟨o,?_⟩;have q:=I.write (x:=a) (e:=a) (o:=.cO o (.dT kvs)) (h':=s.heap) (t':=s.toks) (by rw [e];exact Cf) (.inl rfl) (λb u _ z=>z) ⟨o,h1⟩
  ⟨h1,z,hs,xs,KT.keeps r λb ys eb=>by rw [aB (IA eb e (λz=>nomatch z))];exact eb,o,es,ep,h1,h2,h3,h4,h5⟩
 exact q
def Inv.X0 (I:Inv X Z σ H s) (e:H a=bd (.cO o u)) (h0:∀o u,X.H₀ a≠bd (.cO o u)) (hu:bq X.prog X.w (upd H a u) s.heap a u) (bG:lN X.prog X.w (upd H a u) s.heap):Inv X Z σ (upd H a u) s:=by
 have ne:∀b v,H b=v->v≠bd (.cO o u)->b≠a:=λb v q n z=>by subst z;exact n (q.symm.trans e)
 refine⟨I.ok,I.os,I.bare,⟨I.base.keep,I.base.slot,λb ob q n hx=>?_,I.base.there,λb xs q=>?_,λb ob xs q=>?_,λb ps q=>?_⟩,I.loc,I.cell,?_,λx c q=>?_,λp hp=>?_,bG,I.len⟩
 ·have:=I.base.free b ob q n hx;rw [aB (ne b _ this (by simp))];exact this
 ·have:=I.base.eL b xs q;rw [aB (ne b _ this (by simp))];exact this
 ·have:=I.base.pL b ob xs q;have hb:b≠a:=λz=>by subst z;exact h0 _ _ q
  rw [aB hb];exact this
 ·obtain⟨m,this⟩:=I.base.vm b ps q;exact⟨m,by rw [aB (ne b _ this (by simp))];exact this⟩
 ·rw [aB (ne _ _ I.free (by simp))];exact I.free
 ·rw [aB (ne _ _ (I.kc x c q) (by simp))];exact I.kc x c q
 ·obtain⟨p1,p2,p3⟩:=I.pin p hp;exact⟨p1,by rw [aB (ne _ _ p2 (by simp))];exact p2,p3⟩
end
def aaD (a:db) (o:Obj):It:=
 ⟨λi H=>∃kvs,H a=bd (.cO o (.dT kvs))/\i < kvs.length,λi H x H'=>H'=H/\∀kvs,H a=bd (.cO o (.dT kvs))->∃b k v,x=.ref b/\kvs[i]?=bd (k,v)/\H b=bd (.tup (k.map kV)),λi H=>∃kvs,H a=bd (.cO o (.dT kvs))/\kvs.length<=i⟩
theorem NW (x:bq P w H h a (.cO o (.dT kvs))) (hd:o.data=.dict es ep) :
  SI h a es ep/\es.size=kvs.length/\∀(i:Nat) (hi:i < es.size),∃b k v,es[i].key=.ref b/\kvs[i]?=bd (k,v)/\H b=bd (.tup (k.map kV)):=by
 obtain⟨e,z,hs,xs,r,o',ý,þ,h1,h2,h3,h4,h5⟩:=x;rw [e] at h1;cases h1;rw [hd] at h3;cases h3;have hl:es.size=xs.length:=by have:=congrArg BU h4;simpa using this
 refine⟨⟨o,e,h2,hd⟩,hl.trans (Paired.length r).symm,λi hi=>?_⟩;have hx:xs[i]?=bd (xs[i]'∅):=Ad _;have pg:∀{l:List (List Key×V)}{m:List (List Key×db×ci)}{i:Nat}{q:List Key×db×ci},KT H l m->m[i]?=bd q->∃v,l[i]?=bd (q.1,v)/\H q.2.1=bd (.tup (q.1.map kV)):=by
  intro l m i q t
  induction t generalizing i with
  | nil=>intro h;simp at h
  | @cons p q' ps qs hq t ih=>
   intro h;cases i with
   | zero=>
    cases h;obtain⟨p1,p2⟩:=p;have e1:=hq.1;subst e1;exact⟨p2,rfl,hq.2.1⟩
   | succ i=>exact ih (by simpa using h)
 obtain⟨v,g1,g2⟩:=pg r hx;refine⟨_,_,v,?_,g1,g2⟩;have:es[i]=entryOfKey (pr (cj P w)) (xs[i]'∅):=by
  have h6:es.toList[i]?=bd (entryOfKey (pr (cj P w)) (xs[i]'∅)):=by rw [h4,Ag,hx];rfl
  rw [E2,CP hi] at h6;exact Option.some.inj h6
 rw [this];rfl
theorem JD {K:Ab} (a it:db) (o:Obj) (hd:o.data=.dict es ep):Turn P w K tg (aaD a o) [it] it (λi h=>h.IsKeyIter it a i es.size ep) where
 mem:=by simp
 obj:=λi h st b hb=>by
  have e:b=it:=by simpa using hb
  subst e;obtain⟨o,e,c,d⟩:=st;exact⟨o,e,λv z=>by rw [d] at z;cases z⟩
 keep:=λi h h' st k=>st.at λo e=>k it (by simp) o e
 item:=by
  intro X hP hw hK hc i Z s σ H E I hf st hg;subst hP hw hK;obtain⟨kvs,hq,hx⟩:=hg;obtain⟨Ĉ,hl,ky⟩:=NW (I.bG a _ hq) hd;obtain⟨b,k,v,k1,k2,k3⟩:=ky i ∅;obtain⟨f0,f1,f2,f3,f4,f5⟩:=hf it (by simp);refine M6 st Ĉ ∅ λh' mI sb=>?_;have I1:Inv X Z σ H {s with heap:=h'}:=I.turned (t':=s.toks) (λb o hb e=>(sb.2 b hb).trans e) f0 f1 f3 f4 f5;obtain⟨oi,e,c,d⟩:=id mI;refine⟨_,rfl,rR (s:={s with heap:=h'}) e c d ⋯ ⟨.ref b,H,I1,k1,⟨rfl,λagp õ=>?_⟩,mI,λb hb=>(hf b hb).1⟩⟩;rw [hq] at õ;cases õ;exact⟨b,k,v,rfl,k2,k3⟩
 done:=by
  intro X hP hw hK hc i Z s σ H E I hf st hg;obtain⟨kvs,hq,hx⟩:=hg;obtain⟨Ĉ,hl,ky⟩:=NW (I.bG a _ hq) hd;obtain⟨f0,f1,f2,f3,f4,f5⟩:=hf it (by simp);exact R5 (I.ok.hd hc) st Ĉ ∅ λh' eb=>⟨rfl,I.turned (t':=s.toks) (λb o hb e=>eb b o hb e) f0 f1 f3 f4 f5⟩
 self:=λ_ _ _ _ _ st h=>wpAny_pyIter_keyiter st h
def VX (tl:TE):TI:=λσ H R=>tl σ H λx H1=>∃a o kvs,x=.ref a/\H1 a=bd (.cO o (.dT kvs))/\R (aaD a o) H1
def MB {l:lm} (hl:PE X l tl):PI X tg l (VX tl):=by
 intro Z s σ H R I h;refine bD (hl Z s σ H _ I h) λv s1 ⟨x,H1,I1,r1,q1⟩=>?_;obtain⟨a,o,kvs,e,hq,q⟩:=q1;subst e;cases r1;obtain⟨eo,z,hs,xs,r,o',es,ep,h1,h2,h3,h4,h5⟩:=(show bq X.prog X.w H1 s1.heap a (.cO o (.dT kvs)) from I1.bG a _ hq);rw [eo] at h1;cases h1;refine Nu hs ⟨o,eo,h2,h3⟩ ?_;refine⟨s1.heap.objs.size,[s1.heap.objs.size],_,_,H1,rfl,I1.kept (t':=s1.toks) λb o e=>Aj _ e,JD a _ o h3,⟨_,Aq _ rfl,rfl,rfl⟩,λb hb=>?_,q⟩;have e:b=s1.heap.objs.size:=by simpa using hb
 subst e;exact I1.tS (An _) (I1.bG.fresh (An _))
end L2
variable {v:PL.PV}{φ:List L2.V->Prop}
namespace FL
section
open PySem PySem.Spec PyProof.Rows L2 PL
variable {K:Ab}
structure W (α:Type) where
 run:(α->Prop)->Prop
 mono:∀{Q Q':α->Prop},(∀a,Q a->Q' a)->run Q->run Q'
namespace W
variable {α β γ:Type}
def ext' {a b:W α} (h:∀Q,a.run Q↔b.run Q):a=b:=by
 cases a;cases b;congr;funext Q;exact propext (h Q)
def ret (a:α):W α:=⟨λQ=>Q a,λh q=>h _ q⟩
def bind (w:W α) (k:α->W β):W β:=⟨λQ=>w.run λa=>(k a).run Q,λh q=>w.mono (λa q=>(k a).mono h q) q⟩
def fail:W α:=⟨λ_=>False,λ_ q=>q⟩
def fM (p:Prop) (w:W α):W α:=⟨λQ=>p/\w.run Q,λh q=>⟨q.1,w.mono h q.2⟩⟩
def any (p:α->Prop):W α:=⟨λQ=>∀a,p a->Q a,λh q a pa=>h a (q a pa)⟩
def MY:Option α->W α
 | some a=>ret a
 | none=>fail
@[simp] theorem ai (a:α) (k:α->W β):bind (ret a) k=k a:=(rfl)
@[simp] theorem bind_assoc (w:W α) (f:α->W β) (g:β->W γ):bind (bind w f) g=bind w λa=>bind (f a) g:=(rfl)
@[simp] theorem aav (w:W α):bind w ret=w:=(rfl)
@[simp] theorem Xn (k:α->W β):bind fail k=fail:=(rfl)
@[simp] theorem aj (a:α) (Q:α->Prop):(ret a).run Q=Q a:=(rfl)
@[simp] theorem run_bind (w:W α) (k:α->W β) (Q:β->Prop):(bind w k).run Q=w.run λa=>(k a).run Q:=(rfl)
@[simp] theorem Yu (Q:α->Prop):(fail:W α).run Q=False:=(rfl)
@[simp] theorem aaQ (p Q:α->Prop):(any p).run Q=∀a,p a->Q a:=(rfl)
@[simp] theorem Qk (p:Prop) (w:W α) (Q:α->Prop):(fM p w).run Q=(p/\w.run Q):=(rfl)
@[simp] theorem OM (p:Prop) (w:W α) (k:α->W β):bind (fM p w) k=fM p (bind w k):=(rfl)
def aw {p:Prop}{w:W α} (h:p):fM p w=w:=ext' λQ=>⟨λq=>q.2,λq=>⟨h,q⟩⟩
@[simp] theorem aap {w:W α}:fM True w=w:=aw trivial
@[simp] theorem az (a:α):MY (bd a)=ret a:=(rfl)
@[simp] theorem Y2:MY (bv:Option α)=fail:=(rfl)
end W
inductive SL where
 | val (v:PV) | adr (b:db) | ol (q:Option db) (l:List PV) | qd (bs:List db) (ls:List (List PV)) | od (kvs:List (Key×PV)) | ot (kvs:List (List Key×PV)) | kn (φ:List V->Prop)
abbrev bA:=List (Option SL)
def SL.own:SL->Bool
 | .val _=>false
 | .adr _=>false
 | _=>true
def SL.inn:SL->List db
 | .qd bs _=>bs
 | _=>[]
def SL.has (s:SL) (x a:db):Prop:=a=x\/a∈s.inn
def iH (K:Ab) (H:Hp) (a:db):SL->Prop
 | .val _=>False
 | .adr b=>a=b
 | .qd bs ls=>H a=bd (.lst (bs.map V.ref))/\a∉bs/\bs.Nodup/\bs.length=ls.length/\∀(j:Nat) (b:db) (l:List PV),bs[j]?=bd b->ls[j]?=bd l->∃ws,H b=bd (.lst ws)/\aL K [] H ws l
 | .ol q l=>(∀b,q=bd b->a=b)/\∃vs,H a=bd (.lst vs)/\aL K [] H vs l
 | .od kvs=>∃vs:List (Key×V),H a=bd (.dK vs)/\vs.map (·.1)=kvs.map (·.1)/\aL K [] H (vs.map (·.2)) (kvs.map (·.2))
 | .ot kvs=>∃vs:List (List Key×V),H a=bd (.dT vs)/\vs.map (·.1)=kvs.map (·.1)/\aL K [] H (vs.map (·.2)) (kvs.map (·.2))
 | .kn φ=>∃vs,H a=bd (.lst vs)/\φ vs
def u7 (K:Ab) (H:Hp) (u:V) (s:SL):Prop:=(∃v,s=.val v/\VR K [] H u v)\/∃a,u=.ref a/\iH K H a s
def dG (σ:L2.St) (fs:bA) (a:db):Prop:=∃(i:Nat) (s:SL) (x:db),fs[i]?=bd (bd s)/\s.own=true/\σ[i]?=bd (bd (.ref x))/\s.has x a
def eW (σ:L2.St) (fs:bA) (φ:List V->Prop) (a:db):Prop:=∃i:Nat,fs[i]?=bd (bd (.kn φ))/\σ[i]?=bd (bd (.ref a))
structure aW (K:Ab) (H:Hp) (σ:L2.St) (fs:bA):Prop where
 len:σ.length=fs.length
 at':∀(i:Nat) (s:SL),fs[i]?=bd (bd s)->∃u,σ[i]?=bd (bd u)/\u7 K H u s
 nd:∀(i j:Nat) (s t:SL) (x y a:db),fs[i]?=bd (bd s)->fs[j]?=bd (bd t)->s.own=true->t.own=true->σ[i]?=bd (bd (.ref x))->σ[j]?=bd (bd (.ref y))->s.has x a->t.has y a->i=j
structure cL (σ:L2.St) (fs:bA) (H:Hp) (σ':L2.St) (bL:bA) (H':Hp):Prop where
 keep:∀a o,H a=bd o->¬dG σ fs a->H' a=bd o/\¬dG σ' bL a
 there:∀a,H' a=bv->H a=bv
 pk:∀a φ,eW σ fs φ a->eW σ' bL φ a\/(¬dG σ' bL a/\∃vs,H' a=bd (.lst vs)/\φ vs)
structure cZ (σ:L2.St) (fs:bA) (H H':Hp):Prop where
 keep:∀a o,H a=bd o->(∀φ,¬eW σ fs φ a)->H' a=bd o
 there:∀a,H' a=bv->H a=bv
section
variable {σ σ' σ1 σ2:L2.St}{fs bL RO dQ:bA}{H H' H1 H2:Hp}
def eW.vO (p:eW σ fs φ a):dG σ fs a:=let ⟨i,e1,e2⟩:=p;⟨i,_,_,e1,rfl,e2,.inl rfl⟩
def cZ.refl:cZ σ fs H H:=⟨λ_ _ h _=>h,λ_ h=>h⟩
def cZ.trans (a:cZ σ fs H H1) (b:cZ σ fs H1 H2):cZ σ fs H H2:=⟨λx o h n=>b.keep x o (a.keep x o h n) n,λx h=>a.there x (b.there x h)⟩
def cZ.f (g:cZ σ fs H H'):cL σ fs H σ fs H':=⟨λa o h n=>⟨g.keep a o h λφ p=>n p.vO,n⟩,g.there,λa φ p=>.inl p⟩
def cZ.o4 (g:cZ σ fs H H') {o:HO} (h:H a=bd o) (n:¬dG σ fs a):H' a=bd o:=g.keep a o h λφ p=>n p.vO
def cZ.same (h:j8 H H'):cZ σ fs H H':=⟨λa o e _=>h a o e,λa e=>(by
 cases z:H a with
 | none=>rfl
 | some o=>rw [h a o z] at e;cases e)⟩
def iH.ex {c:db}{s:SL} (h:iH K H a s) (ho:s.own=true) (hc:s.has a c):∃o,H c=bd o/\(∀vs,o≠.tup vs)/\∀ob u,o≠.cO ob u:=by
 cases s with
 | val _=>exact h.elim
 | adr _=>cases ho
 | ol q l=>obtain⟨_,vs,e,_⟩:=h;rcases hc with rfl | hc;exact⟨_,e,by simp,by simp⟩;cases hc
 | qd bs ls=>
  obtain⟨e,_,_,hl,hb⟩:=h;rcases hc with rfl | hc
  ·exact⟨_,e,by simp,by simp⟩
  ·obtain⟨j,hj⟩:=CM (show c∈bs from hc);have h1:=(Ak.mp hj).1;obtain⟨ws,e,_⟩:=hb j c _ hj (Ad (by rw [<- hl];exact h1));exact⟨_,e,by simp,by simp⟩
 | od l=>obtain⟨vs,e,_⟩:=h;rcases hc with rfl | hc;exact⟨_,e,by simp,by simp⟩;cases hc
 | ot l=>obtain⟨vs,e,_⟩:=h;rcases hc with rfl | hc;exact⟨_,e,by simp,by simp⟩;cases hc
 | kn l=>obtain⟨vs,e,_⟩:=h;rcases hc with rfl | hc;exact⟨_,e,by simp,by simp⟩;cases hc
def aW.ownAt (s:aW K H σ fs) {t:SL} (h1:fs[i]?=bd (bd t)) (h2:t.own=true) (h3:σ[i]?=bd (bd (.ref a))):iH K H a t:=by
 obtain⟨u,e,r⟩:=s.at' i t h1;rw [h3] at e;cases e;rcases r with⟨v,rfl,_⟩ | ⟨b,e,r⟩
 ·cases h2
 ·cases e;exact r
def aW.vO (s:aW K H σ fs) (h:dG σ fs a):∃o,H a=bd o/\(∀vs,o≠.tup vs)/\∀ob u,o≠.cO ob u:=by
 obtain⟨i,t,x,h1,h2,h3,h4⟩:=h;exact (s.ownAt h1 h2 h3).ex h2 h4
def aW.noOwn (s:aW K H σ fs) (h:H a=bv):¬dG σ fs a:=λz=>by
 obtain⟨o,e,_⟩:=s.vO z;rw [h] at e;cases e
def aW.Vk (s:aW K H σ fs) (h:H a=bd (.tup vs)):¬dG σ fs a:=λz=>by
 obtain⟨o,e,n,_⟩:=s.vO z;rw [h] at e;cases e;exact n vs rfl
def aW.Vl (s:aW K H σ fs) (h:H a=bd (.cO ob u)):¬dG σ fs a:=λz=>by
 obtain⟨o,e,_,n⟩:=s.vO z;rw [h] at e;cases e;exact n ob u rfl
def cL.refl:cL σ fs H σ fs H:=⟨λ_ _ h n=>⟨h,n⟩,λ_ h=>h,λ_ _ h=>.inl h⟩
def cL.trans (a:cL σ fs H σ1 RO H1) (b:cL σ1 RO H1 σ2 dQ H2):cL σ fs H σ2 dQ H2:=
 ⟨λx o h n=>let ⟨h1,n1⟩:=a.keep x o h n;b.keep x o h1 n1,λx h=>a.there x (b.there x h),λx φ h=>(a.pk x φ h).elim (b.pk x φ) λ⟨n,vs,e,p⟩=>.inr (let ⟨h1,n1⟩:=b.keep x _ e n;⟨n1,vs,h1,p⟩)⟩
def cL.eL (g:cL σ fs H σ' bL H') (s:aW K H σ fs):bw K H H':=
 ⟨λa vs h=>(g.keep a _ h (s.Vk h)).1,λa o u h=>(g.keep a _ h (s.Vl h)).1⟩
def VR.tk {u:V} (t:bw K H H') (r:VR K [] H u v):VR K [] H' u v:=r.mono t λ_ _ e=>e
def aL.tk {u:List V}{v:List PV} (t:bw K H H') (r:aL K [] H u v):aL K [] H' u v:=r.mono t λ_ _ e=>e
def cL.vr (g:cL σ fs H σ' bL H') (s:aW K H σ fs) {u:V} (r:VR K [] H u v):VR K [] H' u v:=VR.tk (g.eL s) r
def cZ.eL (g:cZ σ fs H H') (s:aW K H σ fs):bw K H H':=g.f.eL s
def cZ.vr (g:cZ σ fs H H') (s:aW K H σ fs) {u:V} (r:VR K [] H u v):VR K [] H' u v:=VR.tk (g.eL s) r
def cZ.Lv (g:cZ σ fs H H') (s:aW K H σ fs) {u:List V}{v:List PV} (r:aL K [] H u v):aL K [] H' u v:=aL.tk (g.eL s) r
def iH.mono {s:SL} (t:bw K H H') (e:∀c o,s.own=true->s.has a c->H c=bd o->H' c=bd o) (h:iH K H a s):iH K H' a s:=by
 cases s with
 | val _=>exact h
 | adr _=>exact h
 | ol _ l=>obtain⟨z,vs,q,r⟩:=h;exact⟨z,vs,e _ _ rfl (.inl rfl) q,aL.tk t r⟩
 | qd bs ls=>
  obtain⟨z,h1,h2,h3,h4⟩:=h;refine⟨e _ _ rfl (.inl rfl) z,h1,h2,h3,λj b l hb hl=>?_⟩;obtain⟨ws,q,r⟩:=h4 j b l hb hl;exact⟨ws,e _ _ rfl (.inr (Br hb)) q,aL.tk t r⟩
 | od l=>obtain⟨vs,q,k,r⟩:=h;exact⟨vs,e _ _ rfl (.inl rfl) q,k,aL.tk t r⟩
 | ot l=>obtain⟨vs,q,k,r⟩:=h;exact⟨vs,e _ _ rfl (.inl rfl) q,k,aL.tk t r⟩
 | kn φ=>obtain⟨vs,q,k⟩:=h;exact⟨vs,e _ _ rfl (.inl rfl) q,k⟩
def u7.mono {u:V}{s:SL} (t:bw K H H') (e:∀x a o,u=.ref x->s.own=true->s.has x a->H a=bd o->H' a=bd o) (h:u7 K H u s):u7 K H' u s:=by
 rcases h with⟨v,q,r⟩ | ⟨a,q,r⟩
 ·exact .inl ⟨v,q,VR.tk t r⟩
 ·exact .inr ⟨a,q,r.mono t (λc o z y w=>e a c o q z y w)⟩
def aW.same (s:aW K H σ fs) (h:j8 H H'):aW K H' σ fs:=⟨s.len,λi t e=>let ⟨u,h1,h2⟩:=s.at' i t e;⟨u,h1,h2.mono h.eZ (λ_ a o _ _ _ z=>h a o z)⟩,s.nd⟩
def cL.same (h:j8 H H') (s:aW K H σ fs):cL σ fs H σ fs H':=⟨λa o e n=>⟨h a o e,n⟩,λa e=>(by
 cases z:H a with
 | none=>rfl
 | some o=>rw [h a o z] at e;cases e),λa φ p=>.inl p⟩
inductive jD:bA->bA->Prop
 | nil:jD [] []
 | drop {s:Option SL}{a b:bA} (h:jD a b):jD (s::a) (bv::b)
 | keep {s:Option SL}{a b:bA} (h:jD a b):jD (s::a) (s::b)
theorem jD.at {a b:bA} (h:jD a b):∀(i:Nat) (s:SL),b[i]?=bd (bd s)->a[i]?=bd (bd s):=by
 induction h with
 | nil=>intro i s e;simp at e
 | drop h ih=>intro i s e;cases i with | zero=>simp at e | succ i=>simp at e ⊢;exact ih i s e
 | keep h ih=>intro i s e;cases i with | zero=>simpa using e | succ i=>simp at e ⊢;exact ih i s e
theorem jD.length {a b:bA} (h:jD a b):a.length=b.length:=by induction h <;> simp_all
theorem jD.refl:∀a:bA,jD a a
 | []=>.nil
 | _::a=>.keep (jD.refl a)
def aW.le (s:aW K H σ fs) (h:jD fs bL):aW K H σ bL:=⟨s.len.trans h.length,λi t e=>s.at' i t (h.at i t e),λi j t u x y a e1 e2=>s.nd i j t u x y a (h.at i t e1) (h.at j u e2)⟩
def dG.le (h:jD fs bL) (o:dG σ bL a):dG σ fs a:=let ⟨i,t,x,e1,e2,e3⟩:=o;⟨i,t,x,h.at i t e1,e2,e3⟩
def cL.le (s:aW K H σ fs) (h:jD fs bL):cL σ fs H σ bL H:=⟨λa o e n=>⟨e,λz=>n (z.le h)⟩,λ_ e=>e,λa φ p=>by
 obtain⟨i,e1,e2⟩:=p;by_cases c:dG σ bL a
 ·obtain⟨j,t,x,c1,c2,c3,c4⟩:=c;have ij:=s.nd i j _ t a x a e1 (h.at j t c1) rfl c2 e2 c3 (.inl rfl) c4;subst ij;have:=h.at i t c1;rw [e1] at this;cases this;exact .inl ⟨i,c1,e2⟩
 ·obtain⟨vs,q,r⟩:=s.ownAt e1 rfl e2;exact .inr ⟨c,vs,q,r⟩⟩
def ba {l:List (Option α)}{x y:α} (h:(l.set i (bd x))[j]?=bd (bd y)):(j=i/\y=x)\/(j≠i/\l[j]?=bd (bd y)):=by
 by_cases c:j=i
 ·subst c;rw [List.getElem?_set] at h;simp at h;exact .inl ⟨rfl,h.2.symm⟩
 ·rw [A8 (λz=>c z.symm)] at h;exact .inr ⟨c,h⟩
def cz {l:List α}{x:α} (h:i < l.length):(l.set i x)[i]?=bd x:=by rw [List.getElem?_set];simp [h]
def aK {l:List α}{x:α} (h:j≠i):(l.set i x)[j]?=l[j]?:=A8 (λz=>h z.symm)
def aW.put (s:aW K H σ fs) {u:V}{t:SL} (hr:u7 K H u t) (hf:∀x a,u=.ref x->t.own=true->t.has x a->∀(j:Nat) (w:SL) (y:db),j≠i->fs[j]?=bd (bd w)->w.own=true->σ[j]?=bd (bd (.ref y))->¬w.has y a):aW K H (σ.set i (bd u)) (fs.set i (bd t)):=by
 refine⟨by simp [s.len],λj w e=>?_,λj k w x b1 b2 a e1 e2 o1 o2 q1 q2 z1 z2=>?_⟩
 ·rcases ba e with⟨rfl,rfl⟩ | ⟨n,e⟩
  ·have hl:j < σ.length:=by
    have:=(Ak.mp e).1;rw [BS] at this;rw [s.len];exact this
   exact⟨u,cz hl,hr⟩
  ·obtain⟨v,h1,h2⟩:=s.at' j w e;exact⟨v,by rw [aK n];exact h1,h2⟩
 ·rcases ba e1 with⟨y1,y2⟩ | ⟨n1,f1⟩ <;> rcases ba e2 with⟨y3,y4⟩ | ⟨n2,f2⟩
  ·exact y1.trans y3.symm
  ·subst y1;subst y2;rw [aK n2] at q2;have hl:j < σ.length:=by have:=(Ak.mp q1).1;simpa using this
   rw [cz hl] at q1;cases q1;exact absurd z2 (hf _ a rfl o1 z1 k x b2 n2 f2 o2 q2)
  ·subst y3;subst y4;rw [aK n1] at q1;have hl:k < σ.length:=by have:=(Ak.mp q2).1;simpa using this
   rw [cz hl] at q2;cases q2;exact absurd z1 (hf _ a rfl o2 z2 j w b1 n1 f1 o1 q1)
  ·rw [aK n1] at q1;rw [aK n2] at q2;exact s.nd j k w x b1 b2 a f1 f2 o1 o2 q1 q2 z1 z2
def aW.fR (s:aW K H σ fs) {u:V} (hr:VR K [] H u v) (i:Nat):aW K H (σ.set i (bd u)) (fs.set i (bd (.val v))):=s.put (.inl ⟨v,rfl,hr⟩) λ_ _ _ z=>by cases z
def yx {u:V}{t:SL} (o:dG (σ.set i (bd u)) (fs.set i (bd t)) a) (hl:σ.length=fs.length):dG σ fs a\/∃x,u=.ref x/\t.own=true/\t.has x a:=by
 obtain⟨j,w,x,e1,e2,e3,e4⟩:=o;rcases ba e1 with⟨rfl,rfl⟩ | ⟨n,e1⟩
 ·have h2:j < σ.length:=by have:=(Ak.mp e3).1;simpa using this
  rw [cz h2] at e3;cases e3;exact .inr ⟨x,rfl,e2,e4⟩
 ·rw [aK n] at e3;exact .inl ⟨j,w,x,e1,e2,e3,e4⟩
def Ik (s:aW K H σ fs) {u:V}{t:SL} (p:eW σ fs φ a) (hu:∀x,u=.ref x->t.own=true->t.has x a->t=.kn φ):eW (σ.set i (bd u)) (fs.set i (bd t)) φ a\/¬dG (σ.set i (bd u)) (fs.set i (bd t)) a:=by
 obtain⟨j,e1,e2⟩:=p;by_cases c:j=i
 ·subst c;by_cases c2:∃x,u=.ref x/\t.own=true/\t.has x a
  ·obtain⟨x,c3,c4,c5⟩:=c2;have hl:=(Ak.mp e2).1;have Kk:=(Ak.mp e1).1;have et:=hu x c3 c4 c5;subst et;rcases c5 with rfl | c5
   ·exact .inl ⟨j,by rw [cz Kk],by rw [cz hl,c3]⟩
   ·cases c5
  ·refine .inr λo=>?_;obtain⟨k,w,y,q1,q2,q3,q4⟩:=o;rcases ba q1 with⟨rfl,rfl⟩ | ⟨n,q1⟩
   ·have hl:=(Ak.mp e2).1;rw [cz hl] at q3;cases q3;exact c2 ⟨y,rfl,q2,q4⟩
   ·rw [aK n] at q3;exact n (s.nd k j w _ y a a q1 e1 q2 rfl q3 e2 q4 (.inl rfl))
 ·exact .inl ⟨j,by rw [aK c];exact e1,by rw [aK c];exact e2⟩
def cL.fR (s:aW K H σ fs) (u:V) (v:PV) (i:Nat):cL σ fs H (σ.set i (bd u)) (fs.set i (bd (.val v))) H:=
 ⟨λa o e n=>⟨e,λz=>(yx z s.len).elim n λ⟨_,_,z,_⟩=>by cases z⟩,λ_ e=>e,λa φ p=>(Ik s p (λ_ _ z=>by cases z)).imp id λn=>⟨n,by
  obtain⟨j,e1,e2⟩:=p;obtain⟨vs,q,r⟩:=s.ownAt e1 rfl e2;exact⟨vs,q,r⟩⟩⟩
def aW.Ms (s:aW K H σ fs) {t:SL} (hr:iH K H a t) (hn:∀c,t.has a c->¬dG σ fs c) (i:Nat):aW K H (σ.set i (bd (.ref a))) (fs.set i (bd t)):=s.put (.inr ⟨a,rfl,hr⟩) λx c e _ hc j w y n e1 e2 e3 z=>by
 cases e;exact hn c hc ⟨j,w,y,e1,e2,e3,z⟩
def wC {t:SL} (hi:t.inn=[]) {c:db} (h:t.has a c):c=a:=by
 rcases h with h | h
 ·exact h
 ·rw [hi] at h;cases h
def aW.qU (s:aW K H σ fs) {t:SL} (hr:iH K H a t) (hn:¬dG σ fs a) (i:Nat) (hi:t.inn=[]:=by rfl):aW K H (σ.set i (bd (.ref a))) (fs.set i (bd t)):=s.Ms hr (λc hc=>by rw [wC hi hc];exact hn) i
def cL.Ms (s:aW K H1 σ fs) (g:cL σ fs H σ fs H1) {t:SL} (hn:∀c,t.has a c->¬dG σ fs c) (h0:∀c,t.has a c->H c=bv) (i:Nat):cL σ fs H (σ.set i (bd (.ref a))) (fs.set i (bd t)) H1:=by
 refine⟨λb o e n=>⟨(g.keep b o e n).1,λz=>(yx z s.len).elim n λ⟨x,z,_,y⟩=>?_⟩,g.there,λb φ p=>?_⟩
 ·cases z;rw [h0 b y] at e;cases e
 ·obtain⟨j,e1,e2⟩:=p;obtain⟨vs,q,r⟩:=s.ownAt e1 rfl e2;refine (Ik (t:=t) s ⟨j,e1,e2⟩ (λx z o y=>?_)).imp id λn=>⟨n,vs,q,r⟩;cases z;exact absurd ⟨j,_,_,e1,rfl,e2,.inl rfl⟩ (hn b y)
def cL.qU (s:aW K H1 σ fs) (g:cL σ fs H σ fs H1) {t:SL} (hn:¬dG σ fs a) (h0:H a=bv) (i:Nat) (hi:t.inn=[]:=by rfl):cL σ fs H (σ.set i (bd (.ref a))) (fs.set i (bd t)) H1:=cL.Ms s g (λc hc=>by rw [wC hi hc];exact hn) (λc hc=>by rw [wC hi hc];exact h0) i
def oY (s:aW K H σ fs) {t t':SL}{c:db} (e1:fs[i]?=bd (bd t)) (o:t.own=true) (np:∀φ,t≠.kn φ) (e2:σ[i]?=bd (bd (.ref a))) (hc:t.has a c) (Pl:t'.has a c) (tN:∀b,t'.has a b->t.has a b) (o':t'.own=true) (sx:nZ c H H') (ht:bw K H H'->iH K H' a t'):aW K H' σ (fs.set i (bd t'))/\cL σ fs H σ (fs.set i (bd t')) H':=by
 have oa:=s.ownAt e1 o e2;obtain⟨ob,q,n1,n2⟩:=oa.ex o hc;have tk:bw K H H':=⟨λb vs z=>sx b _ (λy=>by subst y;rw [q] at z;cases z;exact n1 _ rfl) z,λb o u z=>sx b _ (λy=>by subst y;rw [q] at z;cases z;exact n2 _ _ rfl) z⟩;have W7:=ht tk;have hi:i < fs.length:=(Ak.mp e1).1;have QI:∀b,dG σ (fs.set i (bd t')) b->dG σ fs b:=λb z=>by
  obtain⟨j,w,x,z1,z2,z3,z4⟩:=z;rcases ba z1 with⟨rfl,rfl⟩ | ⟨n,z1⟩
  ·rw [e2] at z3;cases z3;exact⟨j,t,a,e1,o,e2,tN b z4⟩
  ·exact⟨j,w,x,z1,z2,z3,z4⟩
 refine⟨⟨by simp [s.len],λj w e=>?_,λj k w x b1 b2 b z1 z2 o1 o2 q1 q2 y1 y2=>?_⟩,⟨λb ob e n=>⟨sx b ob (λz=>by subst z;exact n ⟨i,t,a,e1,o,e2,hc⟩) e,λz=>n (QI b z)⟩,λb e=>?_,λb φ p=>?_⟩⟩
 ·rcases ba e with⟨rfl,rfl⟩ | ⟨n,e⟩
  ·exact⟨_,e2,.inr ⟨a,rfl,W7⟩⟩
  ·obtain⟨u,h1,h2⟩:=s.at' j w e;refine⟨u,h1,h2.mono tk (λx b ob eb ow hb z=>sx b ob (λy=>?_) z)⟩;subst y;subst eb;exact n (s.nd j i w t x a b e e1 ow o h1 e2 hb hc)
 ·have f:∀{j:Nat}{w:SL}{y:db},(fs.set i (bd t'))[j]?=bd (bd w)->w.own=true->σ[j]?=bd (bd (.ref y))->w.has y b->∃w',fs[j]?=bd (bd w')/\w'.own=true/\w'.has y b:=λ{j w y} z ow qy hy=>by
   rcases ba z with⟨rfl,rfl⟩ | ⟨n,z⟩
   ·rw [e2] at qy;cases qy;exact⟨t,e1,o,tN b hy⟩
   ·exact⟨w,z,ow,hy⟩
  obtain⟨w',a1,a2,a3⟩:=f z1 o1 q1 y1;obtain⟨x',c1,c2,c3⟩:=f z2 o2 q2 y2;exact s.nd j k w' x' b1 b2 b a1 c1 a2 c2 q1 q2 a3 c3
 ·cases z:H b with
  | none=>rfl
  | some ob=>
   by_cases cc:b=c
   ·subst cc;obtain⟨o2,y,_⟩:=W7.ex o' Pl;rw [e] at y;cases y
   ·rw [sx b ob cc z] at e;cases e
 ·obtain⟨j,p1,p2⟩:=p;have ji:j≠i:=λz=>by subst z;rw [e1] at p1;cases p1;exact np φ rfl
  exact .inl ⟨j,by rw [aK ji];exact p1,p2⟩
def mm (s:aW K H σ fs) {t t':SL} (e1:fs[i]?=bd (bd t)) (o:t.own=true) (np:∀φ,t≠.kn φ) (e2:σ[i]?=bd (bd (.ref a))) (sx:nZ a H H') (ht:bw K H H'->iH K H' a t') (hi:t'.inn=t.inn:=by rfl) (o':t'.own=true:=by rfl):aW K H' σ (fs.set i (bd t'))/\cL σ fs H σ (fs.set i (bd t')) H':=
 oY s e1 o np e2 (.inl rfl) (.inl rfl) (λb h=>by unfold SL.has at h ⊢;rw [hi] at h;exact h) o' sx ht
end
end
end FL
open FL.W renaming bind→am,ret→bm,run_bind→cr,aj→ga,ai→im,aw→re,az→sB,ext'→wT
local macro_rules | `($a\$b)=>`(am (bm $a) $b)
variable {u:L2.V}{b:BN}{fs bL:FL.bA}{es:List BN}{σ':L2.St}{wa wb wc:FL.W PL.PV}{wl:FL.W (List PL.PV)}
namespace FL
section
open PySem PySem.Spec PyProof.Rows L2 PL
variable {K:Ab}
def fE (K:Ab) (fs:bA) (w:W PV):TE:=λσ H Q=>aW K H σ fs/\w.run λv=>∀u H',cZ σ fs H H'->aW K H' σ fs->VR K [] H' u v->Q u H'
def fT (K:Ab) (fs:bA) (w:W Bool):TT:=λσ H Q=>aW K H σ fs/\w.run λb=>∀H',cZ σ fs H H'->aW K H' σ fs->Q b H'
def fO (K:Ab) (fs:bA) (w:W (Option Int)):TO:=λσ H Q=>aW K H σ fs/\w.run λb=>∀H',cZ σ fs H H'->aW K H' σ fs->Q b H'
def fL (K:Ab) (fs:bA) (w:W (List PV)):TE:=λσ H Q=>aW K H σ fs/\w.run λl=>∀a vs H',cZ σ fs H H'->aW K H' σ fs->H a=bv->H' a=bd (.lst vs)->aL K [] H' vs l->Q (.ref a) H'
def WS (K:Ab) (H:Hp) (u:V) (l:List PV):Prop:=∃a vs,u=.ref a/\(Ua K H a vs\/H a=bd (.tup vs))/\aL K [] H vs l
def SH (K:Ab) (σ:L2.St) (fs:bA) (H:Hp) (u:V) (l:List PV):Prop:=WS K H u l\/∃a,u=.ref a/\((¬dG σ fs a/\∃vs,H a=bd (.lst vs)/\aL K [] H vs l)\/∃(i:Nat) (q:Option db),fs[i]?=bd (bd (.ol q l))/\σ[i]?=bd (bd (.ref a)))
def fQ (K:Ab) (fs:bA) (w:W (List PV)):TE:=λσ H Q=>aW K H σ fs/\w.run λl=>∀u H',cZ σ fs H H'->aW K H' σ fs->SH K σ fs H' u l->Q u H'
def fI (K:Ab) (fs:bA) (w:W (List PV)):TE:=λσ H Q=>aW K H σ fs/\w.run λl=>∀u H',cZ σ fs H H'->aW K H' σ fs->WS K H' u l->Q u H'
inductive AK where
 | v | p (φ:List V->Prop) | f (a:db)
inductive gb (K:Ab) (σ:L2.St) (fs:bA) (H:Hp):List V->List AK->List PV->Prop
 | nil:gb K σ fs H [] [] []
 | v {u:V}{x:PV}{vs:List V}{ks:List AK}{l:List PV} (r:VR K [] H u x) (t:gb K σ fs H vs ks l):gb K σ fs H (u::vs) (.v::ks) (x::l)
 | p {a:db}{φ:List V->Prop}{vs:List V}{ks:List AK}{l:List PV} (r:eW σ fs φ a) (t:gb K σ fs H vs ks l):gb K σ fs H (.ref a::vs) (.p φ::ks) l
 | f {a:db}{vs:List V}{ks:List AK}{l:List PV} (t:gb K σ fs H vs ks l):gb K σ fs H (.ref a::vs) (.f a::ks) l
def fA (K:Ab) (fs:bA) (ks:List AK) (w:W (List PV)):TA:=λσ H Q=>aW K H σ fs/\w.run λl=>∀vs H',cZ σ fs H H'->aW K H' σ fs->gb K σ fs H' vs ks l->Q vs H'
structure EF (X:Cx) (K:Ab) (fs:bA) (e:lm) (w:W PV):Prop where p:PE X e (fE K fs w)
structure LF (X:Cx) (K:Ab) (fs:bA) (e:lm) (w:W (List PV)):Prop where p:PE X e (fL K fs w)
structure QF (X:Cx) (K:Ab) (fs:bA) (e:lm) (w:W (List PV)):Prop where p:PE X e (fQ K fs w)
structure IF (X:Cx) (K:Ab) (fs:bA) (e:lm) (w:W (List PV)):Prop where p:PE X e (fI K fs w)
structure TF (X:Cx) (K:Ab) (fs:bA) (e:lm) (w:W Bool):Prop where p:PT X e (fT K fs w)
structure pT (X:Cx) (K:Ab) (fs:bA) (e:lm) (w:W Bool):Prop where p:PW X e (fT K fs w)
structure OF (X:Cx) (K:Ab) (fs:bA) (e:Option lm) (w:W (Option Int)):Prop where p:L2.PO X e (fO K fs w)
structure AF (X:Cx) (K:Ab) (fs:bA) (es:List lm) (ks:List AK) {R:Type} (B:(List PV->W R)->W R):Prop where
 p:∃w:W (List PV),PA X es (fA K fs ks w)/\∀k,B k=am w k
section
def WS.tk (t:bw K H H') (h:WS K H u l):WS K H' u l:=by
 obtain⟨a,vs,e,q,r⟩:=h;exact⟨a,vs,e,q.imp (t.f _ _) (t.t _ _),aL.tk t r⟩
def SH.go (h:SH K σ fs H u l) (s:aW K H σ fs) (g:cZ σ fs H H'):SH K σ fs H' u l:=by
 rcases h with h | ⟨a,e,⟨n,vs,q,r⟩ | q⟩
 ·exact .inl (h.tk (g.eL s))
 ·exact .inr ⟨a,e,.inl ⟨n,vs,(g.o4 q n),g.Lv s r⟩⟩
 ·exact .inr ⟨a,e,.inr q⟩
def SH.sq (h:SH K σ fs H u l) (s:aW K H σ fs):∃a vs,u=.ref a/\(cU K H a vs\/d9 K H a vs)/\aL K [] H vs l:=by
 rcases h with⟨a,vs,e,q,r⟩ | ⟨a,e,⟨n,vs,q,r⟩ | ⟨i,_,q1,q2⟩⟩
 ·exact⟨a,vs,e,q.elim (λq=>.inl q.sq) λq=>.inr (d9.of q),r⟩
 ·exact⟨a,vs,e,.inl (cU.of q),r⟩
 ·obtain⟨_,vs,q,r⟩:=s.ownAt q1 rfl q2;exact⟨a,vs,e,.inl (cU.of q),r⟩
end
section
variable {a c o:lm}{rest:List lm}{w:W PV}
def ae (i:Nat) (hs:fs[i]?=bd (bd (.val v)):=by rfl) (hN:X.N[i]?=bd x:=by rfl) (hv:xt X.env.scope x:=by first | exact CB rfl | exact Cs (CB rfl) | exact Cs (Cs rfl)) (hd:(x==("__debug__":Str))=false:=by decide) (iL:(x==("__classdict__":Str))=false:=by decide):EF X K fs (.Name x pos) (.ret v):=
 ⟨PE.imp (dj hN hv hd iL) λσ H Q ⟨sr,q⟩=>by
  obtain⟨u,e1,r⟩:=sr.at' i _ hs;rcases r with⟨w,e,r⟩ | ⟨a,_,r⟩
  ·cases e;exact⟨u,e1,q u H .refl sr r⟩
  ·exact r.elim⟩
def Xo {v:V}{p:PV} (hv:∀H,VR K [] H v p) (h:PE X e (tC v)):EF X K fs e (.ret p):=⟨PE.imp h λσ H Q ⟨sr,q⟩=>q v H .refl sr (hv _)⟩
def ao {i j}:EF X K fs (.Constant (.int i) j pos) (.ret (.int i)):=Xo (λ_=>.int i) U3
def k6 {b j}:EF X K fs (.Constant (.bool b) j pos) (.ret (.bl b)):=Xo (λ_=>.bl b) YS
def su {j}:EF X K fs (.Constant .none j pos) (.ret .aU):=Xo (λ_=>.aU) U2
def iD {x j}:EF X K fs (.Constant (.str x) j pos) (.ret (.str x)):=Xo (λ_=>.str x) UZ
def wW {i:Int}{t:Tok} (hm:X.mg x=bd (.int i t)) (hg:Gl X x) (hd:(x==("__debug__":Str))=false:=by decide):EF X K fs (.Name x pos) (.ret (.int i)):=Xo (λ_=>.int i) (p0 hg hm ⟨_,rfl⟩ hd)
def sA {i:Str}{t:Tok} (hm:X.mg x=bd (.str i t)) (hg:Gl X x) (hd:(x==("__debug__":Str))=false:=by decide):EF X K fs (.Name x pos) (.ret (.str i)):=Xo (λ_=>.str i) (p0 hg hm ⟨_,rfl⟩ hd)
def of2 (m:M2) (x y:PV):W PV:=⟨λQ=>m.f x y [] λz h=>h=[]/\Q z,λf q=>m.mono (λ_ _ q=>⟨q.1,f _ q.2⟩) q⟩
def hr0 (H:Hp):HR K [] H []:=⟨E9,rfl,λn a o e _=>by simp at e⟩
def pq0 {Q:VK}{z:PV}{h:PH} (sr:aW K H σ fs) (q:h=[]/\∀u H',cZ σ fs H H'->aW K H' σ fs->VR K [] H' u z->Q u H'):pQ K [] H Q z h:=λι' v H' g r x=>by
 obtain⟨e,q⟩:=q;subst e;have:ι'=[]:=Dy r.len;subst this;have sm:j8 H H':=λa o z=>g.keep a o (by simp) z;exact q v H' (cZ.same sm) (sr.same sm) x
def vQ {r:R2}{m:M2} (hm:M2.Ok K r m) {Q:VK}{v:V}{x y:PV} (sr:aW K H σ fs) (hu:VR K [] H u x) (hv:VR K [] H v y) (q:(of2 m x y).run λz=>∀u H',cZ σ fs H H'->aW K H' σ fs->VR K [] H' u z->Q u H'):r u v H Q:=
 hm (hr0 H) hu hv (m.mono (λz h q=>pq0 sr q) q)
def Je {r:R2}{m:M2} (hm:M2.Ok K r m):∀σ H Q,fE K fs (.bind wa λx=>.bind wb λy=>of2 m x y) σ H Q->S0 r (fE K fs wa) (fE K fs wb) σ H Q:=λσ H Q ⟨sr,q⟩=>
 ⟨sr,wa.mono (λx q1 u1 H1 g1 s1 v1=>⟨s1,wb.mono (λy q2 u2 H2 g2 s2 v2=>vQ hm s2 (g2.vr s1 v1) v2 ((of2 m x y).mono (λz q u3 H3 g3 s3 v3=>q u3 H3 ((g1.trans g2).trans g3) s3 v3) q2)) q1⟩) q⟩
def Oq {op:Operator}{r:R2}{m:M2} (ho:hJ X (sw op) r) (hm:M2.Ok K r m) (ha:EF X K fs a wa) (hb:EF X K fs b wb):EF X K fs (.BinOp a op b pos) (.bind wa λx=>.bind wb λy=>of2 m x y):=⟨PE.imp (Im ho ha.p hb.p) (Je hm)⟩
def nK (ha:EF X K fs a wa) (hb:EF X K fs b wb):EF X K fs (.BinOp a .Sub b pos) (.bind wa λx=>.bind wb λy=>of2 oq x y):=Oq U7 (zC λ_ _ _ _=>.int _) ha hb
def o7 (ha:EF X K fs a wa) (hb:EF X K fs b wb):EF X K fs (.BinOp a .Mult b pos) (.bind wa λx=>.bind wb λy=>of2 ou x y):=Oq QL (xr λ_ _ _ _=>.int _) ha hb
def TZ (ha:EF X K fs a wa) (hb:EF X K fs b wb):EF X K fs (.BinOp a .FloorDiv b pos) (.bind wa λx=>.bind wb λy=>of2 oDiv x y):=Oq QM (xr λ_ _ _ _=>.int _) ha hb
def nM (ha:EF X K fs a wa) (hb:EF X K fs b wb):EF X K fs (.BinOp a .Mod b pos) (.bind wa λx=>.bind wb λy=>of2 oMod x y):=Oq Vb (xr λ_ _ _ _=>.int _) ha hb
def Om (ha:EF X K fs a wa) (hb:EF X K fs b wb):EF X K fs (.BinOp a .Pow b pos) (.bind wa λx=>.bind wb λy=>of2 yA x y):=Oq U9 (xr λ_ _ _ _=>.int _) ha hb
def mq:PV->W PV
 | .int i=>.ret (.int (-i))
 | _=>.fail
def jy (ha:EF X K fs a wa):EF X K fs (.UnaryOp .USub a pos) (.bind wa mq):=⟨PE.imp (YN Uk ha.p) λσ H Q ⟨sr,q⟩=>⟨sr,wa.mono (λx q1 u1 H1 g1 s1 v1=>by
 cases v1 with
 | int i=>exact⟨_,rfl,q1 _ H1 g1 s1 (.int _)⟩
 | _=>exact q1.elim) q⟩⟩
def Xt:PV->W Bool
 | .bl b=>.ret b
 | _=>.fail
def iE {m:M2} (hc:JC X K op b m) (ha:EF X K fs a wa) (hb:EF X K fs b wb):EF X K fs (.Compare a [op] [b] pos) (.bind wa λx=>.bind wb λy=>of2 m x y):=let ⟨_,h1,h2⟩:=hc.p;⟨PE.imp (qa h1 ha.p hb.p hc.k) (Je h2)⟩
def RU {w:W PV}:∀σ H Q,fT K fs (.bind w Xt) σ H Q->(fE K fs w) σ H λx H'=>∃k,x=.bl k/\Q k H':=λσ H Q ⟨sr,q⟩=>⟨sr,w.mono (λx q1 u1 H1 g1 s1 v1=>by
 cases v1 with
 | bl b=>exact⟨b,rfl,q1 H1 g1 s1⟩
 | _=>exact q1.elim) q⟩
def dc {m:M2} (hc:JC X K op b m) (ha:EF X K fs a wa) (hb:EF X K fs b wb):TF X K fs (.Compare a [op] [b] pos) (.bind wa λx=>.bind wb λy=>.bind (of2 m x y) Xt):=let ⟨_,h1,h2⟩:=hc.p
 ⟨PT.imp (pZ h1 ha.p hb.p hc.k) λσ H Q q=>Je h2 σ H _ (RU (w:=.bind wa λx=>.bind wb λy=>of2 m x y) σ H Q q)⟩
def k7 (z:PV) (w:W PV):W PV:=match z with
 | .bl true=>w
 | .bl false=>.ret (.bl false)
 | _=>.fail
def y9 {r:R2}{m m':M2} (hm:M2.Ok K r m) (hm':M2.Ok K r' m'):∀σ H Q,fE K fs (.bind wa λx=>.bind wb λy=>.bind (of2 m x y) λz=>k7 z (.bind wc λw=>of2 m' y w)) σ H Q->zZ r r' (fE K fs wa) (fE K fs wb) (fE K fs wc) σ H Q:=λσ H Q ⟨sr,q⟩=>
 ⟨sr,wa.mono (λx q1 u1 H1 g1 s1 v1=>⟨s1,wb.mono (λy q2 u2 H2 g2 s2 v2=>vQ hm s2 (g2.vr s1 v1) v2 ((of2 m x y).mono (λz q3 u3 H3 g3 s3 v3=>by
  have gg:=(g1.trans g2).trans g3;cases v3 with
  | bl k=>
   cases k with
   | true=>exact⟨true,rfl,by rw [if_pos rfl];exact⟨s3,wc.mono (λw q4 u4 H4 g4 s4 v4=>vQ hm' s4 ((g3.trans g4).vr s2 v2) v4 ((of2 m' y w).mono (λz q u5 H5 g5 s5 v5=>q u5 H5 ((gg.trans g4).trans g5) s5 v5) q4)) q3⟩⟩
   | false=>exact⟨false,rfl,by rw [if_neg AU];exact q3 _ H3 gg s3 (.bl _)⟩
  | _=>exact q3.elim) q2)) q1⟩) q⟩
def Sa {m m':M2} (hc:JC X K op b m) (Pl:JC X K Ly c m') (ha:EF X K fs a wa) (hb:EF X K fs b wb) (hd:EF X K fs c wc) (hk:lastMarks [op,Ly] [b,c]=false:=by with_unfolding_all rfl):EF X K fs (.Compare a [op,Ly] [b,c] pos) (.bind wa λx=>.bind wb λy=>.bind (of2 m x y) λz=>k7 z (.bind wc λw=>of2 m' y w)):=
 let ⟨_,h1,h2⟩:=hc.p;let ⟨_,h3,h4⟩:=Pl.p;⟨PE.imp (MN h1 h3 ha.p hb.p hd.p hk) (y9 h2 h4)⟩
def PY {m m':M2} (hc:JC X K op b m) (Pl:JC X K Ly c m') (ha:EF X K fs a wa) (hb:EF X K fs b wb) (hd:EF X K fs c wc) (hk:lastMarks [op,Ly] [b,c]=false:=by with_unfolding_all rfl):TF X K fs (.Compare a [op,Ly] [b,c] pos) (.bind wa λx=>.bind wb λy=>.bind (of2 m x y) λz=>.bind (k7 z (.bind wc λw=>of2 m' y w)) Xt):=
 let ⟨_,h1,h2⟩:=hc.p;let ⟨_,h3,h4⟩:=Pl.p;⟨PT.imp (Mu h1 h3 ha.p hb.p hd.p hk) λσ H Q q=>y9 h2 h4 σ H _ (RU (w:=.bind wa λx=>.bind wb λy=>.bind (of2 m x y) λz=>k7 z (.bind wc λw=>of2 m' y w)) σ H Q q)⟩
def Lf (x:PV) (w:W PV):W PV:=match x with
 | .bl true=>w
 | .bl false=>.ret (.bl false)
 | _=>.fail
def orW (x:PV) (w:W PV):W PV:=match x with
 | .bl true=>.ret (.bl true)
 | .bl false=>w
 | _=>.fail
def Q0:PV->W PV
 | .bl b=>.ret (.bl (!b))
 | _=>.fail
def lX (ha:EF X K fs a wa) (hb:EF X K fs (.BoolOp .And (b::rest) pos) wb):EF X K fs (.BoolOp .And (a::b::rest) pos) (.bind wa λx=>Lf x wb):=⟨PE.imp (U5 ha.p hb.p) λσ H Q ⟨sr,q⟩=>⟨sr,wa.mono (λx q1 u1 H1 g1 s1 v1=>by
 cases v1 with
 | bl k=>
  cases k with
  | true=>exact⟨true,rfl,by rw [if_pos rfl];exact⟨s1,wb.mono (λ_ q u H' g s v=>q u H' (g1.trans g) s v) q1⟩⟩
  | false=>exact⟨false,rfl,by rw [if_neg AU];exact q1 _ H1 g1 s1 (.bl _)⟩
 | _=>exact q1.elim) q⟩⟩
def aac (ha:EF X K fs a wa) (hb:EF X K fs (.BoolOp .Or (b::rest) pos) wb):EF X K fs (.BoolOp .Or (a::b::rest) pos) (.bind wa λx=>orW x wb):=⟨PE.imp (YO ha.p hb.p) λσ H Q ⟨sr,q⟩=>⟨sr,wa.mono (λx q1 u1 H1 g1 s1 v1=>by
 cases v1 with
 | bl k=>
  cases k with
  | true=>exact⟨true,rfl,by rw [if_pos rfl];exact q1 _ H1 g1 s1 (.bl _)⟩
  | false=>exact⟨false,rfl,by rw [if_neg AU];exact⟨s1,wb.mono (λ_ q u H' g s v=>q u H' (g1.trans g) s v) q1⟩⟩
 | _=>exact q1.elim) q⟩⟩
def lW {op} (h:EF X K fs a wa):EF X K fs (.BoolOp op [a] pos) wa:=⟨U0 h.p⟩
def TX (ha:EF X K fs a wa):EF X K fs (.UnaryOp .Not a pos) (.bind wa Q0):=⟨PE.imp (U1 ha.p) λσ H Q ⟨sr,q⟩=>⟨sr,wa.mono (λx q1 u1 H1 g1 s1 v1=>by
 cases v1 with
 | bl k=>exact⟨_,rfl,q1 _ H1 g1 s1 (.bl _)⟩
 | _=>exact q1.elim) q⟩⟩
variable {ta tb tc:W Bool}
def ib (h:TF X K fs a ta):pT X K fs (.BoolOp .And [a] pos) ta:=⟨Qs h.p⟩
def jG (h:TF X K fs a ta):pT X K fs (.BoolOp .Or [a] pos) ta:=⟨UQ h.p⟩
def kE (ha:TF X K fs a ta) (hb:pT X K fs (.BoolOp .And (b::rest) pos) tb):pT X K fs (.BoolOp .And (a::b::rest) pos) (.bind ta λk=>if k=true then tb else .ret false):=⟨PW.imp (UR ha.p hb.p) λσ H Q ⟨sr,q⟩=>⟨sr,ta.mono (λk q1 H1 g1 s1=>by
 cases k with
 | true=>exact tH ⟨s1,tb.mono (λ_ q H' g s=>q H' (g1.trans g) s) q1⟩
 | false=>exact tI (q1 H1 g1 s1)) q⟩⟩
def mS (ha:TF X K fs a ta) (hb:pT X K fs (.BoolOp .Or (b::rest) pos) tb):pT X K fs (.BoolOp .Or (a::b::rest) pos) (.bind ta λk=>if k=true then .ret true else tb):=⟨PW.imp (YK ha.p hb.p) λσ H Q ⟨sr,q⟩=>⟨sr,ta.mono (λk q1 H1 g1 s1=>by
 cases k with
 | true=>exact tH (q1 H1 g1 s1)
 | false=>exact tI ⟨s1,tb.mono (λ_ q H' g s=>q H' (g1.trans g) s) q1⟩) q⟩⟩
def pT.t (h:pT X K fs a ta):TF X K fs a ta:=⟨PW.pt h.p⟩
def ic (ha:TF X K fs a ta):TF X K fs (.UnaryOp .Not a pos) (.bind ta λk=>.ret (!k)):=⟨PT.imp (UT ha.p) λσ H Q ⟨sr,q⟩=>⟨sr,q⟩⟩
def G8 (hc:TF X K fs c tc) (ha:EF X K fs a wa) (hb:EF X K fs b wb):EF X K fs (.IfExp c a b pos) (.bind tc λk=>if k=true then wa else wb):=⟨PE.imp (yo hc.p ha.p hb.p) λσ H Q ⟨sr,q⟩=>⟨sr,tc.mono (λk q1 H1 g1 s1=>by
 cases k with
 | true=>exact tH ⟨s1,wa.mono (λ_ q u H' g s v=>q u H' (g1.trans g) s v) q1⟩
 | false=>exact tI ⟨s1,wb.mono (λ_ q u H' g s v=>q u H' (g1.trans g) s v) q1⟩) q⟩⟩
def Zd {la lb:W (List PV)} (hc:TF X K fs c tc) (ha:LF X K fs a la) (hb:LF X K fs b lb):LF X K fs (.IfExp c a b pos) (.bind tc λk=>if k=true then la else lb):=⟨PE.imp (yo hc.p ha.p hb.p) λσ H Q ⟨sr,q⟩=>⟨sr,tc.mono (λk q1 H1 g1 s1=>by
 cases k with
 | true=>exact tH ⟨s1,la.mono (λ_ q a vs H' g s n e v=>q a vs H' (g1.trans g) s (g1.there a n) e v) q1⟩
 | false=>exact tI ⟨s1,lb.mono (λ_ q a vs H' g s n e v=>q a vs H' (g1.trans g) s (g1.there a n) e v) q1⟩) q⟩⟩
def cG:PV->W Bool
 | .aU=>.ret false
 | .bl b=>.ret b
 | .int i=>.ret (i != 0)
 | .str y=>.fM (y.length<=sizeLine) (.ret ((y.length:Int) != 0))
 | .tup l=>.ret (!l.isEmpty)
 | .cl l=>.ret (!l.isEmpty)
 | _=>.fail
def bM (hK:X.K=K) (ha:EF X K fs a wa) (he:∀Æ,isTrue a X.env Æ=(do let v <- Æ;Gf a.pos;sn [v] (truthy v))):TF X K fs a (.bind wa cG):=⟨PT.imp (ur K hK ha.p he) λσ H Q ⟨sr,q⟩=>⟨sr,wa.mono (λx q1 u1 H1 g1 s1 v1=>by
 cases v1 with
 | aU=>exact⟨false,rfl,q1 H1 g1 s1⟩
 | bl b=>exact⟨b,rfl,q1 H1 g1 s1⟩
 | int i=>exact⟨_,rfl,q1 H1 g1 s1⟩
 | str y=>exact⟨_,⟨q1.1,rfl⟩,q1.2 H1 g1 s1⟩
 | ty _=>exact q1.elim
 | dk _ _ _=>exact q1.elim
 | dt _ _ _=>exact q1.elim
 | ref _=>exact q1.elim
 | @tup p vs l e rs=>
  refine⟨!vs.isEmpty,.inr (.inl ⟨_,d9.of e,rfl⟩),?_⟩;rw [<- kT rs];exact q1 H1 g1 s1
 | @cl p vs l e rs=>
  refine⟨!vs.isEmpty,.inl ⟨_,e.sq,rfl⟩,?_⟩;rw [<- kT rs];exact q1 H1 g1 s1) q⟩⟩
def LV (hK:X.K=K) (ha:QF X K fs a wl) (he:∀Æ,isTrue a X.env Æ=(do let v <- Æ;Gf a.pos;sn [v] (truthy v))):TF X K fs a (.bind wl λl=>.ret (!l.isEmpty)):=⟨PT.imp (ur K hK ha.p he) λσ H Q ⟨sr,q⟩=>⟨sr,wl.mono (λl q1 u1 H1 g1 s1 v1=>by
 obtain⟨b,vs,rfl,h,rs⟩:=v1.sq s1;refine⟨!vs.isEmpty,?_,?_⟩
 ·exact h.elim (λh=>.inl ⟨_,h,rfl⟩) λh=>.inr (.inl ⟨_,h,rfl⟩)
 ·rw [<- kT rs];exact q1 H1 g1 s1) q⟩⟩
variable {R:Type}{ks:List AK}{B:(List PV->W R)->W R}
def ak:AF X K fs [] [] (R:=R) (λk=>k []):=⟨.ret [],PA.imp cC λσ H Q ⟨sr,q⟩=>q [] H .refl sr .nil,λk=>rfl⟩
def af (ha:EF X K fs e w) (hr:AF X K fs es ks B) (hs:ce (e::es) X.env=(false,kt e X.env)::ce es X.env:=by rfl):AF X K fs (e::es) (.v::ks) (λk=>.bind w λx=>B λl=>k (x::l)):=by
 obtain⟨wr,hp,hB⟩:=hr.p;refine⟨.bind w λx=>.bind wr λl=>.ret (x::l),PA.imp (bh ha.p hp hs) λσ H Q ⟨sr,q⟩=>?_,λk=>?_⟩
 ·exact⟨sr,w.mono (λx q1 u1 H1 g1 s1 v1=>⟨s1,wr.mono (λl q2 vs H2 g2 s2 v2=>q2 _ H2 (g1.trans g2) s2 (.v (g2.vr s1 v1) v2)) q1⟩) q⟩
 ·have:(λx=>B λl=>k (x::l))=λx=>am wr λl=>k (x::l):=funext λx=>hB _;rw [this];rfl
def bU (i:Nat) (hr:AF X K fs es ks B) (hs:fs[i]?=bd (bd (.kn φ)):=by rfl) (hN:X.N[i]?=bd x:=by rfl) (hv:xt X.env.scope x:=by first | exact CB rfl | exact Cs (CB rfl) | exact Cs (Cs rfl)) (hd:(x==("__debug__":Str))=false:=by decide) (iL:(x==("__classdict__":Str))=false:=by decide)
  (pG:ce (.Name x pos::es) X.env=(false,kt (.Name x pos) X.env)::ce es X.env:=by rfl):AF X K fs (.Name x pos::es) (.p φ::ks) B:=by
 obtain⟨wr,hp,hB⟩:=hr.p;refine⟨wr,PA.imp (bh (dj hN hv hd iL) hp pG) λσ H Q ⟨sr,q⟩=>?_,hB⟩;obtain⟨u,e1,r⟩:=sr.at' i _ hs;rcases r with⟨v,e,_⟩ | ⟨a,e,r⟩
 ·cases e
 ·subst e;exact⟨_,e1,sr,wr.mono (λl q2 vs H2 g2 s2 v2=>q2 _ H2 g2 s2 (.p ⟨i,hs,e1⟩ v2)) q⟩
theorem gb.Lv:∀{vs:List V}{n:Nat}{l:List PV},gb K σ fs H vs (Al n .v) l->aL K [] H vs l/\l.length=n
 | _,0,_,.nil=>⟨.nil,rfl⟩
 | _,n+1,_,.v r t=>⟨.cons r (gb.Lv t).1,by rw [Ao,(gb.Lv t).2]⟩
def aab {x1}{B:(List PV->W PV)->W PV} (h:AF X K fs es (Al n .v) B) (hn:n<=1000:=by decide):EF X K fs (.Tuple es x1 pos) (B λl=>.ret (.tup l)):=by
 obtain⟨w,hp,hB⟩:=h.p;rw [hB];refine⟨PE.imp (QD hp) λσ H Q ⟨sr,q⟩=>⟨sr,w.mono (λl q1 vs H1 g1 s1 v1=>?_) q⟩⟩;obtain⟨v2,hl⟩:=v1.Lv;refine⟨by rw [v2.length,hl];exact a9 hn,λp H2 s2 e2 n2=>?_⟩;exact q1 _ H2 (g1.trans (cZ.same s2)) (s1.same s2) (.tup e2 (aL.tk s2.eZ v2))
def Tj {B:(List PV->W (List PV))->W (List PV)} (h:AF X K fs es (Al n .v) B) (hn:n<=1000:=by decide):LF X K fs (.List es pos) (B λl=>.ret l):=by
 obtain⟨w,hp,hB⟩:=h.p;rw [hB];refine⟨PE.imp (Io hp) λσ H Q ⟨sr,q⟩=>⟨sr,w.mono (λl q1 vs H1 g1 s1 v1=>?_) q⟩⟩;obtain⟨v2,hl⟩:=v1.Lv;refine⟨by rw [v2.length,hl];exact a9 hn,λp H2 s2 e2 n2=>?_⟩;exact q1 _ _ H2 (g1.trans (cZ.same s2)) (s1.same s2) (g1.there p n2) e2 (aL.tk s2.eZ v2)
end
end
end FL
namespace L2
open PySem PySem.Spec PyProof.Rows
def Inv.qp {σ:St} (I:Inv X Z σ H s) (e:H a=bd (.lst vs)):∃o,Inv X Z σ (upd H a (.cO o (.lst vs))) s:=by
 obtain⟨z,au,n,r,h1⟩:=(show bq X.prog X.w H s.heap a (.lst vs) from I.bG a _ e);exact⟨_,I.write (x:=a) (e:=a) (o:=.cO _ (.lst vs)) (h':=s.heap) (t':=s.toks) (by rw [e];exact Cf) (.inl rfl) (λb u _ z=>z) ⟨_,h1⟩ ⟨h1,z,au,n,r,h1⟩⟩
def uI (ok:lN P w H h) (e:H a=bd (.cO o (.lst vs))):lN P w (upd H a (.lst vs)) h:=λb u q=>by
 have ne:∀c v,H c=bd v->v≠.cO o (.lst vs)->upd H a (.lst vs) c=bd v:=λc v z n=>by
  rw [aB (λy=>by subst y;rw [e] at z;cases z;exact n rfl)];exact z
 by_cases hb:b=a
 ·subst hb;rw [aR] at q;cases q;exact bq.vt (ok b _ e).2 (λ_ _ _ z=>z) (λc z=>ne c _ z (by simp)) λc xs z=>ne c _ z (by simp)
 ·rw [aB hb] at q;exact bq.vt (ok b _ q) (λ_ _ _ z=>z) (λc z=>ne c _ z (by simp)) λc xs z=>ne c _ z (by simp)
end L2
variable {o:BN}{m:PL.xI}{ks:List FL.AK}{B:(List PL.PV->FL.W PL.PV)->FL.W PL.PV}{q0:Option BO}
namespace FL
section
open PySem PySem.Spec PyProof.Rows L2 PL
variable {K:Ab}
section
def lj (o':HO) (e:H a=bd (.lst vs)):bw K H (upd H a o'):=⟨λb ws q=>by rw [aB (IA q e (by intro z;cases z))];exact q,λb o u q=>by rw [aB (IA q e (by intro z;cases z))];exact q⟩
def aW.side (s:aW K H σ fs) (n:¬dG σ fs a) (e:H a=bd (.lst vs)) (o':HO):aW K (upd H a o') σ fs:=⟨s.len,λi t q=>by
 obtain⟨u,h1,h2⟩:=s.at' i t q;exact⟨u,h1,h2.mono (lj o' e) (λx b o eb ow hb z=>by subst eb;rw [aB (λy:b=a=>n ⟨i,t,x,q,ow,h1,y▸hb⟩)];exact z)⟩,s.nd⟩
def cZ.side (g:cZ σ fs H H1) (h0:H a=bv) (o':HO):cZ σ fs H (upd H1 a o'):=⟨λb o e n=>by rw [aB (bK e h0)];exact g.keep b o e n,λb e=>by
 by_cases c:b=a
 ·subst c;exact h0
 ·rw [aB c] at e;exact g.there b e⟩
end
section
variable {a:lm}{w:W PV}
def uR (h:LF X K fs e wl):EF X K fs e (.bind wl λl=>.ret (.cl l)):=⟨λZ s σ H Q I ⟨sr,q⟩=>by
 refine bD (h.p Z s σ H (λu H1=>∃a vs l,u=.ref a/\cZ σ fs H H1/\aW K H1 σ fs/\H a=bv/\H1 a=bd (.lst vs)/\aL K [] H1 vs l/\∀u H',cZ σ fs H H'->aW K H' σ fs->VR K [] H' u (.cl l)->Q u H') I ⟨sr,wl.mono (λl q1 a vs H1 g1 s1 n e v=>⟨a,vs,l,rfl,g1,s1,n,e,v,q1⟩) q⟩) λu s1 ⟨v,H1,I1,r1,a,vs,l,e,g1,Qj,n,ea,vr,q1⟩=>?_;subst e;obtain⟨ob,I2⟩:=I1.qp ea;exact⟨.ref a,_,I2,r1,q1 _ _ (g1.side n _) (Qj.side (λz=>sr.noOwn n z) ea _) (.cl (.inl ⟨ob,aR⟩) (aL.tk (lj _ ea) vr))⟩⟩
def ax:PV->W (List PV)
 | .tup l=>.ret l
 | .cl l=>.ret l
 | _=>.fail
def bu (h:EF X K fs e w):IF X K fs e (.bind w ax):=⟨PE.imp h.p λσ H Q ⟨sr,q⟩=>⟨sr,w.mono (λx q1 u1 H1 g1 s1 v1=>by
 cases v1 with
 | tup e r=>exact q1 _ H1 g1 s1 ⟨_,_,rfl,.inr e,r⟩
 | cl e r=>exact q1 _ H1 g1 s1 ⟨_,_,rfl,.inl e,r⟩
 | _=>exact q1.elim) q⟩⟩
def rN (h:LF X K fs e wl):IF X K fs e wl:=bu (uR h)
theorem IF.q (h:IF X K fs e wl):QF X K fs e wl:=⟨PE.imp h.p λσ H Q ⟨sr,q⟩=>⟨sr,wl.mono (λl q1 u1 H1 g1 s1 v1=>q1 u1 H1 g1 s1 (.inl v1)) q⟩⟩
def av (h:EF X K fs e w):QF X K fs e (.bind w ax):=(bu h).q
def eO (h:LF X K fs e wl):QF X K fs e wl:=⟨PE.imp h.p λσ H Q ⟨sr,q⟩=>⟨sr,wl.mono (λl q1 a vs H1 g1 s1 n e v=>q1 _ H1 g1 s1 (.inr ⟨a,rfl,.inl ⟨sr.noOwn n,vs,e,v⟩⟩)) q⟩⟩
def bO (i:Nat) (hs:fs[i]?=bd (bd (.ol q0 l)):=by rfl) (hN:X.N[i]?=bd x:=by rfl) (hv:xt X.env.scope x:=by first | exact CB rfl | exact Cs (CB rfl) | exact Cs (Cs rfl)) (hd:(x==("__debug__":Str))=false:=by decide) (iL:(x==("__classdict__":Str))=false:=by decide):QF X K fs (.Name x pos) (.ret l):=
 ⟨PE.imp (dj hN hv hd iL) λσ H Q ⟨sr,q⟩=>by
  obtain⟨u,e1,r⟩:=sr.at' i _ hs;rcases r with⟨w,e,r⟩ | ⟨a,e,r⟩
  ·cases e
  ·subst e;exact⟨_,e1,q _ H .refl sr (.inr ⟨a,rfl,.inr ⟨i,q0,hs,e1⟩⟩)⟩⟩
def IP (l:List PV):PV->W PV
 | .int i=>.MY (cn l i)
 | _=>.fail
def aD (hK:X.K=K) (ha:QF X K fs a wl) (hb:EF X K fs b wb) (hs:qB b:=by exact λ_ _=>rfl):EF X K fs (.Subscript a b pos) (.bind wl λl=>.bind wb λy=>IP l y):=⟨PE.imp (MJ (IM K hK) ha.p hb.p hs) λσ H Q ⟨sr,q⟩=>⟨sr,wl.mono (λl q1 u1 H1 g1 s1 v1=>⟨s1,wb.mono (λy q2 u2 H2 g2 s2 v2=>by
 cases v2 with
 | int i=>
  have q2:(W.MY (cn l i)).run _:=q2;cases z:cn l i with
  | none=>rw [z] at q2;exact q2.elim
  | some x=>
   rw [z] at q2;obtain⟨ad,vs,rfl,h,rs⟩:=(v1.go s1 g2).sq s2;obtain⟨v,e1,e2⟩:=aL.cn rs z;have q3:=q2 v H2 (g1.trans g2) s2 e2;exact h.elim (λh=>.inl ⟨ad,vs,i,v,rfl,rfl,h,e1,q3⟩) λh=>.inr (.inl ⟨ad,vs,i,v,rfl,rfl,h,e1,q3⟩)
 | _=>exact q2.elim) q1⟩) q⟩⟩
def aah (ha:EF X K fs a wa) (hb:EF X K fs b wb) (hs:qB b):EF X K fs (.Subscript a b pos) (.bind wa λx=>.bind wb λy=>of2 M3 x y):=⟨PE.imp (MJ Nt ha.p hb.p hs) (Je QU)⟩
def qf (m:xI) (l:List PV):W PV:=⟨λQ=>m.f l [] λz h=>h=[]/\Q z,λf q=>m.mono (λ_ _ q=>⟨q.1,f _ q.2⟩) q⟩
section
variable {id:String}{r:List V->Hp->VK->Prop}
def MZ (hm:xI.Ok K r m) {Q:VK}{us:List V} (sr:aW K H σ fs) (hu:aL K [] H us l) (q:(qf m l).run λz=>∀u H',cZ σ fs H H'->aW K H' σ fs->VR K [] H' u z->Q u H'):r us H Q:=hm (hr0 H) hu (m.mono (λz h q=>pq0 sr q) q)
def qu (hc:bQ X (.builtin id) r) (hB:xI.Ok K r m) (hg:Gl X x) (hm:X.mg x=bv) (hv:nw x=bd (.builtin id)) (ha:AF X K fs (e::es) (Al n .v) B) (hn:x≠"__name__":=by decide) (nA:(x==("__debug__":Str))=false:=by decide)
  (he:ce (e::es) X.env=(false,kt e X.env)::ce es X.env:=by rfl) (dH:(kw pos (ce es X.env)).any (·.1)=false:=by rfl):EF X K fs (.Call (.Name x p) (e::es) [] pos) (B (qf m)):=by
 obtain⟨w,hp,Ĩ⟩:=ha.p;rw [Ĩ];exact⟨PE.imp (eP hc hg hm hv hp hn nA he dH) λσ H Q ⟨sr,q⟩=>⟨sr,w.mono (λl q1 vs H1 g1 s1 v1=>MZ hB s1 v1.Lv.1 ((qf m l).mono (λz q u H' g s v=>q u H' (g1.trans g) s v) q1)) q⟩⟩
def Oz (hc:bQ X (.type id) r) (hB:xI.Ok K r m) (hg:Gl X x) (hm:X.mg x=bv) (hv:nw x=bd (.type id)) (ha:AF X K fs (e::es) (Al n .v) B) (hn:x≠"__name__":=by decide) (nA:(x==("__debug__":Str))=false:=by decide)
  (he:ce (e::es) X.env=(false,kt e X.env)::ce es X.env:=by rfl) (dH:(kw pos (ce es X.env)).any (·.1)=false:=by rfl):EF X K fs (.Call (.Name x p) (e::es) [] pos) (B (qf m)):=by
 obtain⟨w,hp,Ĩ⟩:=ha.p;rw [Ĩ];exact⟨PE.imp (lu hc hg hm hv hp hn nA he dH) λσ H Q ⟨sr,q⟩=>⟨sr,w.mono (λl q1 vs H1 g1 s1 v1=>MZ hB s1 v1.Lv.1 ((qf m l).mono (λz q u H' g s v=>q u H' (g1.trans g) s v) q1)) q⟩⟩
def CQ (K:Ab) (r:List V->Hp->VK->Prop) (m:List PV->W PV):Prop:=∀{fs:bA}{σ:L2.St}{H:Hp}{Q:VK}{u:V}{l:List PV},aW K H σ fs->SH K σ fs H u l->((m l).run λz=>∀u H',cZ σ fs H H'->aW K H' σ fs->VR K [] H' u z->Q u H')->r [u] H Q
def CL (K:Ab) (r:List V->Hp->VK->Prop) (m:List PV->W (List PV)):Prop:=∀{fs:bA}{σ:L2.St}{H:Hp}{Q:VK}{u:V}{l:List PV},aW K H σ fs->SH K σ fs H u l->((m l).run λz=>∀a vs H',cZ σ fs H H'->aW K H' σ fs->H a=bv->H' a=bd (.lst vs)->aL K [] H' vs z->Q (.ref a) H')->r [u] H Q
def OA {m:List PV->W PV} (hc:bQ X (.builtin id) r) (hB:CQ K r m) (hg:Gl X x) (hm:X.mg x=bv) (hv:nw x=bd (.builtin id)) (ha:QF X K fs e wl) (hn:x≠"__name__":=by decide) (nA:(x==("__debug__":Str))=false:=by decide)
  (he:ce [e] X.env=(false,kt e X.env)::ce [] X.env:=by rfl) (dH:(kw pos (ce [] X.env)).any (·.1)=false:=by rfl):EF X K fs (.Call (.Name x p) [e] [] pos) (.bind wl m):=⟨PE.imp (eP hc hg hm hv (bh ha.p cC he) hn nA he dH) λσ H Q ⟨sr,q⟩=>⟨sr,wl.mono (λl q1 u H1 g1 s1 v1=>hB s1 v1 ((m l).mono (λz q u H' g s v=>q u H' (g1.trans g) s v) q1)) q⟩⟩
def KU {m:List PV->W PV} (hc:bQ X (.type id) r) (hB:CQ K r m) (hg:Gl X x) (hm:X.mg x=bv) (hv:nw x=bd (.type id)) (ha:QF X K fs e wl) (hn:x≠"__name__":=by decide) (nA:(x==("__debug__":Str))=false:=by decide)
  (he:ce [e] X.env=(false,kt e X.env)::ce [] X.env:=by rfl) (dH:(kw pos (ce [] X.env)).any (·.1)=false:=by rfl):EF X K fs (.Call (.Name x p) [e] [] pos) (.bind wl m):=⟨PE.imp (lu hc hg hm hv (bh ha.p cC he) hn nA he dH) λσ H Q ⟨sr,q⟩=>⟨sr,wl.mono (λl q1 u H1 g1 s1 v1=>hB s1 v1 ((m l).mono (λz q u H' g s v=>q u H' (g1.trans g) s v) q1)) q⟩⟩
def aa5 {m:List PV->W (List PV)} (hc:bQ X (.builtin id) r) (hB:CL K r m) (hg:Gl X x) (hm:X.mg x=bv) (hv:nw x=bd (.builtin id)) (ha:QF X K fs e wl) (hn:x≠"__name__":=by decide) (nA:(x==("__debug__":Str))=false:=by decide)
  (he:ce [e] X.env=(false,kt e X.env)::ce [] X.env:=by rfl) (dH:(kw pos (ce [] X.env)).any (·.1)=false:=by rfl):LF X K fs (.Call (.Name x p) [e] [] pos) (.bind wl m):=⟨PE.imp (eP hc hg hm hv (bh ha.p cC he) hn nA he dH) λσ H Q ⟨sr,q⟩=>⟨sr,wl.mono (λl q1 u H1 g1 s1 v1=>hB s1 v1 ((m l).mono (λz q a vs H' g s n e v=>q a vs H' (g1.trans g) s (g1.there a n) e v) q1)) q⟩⟩
def Nk {m:List PV->W (List PV)} (hc:bQ X (.type id) r) (hB:CL K r m) (hg:Gl X x) (hm:X.mg x=bv) (hv:nw x=bd (.type id)) (ha:QF X K fs e wl) (hn:x≠"__name__":=by decide) (nA:(x==("__debug__":Str))=false:=by decide)
  (he:ce [e] X.env=(false,kt e X.env)::ce [] X.env:=by rfl) (dH:(kw pos (ce [] X.env)).any (·.1)=false:=by rfl):LF X K fs (.Call (.Name x p) [e] [] pos) (.bind wl m):=⟨PE.imp (lu hc hg hm hv (bh ha.p cC he) hn nA he dH) λσ H Q ⟨sr,q⟩=>⟨sr,wl.mono (λl q1 u H1 g1 s1 v1=>hB s1 v1 ((m l).mono (λz q a vs H' g s n e v=>q a vs H' (g1.trans g) s (g1.there a n) e v) q1)) q⟩⟩
end
def oA (l:List PV):W PV:=.ret (.int l.length)
def Ra (K:Ab):CQ K (UL K) oA:=λ{fs σ H Q u l} s v q=>by
 obtain⟨a,vs,rfl,h,rs⟩:=v.sq s;refine⟨_,vs.length,rfl,?_,?_⟩
 ·exact h.elim (λh=>.inl ⟨_,h,rfl⟩) λh=>.inr ⟨_,h,rfl⟩
 ·rw [rs.length];exact q _ H .refl s (.int _)
def kF (l:List PV):W PV:=.ret (.tup l)
def PK (K:Ab):CQ K (Mm K) kF:=λ{fs σ H Q u l} s v q=>by
 have fresh:∀{a:db}{vs:List V},cU K H a vs->aL K [] H vs l->Mm K [.ref a] H Q:=λ{a vs} h rs=>⟨a,vs,rfl,.inl ⟨h,λp H2 s2 e2 n2=>q _ H2 (cZ.same s2) (s.same s2) (.tup e2 (aL.tk s2.eZ rs))⟩⟩;rcases v with⟨a,vs,rfl,h | h,rs⟩ | ⟨a,rfl,⟨n,vs,h,rs⟩ | ⟨i,_,q1,q2⟩⟩
 ·exact fresh h.sq rs
 ·exact⟨a,vs,rfl,.inr ⟨d9.of h,q _ H .refl s (.tup h rs)⟩⟩
 ·exact fresh (cU.of h) rs
 ·obtain⟨_,vs,h,rs⟩:=s.ownAt q1 rfl q2;exact fresh (cU.of h) rs
end
end
end FL
variable {R:Type}{m:List PL.PV->FL.W PL.PV}
namespace FL
section
open PySem PySem.Spec PyProof.Rows L2 PL
variable {K:Ab}
def xC (vs:List V) (ks:List AK) (φ:List V->Prop) (a:db):Prop:=∃i:Nat,ks[i]?=bd (.p φ)/\vs[i]?=bd (.ref a)
structure GoC (vs:List V) (ks:List AK) (H H':Hp):Prop where
 keep:∀a o,H a=bd o->(∀φ,¬xC vs ks φ a)->H' a=bd o
 there:∀a,H' a=bv->H a=bv
 UW:∀a φ,xC vs ks φ a->∃ws,H' a=bd (.lst ws)/\φ ws
inductive iX (K:Ab) (H:Hp):List V->List AK->List PV->Prop
 | nil:iX K H [] [] []
 | v {u:V}{x:PV}{vs:List V}{ks:List AK}{l:List PV} (r:VR K [] H u x) (t:iX K H vs ks l):iX K H (u::vs) (.v::ks) (x::l)
 | p {a:db}{φ:List V->Prop}{ws vs:List V}{ks:List AK}{l:List PV} (e:H a=bd (.lst ws)) (r:φ ws) (t:iX K H vs ks l):iX K H (.ref a::vs) (.p φ::ks) l
 | f {a:db}{vs:List V}{ks:List AK}{l:List PV} (t:iX K H vs ks l):iX K H (.ref a::vs) (.f a::ks) l
def eM (K:Ab) (ks:List AK) (m:List PV->W PV):Sp:=λvs H Q _=>∃l,iX K H vs ks l/\(m l).run λv=>∀u H',GoC vs ks H H'->VR K [] H' u v->Q u H'
def fP (K:Ab) (ks:List AK) (m:List PV->W (List PV)):Sp:=λvs H Q _=>∃l,iX K H vs ks l/\(m l).run λz=>∀a ws H',GoC vs ks H H'->H a=bv->H' a=bd (.lst ws)->aL K [] H' ws z->Q (.ref a) H'
def Pp (R:Type):Nat->Type
 | 0=>W R
 | n+1=>PV->Pp R n
def cp:(n:Nat)->Pp R n->List PV->W R
 | 0,m,[]=>m
 | n+1,m,x::l=>cp n (m x) l
 | 0,_,_::_=>.fail
 | _+1,_,[]=>.fail
section
def gb.kn (h:gb K σ fs H vs ks l) (p:xC vs ks φ a):eW σ fs φ a:=by
 obtain⟨i,e1,e2⟩:=p
 induction h generalizing i with
 | nil=>simp at e1
 | v r t ih=>cases i with | zero=>simp at e1 | succ i=>exact ih i (by simpa using e1) (by simpa using e2)
 | p r t ih=>
  cases i with
  | zero=>simp at e1 e2;subst e1;subst e2;exact r
  | succ i=>exact ih i (by simpa using e1) (by simpa using e2)
 | f t ih=>cases i with | zero=>simp at e1 | succ i=>exact ih i (by simpa using e1) (by simpa using e2)
def gb.c (h:gb K σ fs H vs ks l) (s:aW K H σ fs):iX K H vs ks l:=by
 induction h with
 | nil=>exact .nil
 | v r t ih=>exact .v r ih
 | p r t ih=>
  obtain⟨i,e1,e2⟩:=r;obtain⟨ws,q,x⟩:=s.ownAt e1 rfl e2;exact .p q x ih
 | f t ih=>exact .f ih
def GoC.caller (g:GoC vs ks H H') (h:gb K σ fs H vs ks l) (s:aW K H σ fs):aW K H' σ fs/\cZ σ fs H H':=by
 have gf:cZ σ fs H H':=⟨λa o e n=>g.keep a o e λφ p=>n φ (h.kn p),g.there⟩;have tk:=gf.eL s;refine⟨⟨s.len,λi t e=>?_,s.nd⟩,gf⟩;obtain⟨u,h1,h2⟩:=s.at' i t e;refine⟨u,h1,?_⟩;rcases h2 with⟨v,q,r⟩ | ⟨a,q,r⟩
 ·exact .inl ⟨v,q,VR.tk tk r⟩
 ·subst q;refine .inr ⟨a,rfl,?_⟩;by_cases c:(∃φ,xC vs ks φ a)/\t.own=true
  ·obtain⟨⟨φ,p⟩,ow⟩:=c;obtain⟨j,e1,e2⟩:=h.kn p;have ij:=s.nd i j t _ a a a e e1 ow rfl h1 e2 (.inl rfl) (.inl rfl);subst ij;rw [e] at e1;cases e1;exact g.UW a φ p
  ·refine r.mono tk (λb o ow hb z=>g.keep b o z λφ p=>?_);obtain⟨j,e1,e2⟩:=h.kn p;have ij:=s.nd i j t _ a b b e e1 ow rfl h1 e2 hb (.inl rfl);subst ij;rw [h1] at e2;cases e2;exact c ⟨⟨φ,p⟩,ow⟩
end
section
def Wu (G:SQ X.prog X.w X.K X.mg X.base x k ps (eM K ks m)) (hr:cX k' X.A) (hk:k<=k') (hg:Gl X x) (ha:AF X K fs (e::es) ks B) (nA:(x==("__debug__":Str))=false:=by decide)
  (he:ce (e::es) X.env=(false,kt e X.env)::ce es X.env:=by rfl) (dH:(kw pos (ce es X.env)).any (·.1)=false:=by rfl):EF X K fs (.Call (.Name x p) (e::es) [] pos) (B m):=by
 obtain⟨w,hp,hB⟩:=ha.p;rw [hB];exact⟨PE.imp (MR G hr hk hg hp nA he dH) λσ H Q ⟨sr,q⟩=>⟨sr,w.mono (λl q1 vs H1 g1 s1 v1=>⟨l,v1.c s1,(m l).mono (λz q2 u H2 g2 r2=>let ⟨s2,g3⟩:=g2.caller v1 s1;q2 u H2 (g1.trans g3) s2 r2) q1⟩) q⟩⟩
def Vy {m:List PV->W (List PV)}{B:(List PV->W (List PV))->W (List PV)} (G:SQ X.prog X.w X.K X.mg X.base x k ps (fP K ks m)) (hr:cX k' X.A) (hk:k<=k') (hg:Gl X x) (ha:AF X K fs (e::es) ks B) (nA:(x==("__debug__":Str))=false:=by decide)
  (he:ce (e::es) X.env=(false,kt e X.env)::ce es X.env:=by rfl) (dH:(kw pos (ce es X.env)).any (·.1)=false:=by rfl):LF X K fs (.Call (.Name x p) (e::es) [] pos) (B m):=by
 obtain⟨w,hp,hB⟩:=ha.p;rw [hB];exact⟨PE.imp (MR G hr hk hg hp nA he dH) λσ H Q ⟨sr,q⟩=>⟨sr,w.mono (λl q1 vs H1 g1 s1 v1=>⟨l,v1.c s1,(m l).mono (λz q2 a ws H2 g2 n2 e2 r2=>let ⟨s2,g3⟩:=g2.caller v1 s1;q2 a ws H2 (g1.trans g3) s2 (g1.there a n2) e2 r2) q1⟩) q⟩⟩
end
end
end FL
variable {x:Bool}{T:Type}{p':Cu}
namespace FL
section
open PySem PySem.Spec PyProof.Rows L2 PL
variable {K:Ab}
inductive End where
 | nx (fs:bA) | nc (fs:bA) | ct (fs:bA) | rt (v:PV) | rl (l:List PV) | bk (fs:bA) | ro (v:PV) (a:db) (l:List PV)
def xE (σ:L2.St) (fs:bA) (H:Hp) (a:db):Prop:=H a=bv\/∃(i:Nat) (s:SL) (x:db),fs[i]?=bd (bd s)/\s.own=true/\(∀φ,s≠.kn φ)/\σ[i]?=bd (bd (.ref x))/\s.has x a
def bP (K:Ab) (x:Bool) (σ:L2.St) (fs:bA) (H:Hp) (D:Ends):End->Prop
 | .nx bL=>x=false->∀σ' H',cL σ fs H σ' bL H'->aW K H' σ' bL->D.nx σ' H'
 | .nc bL=>∀σ' H',cL σ fs H σ' bL H'->aW K H' σ' bL->(x=false->D.nx σ' H')/\D.ct σ' H'
 | .ct bL=>∀σ' H',cL σ fs H σ' bL H'->aW K H' σ' bL->D.ct σ' H'
 | .bk bL=>∀σ' H',cL σ fs H σ' bL H'->aW K H' σ' bL->D.bk σ' H'
 | .rt v=>∀u σ' bL H',cL σ fs H σ' bL H'->aW K H' σ' bL->VR K [] H' u v->D.rt u H'
 | .ro v a l=>∀u σ' bL H',cL σ fs H σ' bL H'->aW K H' σ' bL->(∃i:Nat,bL[i]?=bd (bd (.ol (bd a) l)))->VR K [] H' u v->D.rt u H'
 | .rl l=>∀a ws σ' bL H',cL σ fs H σ' bL H'->aW K H' σ' bL->xE σ fs H a->H' a=bd (.lst ws)->aL K [] H' ws l->D.rt (.ref a) H'
def fS (K:Ab) (x:Bool) (fs:bA) (w:W T) (out:T->End):TS:=λD σ H=>aW K H σ fs/\w.run λt=>bP K x σ fs H D (out t)
structure SF (X:Cx) (K:Ab) (x:Bool) (fs:bA) (Pf:List t0) {T:Type} (w:W T) (out:T->End):Prop where p:qC X Pf (fS K x fs w out)
section
variable {σ1:L2.St}{RO:bA}
def xE.go (g:cL σ fs H σ1 RO H1) (s:aW K H σ fs) (s1:aW K H1 σ1 RO) (h:xE σ1 RO H1 a):xE σ fs H a:=by
 rcases h with h | ⟨i,t,x,e1,e2,np,e3,e4⟩
 ·exact .inl (g.there a h)
 ·cases z:H a with
  | none=>exact .inl z
  | some o=>
   by_cases c:dG σ fs a
   ·obtain⟨j,t',y,c1,c2,c3,c4⟩:=c;by_cases d:∃φ,t'=.kn φ
    ·obtain⟨φ,rfl⟩:=d;rcases c4 with rfl | c4
     ·rcases g.pk a φ ⟨j,c1,c3⟩ with⟨k,k1,k2⟩ | ⟨n,_⟩
      ·have:=s1.nd i k t _ x a a e1 k1 e2 rfl e3 k2 e4 (.inl rfl);subst this;rw [e1] at k1;cases k1;exact absurd rfl (np φ)
      ·exact absurd ⟨i,t,x,e1,e2,e3,e4⟩ n
     ·cases c4
    ·exact .inr ⟨j,t',y,c1,c2,λφ e=>d ⟨φ,e⟩,c3,c4⟩
   ·exact absurd ⟨i,t,x,e1,e2,e3,e4⟩ (g.keep a o z c).2
def bP.go (g:cL σ fs H σ1 RO H1) (s:aW K H σ fs) (s1:aW K H1 σ1 RO) {E:End} (h:bP K x σ fs H D E):bP K x σ1 RO H1 D E:=by
 cases E with
 | nx bL=>exact λhx σ' H' g' s'=>h hx σ' H' (g.trans g') s'
 | nc bL=>exact λσ' H' g' s'=>h σ' H' (g.trans g') s'
 | bk bL=>exact λσ' H' g' s'=>h σ' H' (g.trans g') s'
 | ct bL=>exact λσ' H' g' s'=>h σ' H' (g.trans g') s'
 | rt v=>exact λu σ' bL H' g' s' r=>h u σ' bL H' (g.trans g') s' r
 | ro v a l=>exact λu σ' bL H' g' s' o r=>h u σ' bL H' (g.trans g') s' o r
 | rl l=>exact λa ws σ' bL H' g' s' f e r=>h a ws σ' bL H' (g.trans g') s' (f.go g s s1) e r
def bP.exit {D':Ends} (h1:D'.rt=D.rt) (h2:D'.ct=D.ct) (h3:D'.bk=D.bk) {E:End} (h:bP K x σ fs H D E):bP K true σ fs H D' E:=by
 cases E with
 | nx bL=>exact λhx=>nomatch hx
 | nc bL=>exact λσ' H' g' s'=>⟨λhx=>(nomatch hx),h2▸(h σ' H' g' s').2⟩
 | bk bL=>exact λσ' H' g' s'=>h3▸h σ' H' g' s'
 | ct bL=>exact λσ' H' g' s'=>h2▸h σ' H' g' s'
 | rt v=>exact λu σ' bL H' g' s' r=>h1▸h u σ' bL H' g' s' r
 | ro v a l=>exact λu σ' bL H' g' s' o r=>h1▸h u σ' bL H' g' s' o r
 | rl l=>exact λa ws σ' bL H' g' s' f e r=>h1▸h a ws σ' bL H' g' s' f e r
end
section
variable {X:Cx}{a b c e o:lm}{pos p:Pos}{fs bL:bA}{st:t0}{Pf rest sa sb:List t0}{T T1:Type}{w wk:W T}{out:T->End}{we:W PV}{wl:W (List PV)}{x:Bool}
def End.IU:End->Prop
 | .rt _=>True
 | .rl _=>True
 | .ro _ _ _=>True
 | _=>False
def bP.YV {D':Ends}{y:Bool}{E:End} (ho:E.IU) (e:D'.rt=D.rt) (h:bP K x σ fs H D E):bP K y σ fs H D' E:=by
 cases E with
 | rt v=>exact λu σ' bL H' g s r=>e▸h u σ' bL H' g s r
 | rl v=>exact λa ws σ' bL H' g s f ea r=>e▸h a ws σ' bL H' g s f ea r
 | ro v a l=>exact λu σ' bL H' g s o r=>e▸h u σ' bL H' g s o r
 | _=>exact ho.elim
def xS (X:Cx) (K:Ab) (x:Bool) (rest:List t0) {T:Type} (out:T->End):TS:=λD σ H=>∃bL w',SF X K x bL rest w' out/\fS K x bL w' out D σ H
def Ql:qC X rest (xS X K x rest out):=λZ s σ H D I ⟨bL,w',h,q⟩=>h.p Z s σ H D I q
def M7:qC X rest Ur:=λ_ _ _ _ _ _ h=>h.elim
def SF.step {t:TS} (h:PS X st t) (hq:∀D σ H,fS K x fs w out D σ H->t {D with nx:=xS X K x rest out D} σ H):SF X K x fs (st::rest) w out:=⟨qC.imp (yi h Ql) λD σ H q=>hq D σ H q⟩
def SF.last {t:TS} (h:PS X st t) (hq:∀D σ H,fS K x fs w out D σ H->t {D with nx:=λ_ _=>False} σ H):SF X K x fs (st::rest) w out:=⟨qC.imp (yi h M7) λD σ H q=>hq D σ H q⟩
def SF.nil {t:T} (h:out t=.nx bL) (hl:jD fs bL):SF X K false fs [] (.ret t) out:=⟨qC.imp vG λD σ H ⟨sr,q⟩=>by
 have q:bP K false σ fs H D (out t):=q;rw [h] at q;exact q rfl σ H (cL.le sr hl) (sr.le hl)⟩
def SF.eY {t:T} (h:out t=.nc bL) (hl:jD fs bL):SF X K false fs [] (.ret t) out:=⟨qC.imp vG λD σ H ⟨sr,q⟩=>by
 have q:bP K false σ fs H D (out t):=q;rw [h] at q;exact (q σ H (cL.le sr hl) (sr.le hl)).1 rfl⟩
def SF.cont {t:T} (h:out t=.nc bL\/out t=.ct bL) (hl:jD fs bL):SF X K x fs (.Continue pos::rest) (.ret t) out:=SF.last ym λD σ H ⟨sr,q⟩=>by
 have q:bP K x σ fs H D (out t):=q;rcases h with h | h
 ·rw [h] at q;exact (q σ H (cL.le sr hl) (sr.le hl)).2
 ·rw [h] at q;exact q σ H (cL.le sr hl) (sr.le hl)
def SF.ret {k:PV->T} (he:EF X K fs e we) (h:∀v,out (k v)=.rt v):SF X K x fs (.Return (bd e) pos::rest) (.bind we λv=>.ret (k v)) out:=SF.last (vH he.p) λD σ H ⟨sr,q⟩=>⟨sr,we.mono (λv q1 u H1 g1 s1 v1=>by
 have q1:bP K x σ fs H D (out (k v)):=q1;rw [h] at q1;exact q1 u σ fs H1 g1.f s1 v1) q⟩
def SF.bN {out:PV->End} (he:EF X K fs e we) (h:∀v,out v=.rt v):SF X K x fs (.Return (bd e) pos::rest) we out:=SF.ret (k:=λv=>v) he h
def SF.acr {k:List PV->T} (he:LF X K fs e wl) (h:∀l,out (k l)=.rl l):SF X K x fs (.Return (bd e) pos::rest) (.bind wl λl=>.ret (k l)) out:=SF.last (vH he.p) λD σ H ⟨sr,q⟩=>⟨sr,wl.mono (λl q1 a ws H1 g1 s1 n e v1=>by
 have q1:bP K x σ fs H D (out (k l)):=q1;rw [h] at q1;exact q1 a ws σ fs H1 g1.f s1 (.inl n) e v1) q⟩
def SF.i9 {out:List PV->End} (he:LF X K fs e wl) (h:∀v,out v=.rl v):SF X K x fs (.Return (bd e) pos::rest) wl out:=SF.acr (k:=λv=>v) he h
def SF.Mi (i:Nat) {t:T} (hs:fs[i]?=bd (bd (.ol q0 l))) (h:out t=.rl l) (hN:X.N[i]?=bd y:=by rfl) (hv:xt X.env.scope y:=by first | exact CB rfl | exact Cs (CB rfl) | exact Cs (Cs rfl)) (hd:(y==("__debug__":Str))=false:=by decide) (iL:(y==("__classdict__":Str))=false:=by decide):SF X K x fs (.Return (bd (.Name y p)) pos::rest) (.ret t) out:=SF.last (vH (dj hN hv hd iL)) λD σ H ⟨sr,q⟩=>by
 have q:bP K x σ fs H D (out t):=q;rw [h] at q;obtain⟨u,e1,r⟩:=sr.at' i _ hs;rcases r with⟨v,e,_⟩ | ⟨a,e,r⟩
 ·cases e
 ·subst e;obtain⟨_,ws,q1,q2⟩:=r;exact⟨_,e1,q a ws σ fs H .refl sr (.inr ⟨i,_,_,hs,rfl,by simp,e1,.inl rfl⟩) q1 q2⟩
def SF.Yv (i:Nat) {ad:db}{k:PV->T} (hs:fs[i]?=bd (bd (.ol (bd ad) l))) (he:EF X K fs e we) (h:∀v,out (k v)=.ro v ad l):SF X K x fs (.Return (bd e) pos::rest) (.bind we λv=>.ret (k v)) out:=SF.last (vH he.p) λD σ H ⟨sr,q⟩=>⟨sr,we.mono (λv q1 u H1 g1 s1 v1=>by
 have q1:bP K x σ fs H D (out (k v)):=q1;rw [h] at q1;exact q1 u σ fs H1 g1.f s1 ⟨i,hs⟩ v1) q⟩
def SF.expr {k:PV->W T} (he:EF X K fs e we) (hr:∀v,SF X K x fs rest (k v) out) (hs:lw e bv pos.line X.env=pure false:=by rfl):SF X K x fs (.Expr e pos::rest) (.bind we k) out:=SF.step (mY he.p hs) λD σ H ⟨sr,q⟩=>
 ⟨sr,we.mono (λv q1 u H1 g1 s1 v1=>⟨fs,k v,hr v,s1,(k v).mono (λt q2=>q2.go g1.f sr s1) q1⟩) q⟩
def SF.set {k:PV->W T} (hN:X.N.Nodup) (hi:X.N[i]?=bd y) (hx:Loc X.env.scope y) (he:EF X K fs e we) (hr:∀v,SF X K x (fs.set i (bd (.val v))) rest (k v) out) (hs:lw e (bd (.Name y p')) pos.line X.env=pure false:=by rfl)
  (hf:X.fn y=true\/X.env.scope.names.lookup y=bd .local:=by first | exact .inl rfl | exact .inr rfl | assumption):SF X K x fs (.Assign [.Name y p'] e pos::rest) (.bind we k) out:=SF.step (qV hN hi hx he.p hs hf) λD σ H ⟨sr,q⟩=>
 ⟨sr,we.mono (λv q1 u H1 g1 s1 v1=>⟨_,k v,hr v,s1.fR v1 i,(k v).mono (λt q2=>q2.go (g1.f.trans (cL.fR s1 u v i)) sr (s1.fR v1 i)) q1⟩) q⟩
def SF.aco {k:List PV->W T} (hN:X.N.Nodup) (hi:X.N[i]?=bd y) (hx:Loc X.env.scope y) (he:LF X K fs e wl) (hr:∀l,SF X K x (fs.set i (bd (.ol bv l))) rest (k l) out) (hs:lw e (bd (.Name y p')) pos.line X.env=pure false:=by rfl)
  (hf:X.fn y=true\/X.env.scope.names.lookup y=bd .local:=by first | exact .inl rfl | exact .inr rfl | assumption):SF X K x fs (.Assign [.Name y p'] e pos::rest) (.bind wl k) out:=SF.step (qV hN hi hx he.p hs hf) λD σ H ⟨sr,q⟩=>by
 refine⟨sr,wl.mono (λl q1 a ws H1 g1 s1 n e v1=>?_) q⟩;have no:=sr.noOwn n;have s2:=s1.qU (t:=.ol bv l) ⟨by simp,ws,e,v1⟩ no i;exact⟨_,k l,hr l,s2,(k l).mono (λt q2=>q2.go (cL.qU s1 g1.f no n i) sr s2) q1⟩
def SF.cO (i:Nat) {q0:Option db}{l:List PV} (hs:fs[i]?=bd (bd (.ol q0 l))) (hr:SF X K x (fs.set i (bd (.val (.cl l)))) Pf w out):SF X K x fs Pf w out:=⟨λZ s σ H D I ⟨sr,q⟩=>by
 obtain⟨u,e1,r⟩:=sr.at' i _ hs;rcases r with⟨v,e,_⟩ | ⟨a,e,_,ws,q1,q2⟩
 ·cases e
 ·subst e;obtain⟨ob,I2⟩:=I.qp q1;have tk:=lj (K:=K) (.cO ob (.lst ws)) q1;have sS:σ.set i (bd (.ref a))=σ:=Bg λj=>by
   by_cases c:j=i
   ·subst c;rw [cz ((Ak.mp e1).1),e1]
   ·rw [aK c]
  have ow:∀b,dG σ (fs.set i (bd (.val (.cl l)))) b->dG σ fs b:=λb z=>by
   obtain⟨j,t,x,z1,z2,z3,z4⟩:=z;rcases ba z1 with⟨rfl,rfl⟩ | ⟨n,z1⟩
   ·cases z2
   ·exact⟨j,t,x,z1,z2,z3,z4⟩
  have na:¬dG σ (fs.set i (bd (.val (.cl l)))) a:=λz=>by
   obtain⟨j,t,x,z1,z2,z3,z4⟩:=z;rcases ba z1 with⟨rfl,rfl⟩ | ⟨n,z1⟩
   ·cases z2
   ·exact n (sr.nd j i t _ x a a z1 hs z2 rfl z3 e1 z4 (.inl rfl))
  have s2:aW K (upd H a (.cO ob (.lst ws))) σ (fs.set i (bd (.val (.cl l)))):=by
   refine⟨by simp [sr.len],λj t z=>?_,λj k t u b1 b2 b z1 z2 o1 o2=>?_⟩
   ·rcases ba z with⟨rfl,rfl⟩ | ⟨n,z⟩
    ·exact⟨_,e1,.inl ⟨_,rfl,.cl (.inl ⟨ob,aR⟩) (aL.tk tk q2)⟩⟩
    ·obtain⟨u,h1,h2⟩:=sr.at' j t z;exact⟨u,h1,h2.mono tk (λx b o eb ow hb zz=>by
      subst eb;rw [aB (λy=>by subst y;exact n (sr.nd j i t _ x b b z hs ow rfl h1 e1 hb (.inl rfl)))];exact zz)⟩
   ·rcases ba z1 with⟨rfl,rfl⟩ | ⟨n1,z1⟩
    ·cases o1
    ·rcases ba z2 with⟨rfl,rfl⟩ | ⟨n2,z2⟩
     ·cases o2
     ·exact sr.nd j k t u b1 b2 b z1 z2 o1 o2
  have g2:cL σ fs H σ (fs.set i (bd (.val (.cl l)))) (upd H a (.cO ob (.lst ws))):=by
   refine⟨λb o z n=>⟨?_,λy=>n (ow b y)⟩,λb z=>?_,λb φ z=>?_⟩
   ·rw [aB (λy=>by subst y;exact n ⟨i,_,_,hs,rfl,e1,.inl rfl⟩)];exact z
   ·by_cases c:b=a
    ·subst c;rw [aR] at z;cases z
    ·rw [aB c] at z;exact z
   ·obtain⟨j,z1,z2⟩:=z;have:j≠i:=λy=>by subst y;rw [hs] at z1;cases z1
    exact .inl ⟨j,by rw [aK this];exact z1,z2⟩
  exact hr.p Z s σ _ D I2 ⟨s2,w.mono (λt q3=>q3.go g2 sr s2) q⟩⟩
variable {tc:W Bool}
def SF.VV (hc:TF X K fs c tc) (ha:SF X K x fs sa w out) (hb:SF X K x fs sb wk out):SF X K x fs [.If c sa sb pos] (.bind tc λb=>if b=true then w else wk) out:=⟨qC.imp (Qt (Mv hc.p ha.p hb.p)) λD σ H ⟨sr,q⟩=>⟨sr,tc.mono (λk q1 H1 g1 s1=>by
 cases k with
 | true=>exact tH ⟨s1,w.mono (λt q2=>q2.go g1.f sr s1) q1⟩
 | false=>exact tI ⟨s1,wk.mono (λt q2=>q2.go g1.f sr s1) q1⟩) q⟩⟩
def SF.yO (hc:TF X K fs c tc) (ha:SF X K true fs sa w out) (hb:SF X K x fs rest wk out):SF X K x fs (.If c sa [] pos::rest) (.bind tc λb=>if b=true then w else wk) out:=SF.step (Mv hc.p ha.p vG) λD σ H ⟨sr,q⟩=>⟨sr,tc.mono (λk q1 H1 g1 s1=>by
 cases k with
 | true=>exact tH ⟨s1,w.mono (λt q2=>bP.exit (D:=D) (D':={D with nx:=xS X K x rest out D}) rfl rfl rfl (q2.go g1.f sr s1)) q1⟩
 | false=>exact tI ⟨fs,wk,hb,s1,wk.mono (λt q2=>q2.go g1.f sr s1) q1⟩) q⟩
def WY (X:Cx) (K:Ab) (x:Bool) (rest:List t0) {T:Type} (w:W T) (out:T->End):End->Prop
 | .nx bL=>SF X K x bL rest w out
 | .nc bL=>False
 | .bk bL=>∃t,w=.ret t/\out t=.bk bL
 | .ct bL=>∃t,w=.ret t/\(out t=.ct bL\/out t=.nc bL)
 | .rt v=>∃t,w=.ret t/\out t=.rt v
 | .rl l=>∃t,w=.ret t/\out t=.rl l
 | .ro v a l=>∃t,w=.ret t/\out t=.ro v a l
def WY.r {E:End} (sr:aW K H σ fs) (h:WY X K x rest w out E) (q:w.run λt=>bP K x σ fs H D (out t)):bP K false σ fs H {D with nx:=xS X K x rest out D} E:=by
 cases E with
 | nx bL=>exact λ_ σ' H' g' s'=>⟨bL,w,h,s',w.mono (λt q2=>q2.go g' sr s') q⟩
 | nc bL=>exact h.elim
 | bk bL=>
  obtain⟨t,rfl,h⟩:=h;have q:bP K x σ fs H D (out t):=q;rw [h] at q;exact q
 | ct bL=>
  obtain⟨t,rfl,h⟩:=h;have q:bP K x σ fs H D (out t):=q;rcases h with h | h
  ·rw [h] at q;exact q
  ·rw [h] at q;exact λσ' H' g s=>(q σ' H' g s).2
 | rt v=>
  obtain⟨t,rfl,h⟩:=h;have q:bP K x σ fs H D (out t):=q;rw [h] at q;exact q
 | rl v=>
  obtain⟨t,rfl,h⟩:=h;have q:bP K x σ fs H D (out t):=q;rw [h] at q;exact q
 | ro v a l=>
  obtain⟨t,rfl,h⟩:=h;have q:bP K x σ fs H D (out t):=q;rw [h] at q;exact q
variable {w1 w2:W T1}{out1:T1->End}{k:T1->W T}
def SF.ifS (hc:TF X K fs c tc) (ha:SF X K false fs sa w1 out1) (hb:SF X K false fs sb w2 out1) (hr:∀t,WY X K x rest (k t) out (out1 t)):SF X K x fs (.If c sa sb pos::rest) (.bind tc λb=>.bind (if b=true then w1 else w2) k) out:=SF.step (Mv hc.p ha.p hb.p) λD σ H ⟨sr,q⟩=>⟨sr,tc.mono (λb q1 H1 g1 s1=>by
 have fin:∀t,(k t).run (λt=>bP K x σ fs H D (out t))->bP K false σ fs H {D with nx:=xS X K x rest out D} (out1 t):=λt q=>(hr t).r sr q;cases b with
 | true=>exact tH ⟨s1,w1.mono (λt q2=>(fin t q2).go g1.f sr s1) q1⟩
 | false=>exact tI ⟨s1,w2.mono (λt q2=>(fin t q2).go g1.f sr s1) q1⟩) q⟩
end
end
end FL
variable {is:List Nat}
namespace FL
section
open PySem PySem.Spec PyProof.Rows L2 PL
variable {K:Ab}
def JF (K:Ab) (H:Hp) (J:It) (l:List PV):Prop:=l.length<=sizeLine/\∀H',bw K H H'->(∀(i:Nat) (p:PV),l[i]?=bd p->J.go i H'/\∀x H2,J.SU i H' x H2->j8 H' H2/\VR K [] H2 x p)/\J.stop l.length H'
def JF.tk {J:It} (t:bw K H H') (h:JF K H J l):JF K H' J l:=⟨h.1,λH2 t2=>h.2 H2 (bw.trans t t2)⟩
def fIt (K:Ab) (fs:bA) (w:W (List PV)):TI:=λσ H R=>aW K H σ fs/\w.run λl=>∀J H',cZ σ fs H H'->aW K H' σ fs->JF K H' J l->R J H'
structure pU (X:Cx) (K:Ab) (fs:bA) (tg e:lm) (w:W (List PV)):Prop where p:PI X tg e (fIt K fs w)
section
variable {a c:lm}{w:W PV}
def SK {ad:db} (h:Ua K H ad vs) (r:aL K [] H vs l) (hz:l.length<=sizeLine):JF K H (Itl K ad) l:=⟨hz,λH' t=>by
 have e1:=(t.f _ _ h).sq;have e2:=aL.tk t r;refine⟨λi p hp=>?_,vs,e1,by rw [e2.length];exact An _⟩;obtain⟨v,h3,h4⟩:=e2.get hp;refine⟨⟨vs,v,e1,h3⟩,λx H3 y=>?_⟩;obtain⟨rfl,y⟩:=y;have:=y vs e1;rw [h3] at this;cases this;exact⟨j8.refl _,h4⟩⟩
def WW {ad:db} (h:H ad=bd (.tup vs)) (r:aL K [] H vs l) (hz:l.length<=sizeLine):JF K H (Itt K ad) l:=⟨hz,λH' t=>by
 have e1:=d9.of (K:=K) (t.t _ _ h);have e2:=aL.tk t r;refine⟨λi p hp=>?_,vs,e1,by rw [e2.length];exact An _⟩;obtain⟨v,h3,h4⟩:=e2.get hp;refine⟨⟨vs,v,e1,h3⟩,λx H3 y=>?_⟩;obtain⟨rfl,y⟩:=y;have:=y vs e1;rw [h3] at this;cases this;exact⟨j8.refl _,h4⟩⟩
def bx (hK:X.K=K) (h:IF X K fs e wl):pU X K fs tg e wl:=⟨by
 subst hK;intro Z s σ H R I ⟨sr,q⟩;refine bD (h.p Z s σ H (λu H1=>∃l,WS X.K H1 u l/\∀J,JF X.K H1 J l->R J H1) I ⟨sr,wl.mono (λl q1 u H1 g1 s1 v1=>⟨l,v1,λJ j=>q1 J H1 g1 s1 j⟩) q⟩) λv s1 ⟨x,H1,I1,r1,l,⟨ad,vs,e,hh,rs⟩,q1⟩=>?_;subst e;cases r1;rcases hh with hh | hh
 ·obtain⟨au,rv,pl,hz⟩:=I1.list hh.sq;refine CH pl.isList ?_;refine⟨s1.heap.objs.size,[s1.heap.objs.size],_,_,H1,rfl,I1.kept (t':=s1.toks) λb o e=>Aj _ e,JA ad _,⟨_,Aq _ rfl,rfl,rfl⟩,λb hb=>?_,q1 _ (SK hh rs (by rw [<- rs.length];exact hz))⟩;have e:b=s1.heap.objs.size:=by simpa using hb
  subst e;exact I1.tS (An _) (I1.bG.fresh (An _))
 ·obtain⟨au,rv,pl,hz⟩:=I1.tuple (d9.of hh);refine C2 (show s1.heap.IsTuple ad au.toArray from pl) ?_;refine⟨s1.heap.objs.size,[s1.heap.objs.size],_,_,H1,rfl,I1.kept (t':=s1.toks) λb o e=>Aj _ e,qH ad _,⟨_,Aq _ rfl,rfl,rfl⟩,λb hb=>?_,q1 _ (WW hh rs (by rw [<- rs.length];exact hz))⟩;have e:b=s1.heap.objs.size:=by simpa using hb
  subst e;exact I1.tS (An _) (I1.bG.fresh (An _))⟩
def okN (i j:Int):Prop:=-(2 ^ 62)<=i/\i < 2 ^ 62/\-(2 ^ 62)<=j/\j < 2 ^ 62/\(j-i).toNat<=sizeLine
def j9:PV->W (List PV)
 | .int j=>.fM (okN 0 j) (.ret (ka 0 j.toNat))
 | _=>.fail
def Ii:PV->PV->PV->W (List PV)
 | .int i,.int j,.int k=>.fM (k = -1/\okN j i) (.ret (lY i (i-j).toNat))
 | _,_,_=>.fail
def WX (lo:Int) (n:Nat) (hz:n<=sizeLine):JF K H (Itr lo n) (ka lo n):=⟨by rw [jv];exact hz,λH' t=>⟨λi p hp=>by
  obtain⟨h1,rfl⟩:=oE hp;refine⟨h1,λx H2 y=>?_⟩;obtain⟨rfl,rfl⟩:=y;exact⟨j8.refl _,.int _⟩,by show n<=(ka lo n).length;rw [jv];exact An _⟩⟩
theorem fF (hg:Gl X "range") (hm:X.mg "range"=bv) (ha:EF X K fs a wa) (hs:ce [a] X.env=[(false,kt a X.env)]:=by rfl):pU X K fs tg (.Call (.Name "range" p) [a] [] pos) (.bind wa j9):=
 ⟨PI.imp (JW hg hm (bh ha.p cC hs) hs) λσ H R ⟨sr,q⟩=>⟨sr,wa.mono (λx q1 u1 H1 g1 s1 v1=>by
  cases v1 with
  | int j=>exact⟨_,rfl,q1.1.2.2.1,q1.1.2.2.2.1,q1.2 _ H1 g1 s1 (WX _ _ (by have:=q1.1.2.2.2.2;omega))⟩
  | _=>exact q1.elim) q⟩⟩
def IT (hg:Gl X "range") (hm:X.mg "range"=bv) (ha:EF X K fs a wa) (hb:EF X K fs b wb) (hc:EF X K fs c wc) (hs:ce [a,b,c] X.env=[(false,kt a X.env),(false,kt b X.env),(false,kt c X.env)]:=by rfl) (qo:ce [b,c] X.env=[(false,kt b X.env),(false,kt c X.env)]:=by rfl) (hs3:ce [c] X.env=[(false,kt c X.env)]:=by rfl):pU X K fs tg (.Call (.Name "range" p) [a,b,c] [] pos) (.bind wa λx=>.bind wb λy=>.bind wc λz=>Ii x y z):=
 ⟨PI.imp (JV hg hm (bh ha.p (bh hb.p (bh hc.p cC hs3) (by rw [qo,hs3])) (by rw [hs,qo])) hs qo) λσ H R ⟨sr,q⟩=>⟨sr,wa.mono (λx q1 u1 H1 g1 s1 v1=>⟨s1,wb.mono (λy q2 u2 H2 g2 s2 v2=>⟨s2,wc.mono (λz q3 u3 H3 g3 s3 v3=>by
  cases v1 with
  | int i=>
   cases v2 with
   | int j=>
    cases v3 with
    | int k=>
     obtain⟨⟨rfl,k1,k2,k3,k4,k5⟩,q3⟩:=q3;refine⟨_,_,rfl,⟨k3,k4,k1,k2⟩,q3 _ H3 ((g1.trans g2).trans g3) s3 ⟨by rw [uS];exact k5,λH' t=>⟨λi p hp=>?_,?_⟩⟩⟩
     ·obtain⟨h1,rfl⟩:=oQ hp;refine⟨h1,λx H2 y=>?_⟩;obtain⟨rfl,rfl⟩:=y;exact⟨j8.refl _,.int _⟩
     ·exact Nat.le_of_eq (uS _ _).symm
    | _=>exact q3.elim
   | _=>exact q3.elim
  | _=>exact q3.elim) q2⟩) q1⟩) q⟩⟩
def FQ:PV->W (List PV)
 | .str z=>.fM (z.cps.size<=sizeLine) (.ret (z.cps.toList.map λc=>.str ⟨#[c]⟩))
 | _=>.fail
def VT (h:EF X K fs e w):pU X K fs tg e (.bind w FQ):=⟨PI.imp (UY h.p) λσ H R ⟨sr,q⟩=>⟨sr,w.mono (λx q1 u1 H1 g1 s1 v1=>by
 cases v1 with
 | str z=>
  refine⟨z,rfl,q1.2 _ H1 g1 s1 ⟨by simpa using q1.1,λH' t=>⟨λi p hp=>?_,?_⟩⟩⟩
  ·rw [Ag] at hp;cases e:z.cps.toList[i]? with
   | none=>rw [e] at hp;cases hp
   | some c=>
    rw [e] at hp;have ep:=(Option.some.inj hp).symm;subst ep;have hi:=(Ak.mp e).1;have yQ:i < z.cps.size:=by simpa using hi
    refine⟨yQ,λx H2 y=>?_⟩;obtain⟨rfl,d,hd,rfl⟩:=y;have:z.cps[i]?=bd c:=by simpa using e
    rw [this] at hd;cases hd;exact⟨j8.refl _,.str _⟩
  ·show z.cps.size<=_;simp
 | _=>exact q1.elim) q⟩⟩
def nv (hK:X.K=K) (hg:Gl X "enumerate") (hm:X.mg "enumerate"=bv) (h:IF X K fs e wl) (zL:ce [e] X.env=(false,kt e X.env)::ce [] X.env:=by rfl):pU X K fs (.Tuple Ð kk tp) (.Call (.Name "enumerate" p1) [e] [] p2) (.bind wl λl=>.fM (l.length<=sizeLine) (.ret (d6 0 l))):=
 ⟨PI.imp (Mz K hK hg hm h.p zL) λσ H R ⟨sr,q⟩=>⟨sr,wl.mono (λl q1 u1 H1 g1 s1 v1=>by
  obtain⟨ad,vs,rfl,hh,rs⟩:=v1;have yl:∀{H':Hp}{i:Nat}{x v:V}{y:PV}{pp:db},H' pp=bv->VR K [] H' v y->j8 H' (upd H' pp (.tup [.int (i:Int),v]))/\VR K [] (upd H' pp (.tup [.int (i:Int),v])) (.ref pp) (.tup [.int ((0+i:Nat):Int),y]):=λ{H' i x v y pp} hn h4=>
   have sm:=kI hn (.tup [.int (i:Int),v])
   ⟨sm,.tup aR (.cons (by rw [Az];exact .int _) (.cons (VR.tk sm.eZ h4) .nil))⟩
  refine⟨ad,rfl,?_⟩;rcases hh with hh | hh
  ·refine .inl ⟨⟨vs,hh.sq⟩,q1.2 _ H1 g1 s1 ⟨by rw [cI];exact q1.1,λH' t=>⟨λi p hp=>?_,vs,(t.f _ _ hh).sq,by rw [rs.length,cI];exact An _⟩⟩⟩;obtain⟨y,hy,rfl⟩:=gE hp;obtain⟨v,h3,h4⟩:=(aL.tk t rs).get hy;refine⟨⟨vs,v,(t.f _ _ hh).sq,h3⟩,λx H3 z=>?_⟩;obtain⟨pp,x0,rfl,hn,rfl,hz⟩:=z;have:=hz vs (t.f _ _ hh).sq;rw [h3] at this;cases this;exact yl (x:=.aU) hn h4
  ·refine .inr ⟨⟨vs,d9.of hh⟩,q1.2 _ H1 g1 s1 ⟨by rw [cI];exact q1.1,λH' t=>⟨λi p hp=>?_,vs,d9.of (t.t _ _ hh),by rw [rs.length,cI];exact An _⟩⟩⟩;obtain⟨y,hy,rfl⟩:=gE hp;obtain⟨v,h3,h4⟩:=(aL.tk t rs).get hy;refine⟨⟨vs,v,d9.of (t.t _ _ hh),h3⟩,λx H3 z=>?_⟩;obtain⟨pp,x0,rfl,hn,rfl,hz⟩:=z;have:=hz vs (d9.of (t.t _ _ hh));rw [h3] at this;cases this;exact yl (x:=.aU) hn h4) q⟩⟩
end
def qP:List Nat->List V->L2.St->L2.St
 | i::is,u::us,σ=>qP is us (σ.set i (bd u))
 | _,_,σ=>σ
def fG (K:Ab) (fs:bA) (is:List Nat) (wt:PV->W T) (dQ:T->bA):TG:=λv σ H Q=>∃p,aW K H σ fs/\VR K [] H v p/\(wt p).run λt=>∀us,cL σ fs H (qP is us σ) (dQ t) H->aW K H (qP is us σ) (dQ t)->Q (qP is us σ) H
structure GF (X:Cx) (K:Ab) (fs:bA) (tg:lm) (is:List Nat) {T:Type} (wt:PV->W T) (dQ:T->bA):Prop where p:PG X tg (fG K fs is wt dQ)
def pw:PV->W (PV×PV)
 | .tup [a,b]=>.ret (a,b)
 | _=>.fail
def un3:PV->W (PV×PV×PV)
 | .tup [a,b,c]=>.ret (a,b,c)
 | _=>.fail
def un4:PV->W (PV×PV×PV×PV)
 | .tup [a,b,c,d]=>.ret (a,b,c,d)
 | _=>.fail
section
def V8 (h:PG X tg (dI i)):GF X K fs tg [i] .ret (λp=>fs.set i (bd (.val p))):=⟨PG.imp h λv σ H Q ⟨p,sr,r,q⟩=>q [v] (cL.fR sr v p i) (sr.fR r i)⟩
def NV (hK:X.K=K) (h:PG X tg (RM X.K 2 (lV (dI i) (lV (dI j) RN)))):GF X K fs tg [i,j] pw (λt=>(fs.set i (bd (.val t.1))).set j (bd (.val t.2))):=⟨PG.imp h λv σ H Q ⟨p,sr,r,q⟩=>by
 unfold pw at q
 split at q
 ·cases r with
  | tup e rs=>
   cases rs with
   | cons ra t=>
   cases t with
   | cons rb t=>
   cases t;have s1:=sr.fR ra i;exact⟨_,_,rfl,d9.of e,rfl,_,_,rfl,_,_,rfl,rfl,q [_,_] ((cL.fR sr _ _ i).trans (cL.fR s1 _ _ j)) (s1.fR rb j)⟩
 ·exact q.elim⟩
def g_3 (hK:X.K=K) (h:PG X tg (RM X.K 3 (lV (dI i) (lV (dI j) (lV (dI k) RN))))):GF X K fs tg [i,j,k] un3 (λt=>((fs.set i (bd (.val t.1))).set j (bd (.val t.2.1))).set k (bd (.val t.2.2))):=⟨PG.imp h λv σ H Q ⟨p,sr,r,q⟩=>by
 unfold un3 at q
 split at q
 ·cases r with
  | tup e rs=>
   cases rs with
   | cons ra t=>
   cases t with
   | cons rb t=>
   cases t with
   | cons rc t=>
   cases t;have s1:=sr.fR ra i;have s2:=s1.fR rb j;exact⟨_,_,rfl,d9.of e,rfl,_,_,rfl,_,_,rfl,_,_,rfl,rfl,q [_,_,_] (((cL.fR sr _ _ i).trans (cL.fR s1 _ _ j)).trans (cL.fR s2 _ _ k)) (s2.fR rc k)⟩
 ·exact q.elim⟩
def g_4 {l:Nat} (hK:X.K=K) (h:PG X tg (RM X.K 4 (lV (dI i) (lV (dI j) (lV (dI k) (lV (dI l) RN)))))):GF X K fs tg [i,j,k,l] un4 (λt=>(((fs.set i (bd (.val t.1))).set j (bd (.val t.2.1))).set k (bd (.val t.2.2.1))).set l (bd (.val t.2.2.2))):=⟨PG.imp h λv σ H Q ⟨p,sr,r,q⟩=>by
 unfold un4 at q
 split at q
 ·cases r with
  | tup e rs=>
   cases rs with
   | cons ra t=>
   cases t with
   | cons rb t=>
   cases t with
   | cons rc t=>
   cases t with
   | cons rd t=>
   cases t;have s1:=sr.fR ra i;have s2:=s1.fR rb j;have s3:=s2.fR rc k;exact⟨_,_,rfl,d9.of e,rfl,_,_,rfl,_,_,rfl,_,_,rfl,_,_,rfl,rfl,q [_,_,_,_] ((((cL.fR sr _ _ i).trans (cL.fR s1 _ _ j)).trans (cL.fR s2 _ _ k)).trans (cL.fR s3 _ _ l)) (s3.fR rd l)⟩
 ·exact q.elim⟩
end
section
variable {S T:Type}
def dN:List PV->S->(PV->S->W S)->W S
 | [],s,_=>.ret s
 | x::r,s,f=>.bind (f x s) λs'=>dN r s' f
inductive Lp (S T:Type) where
 | go (s:S) | out (t:T)
def mz:List PV->S->(PV->S->W (Lp S T))->W (Lp S T)
 | [],s,_=>.ret (.go s)
 | x::r,s,f=>.bind (f x s) λo=>match o with
  | .go s'=>mz r s' f
  | .out t=>.ret (.out t)
def zM (k:S->W T) (inj:R->T):Lp S R->W T
 | .go s=>k s
 | .out r=>.ret (inj r)
@[simp] theorem adJ (k:S->W T) (inj:R->T) (s:S):zM k inj (.go s)=k s:=(rfl)
@[simp] theorem abn (k:S->W T) (inj:R->T) (r:R):zM k inj (.out r)=.ret (inj r):=(rfl)
def Zb (hd:S->bA) (out:R->End):Lp S R->End
 | .go s=>.nc (hd s)
 | .out r=>out r
def mh (c:S->W Bool) (b:S->W S):Nat->S->W S
 | 0,_=>.fail
 | n+1,s=>.bind (c s) λk=>if k=true then .bind (b s) (mh c b n) else .ret s
def ku (c:S->W Bool) (b:S->W S) (s:S):W S:=⟨λQ=>∃n,(mh c b n s).run Q,λh ⟨n,q⟩=>⟨n,(mh c b n s).mono h q⟩⟩
def jE (c:S->W Bool) (b:S->W (Lp S T)):Nat->S->W (Lp S T)
 | 0,_=>.fail
 | n+1,s=>.bind (c s) λk=>if k=true then .bind (b s) (λo=>match o with
  | .go s'=>jE c b n s'
  | .out t=>.ret (.out t)) else .ret (.go s)
def qG (c:S->W Bool) (b:S->W (Lp S T)) (s:S):W (Lp S T):=⟨λQ=>∃n,(jE c b n s).run Q,λh ⟨n,q⟩=>⟨n,(jE c b n s).mono h q⟩⟩
end
section
variable {c:lm}{rest:List t0}{S T T2:Type}{hd:S->bA}{s0:S}{wt:PV->W T2}{dQ:S->T2->bA}{k:S->W T}{out:T->End}{R:Type}{inj:R->T}
theorem SF.for {f:PV->S->W S}{wb:T2->S->W S} (hp:Db (d5 X.prog X.w) X.A X.env X.xe) (hc:X.calm=true) (hi:pU X K fs tg iter wl) (hl:jD fs (hd s0)) (hg:∀s,GF X K (hd s) tg is wt (dQ s)) (hf:∀p s,f p s=.bind (wt p) λt=>wb t s)
  (hb:∀s t,SF X K false (dQ s t) body (wb t s) λs'=>.nc (hd s')) (hr:∀s,SF X K x (hd s) rest (k s) out) (hs:∀x,f8 iter X.env x=pure x:=by intro _;rfl) :
  SF X K x fs (.For tg iter body [] pos::rest) (.bind wl λl=>.bind (dN l s0 f) k) out:=by
 refine SF.step (Mw (g:=λv σ H Q=>∃s,fG K (hd s) is wt (dQ s) v σ H Q) (tb:=λD σ H=>∃s t,fS K false (dQ s t) (wb t s) (λs'=>.nc (hd s')) D σ H) hp hc hi.p (λZ s σ H v u Q I r ⟨s1,q⟩=>(hg s1).p Z s σ H v u Q I r q) (λZ s σ H D I ⟨s1,t1,q⟩=>(hb s1 t1).p Z s σ H D I q) hs) λD σ H ⟨sr,q⟩=>?_;refine⟨sr,wl.mono (λl q1 J H1 g1 s1 jf=>?_) q⟩;refine⟨λi m σ' H'=>∃s,aW K H' σ' (hd s)/\cL σ fs H σ' (hd s) H'/\JF K H' J l/\m=l.length-i/\i<=l.length/\(dN (l.drop i) s f).run λs'=>(k s').run λt=>bP K x σ fs H D (out t),⟨l.length,s0,s1.le hl,g1.f.trans (cL.le s1 hl),jf,by simp,A5 _,by simpa using q1⟩,?_⟩;rintro i m σ2 H2 ⟨s,s2,g2,Rn,rfl,hi,q2⟩;obtain⟨j1,j2⟩:=Rn.2 H2 (bw.refl H2);by_cases kh:i < l.length
 ·obtain⟨go,yl⟩:=j1 i _ (Ad kh);have ed:=Bs kh;rw [ed] at q2;refine .inr ⟨go,λσ3 H3=>∃s',aW K H3 σ3 (hd s')/\cL σ fs H σ3 (hd s') H3/\JF K H3 J l/\(dN (l.drop (i+1)) s' f).run λs'=>(k s').run λt=>bP K x σ fs H D (out t),λσ3 H3 ⟨s',a1,a2,a3,a4⟩=>⟨l.length-(i+1),by omega,s',a1,a2,a3,rfl,kh,a4⟩,λv H3 y=>?_⟩;obtain⟨sm,vx⟩:=yl v H3 y;have q2:(f l[i] s).run λs'=>(dN (l.drop (i+1)) s' f).run λs'=>(k s').run λt=>bP K x σ fs H D (out t):=q2;rw [hf] at q2;have s3:=s2.same sm;have g3:=g2.trans (cL.same sm s2);refine⟨s,_,s3,vx,(wt l[i]).mono (λt q4 us g4 s4=>?_) q2⟩;refine⟨s,t,s4,(wb t s).mono (λs' q5 σ5 H5 g5 s5=>?_) q4⟩;have fin:∃s',aW K H5 σ5 (hd s')/\cL σ fs H σ5 (hd s') H5/\JF K H5 J l/\(dN (l.drop (i+1)) s' f).run λs'=>(k s').run λt=>bP K x σ fs H D (out t):=⟨s',s5,(g3.trans g4).trans g5,Rn.tk (bw.trans sm.eZ (bw.trans (g4.eL s3) (g5.eL s4))),q5⟩;exact⟨λ_=>fin,fin⟩
 ·have e:i=l.length:=by omega
  subst e;rw [Ex] at q2;exact .inl ⟨j2,hd s,k s,hr s,s2,(k s).mono (λt q3=>q3.go g2 sr s2) q2⟩
theorem SF.mz {f:PV->S->W (Lp S R)}{wb:T2->S->W (Lp S R)} (hp:Db (d5 X.prog X.w) X.A X.env X.xe) (hc:X.calm=true) (hi:pU X K fs tg iter wl) (hl:jD fs (hd s0)) (hg:∀s,GF X K (hd s) tg is wt (dQ s)) (hf:∀p s,f p s=.bind (wt p) λt=>wb t s)
  (ho:∀t,(out (inj t)).IU)
  (hb:∀s t,SF X K false (dQ s t) body (wb t s) (Zb hd λr=>out (inj r))) (hr:∀s,SF X K x (hd s) rest (k s) out) (hs:∀x,f8 iter X.env x=pure x:=by intro _;rfl) :
  SF X K x fs (.For tg iter body [] pos::rest) (.bind wl λl=>.bind (FL.mz l s0 f) (zM k inj)) out:=by
 refine SF.step (Mw (g:=λv σ H Q=>∃s,fG K (hd s) is wt (dQ s) v σ H Q) (tb:=λD σ H=>∃s t,fS K false (dQ s t) (wb t s) (Zb hd λr=>out (inj r)) D σ H) hp hc hi.p (λZ s σ H v u Q I r ⟨s1,q⟩=>(hg s1).p Z s σ H v u Q I r q) (λZ s σ H D I ⟨s1,t1,q⟩=>(hb s1 t1).p Z s σ H D I q) hs) λD σ H ⟨sr,q⟩=>?_;refine⟨sr,wl.mono (λl q1 J H1 g1 s1 jf=>?_) q⟩;have lo:∀(D':Ends) (y:Bool) (t:R),D'.rt=D.rt->bP K x σ fs H D (out (inj t))->bP K y σ fs H D' (out (inj t)):=λD' y t e h=>bP.YV (ho t) e h;refine⟨λi m σ' H'=>∃s,aW K H' σ' (hd s)/\cL σ fs H σ' (hd s) H'/\JF K H' J l/\m=l.length-i/\i<=l.length/\(FL.mz (l.drop i) s f).run λo=>(zM k inj o).run λt=>bP K x σ fs H D (out t),⟨l.length,s0,s1.le hl,g1.f.trans (cL.le s1 hl),jf,by simp,A5 _,by simpa using q1⟩,?_⟩;rintro i m σ2 H2 ⟨s,s2,g2,Rn,rfl,hi,q2⟩;obtain⟨j1,j2⟩:=Rn.2 H2 (bw.refl H2);by_cases kh:i < l.length
 ·obtain⟨go,yl⟩:=j1 i _ (Ad kh);have ed:=Bs kh;rw [ed] at q2;refine .inr ⟨go,λσ3 H3=>∃s',aW K H3 σ3 (hd s')/\cL σ fs H σ3 (hd s') H3/\JF K H3 J l/\(FL.mz (l.drop (i+1)) s' f).run λo=>(zM k inj o).run λt=>bP K x σ fs H D (out t),λσ3 H3 ⟨s',a1,a2,a3,a4⟩=>⟨l.length-(i+1),by omega,s',a1,a2,a3,rfl,kh,a4⟩,λv H3 y=>?_⟩;obtain⟨sm,vx⟩:=yl v H3 y;have q2:(f l[i] s).run λo=>(match o with | .go s'=>FL.mz (l.drop (i+1)) s' f | .out t=>bm (.out t)).run λo=>(zM k inj o).run λt=>bP K x σ fs H D (out t):=q2;rw [hf] at q2;have s3:=s2.same sm;have g3:=g2.trans (cL.same sm s2);refine⟨s,_,s3,vx,(wt l[i]).mono (λt q4 us g4 s4=>?_) q2⟩;refine⟨s,t,s4,(wb t s).mono (λo q5=>?_) q4⟩;cases o with
  | out t5=>
   refine bP.go (g3.trans g4) sr s4 (lo _ false t5 ?_ q5);rfl
  | go s'=>
   intro σ5 H5 g5 s5;have fin:∃s',aW K H5 σ5 (hd s')/\cL σ fs H σ5 (hd s') H5/\JF K H5 J l/\(FL.mz (l.drop (i+1)) s' f).run λo=>(zM k inj o).run λt=>bP K x σ fs H D (out t):=⟨s',s5,(g3.trans g4).trans g5,Rn.tk (bw.trans sm.eZ (bw.trans (g4.eL s3) (g5.eL s4))),q5⟩;exact⟨λ_=>fin,fin⟩
 ·have e:i=l.length:=by omega
  subst e;rw [Ex] at q2;exact .inl ⟨j2,hd s,k s,hr s,s2,(k s).mono (λt q3=>q3.go g2 sr s2) q2⟩
def SF.xP {cw:S->W Bool}{b:S->W S} (hp:Db (d5 X.prog X.w) X.A X.env X.xe) (hl:jD fs (hd s0)) (hc:∀s,TF X K (hd s) c (cw s)) (hb:∀s,SF X K false (hd s) body (b s) λs'=>.nc (hd s')) (hr:∀s,SF X K x (hd s) rest (k s) out) :
  SF X K x fs (.While c body [] pos::rest) (.bind (ku cw b s0) k) out:=by
 refine SF.step (yj (tc:=λσ H Q=>∃s,fT K (hd s) (cw s) σ H Q) (tb:=λD σ H=>∃s,fS K false (hd s) (b s) (λs'=>.nc (hd s')) D σ H) hp (λZ s σ H Q I ⟨s1,q⟩=>(hc s1).p Z s σ H Q I q) (λZ s σ H D I ⟨s1,q⟩=>(hb s1).p Z s σ H D I q)) λD σ H ⟨sr,n,q⟩=>?_;refine⟨λm σ' H'=>∃s,aW K H' σ' (hd s)/\cL σ fs H σ' (hd s) H'/\(mh cw b m s).run λs'=>(k s').run λt=>bP K x σ fs H D (out t),⟨n,s0,sr.le hl,cL.le sr hl,q⟩,?_⟩;rintro m σ1 H1 ⟨s,s1,g1,q1⟩;cases m with
 | zero=>exact q1.elim
 | succ m=>
  refine⟨s,s1,(cw s).mono (λkk q2 H2 g2 s2=>?_) q1⟩;cases kk with
  | false=>
   refine tI ?_;exact⟨hd s,k s,hr s,s2,(k s).mono (λt q3=>q3.go (g1.trans g2.f) sr s2) q2⟩
  | true=>
   refine tH ?_;refine⟨λσ3 H3=>∃s,aW K H3 σ3 (hd s)/\cL σ fs H σ3 (hd s) H3/\(mh cw b m s).run λs'=>(k s').run λt=>bP K x σ fs H D (out t),λσ3 H3 a=>⟨m,Dn m,a⟩,s,s2,(b s).mono (λs' q5 σ5 H5 g5 s5=>?_) q2⟩;have fin:∃s,aW K H5 σ5 (hd s)/\cL σ fs H σ5 (hd s) H5/\(mh cw b m s).run λs'=>(k s').run λt=>bP K x σ fs H D (out t):=⟨s',s5,(g1.trans g2.f).trans g5,q5⟩;exact⟨λ_=>fin,fin⟩
def SF.qG {cw:S->W Bool}{b:S->W (Lp S R)} (hp:Db (d5 X.prog X.w) X.A X.env X.xe) (hl:jD fs (hd s0)) (hc:∀s,TF X K (hd s) c (cw s)) (ho:∀t,(out (inj t)).IU)
  (hb:∀s,SF X K false (hd s) body (b s) (Zb hd λr=>out (inj r))) (hr:∀s,SF X K x (hd s) rest (k s) out) :
  SF X K x fs (.While c body [] pos::rest) (.bind (FL.qG cw b s0) (zM k inj)) out:=by
 refine SF.step (yj (tc:=λσ H Q=>∃s,fT K (hd s) (cw s) σ H Q) (tb:=λD σ H=>∃s,fS K false (hd s) (b s) (Zb hd λr=>out (inj r)) D σ H) hp (λZ s σ H Q I ⟨s1,q⟩=>(hc s1).p Z s σ H Q I q) (λZ s σ H D I ⟨s1,q⟩=>(hb s1).p Z s σ H D I q)) λD σ H ⟨sr,n,q⟩=>?_;have lo:∀(D':Ends) (y:Bool) (t:R),D'.rt=D.rt->bP K x σ fs H D (out (inj t))->bP K y σ fs H D' (out (inj t)):=λD' y t e h=>bP.YV (ho t) e h;refine⟨λm σ' H'=>∃s,aW K H' σ' (hd s)/\cL σ fs H σ' (hd s) H'/\(jE cw b m s).run λo=>(zM k inj o).run λt=>bP K x σ fs H D (out t),⟨n,s0,sr.le hl,cL.le sr hl,q⟩,?_⟩;rintro m σ1 H1 ⟨s,s1,g1,q1⟩;cases m with
 | zero=>exact q1.elim
 | succ m=>
  refine⟨s,s1,(cw s).mono (λkk q2 H2 g2 s2=>?_) q1⟩;cases kk with
  | false=>
   refine tI ?_;exact⟨hd s,k s,hr s,s2,(k s).mono (λt q3=>q3.go (g1.trans g2.f) sr s2) q2⟩
  | true=>
   refine tH ?_;refine⟨λσ3 H3=>∃s,aW K H3 σ3 (hd s)/\cL σ fs H σ3 (hd s) H3/\(jE cw b m s).run λo=>(zM k inj o).run λt=>bP K x σ fs H D (out t),λσ3 H3 a=>⟨m,Dn m,a⟩,s,s2,(b s).mono (λo q5=>?_) q2⟩;cases o with
   | out t5=>
    refine bP.go (g1.trans g2.f) sr s2 (lo _ false t5 ?_ q5);rfl
   | go s'=>
    intro σ5 H5 g5 s5;have fin:∃s,aW K H5 σ5 (hd s)/\cL σ fs H σ5 (hd s) H5/\(jE cw b m s).run λo=>(zM k inj o).run λt=>bP K x σ fs H D (out t):=⟨s',s5,(g1.trans g2.f).trans g5,q5⟩;exact⟨λ_=>fin,fin⟩
end
end
end FL
variable {f:PL.PV->FL.W (Option PL.PV)}{mJ:FL.bA}
namespace FL
section
open PySem PySem.Spec PyProof.Rows L2 PL
variable {K:Ab}
def kf:List PV->(PV->W (Option PV))->W (List PV)
 | [],_=>.ret []
 | x::r,f=>.bind (f x) λo=>.bind (kf r f) λl=>.ret (o.toList++l)
def mapW:List PV->(PV->W PV)->W (List PV)
 | [],_=>.ret []
 | x::r,f=>.bind (f x) λy=>.bind (mapW r f) λl=>.ret (y::l)
theorem vU (f:PV->W PV):∀l,mapW l f=kf l λp=>.bind (f p) λv=>.ret (bd v)
 | []=>rfl
 | x::r=>by
  show am (f x) (λy=>am (mapW r f) λl=>bm (y::l))=am (f x) λy=>am (kf r _) λl=>bm (y::l);rw [vU f r]
def bV (ix:List (Option Nat)) (fs:bA):bA:=ix.map λo=>match o with | some j=>(fs[j]?).getD bv | none=>bv
section
def nV {s:SL} (h:(bV ix fs)[i]?=bd (bd s)):∃j,ix[i]?=bd (bd j)/\fs[j]?=bd (bd s):=by
 unfold bV at h;rw [Ag] at h;cases q:ix[i]? with
 | none=>rw [q] at h;cases h
 | some o=>
  rw [q] at h;cases o with
  | none=>cases h
  | some j=>
   refine⟨j,rfl,?_⟩;have h:(fs[j]?).getD bv=bd s:=Option.some.inj h;cases z:fs[j]? with
   | none=>rw [z] at h;cases h
   | some y=>rw [z] at h;exact congrArg bd h
def lM (h:ix[i]?=bd (bd j)) (e:σ[j]?=bd (bd u)):(nU ix σ)[i]?=bd (bd u):=by
 unfold nU;rw [Ag,h];show bd ((σ[j]?).getD bv)=_;rw [e];rfl
def aW.gq (s:aW K H σ fs) (inj:∀i i' j:Nat,ix[i]?=bd (bd j)->ix[i']?=bd (bd j)->i=i'):aW K H (nU ix σ) (bV ix fs):=by
 refine⟨by unfold nU bV;simp,λi t e=>?_,λi i' t u x y a e1 e2 o1 o2 q1 q2 z1 z2=>?_⟩
 ·obtain⟨j,h1,h2⟩:=nV e;obtain⟨u,h3,h4⟩:=s.at' j t h2;exact⟨u,lM h1 h3,h4⟩
 ·obtain⟨j,h1,h2⟩:=nV e1;obtain⟨j',hU,sR⟩:=nV e2;obtain⟨u1,h3,_⟩:=s.at' j t h2;obtain⟨u2,GI,_⟩:=s.at' j' u sR;rw [lM h1 h3] at q1;rw [lM hU GI] at q2;cases q1;cases q2;have:=s.nd j j' t u x y a h2 sR o1 o2 h3 GI z1 z2;subst this;exact inj i i' j h1 hU
structure SM (ix:List (Option Nat)) (σ:L2.St) (fs:bA) (σ':L2.St) (bL:bA):Prop where
 own:∀(i:Nat) (t:SL),bL[i]?=bd (bd t)->t.own=true->∃j,ix[i]?=bd (bd j)/\fs[j]?=bd (bd t)/\σ'[i]?=σ[j]?
def SM.vO (h:SM ix σ fs σ' bL) (o:dG σ' bL a):dG σ fs a:=by
 obtain⟨i,t,x,e1,e2,e3,e4⟩:=o;obtain⟨j,h1,h2,h3⟩:=h.own i t e1 e2;exact⟨j,t,x,h2,e2,h3▸e3,e4⟩
def SM.kn (h:SM ix σ fs σ' bL) (o:eW σ' bL φ a):eW σ fs φ a:=by
 obtain⟨i,e1,e3⟩:=o;obtain⟨j,h1,h2,h3⟩:=h.own i _ e1 rfl;exact⟨j,h2,h3▸e3⟩
def SM.out (h:SM ix σ fs σ' bL) (s:aW K H1 σ fs) (g:cZ σ' bL H1 H2) (s2:aW K H2 σ' bL):aW K H2 σ fs/\cZ σ fs H1 H2:=by
 have gf:cZ σ fs H1 H2:=⟨λa o e n=>g.keep a o e λφ z=>n φ (h.kn z),g.there⟩;refine⟨⟨s.len,λj t e=>?_,s.nd⟩,gf⟩;obtain⟨u,h1,h2⟩:=s.at' j t e;refine⟨u,h1,?_⟩;have tk:=gf.eL s;rcases h2 with⟨v,q,r⟩ | ⟨a,q,r⟩
 ·exact .inl ⟨v,q,VR.tk tk r⟩
 ·subst q;refine .inr ⟨a,rfl,?_⟩;by_cases c:∃b,t.own=true/\t.has a b/\dG σ' bL b
  ·obtain⟨b,ow,hb,i,t',x,c1,c2,c3,c4⟩:=c;obtain⟨j',k1,k2,k3⟩:=h.own i t' c1 c2;have jj:=s.nd j j' t t' a x b e k2 ow c2 h1 (k3▸c3) hb c4;subst jj;rw [e] at k2;cases k2;exact s2.ownAt c1 c2 (k3.trans h1)
  ·exact r.mono tk (λb o ow hb z=>g.o4 z λy=>c ⟨b,ow,hb,y⟩)
theorem qO:∀{is:List Nat}{us:List V}{σ:L2.St}{i:Nat},i∉is->(qP is us σ)[i]?=σ[i]?
 | [],us,σ,i,_=>by cases us <;> rfl
 | j::is,[],σ,i,_=>rfl
 | j::is,u::us,σ,i,h=>by
  rw [qP,qO (λz=>h (AV _ z))];exact aK (λz=>h (by rw [z];exact BA))
end
section
variable {T2:Type}{wt:PV->W T2}{dQ:T2->bA}{tf:T2->W Bool}{te:T2->W PV}
structure FF (X:Cx) (K:Ab) (fs:bA) (Ê:List lm) (w:W Bool):Prop where p:Xx X Ê (fT K fs w)
def N2:FF X K fs [] (.ret true):=⟨λZ s σ H Q I ⟨sr,q⟩=>QC Z s σ H Q I (q H .refl sr)⟩
def wM {c:lm}{w:W Bool} (h:TF X K fs c w):FF X K fs [c] w:=⟨QB h.p⟩
def uc (is:List Nat) (mJ:bA) (dQ:T2->bA):Prop:=∀t,(dQ t).length=mJ.length/\∀(i:Nat) (s:SL),(dQ t)[i]?=bd (bd s)->(i∈is/\s.own=false)\/(i∉is/\mJ[i]?=bd (bd s))
theorem N5 (S:aA X.env.scope X.N sc N' ix) (hb:mJ=bV ix fs) (hf:∀p,f p=.bind (wt p) λt=>.bind (tf t) λk=>if k=true then .bind (te t) λv=>.ret (bd v) else .ret bv) (hl:uc is mJ dQ) (hr:∀t,jD (dQ t) mJ) (tN:∀j∈is,ix[j]?=bd bv) :
  ∀σ H Q,fL K fs (.bind wl λl=>kf l f) σ H Q->tLc ix (fIt K fs wl) (λv σ H Q=>fG K mJ is wt dQ v σ H Q) (λσ H Q=>∃t,fT K (dQ t) (tf t) σ H Q) (λσ H Q=>∃t,fE K (dQ t) (te t) σ H Q) σ H Q:=by
 subst hb;rintro σ H Q ⟨sr,q⟩;refine⟨sr,wl.mono (λl q1 J H1 g1 s1 jf D hD=>?_) q⟩;have inj:∀i i' j:Nat,ix[i]?=bd (bd j)->ix[i']?=bd (bd j)->i=i':=λi i' j h1 h2=>by
  have hi:i < N'.length:=by rw [<- S.len];exact (Ak.mp h1).1
  have yQ:i' < N'.length:=by rw [<- S.len];exact (Ak.mp h2).1
  have e1:=(S.at h1 (Ad hi)).1;have e2:=(S.at h2 (Ad yQ)).1;rw [e1] at e2;exact (Ew S.nd).mp (Option.some.inj e2)
 have nD:=s1.noOwn hD;refine⟨λi m σ' ys H'=>∃Å,aW K H' σ fs/\cZ σ fs H H'/\aW K H' σ' (bV ix fs)/\SM ix σ fs σ' (bV ix fs)/\JF K H' J l/\H' D=bd (.lst ys)/\aL K [] H' ys Å/\Å.length<=i/\m=l.length-i/\i<=l.length/\
  (kf (l.drop i) f).run λr=>∀a vs H',cZ σ fs H H'->aW K H' σ fs->H a=bv->H' a=bd (.lst vs)->aL K [] H' vs (Å++r)->Q (.ref a) H',⟨l.length,[],?_⟩,?_⟩
 ·have sm:=kI hD (.lst []);refine⟨s1.same sm,g1.trans (cZ.same sm),(s1.same sm).gq inj,⟨λi t e o=>?_⟩,jf.tk sm.eZ,aR,.nil,A5 _,by simp,A5 _,by simpa using q1⟩;obtain⟨j,h1,h2⟩:=nV e;obtain⟨u,h3,_⟩:=s1.at' j t h2;exact⟨j,h1,h2,by rw [lM h1 h3,h3]⟩
 rintro i m σ2 ys H2 ⟨Å,sO,gO,s2,inn,Rn,hy,vy,ZQ,rfl,hi,q2⟩;refine⟨hy,?_⟩;obtain⟨j1,j2⟩:=Rn.2 H2 (bw.refl H2);by_cases kh:i < l.length
 ·obtain⟨go,yl⟩:=j1 i _ (Ad kh);have ed:=Bs kh;rw [ed] at q2;refine .inr ⟨go,λv H3 y=>?_⟩;obtain⟨sm,vx⟩:=yl v H3 y;have q2:(f l[i]).run λo=>(kf (l.drop (i+1)) f).run λr=>∀a vs H',cZ σ fs H H'->aW K H' σ fs->H a=bv->H' a=bd (.lst vs)->aL K [] H' vs (Å++(o.toList++r))->Q (.ref a) H':=q2;rw [hf] at q2;have s3:=s2.same sm;have sO3:=sO.same sm;have gO3:=gO.trans (cZ.same sm);have hy3:=sm _ _ hy;have vy3:=aL.tk sm.eZ vy;have jf3:=Rn.tk sm.eZ;refine⟨_,s3,vx,(wt l[i]).mono (λt q4 us g4 s4=>?_) q2⟩;have Ru:SM ix σ fs (qP is us σ2) (dQ t):=⟨λj u e o=>by
   rcases (hl t).2 j u e with⟨_,z⟩ | ⟨n,z⟩
   ·rw [z] at o;cases o
   ·obtain⟨j',k1,k2,k3⟩:=inn.own j u z o;exact⟨j',k1,k2,by rw [qO n];exact k3⟩⟩
  refine⟨t,s4,(tf t).mono (λkk q5 H5 g5 s5=>?_) q4⟩;obtain⟨sO5,adM⟩:=Ru.out sO3 g5 s5;have gO5:=gO3.trans adM;have tk5:=g5.eL s4;have nD4:¬dG (qP is us σ2) (dQ t) D:=λz=>nD (Ru.vO z);have hy5:=g5.o4 hy3 nD4;have vy5:=aL.tk tk5 vy3;have jf5:=jf3.tk (g5.eL s4);have Ë:∀{H6:Hp},aW K H6 (qP is us σ2) (dQ t)->aW K H6 (qP is us σ2) (bV ix fs)/\SM ix σ fs (qP is us σ2) (bV ix fs):=λ{H6} z=>⟨z.le (hr t),⟨λj u e o=>Ru.own j u ((hr t).at j u e) o⟩⟩;cases kk with
  | false=>
   refine tI ⟨l.length-(i+1),by omega,Å,sO5,gO5,(Ë s5).1,(Ë s5).2,jf5,hy5,vy5,by omega,rfl,kh,?_⟩;exact q5
  | true=>
   refine tH ⟨t,s5,(te t).mono (λv6 q6 u6 H6 g6 s6 v6'=>?_) q5⟩;obtain⟨sO6,adL⟩:=Ru.out sO5 g6 s6;have gO6:=gO5.trans adL;have tk6:=g6.eL s5;have Zt:=g6.o4 hy5 nD4;have vy6:=aL.tk tk6 vy5;have tkD:=lj (K:=K) (.lst (ys++[u6])) Zt;have hD0:=g1.there D hD;refine⟨Zt,by rw [vy6.length];have:=Rn.1;omega,l.length-(i+1),by omega,Å++[v6],sO6.side nD Zt _,gO6.side hD0 _,((Ë s6).1).side (λz=>nD ((Ë s6).2.vO z)) Zt _,(Ë s6).2,(jf5.tk (g6.eL s5)).tk (lj _ Zt),aR,aL.tk tkD (vy6.append (.cons v6' .nil)),by rw [Ae];simp;omega,rfl,kh,?_⟩;refine (kf (l.drop (i+1)) f).mono (λr q7 a vs H7 g7 s7 n e v7=>q7 a vs H7 g7 s7 n e ?_) q6;simpa using v7
 ·have e:i=l.length:=by omega
  subst e;rw [Ex] at q2;exact .inl ⟨j2,q2 D ys H2 gO sO (g1.there D hD) hy (by simpa using vy)⟩
end
end
end FL
namespace L2
open PySem PySem.Spec PyProof.Rows
def pD (l:db) (items:Array ci) (n:Nat) (b:db) (cq:Array ci) (n2:Nat) (sl:Array (Option ci)) (hc0:¬(!items.isEmpty&&Builtin.List.listTooLong (items.size+cq.size))=true) (hc1:items.size<=sizeLine) (qo:items.size+cq.size<=sizeLine+1) :
  Meets (Da.«list.extend» ⟨[.ref l,.ref b],[]⟩) (λ_ R s=>s.heap.get? l=bd {cls:=.type "list",dict:=bv,data:=.seq items n,slots:=#[]}/\s.heap.get? b=bd {cls:=.type "list",dict:=bv,data:=.seq cq n2,slots:=sl}/\R (.ok (.ret AW)) {s with heap:=s.heap.update l (Bl λx=>x++cq),toks:=s.toks}):=
 .of_wp λprog w A R s h=>by
  obtain⟨hp,g,d,tk,os⟩:=s;obtain⟨hl,hb,h⟩:=h;have f1:=ED;have f2:=Dl;have f3:=DB;have f4:=Ds;have f5:=Du;have GA:(items++cq).size<=sizeLine+1:=by rw [Eg];exact qo
  wp_walk using (DC hl rfl (hz:=hc1) (_hz':=GA)),BX hl,BX hb;exact⟨_,rfl,h⟩
def YE (K:Ab):V->List V->Hp->VK->Prop:=λx vs H Q=>∃l b xs zs,x=.ref l/\vs=[.ref b]/\H l=bd (.lst xs)/\(cU K H b zs\/d9 K H b zs)/\xs.length+zs.length<=sizeLine/\xR H l (.lst (xs++zs)) (Q .aU)
theorem Q4 (K:Ab) (hK:X.K=K):Ju X "list.extend" (YE K):=by
 subst hK;intro Z s σ H x vs v us Q I rx rv h;obtain⟨l,b,xs,zs,rfl,rfl,hH,hB | hB,hz,q⟩:=h
 ·cases rx;obtain⟨u,rfl,ru⟩:=rv.one;cases ru;obtain⟨z,au,n,r,hl,e⟩:=I.oy hH;obtain⟨cD,r2,⟨⟨cls,dd,data,sl⟩,n2,e2,hc,hd,jw⟩,z2⟩:=I.list hB;simp only at hc hd jw;subst hc hd jw;have Kk:=r2.length;have hsz:au.toArray.size+cD.toArray.size<=sizeLine:=by rw [Ai,Ai];omega
  have rP:¬(!au.toArray.isEmpty&&Builtin.List.listTooLong (au.toArray.size+cD.toArray.size))=true:=by
   rw [jd hsz,D7];exact AU
  refine u8 D1 ⟨_,e,rfl⟩ DK (Dr _ _)
   (pD l au.toArray n b cD.toArray n2 sl rP (by rw [Ai];omega) ∅) ⟨e,e2,?_⟩
  refine⟨.aU,_,I.Gh (its':=au++cD) hH e (by simp) (r.append r2) ?_,rfl,q.at⟩;rw [Ae];omega
 ·exact yD Z s σ H _ _ v us Q I rx rv ⟨l,b,xs,zs,rfl,rfl,hH,hB,hz,q⟩
end L2
variable {wi we:FL.W PL.PV}{ei:BN}
namespace FL
section
open PySem PySem.Spec PyProof.Rows L2 PL
variable {K:Ab}
section
variable {T2:Type}{wt:PV->W T2}{dQ:T2->bA}{tf:T2->W Bool}{te:T2->W PV}
def Vx (hc:X.calm=true) (S:aA X.env.scope X.N sc N' ix) (hi:pU X K fs tg iter wl) (hg:∀cl C s2 H2 fp,GF (gq X sc N' cl C s2 H2 fp) K (bV ix fs) tg is wt dQ) (ZJ:∀cl C s2 H2 fp t,FF (gq X sc N' cl C s2 H2 fp) K (dQ t) Ê (tf t)) (he:∀cl C s2 H2 fp t,EF (gq X sc N' cl C s2 H2 fp) K (dQ t) Ä (te t))
  (hf:∀p,f p=.bind (wt p) λt=>.bind (tf t) λk=>if k=true then .bind (te t) λv=>.ret (bd v) else .ret bv) (hl:uc is (bV ix fs) dQ/\∀t,jD (dQ t) (bV ix fs)) (tN:∀j∈is,ix[j]?=bd bv) (hs:∀x,f8 iter X.env x=pure x:=by intro _;rfl) :
  LF X K fs (.ListComp Ä [⟨tg,iter,Ê,0⟩] sc pos) (.bind wl λl=>kf l f):=
 ⟨PE.imp (YQ hc S hi.p (λcl C s2 H2 fp=>(hg cl C s2 H2 fp).p) (λcl C s2 H2 fp Z s σ H Q I ⟨t,q⟩=>(ZJ cl C s2 H2 fp t).p Z s σ H Q I q) (λcl C s2 H2 fp Z s σ H Q I ⟨t,q⟩=>(he cl C s2 H2 fp t).p Z s σ H Q I q) hs) (N5 S rfl hf hl.1 hl.2 tN)⟩
def Ti {f:PV->W PV} (hc:X.calm=true) (S:aA X.env.scope X.N sc N' ix) (hi:pU X K fs tg iter wl) (hg:∀cl C s2 H2 fp,GF (gq X sc N' cl C s2 H2 fp) K (bV ix fs) tg is wt dQ) (he:∀cl C s2 H2 fp t,EF (gq X sc N' cl C s2 H2 fp) K (dQ t) Ä (te t))
  (hf:∀p,f p=.bind (wt p) te) (hl:uc is (bV ix fs) dQ/\∀t,jD (dQ t) (bV ix fs)) (tN:∀j∈is,ix[j]?=bd bv) (hs:∀x,f8 iter X.env x=pure x:=by intro _;rfl) :
  LF X K fs (.ListComp Ä [⟨tg,iter,[],0⟩] sc pos) (.bind wl λl=>mapW l f):=by
 have:(λl=>mapW l f)=λl=>kf l λp=>.bind (wt p) λt=>.bind (.ret true) λk=>if k=true then .bind (te t) λv=>.ret (bd v) else .ret bv:=funext λl=>by
  rw [vU];congr 1;funext p;rw [hf];rfl
 rw [this];exact Vx (tf:=λ_=>.ret true) hc S hi hg (λ_ _ _ _ _ _=>N2) he (λp=>rfl) hl tN hs
def SF.S4 {rest:List t0}{out:T->End}{k:List PV->W T} (hc:X.calm=true) (hN:X.N.Nodup) (yQ:X.N[i]?=bd y) (hx:X.env.scope.names.lookup y=bd .local) (S:aA X.env.scope X.N sc N' ix) (hi:pU X K fs tg iter wl) (hg:∀cl C s2 H2 fp,GF (gq X sc N' cl C s2 H2 fp) K (bV ix fs) tg is wt dQ) (ZJ:∀cl C s2 H2 fp t,FF (gq X sc N' cl C s2 H2 fp) K (dQ t) Ê (tf t)) (he:∀cl C s2 H2 fp t,EF (gq X sc N' cl C s2 H2 fp) K (dQ t) Ä (te t))
  (hf:∀p,f p=.bind (wt p) λt=>.bind (tf t) λk=>if k=true then .bind (te t) λv=>.ret (bd v) else .ret bv) (hl:uc is (bV ix fs) dQ/\∀t,jD (dQ t) (bV ix fs)) (tN:∀j∈is,ix[j]?=bd bv) (hr:∀l,SF X K x (fs.set i (bd (.ol bv l))) rest (k l) out)
  (pF:lw (.ListComp Ä [⟨tg,iter,Ê,0⟩] sc pos) (bd (.Name y px)) mV.line X.env=pure true:=by rfl) (hs:∀x,f8 iter X.env x=pure x:=by intro _;rfl) :
  SF X K x fs (.Assign [.Name y px] (.ListComp Ä [⟨tg,iter,Ê,0⟩] sc pos) mV::rest) (.bind (.bind wl λl=>kf l f) k) out:=
 SF.step (yk hc hN yQ hx S hi.p (λcl C s2 H2 fp=>(hg cl C s2 H2 fp).p) (λcl C s2 H2 fp Z s σ H Q I ⟨t,q⟩=>(ZJ cl C s2 H2 fp t).p Z s σ H Q I q) (λcl C s2 H2 fp Z s σ H Q I ⟨t,q⟩=>(he cl C s2 H2 fp t).p Z s σ H Q I q) pF hs) λD σ H ⟨sr,q⟩=>
  N5 (K:=K) S rfl hf hl.1 hl.2 tN σ H _ ⟨sr,(am wl λl=>kf l f).mono (λl q1 a ws H1 g1 s1 n e v1=>by
   have no:=sr.noOwn n;have s2:=s1.qU (t:=.ol bv l) ⟨by simp,ws,e,v1⟩ no i;exact⟨_,k l,hr l,s2,(k l).mono (λt q2=>q2.go (cL.qU s1 g1.f no n i) sr s2) q1⟩) q⟩
theorem v8:∀{l:bA}{i:Nat} (s:Option SL),l[i]?=bd bv->jD (l.set i s) l
 | [],_,_,h=>by simp at h
 | x::l,0,s,h=>by
  simp at h;subst h;exact .drop (jD.refl l)
 | x::l,i+1,s,h=>by
  rw [List.set_cons_succ];exact .keep (v8 s (by simpa using h))
def jD.trans {a b c:bA} (h1:jD a b) (h2:jD b c):jD a c:=by
 induction h1 generalizing c with
 | nil=>exact h2
 | drop h ih=>cases h2 with | drop h2=>exact .drop (ih h2) | keep h2=>exact .drop (ih h2)
 | keep h ih=>cases h2 with | drop h2=>exact .drop (ih h2) | keep h2=>exact .keep (ih h2)
def rD {l:bA}{is:List Nat} (hl:l.length=mJ.length/\∀(j:Nat) (s:SL),l[j]?=bd (bd s)->(j∈is/\s.own=false)\/(j∉is/\mJ[j]?=bd (bd s))) (hi:mJ[i]?=bd bv) :
  (l.set i (bd (.val v))).length=mJ.length/\∀(j:Nat) (s:SL),(l.set i (bd (.val v)))[j]?=bd (bd s)->(j∈is++[i]/\s.own=false)\/(j∉is++[i]/\mJ[j]?=bd (bd s)):=by
 refine⟨by rw [BS];exact hl.1,λj s e=>?_⟩;rcases ba e with⟨rfl,rfl⟩ | ⟨n,e⟩
 ·exact .inl ⟨by simp,rfl⟩
 ·rcases hl.2 j s e with⟨h1,h2⟩ | ⟨h1,h2⟩
  ·exact .inl ⟨by simp [h1],h2⟩
  ·exact .inr ⟨by simp [h1,n],h2⟩
def Tg (mJ:bA):mJ.length=mJ.length/\∀(j:Nat) (s:SL),mJ[j]?=bd (bd s)->(j∈([]:List Nat)/\s.own=false)\/(j∉([]:List Nat)/\mJ[j]?=bd (bd s)):=⟨rfl,λj s e=>.inr ⟨by simp,e⟩⟩
def Nh (hi:mJ[i]?=bd bv):uc [i] mJ (λp=>mJ.set i (bd (.val p)))/\∀t,jD (mJ.set i (bd (.val t))) mJ:=⟨λt=>rD (is:=[]) (Tg mJ) hi,λt=>v8 _ hi⟩
def Me {l:bA}{s:Option SL} (h:l[j]?=bd bv) (n:j≠i):(l.set i s)[j]?=bd bv:=by rw [aK n];exact h
def Gq (hi:mJ[i]?=bd bv) (hj:mJ[j]?=bd bv) (n:j≠i):uc [i,j] mJ (λt:PV×PV=>(mJ.set i (bd (.val t.1))).set j (bd (.val t.2)))/\∀t:PV×PV,jD ((mJ.set i (bd (.val t.1))).set j (bd (.val t.2))) mJ:=
 ⟨λt=>rD (is:=[i]) (rD (is:=[]) (Tg mJ) hi) hj,λt=>(v8 _ (Me hj n)).trans (v8 _ hi)⟩
end
section
variable {rest:List t0}{T:Type}{out:T->End}
def c7 (sr:aW K H σ fs) (hs:fs[i]?=bd (bd (.ol q0 l))):∃a ws,σ[i]?=bd (bd (.ref a))/\H a=bd (.lst ws)/\aL K [] H ws l:=by
 obtain⟨u,e1,r⟩:=sr.at' i _ hs;rcases r with⟨v,e,_⟩ | ⟨a,e,z,ws,q1,q2⟩
 ·cases e
 ·subst e;exact⟨a,ws,e1,q1,q2⟩
def jM {pq:List V}{l':List PV} (sr:aW K H σ fs) (hs:fs[i]?=bd (bd (.ol q0 l))) (e1:σ[i]?=bd (bd (.ref a))) (sx:nZ a H H') (h':H' a=bd (.lst pq)) (r:aL K [] H pq l'):aW K H' σ (fs.set i (bd (.ol q0 l')))/\cL σ fs H σ (fs.set i (bd (.ol q0 l'))) H':=
 mm (t':=.ol q0 l') sr hs rfl (by simp) e1 sx λtk=>⟨(sr.ownAt hs rfl e1).1,pq,h',aL.tk tk r⟩
def hX (l:List PV) (v:PV):W (List PV):=.fM (l.length < sizeLine) (.ret (l++[v]))
theorem SF.append (i:Nat) {k:List PV->W T} (hs:fs[i]?=bd (bd (.ol q0 l))) (hK:X.K=K) (hN:X.N[i]?=bd y) (hv:xt X.env.scope y) (he:EF X K fs e we) (hr:∀l',SF X K x (fs.set i (bd (.ol q0 l'))) rest (k l') out)
  (hd:(y==("__debug__":Str))=false:=by decide) (iL:(y==("__classdict__":Str))=false:=by decide) (dZ:py (.Name y p) "append" X.env (kt (.Name y p) X.env)=kt (.Name y p) X.env:=by rfl)
  (mw:((kw bt (ce [e] X.env)).all (λx=>!x.1)&&(Fa bt (wv [] X.env)).all (λx=>x.1.isSome)
   && decide ([e].length+([]:List tz).length+(if ([]:List tz).isEmpty then 0 else 1) < 30))=true:=by rfl)
  (dY:(Â.endLine==bt.line)=true:=by rfl) (pG:ce [e] X.env=(false,kt e X.env)::ce [] X.env:=by rfl) (eB:(kw bt (ce [] X.env)).any (·.1)=false:=by rfl)
  (pF:lw (.Call (.Attribute (.Name y p) "append" Â) [e] [] bt) bv pos.line X.env=pure false:=by rfl) :
  SF X K x fs (.Expr (.Call (.Attribute (.Name y p) "append" Â) [e] [] bt) pos::rest) (.bind we λv=>.bind (hX l v) k) out:=
 SF.step (mY (om K hK Bw Ej Ei rm (dj hN hv hd iL) (bh he.p cC pG) dZ mw dY pG eB) pF) λD σ H ⟨sr,q⟩=>by
  obtain⟨a,ws,e1,h1,r1⟩:=c7 sr hs;refine⟨_,e1,.inl ⟨rfl,_,cU.of h1⟩,sr,we.mono (λv q1 u H1 g1 s1 v1=>?_) q⟩;obtain⟨a',pq,mK,hU,xF⟩:=c7 s1 hs;rw [e1] at mK;cases mK;refine⟨a,pq,u,rfl,rfl,hU,by rw [xF.length];exact q1.1,λH2 sx h2=>?_⟩;obtain⟨s2,g2⟩:=jM s1 hs e1 sx h2 (xF.append (.one v1));exact⟨_,k _,hr _,s2,(k _).mono (λt q2=>q2.go (g1.f.trans g2) sr s2) q1.2⟩
def se (l m:List PV):W (List PV):=.fM (l.length+m.length<=sizeLine) (.ret (l++m))
theorem SF.extend (i:Nat) {k:List PV->W T} (hs:fs[i]?=bd (bd (.ol q0 l))) (hK:X.K=K) (hN:X.N[i]?=bd y) (hv:xt X.env.scope y) (he:QF X K fs e wl) (hr:∀l',SF X K x (fs.set i (bd (.ol q0 l'))) rest (k l') out)
  (hd:(y==("__debug__":Str))=false:=by decide) (iL:(y==("__classdict__":Str))=false:=by decide) (dZ:py (.Name y p) "extend" X.env (kt (.Name y p) X.env)=kt (.Name y p) X.env:=by rfl)
  (mw:((kw bt (ce [e] X.env)).all (λx=>!x.1)&&(Fa bt (wv [] X.env)).all (λx=>x.1.isSome)
   && decide ([e].length+([]:List tz).length+(if ([]:List tz).isEmpty then 0 else 1) < 30))=true:=by rfl)
  (dY:(Â.endLine==bt.line)=true:=by rfl) (pG:ce [e] X.env=(false,kt e X.env)::ce [] X.env:=by rfl) (eB:(kw bt (ce [] X.env)).any (·.1)=false:=by rfl)
  (pF:lw (.Call (.Attribute (.Name y p) "extend" Â) [e] [] bt) bv pos.line X.env=pure false:=by rfl) :
  SF X K x fs (.Expr (.Call (.Attribute (.Name y p) "extend" Â) [e] [] bt) pos::rest) (.bind wl λm=>.bind (se l m) k) out:=
 SF.step (mY (om K hK Bw PySem.F.slot_list_extend PySem.F.type_list_extend (Q4 K hK) (dj hN hv hd iL) (bh he.p cC pG) dZ mw dY pG eB) pF) λD σ H ⟨sr,q⟩=>by
  obtain⟨a,ws,e1,h1,r1⟩:=c7 sr hs;refine⟨_,e1,.inl ⟨rfl,_,cU.of h1⟩,sr,wl.mono (λm q1 u H1 g1 s1 v1=>?_) q⟩;obtain⟨a',pq,mK,hU,xF⟩:=c7 s1 hs;rw [e1] at mK;cases mK;obtain⟨b,zs,rfl,hb,rb⟩:=v1.sq s1;refine⟨a,b,pq,zs,rfl,rfl,hU,hb,by rw [xF.length,rb.length];exact q1.1,λH2 sx h2=>?_⟩;obtain⟨s2,g2⟩:=jM s1 hs e1 sx h2 (xF.append rb);exact⟨_,k _,hr _,s2,(k _).mono (λt q2=>q2.go (g1.f.trans g2) sr s2) q1.2⟩
def tq (l:List PV):W (List PV×PV):=match l.getLast? with
 | some v=>.ret (l.dropLast,v)
 | none=>.fail
def Mb {l:List PV} (h:l.getLast?=bd v):l=l.dropLast++[v]:=by
 rw [List.getLast?_eq_some_iff] at h;obtain⟨ys,rfl⟩:=h;simp
theorem aL.snoc:∀{ws:List V}{l:List PV}{v:PV},aL K [] H ws (l++[v])->∃W3 u,ws=W3++[u]/\aL K [] H W3 l/\VR K [] H u v
 | _,[],_,.cons r .nil=>⟨[],_,rfl,.nil,r⟩
 | _,x::l,v,.cons r t=>by
  obtain⟨W3,u,rfl,h1,h2⟩:=aL.snoc t;exact⟨_::W3,u,rfl,.cons r h1,h2⟩
def SF.qX (i j:Nat) {z:Str}{k:List PV×PV->W T} (hs:fs[i]?=bd (bd (.ol q0 l))) (hij:j≠i) (hK:X.K=K) (hN:X.N[i]?=bd y) (hv:xt X.env.scope y) (hNd:X.N.Nodup) (hj:X.N[j]?=bd z) (hx:Loc X.env.scope z) (hr:∀t:List PV×PV,SF X K x ((fs.set i (bd (.ol q0 t.1))).set j (bd (.val t.2))) rest (k t) out)
  (hd:(y==("__debug__":Str))=false:=by decide) (iL:(y==("__classdict__":Str))=false:=by decide) (dZ:py (.Name y p) "pop" X.env (kt (.Name y p) X.env)=kt (.Name y p) X.env:=by rfl) (dY:(Â.endLine==bt.line)=true:=by rfl)
  (pF:lw (.Call (.Attribute (.Name y p) "pop" Â) [] [] bt) (bd (.Name z p')) pos.line X.env=pure false:=by rfl) (hf:X.fn z=true\/X.env.scope.names.lookup z=bd .local:=by first | exact .inl rfl | exact .inr rfl | assumption) :
  SF X K x fs (.Assign [.Name z p'] (.Call (.Attribute (.Name y p) "pop" Â) [] [] bt) pos::rest) (.bind (tq l) k) out:=
 SF.step (qV hNd hj hx (QG K hK Bw PySem.F.slot_list_pop PySem.F.type_list_pop Q2 (dj hN hv hd iL) dZ dY) pF hf) λD σ H ⟨sr,q⟩=>by
  obtain⟨a,ws,e1,h1,r1⟩:=c7 sr hs;have q:(tq l).run λt=>(k t).run λt=>bP K x σ fs H D (out t):=q;unfold tq at q;cases hl:l.getLast? with
  | none=>rw [hl] at q;exact q.elim
  | some v=>
   rw [hl] at q;have el:=Mb hl;rw [el] at r1;obtain⟨W3,u,rfl,r0,ru⟩:=aL.snoc r1;refine⟨_,e1,.inl ⟨rfl,_,cU.of h1⟩,a,W3,u,rfl,rfl,h1,λH2 sx h2=>?_⟩;obtain⟨s2,g2⟩:=jM sr hs e1 sx h2 r0;have ru2:VR K [] H2 u v:=g2.vr sr ru;have s3:=s2.fR ru2 j;exact⟨_,k _,hr (l.dropLast,v),s3,(k _).mono (λt q2=>q2.go (g2.trans (cL.fR s2 _ _ j)) sr s3) q⟩
def gh (l:List PV) (i v:PV):W (List PV):=match i with
 | .int k=>match nu l.length k with
  | some j=>.ret (l.set j v)
  | none=>.fail
 | _=>.fail
def SF.FR (i:Nat) {k:List PV->W T} (hs:fs[i]?=bd (bd (.ol q0 l))) (hN:X.N[i]?=bd y) (hv:xt X.env.scope y) (he:EF X K fs e we) (hi:EF X K fs ei wi) (hr:∀l',SF X K x (fs.set i (bd (.ol q0 l'))) rest (k l') out)
  (ha:∀v,xz (.Subscript (.Name y p) ei gc) X.env v=(do
   let ov <- sn [v] (kt (.Name y p) X.env)
   let iv <- sn [v,ov] (kt ei X.env)
   Gf gc
   sn [v,ov,iv] (Ev ov iv v)
   release [v,ov,iv] []):=by intro _;rfl)
  (hd:(y==("__debug__":Str))=false:=by decide) (iL:(y==("__classdict__":Str))=false:=by decide) (Zw:FS [.Subscript (.Name y p) ei gc] e pos.line X.env=pure false:=by rfl) (hw:Gc [.Subscript (.Name y p) ei gc] e X.env=pure bv:=by rfl)
  (h1:(ww [.Subscript (.Name y p) ei gc] X.env).map (·.2)=[xz (.Subscript (.Name y p) ei gc) X.env]:=by rfl) :
  SF X K x fs (.Assign [.Subscript (.Name y p) ei gc] e pos::rest) (.bind we λv=>.bind wi λn=>.bind (gh l n v) k) out:=
 SF.step (vI he.p (MC (dj hN hv hd iL) hi.p n9 ha) Zw hw h1) λD σ H ⟨sr,q⟩=>by
  refine⟨sr,we.mono (λv q1 u H1 g1 s1 v1=>?_) q⟩;obtain⟨a,ws,e1,h1,r1⟩:=c7 s1 hs;refine⟨_,e1,s1,wi.mono (λn q2 u2 H2 g2 s2 v2=>?_) q1⟩;obtain⟨a',pq,mK,hU,xF⟩:=c7 s2 hs;rw [e1] at mK;cases mK;cases v2 with
  | int kk=>
   have q2:(match nu l.length kk with | some j=>bm (l.set j v) | none=>W.fail).run _:=q2;cases hj:nu l.length kk with
   | none=>rw [hj] at q2;exact q2.elim
   | some j=>
    rw [hj] at q2;refine⟨a,pq,kk,j,rfl,rfl,hU,by rw [xF.length];exact hj,λH3 sx h3=>?_⟩;obtain⟨s3,g3⟩:=jM s2 hs e1 sx h3 (xF.set (g2.vr s1 v1) j);exact⟨_,k _,hr _,s3,(k _).mono (λt q3=>q3.go ((g1.trans g2).f.trans g3) sr s3) q2⟩
  | _=>exact q2.elim
end
end
end FL
variable {x:BZ}
namespace FL
section
open PySem PySem.Spec PyProof.Rows L2 PL
variable {K:Ab}
def hV:List AK->List PV->bA
 | [],_=>[]
 | .v::ks,x::l=>bd (.val x)::hV ks l
 | .v::_,[]=>[]
 | .p φ::ks,l=>bd (.kn φ)::hV ks l
 | .f a::ks,l=>bd (.adr a)::hV ks l
def jB (ks:List AK) (l:List PV) (n:Nat):bA:=hV ks l++Al (n-ks.length) bv
def jC (ks:List AK):Prop:=∀i j:Nat,(∃φ,ks[i]?=bd (.p φ))->(∃φ,ks[j]?=bd (.p φ))->i=j
theorem jF:∀{n:Nat}{m:Pp R n}{l:List PV}{Q:R->Prop},(cp n m l).run Q->l.length=n
 | 0,_,[],_,_=>rfl
 | 0,_,_::_,_,h=>h.elim
 | n+1,_,[],_,h=>h.elim
 | n+1,m,x::l,Q,h=>by rw [Ao,jF (n:=n) (m:=m x) h]
section
theorem iX.len (h:iX K H vs ks l):vs.length=ks.length:=by induction h <;> simp_all
def iX.slot (h:iX K H vs ks l):(hV ks l).length=vs.length/\∀(i:Nat) (s:SL),(hV ks l)[i]?=bd (bd s)->∃u,vs[i]?=bd u/\u7 K H u s/\(s.own=true->∃φ,s=.kn φ/\ks[i]?=bd (.p φ)):=by
 induction h with
 | nil=>exact⟨rfl,λi s e=>by simp [hV] at e⟩
 | @v u x vs ks l r t ih=>
  refine⟨by simp [hV,ih.1],λi s e=>?_⟩;cases i with
  | zero=>simp [hV] at e;subst e;exact⟨u,rfl,.inl ⟨x,rfl,r⟩,λz=>by cases z⟩
  | succ i=>simp [hV] at e;obtain⟨w,h1,h2,h3⟩:=ih.2 i s e;exact⟨w,by simpa using h1,h2,by simpa using h3⟩
 | @p a φ ws vs ks l e0 r t ih=>
  refine⟨by simp [hV,ih.1],λi s e=>?_⟩;cases i with
  | zero=>simp [hV] at e;subst e;exact⟨_,rfl,.inr ⟨a,rfl,ws,e0,r⟩,λ_=>⟨φ,rfl,rfl⟩⟩
  | succ i=>simp [hV] at e;obtain⟨w,h1,h2,h3⟩:=ih.2 i s e;exact⟨w,by simpa using h1,h2,by simpa using h3⟩
 | @f a vs ks l t ih=>
  refine⟨by simp [hV,ih.1],λi s e=>?_⟩;cases i with
  | zero=>simp [hV] at e;subst e;exact⟨_,rfl,.inr ⟨a,rfl,rfl⟩,λz=>by cases z⟩
  | succ i=>simp [hV] at e;obtain⟨w,h1,h2,h3⟩:=ih.2 i s e;exact⟨w,by simpa using h1,h2,by simpa using h3⟩
def iX.UW (h:iX K H vs ks l) (e:ks[i]?=bd (.p φ)):(hV ks l)[i]?=bd (bd (.kn φ)):=by
 induction h generalizing i with
 | nil=>simp at e
 | v r t ih=>cases i with | zero=>simp at e | succ i=>simp [hV];exact ih (by simpa using e)
 | p e0 r t ih=>cases i with | zero=>simp at e;subst e;rfl | succ i=>simp [hV];exact ih (by simpa using e)
 | f t ih=>cases i with | zero=>simp at e | succ i=>simp [hV];exact ih (by simpa using e)
theorem nW {s:SL} (h:(jB ks l n)[i]?=bd (bd s)):(hV ks l)[i]?=bd (bd s):=by
 unfold jB at h;by_cases c:i < (hV ks l).length
 ·rw [AD c] at h;exact h
 ·rw [AE ∅,Bx] at h
  split at h <;> cases h
def lq {N:List Str} (h:vs[i]?=bd u):(L2.start N vs)[i]?=bd (bd u):=by
 unfold L2.start;rw [AD (by rw [Af];exact (Ak.mp h).1),Ag,h];rfl
def um {N:List Str} (h:(L2.start N vs)[i]?=bd (bd u)):vs[i]?=bd u:=by
 unfold L2.start at h;by_cases c:i < vs.length
 ·rw [AD (by simpa using c),Ag] at h;cases z:vs[i]? with
  | none=>rw [z] at h;cases h
  | some q=>rw [z] at h;cases h;rfl
 ·rw [AE (by simpa using c),Bx] at h
  split at h <;> cases h
def iX.beg (h:iX K H vs ks l) (one:jC ks) (N:List Str):aW K H (L2.start N vs) (jB ks l N.length):=by
 obtain⟨hl,hs⟩:=h.slot;refine⟨?_,λi s e=>?_,λi j s t x y a e1 e2 o1 o2 q1 q2 z1 z2=>?_⟩
 ·unfold L2.start jB;rw [Ae,Ae,Af,hl,Ba,Ba,h.len]
 ·obtain⟨u,h1,h2,_⟩:=hs i s (nW e);exact⟨u,lq h1,h2⟩
 ·obtain⟨_,_,_,h3⟩:=hs i s (nW e1);obtain⟨_,_,_,h4⟩:=hs j t (nW e2);obtain⟨φ,_,k1⟩:=h3 o1;obtain⟨ψ,_,k2⟩:=h4 o2;exact one i j ⟨φ,k1⟩ ⟨ψ,k2⟩
def iX.go (h:iX K H vs ks l) {N:List Str} (g:cL (L2.start N vs) (jB ks l N.length) H σ' bL H') (s':aW K H' σ' bL):GoC vs ks H H':=by
 obtain⟨hl,hs⟩:=h.slot;refine⟨λa o e n=>(g.keep a o e λz=>?_).1,g.there,λa φ p=>?_⟩
 ·obtain⟨i,s,x,e1,e2,e3,e4⟩:=z;obtain⟨u,h1,h2,h3⟩:=hs i s (nW e1);obtain⟨φ,rfl,k⟩:=h3 e2;rcases e4 with rfl | e4
  ·exact n φ ⟨i,k,um e3⟩
  ·cases e4
 ·obtain⟨i,e1,e2⟩:=p;have e3:=h.UW e1;have hi:=(Ak.mp e3).1;have e4:(jB ks l N.length)[i]?=bd (bd (.kn φ)):=by unfold jB;rw [AD hi];exact e3
  rcases g.pk a φ ⟨i,e4,lq e2⟩ with⟨j,k1,k2⟩ | ⟨_,k⟩
  ·exact s'.ownAt k1 rfl k2
  ·exact k
end
section
variable {st:t0}{f:db}{N:List Str}
def fnV {m:Pp PV n} (Fn:Po K x qual st f fd) (S:aq N ps (ag st)) (pH:ks.length=ps.length) (one:jC ks)
  (Ã:∀l:List PV,l.length=n->∀(cM:ci) (A:ss) (outer:List Env) (s:dL) (H:Hp) (E:XK),cX k (A.deeper (sK qual (ag st) s.heap.objs.size f cM))->SF (jz lO P w K mg base N qual (ag st) f cM A outer s H E).xG K false (jB ks l N.length) (bo st) (cp n m l) .rt) :
  gm P w K mg base lO (k+1) f fd ps (eM K ks (cp n m)):=by
 refine Fn.ok S (λvs H Q E h=>?_) (λcM A outer s H vs Q E hr h=>?_)
 ·obtain⟨l,h,_⟩:=h;rw [h.len];exact pH
 obtain⟨l,h,q⟩:=h;refine⟨_,(Ã l (jF q) cM A outer s H E hr).p,h.beg one N,(cp n m l).mono (λv q1 u σ' bL H' g s' r=>q1 u H' (h.go g s') r) q⟩
def fnL {m:Pp (List PV) n} (Fn:Po K x qual st f fd) (S:aq N ps (ag st)) (pH:ks.length=ps.length) (one:jC ks)
  (Ã:∀l:List PV,l.length=n->∀(cM:ci) (A:ss) (outer:List Env) (s:dL) (H:Hp) (E:XK),cX k (A.deeper (sK qual (ag st) s.heap.objs.size f cM))->SF (jz lO P w K mg base N qual (ag st) f cM A outer s H E).xG K false (jB ks l N.length) (bo st) (cp n m l) .rl) :
  gm P w K mg base lO (k+1) f fd ps (fP K ks (cp n m)):=by
 refine Fn.ok S (λvs H Q E h=>?_) (λcM A outer s H vs Q E hr h=>?_)
 ·obtain⟨l,h,_⟩:=h;rw [h.len];exact pH
 obtain⟨l,h,q⟩:=h;have sr:=h.beg one N;refine⟨_,(Ã l (jF q) cM A outer s H E hr).p,sr,(cp n m l).mono (λz q1 a ws σ' bL H' g s' fr e r=>q1 a ws H' (h.go g s') ?_ e r) q⟩;rcases fr with fr | ⟨i,t,x,e1,e2,np,e3,e4⟩
 ·exact fr
 ·obtain⟨_,_,_,h3⟩:=h.slot.2 i t (nW e1);obtain⟨φ,e,_⟩:=h3 e2;exact absurd e (np φ)
end
def de:jC []:=λi j ⟨_,h⟩=>by simp at h
def gn (h:jC ks):jC (.v::ks):=λi j ⟨φ,a⟩ ⟨ψ,b⟩=>by
 cases i with
 | zero=>simp at a
 | succ i=>
  cases j with
  | zero=>simp at b
  | succ j=>rw [h i j ⟨φ,by simpa using a⟩ ⟨ψ,by simpa using b⟩]
def kK {fa:db} (h:jC ks):jC (.f fa::ks):=λi j ⟨φ,a⟩ ⟨ψ,b⟩=>by
 cases i with
 | zero=>simp at a
 | succ i=>
  cases j with
  | zero=>simp at b
  | succ j=>rw [h i j ⟨φ,by simpa using a⟩ ⟨ψ,by simpa using b⟩]
def aE:jC (.p φ::Al n .v):=λi j ⟨χ,a⟩ ⟨ψ,b⟩=>by
 have z:∀{i:Nat}{χ:List V->Prop},(AK.p φ::Al n .v)[i]?=bd (.p χ)->i=0:=λ{i χ} a=>by
  cases i with
  | zero=>rfl
  | succ i=>
   have a:(Al n AK.v)[i]?=bd (.p χ):=by simpa using a
   rw [Bx] at a
   split at a <;> simp at a
 rw [z a,z b]
end
end FL
namespace L2
open PySem PySem.Spec PyProof.Rows
def YH (K:Ab):R2:=λx y H Q=>∃a b xs zs,x=.ref a/\y=.ref b/\cU K H a xs/\cU K H b zs/\xs.length+zs.length<=sizeLine/\kN H (.lst (xs++zs)) Q
theorem QO (K:Ab) (hK:X.K=K):hJ X (sw .Add) (YH K):=by
 subst hK;intro Z s σ H x y v u Q I rx ry h;obtain⟨l,b,xs,zs,rfl,rfl,hH,hB,hz,q⟩:=h;cases rx;cases ry;obtain⟨au,r,⟨⟨cls,dd,data,sl⟩,n,ho,hc,hd,jw⟩,_⟩:=I.list hH;obtain⟨cD,r2,⟨⟨WD,Sk,data2,Pg⟩,n2,Kj,NM,Î,TJ⟩,_⟩:=I.list hB;simp only at hc hd jw NM Î TJ;subst hc hd jw NM Î TJ;have e:au.toArray++cD.toArray=(au++cD).toArray:=by simp
 have hl:=r.length;have Kk:=r2.length;refine concat_meets ⟨_,ho,rfl⟩ ⟨_,Kj,rfl⟩ noFill_list_add seq_list_add PySem.F.slot_list_add PySem.F.entry_list_add (PySem.F.args_list_add_2 _ _) (list_addW l b au.toArray cD.toArray n n2 bv bv sl Pg (by simp;omega)) ⟨ho,Kj,?_⟩;rw [e];exact⟨.ref _,_,I.Vt (t':=s.toks) (r.append r2) (by rw [Ae];omega),rfl,q.at _ I.fresh⟩
end L2
variable {hi:FL.W (Option Int)}{neg:Bool}
namespace FL
section
open PySem PySem.Spec PyProof.Rows L2 PL
variable {K:Ab}
section
variable {a c:lm}{w:W PV}{wm:W (List PV)}
def xg (l m:List PV):W (List PV):=.fM (l.length+m.length<=sizeLine) (.ret (l++m))
def fQL (K:Ab) (fs:bA) (w:W (List PV)):TE:=λσ H Q=>aW K H σ fs/\w.run λl=>∀u H',cZ σ fs H H'->aW K H' σ fs->SH K σ fs H' u l->(∀Ā,cZ σ fs H' Ā->aW K Ā σ fs->∃a vs,u=.ref a/\cU K Ā a vs/\aL K [] Ā vs l)->Q u H'
structure xB (X:Cx) (K:Ab) (fs:bA) (e:lm) (w:W (List PV)):Prop where p:PE X e (fQL K fs w)
def bX (h:LF X K fs e wl):xB X K fs e wl:=⟨PE.imp h.p λσ H Q ⟨sr,q⟩=>⟨sr,wl.mono (λl q1 a vs H1 g1 s1 n e v=>q1 _ H1 g1 s1 (.inr ⟨a,rfl,.inl ⟨sr.noOwn n,vs,e,v⟩⟩) λH2 g2 s2=>⟨a,vs,rfl,cU.of (g2.o4 e (sr.noOwn n)),g2.Lv s1 v⟩) q⟩⟩
def qT (i:Nat) (hs:fs[i]?=bd (bd (.ol q0 l)):=by rfl) (hN:X.N[i]?=bd x:=by rfl) (hv:xt X.env.scope x:=by first | exact CB rfl | exact Cs (CB rfl) | exact Cs (Cs rfl)) (hd:(x==("__debug__":Str))=false:=by decide) (iL:(x==("__classdict__":Str))=false:=by decide):xB X K fs (.Name x pos) (.ret l):=
 ⟨PE.imp (dj hN hv hd iL) λσ H Q ⟨sr,q⟩=>by
  obtain⟨a,ws,e1,h1,r1⟩:=c7 sr hs;refine⟨_,e1,q _ H .refl sr (.inr ⟨a,rfl,.inr ⟨i,q0,hs,e1⟩⟩) λH2 g2 s2=>?_⟩;obtain⟨a',pq,mK,hU,xF⟩:=c7 s2 hs;rw [e1] at mK;cases mK;exact⟨a,pq,rfl,cU.of hU,xF⟩⟩
def yH:PV->W (List PV)
 | .cl l=>.ret l
 | _=>.fail
def qS (h:EF X K fs e w):xB X K fs e (.bind w yH):=⟨PE.imp h.p λσ H Q ⟨sr,q⟩=>⟨sr,w.mono (λx q1 u1 H1 g1 s1 v1=>by
 cases v1 with
 | cl e r=>exact q1 _ H1 g1 s1 (.inl ⟨_,_,rfl,.inl e,r⟩) λH2 g2 s2=>⟨_,_,rfl,((g2.eL s1).f _ _ e).sq,g2.Lv s1 r⟩
 | _=>exact q1.elim) q⟩⟩
def uD (hK:X.K=K) (ha:xB X K fs a wl) (hb:xB X K fs b wm):LF X K fs (.BinOp a .Add b pos) (.bind wl λl=>.bind wm λm=>xg l m):=⟨PE.imp (Im (QO K hK) ha.p hb.p) λσ H Q ⟨sr,q⟩=>⟨sr,wl.mono (λl q1 u1 H1 g1 s1 _ v1=>⟨s1,wm.mono (λm q2 u2 H2 g2 s2 _ v2=>by
 obtain⟨a,vs,rfl,h1,r1⟩:=v1 H2 g2 s2;obtain⟨b,ws,rfl,h2,r2⟩:=v2 H2 .refl s2;refine⟨a,b,vs,ws,rfl,rfl,h1,h2,by rw [r1.length,r2.length];exact q2.1,λp H3 s3 h3 n3=>?_⟩;have gg:=g1.trans g2;exact q2.2 p _ H3 (gg.trans (cZ.same s3)) (s2.same s3) (gg.there p n3) h3 (aL.tk s3.eZ (r1.append r2))) q1⟩) q⟩⟩
def Iz {Q:VK} (g1:cZ σ fs H H1) (s1:aW K H1 σ fs) (r:aL K [] H1 vs l) (q:∀a vs H',cZ σ fs H H'->aW K H' σ fs->H a=bv->H' a=bd (.lst vs)->aL K [] H' vs l->Q (.ref a) H'):kN H1 (.lst vs) Q:=λp H2 s2 h2 n2=>q p vs H2 (g1.trans (cZ.same s2)) (s1.same s2) (g1.there p n2) h2 (aL.tk s2.eZ r)
def Nf (K:Ab):CL K (Mo K) .ret:=λ{fs σ H Q u l} s v q=>by
 obtain⟨a,vs,rfl,h,rs⟩:=v.sq s;exact⟨a,vs,rfl,h,Iz .refl s rs q⟩
def Vw (hK:X.K=K) (hg:Gl X "list") (hm:X.mg "list"=bv) (ha:QF X K fs e wl) (he:ce [e] X.env=(false,kt e X.env)::ce [] X.env:=by rfl) (dH:(kw pos (ce [] X.env)).any (·.1)=false:=by rfl):LF X K fs (.Call (.Name "list" p) [e] [] pos) wl:=Nk (m:=.ret) (Hl K hK) (Nf K) hg hm boot_list ha ⋯ ⋯ he dH
def dg (hK:X.K=K) (hg:Gl X "tuple") (hm:X.mg "tuple"=bv) (ha:QF X K fs e wl) (he:ce [e] X.env=(false,kt e X.env)::ce [] X.env:=by rfl) (dH:(kw pos (ce [] X.env)).any (·.1)=false:=by rfl):EF X K fs (.Call (.Name "tuple" p) [e] [] pos) (.bind wl kF):=KU (K4 K hK) (PK K) hg hm boot_tuple ha ⋯ ⋯ he dH
def mE (hK:X.K=K) (hg:Gl X "len") (hm:X.mg "len"=bv) (ha:QF X K fs e wl) (he:ce [e] X.env=(false,kt e X.env)::ce [] X.env:=by rfl) (dH:(kw pos (ce [] X.env)).any (·.1)=false:=by rfl):EF X K fs (.Call (.Name "len" p) [e] [] pos) (.bind wl oA):=OA (uT K hK) (Ra K) hg hm boot_len ha ⋯ ⋯ he dH
def O5 (ha:EF X K fs e w) (he:ce [e] X.env=(false,kt e X.env)::ce [] X.env):AF X K fs [e] (Al 1 .v) (R:=R) (λk=>.bind w λx=>k [x]):=af ha ak he
def cW (hK:X.K=K) (hg:Gl X "len") (hm:X.mg "len"=bv) (ha:EF X K fs e w) (he:ce [e] X.env=(false,kt e X.env)::ce [] X.env:=by rfl) (dH:(kw pos (ce [] X.env)).any (·.1)=false:=by rfl):EF X K fs (.Call (.Name "len" p) [e] [] pos) (.bind w λx=>qf dF [x]):=qu (n:=1) (uT K hK) (Sw K) hg hm boot_len (O5 ha he) ⋯ ⋯ he dH
def aak (hg:Gl X "abs") (hm:X.mg "abs"=bv) (ha:EF X K fs e w) (he:ce [e] X.env=(false,kt e X.env)::ce [] X.env:=by rfl) (dH:(kw pos (ce [] X.env)).any (·.1)=false:=by rfl):EF X K fs (.Call (.Name "abs" p) [e] [] pos) (.bind w λx=>qf OX [x]):=qu (n:=1) OS Sz hg hm boot_abs (O5 ha he) ⋯ ⋯ he dH
def qt (hg:Gl X "int") (hm:X.mg "int"=bv) (ha:EF X K fs e w) (he:ce [e] X.env=(false,kt e X.env)::ce [] X.env:=by rfl) (dH:(kw pos (ce [] X.env)).any (·.1)=false:=by rfl):EF X K fs (.Call (.Name "int" p) [e] [] pos) (.bind w λx=>qf sJ [x]):=Oz (n:=1) La Sx hg hm boot_int (O5 ha he) ⋯ ⋯ he dH
def aaf (hc:X.calm=true) (hg:Gl X "max") (hm:X.mg "max"=bv) (ha:EF X K fs a wa) (hb:EF X K fs b wb) (he:ce [a,b] X.env=(false,kt a X.env)::ce [b] X.env:=by rfl) (ZM:ce [b] X.env=(false,kt b X.env)::ce [] X.env:=by rfl) (dH:(kw pos (ce [b] X.env)).any (·.1)=false:=by rfl):EF X K fs (.Call (.Name "max" p) [a,b] [] pos) (.bind wa λx=>.bind wb λy=>qf OW [x,y]):=qu (n:=2) (K6 hc) Sv hg hm boot_max (af ha (af hb ak ZM) he) ⋯ ⋯ he dH
def aae (hc:X.calm=true) (hg:Gl X "min") (hm:X.mg "min"=bv) (ha:EF X K fs a wa) (hb:EF X K fs b wb) (he:ce [a,b] X.env=(false,kt a X.env)::ce [b] X.env:=by rfl) (ZM:ce [b] X.env=(false,kt b X.env)::ce [] X.env:=by rfl) (dH:(kw pos (ce [b] X.env)).any (·.1)=false:=by rfl):EF X K fs (.Call (.Name "min" p) [a,b] [] pos) (.bind wa λx=>.bind wb λy=>qf OV [x,y]):=qu (n:=2) (K5 hc) Su hg hm boot_min (af ha (af hb ak ZM) he) ⋯ ⋯ he dH
def Th (hK:X.K=K) (hc:X.calm=true) (Ġ:Gl X "list") (ě:X.mg "list"=bv) (ğ:Gl X "reversed") (Xe:X.mg "reversed"=bv) (he:xB X K fs e wl)
  (zL:ce [.Call (.Name "reversed" p3) [e] [] p4] X.env=(false,kt (.Call (.Name "reversed" p3) [e] [] p4) X.env)::ce [] X.env:=by rfl) (qo:ce [e] X.env=(false,kt e X.env)::ce [] X.env:=by rfl) :
  LF X K fs (.Call (.Name "list" p1) [.Call (.Name "reversed" p3) [e] [] p4] [] p2) (.bind wl λl=>.ret l.reverse):=⟨PE.imp (FV K hK hc Ġ ě ğ Xe he.p zL qo) λσ H Q ⟨sr,q⟩=>⟨sr,wl.mono (λl q1 u1 H1 g1 s1 _ v1=>by
 obtain⟨a,vs,rfl,h1,r1⟩:=v1 H1 .refl s1;exact⟨a,vs,rfl,h1,Iz g1 s1 r1.reverse q1⟩) q⟩⟩
def Xr:List PV->W (List Bool)
 | []=>.ret []
 | .bl b::r=>.bind (Xr r) λl=>.ret (b::l)
 | _=>.fail
theorem xi:∀{l:List PV}{Q:List Bool->Prop},(Xr l).run Q->∃bs:List Bool,l=bs.map PV.bl/\Q bs
 | [],Q,h=>⟨[],rfl,h⟩
 | .bl b::r,Q,h=>by
  obtain⟨bs,e,q⟩:=xi (l:=r) h;exact⟨b::bs,by rw [e];rfl,q⟩
 | .aU::r,Q,h=>h.elim
 | .int _::r,Q,h=>h.elim
 | .str _::r,Q,h=>h.elim
 | .tup _::r,Q,h=>h.elim
 | .ref _::r,Q,h=>h.elim
 | .ty _::r,Q,h=>h.elim
 | .cl _::r,Q,h=>h.elim
@[simp] theorem xj:∀bs:List Bool,Xr (bs.map PV.bl)=.ret bs
 | []=>rfl
 | b::bs=>by
  show am (Xr (bs.map PV.bl)) _=_;rw [xj bs];rfl
def xl (l:List PV):W PV:=.bind (Xr l) λbs=>.ret (.bl (bs.all id))
def O2 (l:List PV):W PV:=.bind (Xr l) λbs=>.ret (.bl (bs.any id))
def zi (hK:X.K=K) (hc:X.calm=true) (hg:Gl X "all") (hm:X.mg "all"=bv) (ha:xB X K fs e wl) (he:ce [e] X.env=(false,kt e X.env)::ce [] X.env:=by rfl) (dH:(kw pos (ce [] X.env)).any (·.1)=false:=by rfl):EF X K fs (.Call (.Name "all" p) [e] [] pos) (.bind wl xl):=⟨PE.imp (eP (Lc K hK hc) hg hm boot_all (bh ha.p cC he) ⋯ ⋯ he dH) λσ H Q ⟨sr,q⟩=>⟨sr,wl.mono (λl q1 u1 H1 g1 s1 _ v1=>by
 obtain⟨bs,e,q2⟩:=xi (l:=l) q1;obtain⟨a,vs,rfl,h1,r1⟩:=v1 H1 .refl s1;rw [e] at r1;have:=oT r1;subst this;exact⟨a,bs,rfl,h1,q2 _ H1 g1 s1 (.bl _)⟩) q⟩⟩
def aaj (hK:X.K=K) (hc:X.calm=true) (hg:Gl X "any") (hm:X.mg "any"=bv) (ha:xB X K fs e wl) (he:ce [e] X.env=(false,kt e X.env)::ce [] X.env:=by rfl) (dH:(kw pos (ce [] X.env)).any (·.1)=false:=by rfl):EF X K fs (.Call (.Name "any" p) [e] [] pos) (.bind wl O2):=⟨PE.imp (eP (Lb K hK hc) hg hm boot_any (bh ha.p cC he) ⋯ ⋯ he dH) λσ H Q ⟨sr,q⟩=>⟨sr,wl.mono (λl q1 u1 H1 g1 s1 _ v1=>by
 obtain⟨bs,e,q2⟩:=xi (l:=l) q1;obtain⟨a,vs,rfl,h1,r1⟩:=v1 H1 .refl s1;rw [e] at r1;have:=oT r1;subst this;exact⟨a,bs,rfl,h1,q2 _ H1 g1 s1 (.bl _)⟩) q⟩⟩
def dJ (k:Kd) (x:PV):W PV:=match x with
 | .ref _=>.fail
 | .ty _=>.fail
 | x=>.ret (.bl (k.is x))
def S7 (K:Ab):List V->Hp->VK->Prop:=λxs H Q=>∃x c t b,xs=[x,.ty c]/\(lS K H x t\/(t=.type "tuple"/\∃a vs,x=.ref a/\d9 K H a vs)\/(t=.type "list"/\∃a vs,x=.ref a/\cU K H a vs)\/(t=.type "dict"/\∃a,x=.ref a/\IsD H a))/\Bz K t (.type c)=bd b/\Q (.bl b) H
def K8 (hK:X.K=K):bQ X (.builtin "isinstance") (S7 K):=by
 subst hK;intro Z s σ H xs us Q I r h;obtain⟨x,c,t,b,rfl,ty | ty | ⟨rfl,a,vs,rfl,hL⟩ | ⟨rfl,a,rfl,hD⟩,e,q⟩:=h
 ·exact o9 Z s σ H _ us Q I r ⟨x,c,t,b,rfl,ty,e,q⟩
 ·exact K7 X.K rfl Z s σ H _ us Q I r ⟨x,c,t,b,rfl,.inr ty,e,q⟩
 ·obtain⟨u,w,rfl,r1,r2⟩:=vals2 r;cases r1;cases r2;obtain⟨au,_,⟨o,n,h1,h2,_⟩,_⟩:=I.list hL;exact Bd Ea I.tG ⟨o,h1,h2⟩ e (λz=>nomatch z) λtk=>⟨.bl b,H,I.tok _,rfl,q⟩
 ·obtain⟨u,w,rfl,r1,r2⟩:=vals2 r;cases r1;cases r2;have:∃o,s.heap.get? a=bd o/\o.cls=.type "dict":=by
   rcases hD with⟨kvs,e⟩ | ⟨kvs,e⟩
   ·obtain⟨_,_,vs,_,o,_,_,h1,h2,_⟩:=sD I.bG e;exact⟨o,h1,h2.1⟩
   ·obtain⟨_,_,xs,_,o,_,_,h1,h2,_⟩:=sC I.bG e;exact⟨o,h1,h2.1⟩
  obtain⟨o,h1,h2⟩:=this;exact Bd Eb I.tG ⟨o,h1,h2⟩ e (λz=>nomatch z) λtk=>⟨.bl b,H,I.tok _,rfl,q⟩
def cP (hK:X.K=K) (k:Kd) (hg:Gl X "isinstance") (hm:X.mg "isinstance"=bv) (ha:EF X K fs a wa) (hgx:Gl X x) (hmx:X.mg x=bv) (hv:nw x=bd (.type k.name)) (hn:x≠"__name__":=by decide) (hd:(x==("__debug__":Str))=false:=by decide)
  (he:ce [a,.Name x p2] X.env=(false,kt a X.env)::ce [.Name x p2] X.env:=by rfl) (ZM:ce [Expr.Name x p2] X.env=(false,kt (.Name x p2) X.env)::ce [] X.env:=by rfl)
  (dH:(kw pos (ce [Expr.Name x p2] X.env)).any (·.1)=false:=by rfl):EF X K fs (.Call (.Name "isinstance" p) [a,.Name x p2] [] pos) (.bind wa (dJ k)):=
 ⟨PE.imp (eP (K8 hK) hg hm boot_isinstance (bh ha.p (bh (QH (v:=.ty k.name) hgx hmx hv rfl hn hd) cC ZM) he) ⋯ ⋯ he dH) λσ H Q ⟨sr,q⟩=>⟨sr,wa.mono (λx q1 u1 H1 g1 s1 v1=>by
  have fin:∀{t:ci}{y:PV},lS K H1 u1 t->Bz K t (.type k.name)=bd (k.is y)->Q (.bl (k.is y)) H1->S7 K [u1,.ty k.name] H1 Q:=λty e q=>⟨_,_,_,_,rfl,.inl ty,e,q⟩;cases v1 with
  | aU=>exact fin (y:=.aU) .aU (by rw [(qk K).1 k];cases k <;> rfl) (q1 _ H1 g1 s1 (.bl _))
  | bl b=>exact fin (.bl b) (VF K b k) (q1 _ H1 g1 s1 (.bl _))
  | int b=>exact fin (.int b) (Rl K b k) (q1 _ H1 g1 s1 (.bl _))
  | str b=>exact fin (.str b) (Rk K b k) (q1 _ H1 g1 s1 (.bl _))
  | ty n=>exact q1.elim
  | ref n=>exact q1.elim
  | @dk a o kvs ks l e k1 r=>exact⟨_,_,_,_,rfl,.inr (.inr (.inr ⟨rfl,_,rfl,.inl ⟨_,.inr ⟨_,e⟩⟩⟩)),(show _=bd (k.is (.dv ks l)) by rw [(qk K).2.2 k];cases k <;> rfl),q1 _ H1 g1 s1 (.bl _)⟩
  | @dt a o kvs ks l e k1 r=>exact⟨_,_,_,_,rfl,.inr (.inr (.inr ⟨rfl,_,rfl,.inr ⟨_,.inr ⟨_,e⟩⟩⟩)),(show _=bd (k.is (.dv ks l)) by rw [(qk K).2.2 k];cases k <;> rfl),q1 _ H1 g1 s1 (.bl _)⟩
  | @cl p vs l e r=>exact⟨_,_,_,_,rfl,.inr (.inr (.inl ⟨rfl,_,_,rfl,e.sq⟩)),(show _=bd (k.is (.cl l)) by rw [(qk K).2.1 k];cases k <;> rfl),q1 _ H1 g1 s1 (.bl _)⟩
  | @tup p vs l e r=>exact⟨_,_,_,_,rfl,.inr (.inl ⟨rfl,_,_,rfl,d9.of e⟩),Rj K _ k,q1 _ H1 g1 s1 (.bl _)⟩) q⟩⟩
def yg (l:List PV):PV->W (List PV)
 | .int k=>.fM (-(2 ^ 63)<=k/\k < 2 ^ 63/\l.length*k.toNat<=sizeLine) (.ret (Al k.toNat l).flatten)
 | _=>.fail
def Nj (ha:LF X K fs a wl) (hb:EF X K fs b wb):LF X K fs (.BinOp a .Mult b pos) (.bind wl λl=>.bind wb λy=>yg l y):=⟨PE.imp (Im U8 ha.p hb.p) λσ H Q ⟨sr,q⟩=>⟨sr,wl.mono (λl q1 a vs H1 g1 s1 n e v=>⟨s1,wb.mono (λy q2 u2 H2 g2 s2 v2=>by
 cases v2 with
 | int k=>
  have no:=sr.noOwn n;have e2:=(g2.o4 e no);have r2:=g2.Lv s1 v;refine⟨a,k,vs,rfl,rfl,e2,q2.1.1,q2.1.2.1,by rw [r2.length];exact q2.1.2.2,λp hp=>?_⟩;have sm:=kI hp (.lst (Al k.toNat vs).flatten);have gg:=g1.trans g2;exact q2.2 p _ _ (gg.trans (cZ.same sm)) (s2.same sm) (gg.there p hp) aR (aL.tk sm.eZ (r2.rep k.toNat))
 | _=>exact q2.elim) q1⟩) q⟩⟩
def part:PV->W (Option Int)
 | .int i=>.ret (bd i)
 | _=>.fail
def q9:OF X K fs bv (.ret bv):=⟨PO.imp Qy λσ H Q ⟨sr,q⟩=>q H .refl sr⟩
def q8 (h:EF X K fs e w):OF X K fs (bd e) (.bind w part):=⟨PO.imp (Qx h.p) λσ H Q ⟨sr,q⟩=>⟨sr,w.mono (λx q1 u1 H1 g1 s1 v1=>by
 cases v1 with
 | int i=>exact⟨_,rfl,q1 H1 g1 s1⟩
 | _=>exact q1.elim) q⟩⟩
def iA (h:xB X K fs e wl):∀σ H Q,fE K fs (.bind wl λl=>.ret (.bl (if neg then !l.isEmpty else l.isEmpty))) σ H Q->S0 (λx y H Q=>∃p q xs,x=.ref p/\y=.ref q/\cU K H p xs/\cU K H q []/\Q (.bl (if neg then !xs.isEmpty else xs.isEmpty)) H) (fQL K fs wl) (fL K fs (.ret [])) σ H Q:=λσ H Q ⟨sr,q⟩=>
 ⟨sr,wl.mono (λl q1 u1 H1 g1 s1 _ v1=>⟨s1,λa2 vs2 H2 g2 s2 n2 e2 r2=>by
  cases r2;obtain⟨a,vs,rfl,h1,r1⟩:=v1 H2 g2 s2;refine⟨a,a2,vs,rfl,rfl,h1,cU.of e2,?_⟩;rw [Ol r1];exact q1 _ H2 (g1.trans g2) s2 (.bl _)⟩) q⟩
def IG:LF X K fs (.List [] pos) (.ret []):=Tj (n:=0) ak
theorem aai (hK:X.K=K) (hu:X.A.units+200 < o0) (h:xB X K fs e wl) (hk:mo .Eq (.List [] p2)=false:=by rfl):EF X K fs (.Compare e [.Eq] [.List [] p2] pos) (.bind wl λl=>.ret (.bl l.isEmpty)):=⟨PE.imp (qa (qZ K hK ∅) h.p IG.p hk) (iA (neg:=false) h)⟩
theorem aad (hK:X.K=K) (hu:X.A.units+200 < o0) (h:xB X K fs e wl) (hk:mo .NotEq (.List [] p2)=false:=by rfl):EF X K fs (.Compare e [.NotEq] [.List [] p2] pos) (.bind wl λl=>.ret (.bl (!l.isEmpty))):=⟨PE.imp (qa (qY K hK ∅) h.p IG.p hk) (iA (neg:=true) h)⟩
theorem SX (hK:X.K=K) (hu:X.A.units+200 < o0) (h:xB X K fs e wl) (hk:mo .Eq (.List [] p2)=false:=by rfl):TF X K fs (.Compare e [.Eq] [.List [] p2] pos) (.bind wl λl=>.ret l.isEmpty):=⟨PT.imp (pZ (qZ K hK ∅) h.p IG.p hk) λσ H Q q=>iA (neg:=false) h σ H _ (RU (w:=.bind wl λl=>.ret (.bl l.isEmpty)) σ H Q q)⟩
theorem LW (hK:X.K=K) (hu:X.A.units+200 < o0) (h:xB X K fs e wl) (hk:mo .NotEq (.List [] p2)=false:=by rfl):TF X K fs (.Compare e [.NotEq] [.List [] p2] pos) (.bind wl λl=>.ret (!l.isEmpty)):=⟨PT.imp (pZ (qY K hK ∅) h.p IG.p hk) λσ H Q q=>iA (neg:=true) h σ H _ (RU (w:=.bind wl λl=>.ret (.bl (!l.isEmpty))) σ H Q q)⟩
def o5:List PV->W (List Int)
 | []=>.ret []
 | .int i::r=>.bind (o5 r) λl=>.ret (i::l)
 | _=>.fail
theorem lG:∀{l:List PV}{Q:List Int->Prop},(o5 l).run Q->∃ns:List Int,l=ns.map PV.int/\Q ns
 | [],Q,h=>⟨[],rfl,h⟩
 | .int b::r,Q,h=>by
  obtain⟨bs,e,q⟩:=lG (l:=r) h;exact⟨b::bs,by rw [e];rfl,q⟩
 | .aU::r,Q,h=>h.elim
 | .bl _::r,Q,h=>h.elim
 | .str _::r,Q,h=>h.elim
 | .tup _::r,Q,h=>h.elim
 | .ref _::r,Q,h=>h.elim
 | .ty _::r,Q,h=>h.elim
 | .cl _::r,Q,h=>h.elim
@[simp] theorem lH:∀bs:List Int,o5 (bs.map PV.int)=.ret bs
 | []=>rfl
 | b::bs=>by
  show am (o5 (bs.map PV.int)) _=_;rw [lH bs];rfl
end
end
section
open PySem PySem.Spec PyProof.Rows L2 PL
variable {K:Ab}
abbrev b2 (m:M2) (wa wb:W PV):W PV:=.bind wa λx=>.bind wb λy=>of2 m x y
abbrev t2 (m:M2) (wa wb:W PV):W Bool:=.bind wa λx=>.bind wb λy=>.bind (of2 m x y) Xt
abbrev c1 (m:xI) (w:W PV):W PV:=.bind w λx=>qf m [x]
abbrev bf (wl:W (List PV)) (wb:W PV):W PV:=.bind wl λl=>.bind wb λy=>IP l y
abbrev sY (a b:W Bool):W Bool:=.bind a λk=>if k=true then b else .ret false
abbrev PQ (a b:W Bool):W Bool:=.bind a λk=>if k=true then .ret true else b
abbrev mT (a:W Bool):W Bool:=.bind a λk=>.ret (!k)
abbrev dB {α:Type} (t:W Bool) (a b:W α):W α:=.bind t λk=>if k=true then a else b
section
variable {a c:lm}{rest:List t0}{S T T2:Type}{hd:S->bA}{s0:S}{w:W PV}{wt:PV->W T2}{dQ:S->T2->bA}{k:S->W T}{out:T->End}{x:Bool}
def SF.tT {f:PV->S->W S} (hp:Db (d5 X.prog X.w) X.A X.env X.xe) (hc:X.calm=true) (hi:pU X K fs tg iter wl) (hl:jD fs (hd s0)) (hg:PG X tg (dI i)) (hb:∀s p,SF X K false ((hd s).set i (bd (.val p))) body (f p s) λs'=>.nc (hd s')) (hr:∀s,SF X K x (hd s) rest (k s) out) (hs:∀x,f8 iter X.env x=pure x:=by intro _;rfl) :
  SF X K x fs (.For tg iter body [] pos::rest) (.bind wl λl=>.bind (dN l s0 f) k) out:=SF.for (wt:=.ret) (wb:=λp s=>f p s) hp hc hi hl (λs=>V8 hg) (λ_ _=>rfl) hb hr hs
def SF.RQ {wb:T2->S->W S} (hp:Db (d5 X.prog X.w) X.A X.env X.xe) (hc:X.calm=true) (hi:pU X K fs tg iter wl) (hl:jD fs (hd s0)) (hg:∀s,GF X K (hd s) tg is wt (dQ s)) (hb:∀s t,SF X K false (dQ s t) body (wb t s) λs'=>.nc (hd s')) (hr:∀s,SF X K x (hd s) rest (k s) out) (hs:∀x,f8 iter X.env x=pure x:=by intro _;rfl) :
  SF X K x fs (.For tg iter body [] pos::rest) (.bind wl λl=>.bind (dN l s0 λp s=>.bind (wt p) λt=>wb t s) k) out:=SF.for hp hc hi hl hg (λ_ _=>rfl) hb hr hs
def SF.NX {inj:R->T}{f:PV->S->W (Lp S R)} (hp:Db (d5 X.prog X.w) X.A X.env X.xe) (hc:X.calm=true) (hi:pU X K fs tg iter wl) (hl:jD fs (hd s0)) (hg:PG X tg (dI i)) (ho:∀t,(out (inj t)).IU) (hb:∀s p,SF X K false ((hd s).set i (bd (.val p))) body (f p s) (Zb hd λr=>out (inj r))) (hr:∀s,SF X K x (hd s) rest (k s) out) (hs:∀x,f8 iter X.env x=pure x:=by intro _;rfl) :
  SF X K x fs (.For tg iter body [] pos::rest) (.bind wl λl=>.bind (FL.mz l s0 f) (zM k inj)) out:=SF.mz (wt:=.ret) (wb:=λp s=>f p s) hp hc hi hl (λs=>V8 hg) (λ_ _=>rfl) ho hb hr hs
def SF.Yn {fs3:T2->bA}{k:T2->W T} (he:EF X K fs e we) (hg:GF X K fs tg is wt fs3) (hr:∀t,SF X K x (fs3 t) rest (k t) out) (hs:FS [tg] e pos.line X.env=pure false:=by rfl) (hw:Gc [tg] e X.env=pure bv:=by rfl)
  (h1:(ww [tg] X.env).map (·.2)=[xz tg X.env]:=by rfl):SF X K x fs (.Assign [tg] e pos::rest) (.bind we λv=>.bind (wt v) k) out:=SF.step (vI he.p hg.p hs hw h1) λD σ H ⟨sr,q⟩=>
 ⟨sr,we.mono (λv q1 u H1 g1 s1 v1=>⟨v,s1,v1,(wt v).mono (λt q2 us g2 s2=>⟨_,k t,hr t,s2,(k t).mono (λt' q3=>q3.go (g1.f.trans g2) sr s2) q2⟩) q1⟩) q⟩
def qK (v:PV):W PV:=.fM (v.dat=true) (.ret v)
def LS (l:List PV):W (List PV):=.fM (tX l=true) (.ret l)
mutual
theorem VR.jX {ι:List db}{H H':Hp} (t:∀p vs,H p=bd (.tup vs)->H' p=bd (.tup vs)):∀{v:V}{q:PV},VR K ι H v q->q.dat=true->VR K [] H' v q
 | _,_,.aU,_=>.aU
 | _,_,.bl b,_=>.bl b
 | _,_,.int i,_=>.int i
 | _,_,.str x,_=>.str x
 | _,_,.ty n,h=>by rw [PV.dat] at h;cases h
 | _,_,.tup e r,h=>.tup (t _ _ e) (aL.jX t r (by rw [PV.dat] at h;exact h))
 | _,_,.cl e r,h=>by rw [PV.dat] at h;cases h
 | _,_,.dk _ _ _,h=>by rw [PV.dat] at h;cases h
 | _,_,.dt _ _ _,h=>by rw [PV.dat] at h;cases h
 | _,_,.ref e,h=>by rw [PV.dat] at h;cases h
theorem aL.jX {ι:List db}{H H':Hp} (t:∀p vs,H p=bd (.tup vs)->H' p=bd (.tup vs)):∀{v:List V}{q:List PV},aL K ι H v q->tX q=true->aL K [] H' v q
 | _,_,.nil,_=>.nil
 | _,_,.cons r s,h=>by
  rw [tX,AO] at h;exact .cons (VR.jX t r h.1) (aL.jX t s h.2)
end
def bor (I:Inv X Z σ H s) (sr:aW K H σ fs) (hs:fs[i]?=bd (bd (.ol q0 l))):∃a ws ob,Inv X Z σ (upd H a (.cO ob (.lst ws))) s/\aW K (upd H a (.cO ob (.lst ws))) σ (fs.set i (bd (.val (.cl l))))/\
  ∀σ' s' H1,Inv X Z σ' H1 s'->cZ σ (fs.set i (bd (.val (.cl l)))) (upd H a (.cO ob (.lst ws))) H1->aW K H1 σ (fs.set i (bd (.val (.cl l))))->Inv X Z σ' (upd H1 a (.lst ws)) s'/\cZ σ fs H (upd H1 a (.lst ws))/\aW K (upd H1 a (.lst ws)) σ fs/\(∀p vs,H1 p=bd (.tup vs)->upd H1 a (.lst ws) p=bd (.tup vs))/\∀p vs,p≠a->H1 p=bd (.lst vs)->upd H1 a (.lst ws) p=bd (.lst vs):=by
 obtain⟨a,ws,e1,h1,r1⟩:=c7 sr hs;obtain⟨ob,I2⟩:=I.qp h1;have tk:=lj (K:=K) (.cO ob (.lst ws)) h1;have h0:∀o u,X.H₀ a≠bd (.cO o u):=λo u z=>by
  have:=I.base.pL a o u z;rw [h1] at this;cases this
 refine⟨a,ws,ob,I2,⟨by simp [sr.len],λj t z=>?_,λj k t u b1 b2 b z1 z2 o1 o2=>?_⟩,λσ' s' H1 J g s1=>?_⟩
 ·rcases ba z with⟨rfl,rfl⟩ | ⟨n,z⟩
  ·exact⟨_,e1,.inl ⟨_,rfl,.cl (.inl ⟨ob,aR⟩) (aL.tk tk r1)⟩⟩
  ·obtain⟨u,k1,k2⟩:=sr.at' j t z;exact⟨u,k1,k2.mono tk (λx b o eb ow hb zz=>by
    subst eb;rw [aB (λy=>by subst y;exact n (sr.nd j i t _ x b b z hs ow rfl k1 e1 hb (.inl rfl)))];exact zz)⟩
 ·rcases ba z1 with⟨rfl,rfl⟩ | ⟨n1,z1⟩
  ·cases o1
  ·rcases ba z2 with⟨rfl,rfl⟩ | ⟨n2,z2⟩
   ·cases o2
   ·exact sr.nd j k t u b1 b2 b z1 z2 o1 o2
 ·have pf:∀φ b,eW σ (fs.set i (bd (.val (.cl l)))) φ b->eW σ fs φ b:=λφ b ⟨j,z1,z3⟩=>by
   rcases ba z1 with⟨_,z⟩ | ⟨n,z1⟩
   ·cases z
   ·exact⟨j,z1,z3⟩
  have npa:∀φ,¬eW σ fs φ a:=λφ ⟨j,z1,z3⟩=>by
   have:=sr.nd j i _ _ a a a z1 hs rfl rfl z3 e1 (.inl rfl) (.inl rfl);subst this;rw [hs] at z1;cases z1
  have e2:=g.keep a _ aR λφ p=>npa φ (pf φ a p);have hk:=uI J.bG e2;have ge:cZ σ fs H (upd H1 a (.lst ws)):=by
   refine⟨λb o z n=>?_,λb z=>?_⟩
   ·by_cases c:b=a
    ·subst c;rw [h1] at z;cases z;exact aR
    ·rw [aB c];exact g.keep b o (by rw [aB c];exact z) λφ p=>n φ (pf φ b p)
   ·by_cases c:b=a
    ·subst c;rw [aR] at z;cases z
    ·rw [aB c] at z;have:=g.there b z;rw [aB c] at this;exact this
  refine⟨J.X0 e2 h0 (hk a _ aR) hk,ge,⟨sr.len,λj t z=>?_,sr.nd⟩,λp vs z=>?_,λp vs n z=>by rw [aB n];exact z⟩
  ·obtain⟨u,k1,k2⟩:=sr.at' j t z;refine⟨u,k1,?_⟩;by_cases c:∃φ,t=.kn φ
   ·obtain⟨φ,rfl⟩:=c;have ji:j≠i:=λy=>by subst y;rw [hs] at z;cases z
    rcases k2 with⟨v,y,_⟩ | ⟨b,rfl,_⟩
    ·cases y
    ·obtain⟨vs,y1,y2⟩:=s1.ownAt (t:=.kn φ) (i:=j) (by rw [aK ji];exact z) rfl k1;refine .inr ⟨b,rfl,vs,?_,y2⟩;rw [aB (λy=>by subst y;exact npa φ ⟨j,z,k1⟩)];exact y1
   ·refine k2.mono (ge.eL sr) (λx b o eb ow hb zz=>ge.keep b o zz λφ ⟨j',p1,p3⟩=>?_);subst eb;have:=sr.nd j j' t _ x b b z p1 ow rfl k1 p3 hb (.inl rfl);subst this;rw [z] at p1;cases p1;exact c ⟨φ,rfl⟩
  ·rw [aB (λy=>by subst y;rw [e2] at z;cases z)];exact z
def T3 (i:Nat) (hs:fs[i]?=bd (bd (.ol q0 l))) (h:EF X K (fs.set i (bd (.val (.cl l)))) e w):EF X K fs e (.bind w qK):=⟨λZ s σ H Q I ⟨sr,q⟩=>by
 obtain⟨a,ws,ob,I2,s2,Ë⟩:=bor I sr hs;refine bD (h.p Z s σ _ (λu H1=>∃v,cZ σ (fs.set i (bd (.val (.cl l)))) (upd H a (.cO ob (.lst ws))) H1/\aW K H1 σ (fs.set i (bd (.val (.cl l))))/\VR K [] H1 u v/\v.dat=true/\∀u H',cZ σ fs H H'->aW K H' σ fs->VR K [] H' u v->Q u H') I2 ⟨s2,w.mono (λv q1 u H1 g1 s1 v1=>⟨v,g1,s1,v1,q1.1,q1.2⟩) q⟩) λu s1 ⟨x,H1,I1,r1,v,g1,Qj,v1,d,q1⟩=>?_;obtain⟨I3,g3,s3,t3,_⟩:=Ë σ s1 H1 I1 g1 Qj;exact⟨x,_,I3,r1,q1 x _ g3 s3 (VR.jX t3 v1 d)⟩⟩
end
end
end FL
variable {G:List Int->Prop}
namespace FL
section
open PySem PySem.Spec PyProof.Rows L2 PL
variable {K:Ab}
def Yk (K:Ab) (m:List PV->List PV->W (PV×List PV)):Sp:=λvs H Q _=>∃a Pd ws lo l,vs=.ref a::Pd/\H a=bd (.lst ws)/\aL K [] H ws lo/\aL K [] H Pd l/\(m lo l).run λt=>∀u pq H',nZ a H H'->(∀b,H' b=bv->H b=bv)->H' a=bd (.lst pq)->aL K [] H' pq t.2->VR K [] H' u t.1->Q u H'
section
variable {st:t0}{f:db}{N:List Str}
def OT (a:db) (lo l:List PV) (n:Nat):bA:=bd (.ol (bd a) lo)::(l.map λv=>bd (SL.val v))++Al (n-1-l.length) bv
def aL.slot (r:aL K [] H vs l) {s:SL} (h:(l.map λv=>bd (SL.val v))[i]?=bd (bd s)):∃u v,vs[i]?=bd u/\s=.val v/\VR K [] H u v:=by
 rw [Ag] at h;cases e:l[i]? with
 | none=>rw [e] at h;cases h
 | some v=>
  rw [e] at h;obtain⟨u,h1,h2⟩:=r.get e;cases h;exact⟨u,v,h1,rfl,h2⟩
theorem fnO {m:List PV->Pp (PV×List PV) n} (Fn:Po K x qual st f fd) (S:aq N ps (ag st)) (hn:n+1=ps.length)
  (Ã:∀(a:db) (lo l:List PV),l.length=n->∀(cM:ci) (A:ss) (outer:List Env) (s:dL) (H:Hp) (E:XK),cX k (A.deeper (sK qual (ag st) s.heap.objs.size f cM))->SF (jz lO P w K mg base N qual (ag st) f cM A outer s H E).xG K false (OT a lo l N.length) (bo st) (cp n (m lo) l) λt=>.ro t.1 a t.2) :
  gm P w K mg base lO (k+1) f fd ps (Yk K λlo l=>cp n (m lo) l):=by
 refine Fn.ok S (λvs H Q E h=>?_) (λcM A outer s H vs Q E hr h=>?_)
 ·obtain⟨a,Pd,ws,lo,l,rfl,_,_,r,q⟩:=h;rw [Ao,r.length,jF q];exact hn
 obtain⟨a,Pd,ws,lo,l,rfl,ha,iK,r,q⟩:=h;have hl:=jF q;have hr2:=r.length;have RK:∀{i:Nat}{s:SL},(OT a lo l N.length)[i]?=bd (bd s)->(i=0/\s=.ol (bd a) lo)\/∃j u v,i=j+1/\Pd[j]?=bd u/\s=.val v/\VR K [] H u v:=λ{i s} e=>by
  unfold OT at e;cases i with
  | zero=>simp at e;exact .inl ⟨rfl,e.symm⟩
  | succ j=>
   rw [List.cons_append,List.getElem?_cons_succ] at e;by_cases c:j < l.length
   ·rw [AD (by simpa using c)] at e;obtain⟨u,v,h1,h2,h3⟩:=aL.slot r e;exact .inr ⟨j,u,v,rfl,h1,h2,h3⟩
   ·rw [AE (by simpa using c),Bx] at e
    split at e <;> cases e
 have sr:aW K H (L2.start N (.ref a::Pd)) (OT a lo l N.length):=by
  refine⟨?_,λi s e=>?_,λi j s t x y b e1 e2 o1 o2 q1 q2 _ _=>?_⟩
  ·unfold L2.start OT;rw [Ae,Af,Ba,Ae,Ao,Ao,Af,Ba];omega
  ·rcases RK e with⟨rfl,rfl⟩ | ⟨j,u,v,rfl,h1,rfl,h3⟩
   ·exact⟨.ref a,lq rfl,.inr ⟨a,rfl,λb z=>Option.some.inj z,ws,ha,iK⟩⟩
   ·exact⟨u,lq (by simpa using h1),.inl ⟨v,rfl,h3⟩⟩
  ·rcases RK e1 with⟨rfl,rfl⟩ | ⟨j1,u,v,rfl,h1,rfl,h3⟩
   ·rcases RK e2 with⟨rfl,rfl⟩ | ⟨j1,u,v,rfl,h1,rfl,h3⟩
    ·rfl
    ·cases o2
   ·cases o1
 refine⟨_,(Ã a lo l hl cM A outer s H E hr).p,sr,(cp n (m lo) l).mono (λt q1 u σ' bL H' g s' ho rv=>?_) q⟩;obtain⟨i,e⟩:=ho;obtain⟨u',e',r'⟩:=s'.at' i _ e;rcases r' with⟨v,z,_⟩ | ⟨b,rfl,hb,pq,h1,h2⟩
 ·cases z
 have hba:=hb a rfl;subst hba;refine q1 u pq H' (λc o nc e=>(g.keep c o e λz=>?_).1) g.there h1 h2 rv;obtain⟨j,t',x,z1,z2,z3,z4⟩:=z;rcases RK z1 with⟨rfl,rfl⟩ | ⟨j1,u,v,rfl,_,rfl,_⟩
 ·have:=um z3;simp at this;rcases z4 with rfl | z4
  ·exact nc this.symm
  ·cases z4
 ·cases z2
def hZ (G:List Int->Prop):List V->Prop:=λws=>∃ns:List Int,ws=ns.map V.int/\G ns
def UX {m:List PV->List PV->W (PV×List PV)}{mp:List PV->W PV} (F:gm P w K mg base lO k f fd ps (Yk K m)) (hm:∀ns l Q,G ns->(mp l).run Q->(m (ns.map PV.int) l).run λt=>Q t.1/\∃Iy:List Int,t.2=Iy.map PV.int/\G Iy) :
  gm P w K mg base lO k f fd ps (eM K (.p (hZ G)::Al n .v) mp):=F.imp λvs H Q E h=>by
 obtain⟨l,ha,q⟩:=h;cases ha with
 | @p a φ ws vs ks l e r t=>
  obtain⟨ns,rfl,hG⟩:=r;have tv:∀{n:Nat}{vs:List V}{l:List PV},iX K H vs (Al n .v) l->aL K [] H vs l:=by
   intro n
   induction n with
   | zero=>intro vs l h;cases h;exact .nil
   | succ n ih=>intro vs l h;cases h with | v r t=>exact .cons r (ih t)
  refine⟨a,vs,ns.map V.int,ns.map PV.int,l,rfl,e,ny _ _ ns,tv t,(m _ _).mono (λt q1 u pq H' sx hth e' r' rv=>?_) (hm ns l _ hG q)⟩;obtain⟨q1,Iy,et,hG'⟩:=q1;rw [et] at r';have:=lF r';subst this;refine q1 u H' ⟨λb o eb nb=>sx b o (λz=>?_) eb,hth,λb φ p=>?_⟩ rv
  ·subst z;exact nb _ ⟨0,rfl,rfl⟩
  ·obtain⟨i,e1,e2⟩:=p;cases i with
   | zero=>simp at e1 e2;subst e1;subst e2;exact⟨_,e',Iy,rfl,hG'⟩
   | succ i=>
    simp at e1;rw [Bx] at e1
    split at e1 <;> simp at e1
end
section
variable {Pf:List t0}{T:Type}{w:W T}{out:T->End}{x:Bool}
def YL (G:List Int->Prop) (l:List PV) (w:W T):W T:=.fM (∃ns:List Int,l=ns.map PV.int/\G ns) w
def SF.kn (i:Nat) (hs:fs[i]?=bd (bd (.ol bv l))) (hr:SF X K x (fs.set i (bd (.kn (hZ G)))) Pf w out):SF X K x fs Pf (YL G l w) out:=⟨λZ s σ H D I ⟨sr,q⟩=>by
 obtain⟨⟨ns,el,hG⟩,q⟩:=q;obtain⟨a,ws,e1,h1,r1⟩:=c7 sr hs;subst el;have:=lF r1;subst this;obtain⟨s2,g2⟩:=mm (t':=.kn (hZ G)) sr hs rfl (by simp) e1 (λ_ _ _ z=>z:nZ a H H) λtk=>⟨_,h1,ns,rfl,hG⟩;exact hr.p Z s σ H D I ⟨s2,w.mono (λt q2=>q2.go g2 sr s2) q⟩⟩
end
end
end FL
variable {W':FL.W PL.PV}
namespace FL
section
open PySem PySem.Spec PyProof.Rows L2 PL
variable {K:Ab}
abbrev chB (m m':M2) (wa wb wc:W PV):W PV:=.bind wa λx=>.bind wb λy=>.bind (of2 m x y) λz=>k7 z (.bind wc λw=>of2 m' y w)
abbrev chT (m m':M2) (wa wb wc:W PV):W Bool:=.bind wa λx=>.bind wb λy=>.bind (of2 m x y) λz=>.bind (k7 z (.bind wc λw=>of2 m' y w)) Xt
abbrev t4 (wa wb:W PV):W PV:=.bind wa λx=>Lf x wb
abbrev orB (wa wb:W PV):W PV:=.bind wa λx=>orW x wb
abbrev Kz (wl:W (List PV)):W PV:=.bind wl λl=>.ret (.cl l)
abbrev zK (t:W Bool) (w:W PV):W (Option PV):=.bind t λk=>if k=true then .bind w λv=>.ret (bd v) else .ret bv
section
variable {c:lm}{WL:W (List PV)}
def Sb (G:SQ X.prog X.w X.K X.mg X.base x k ps (eM K ks m)) (hr:cX k' X.A) (hk:k<=k') (hg:Gl X x) (ha:AF X K fs (e::es) ks B) (hW:W'=B m) (nA:(x==("__debug__":Str))=false:=by decide)
  (he:ce (e::es) X.env=(false,kt e X.env)::ce es X.env:=by rfl) (dH:(kw pos (ce es X.env)).any (·.1)=false:=by rfl):EF X K fs (.Call (.Name x p) (e::es) [] pos) W':=hW▸Wu G hr hk hg ha nA he dH
def Rh {m:List PV->W (List PV)}{B:(List PV->W (List PV))->W (List PV)} (G:SQ X.prog X.w X.K X.mg X.base x k ps (fP K ks m)) (hr:cX k' X.A) (hk:k<=k') (hg:Gl X x) (ha:AF X K fs (e::es) ks B) (hW:WL=B m) (nA:(x==("__debug__":Str))=false:=by decide)
  (he:ce (e::es) X.env=(false,kt e X.env)::ce es X.env:=by rfl) (dH:(kw pos (ce es X.env)).any (·.1)=false:=by rfl):LF X K fs (.Call (.Name x p) (e::es) [] pos) WL:=hW▸Vy G hr hk hg ha nA he dH
def aV {x1} (h:AF X K fs es (Al n .v) B) (hW:W'=B λl=>.ret (.tup l)) (hn:n<=1000:=by decide):EF X K fs (.Tuple es x1 pos) W':=hW▸aab h hn
def aZ {B:(List PV->W (List PV))->W (List PV)} (h:AF X K fs es (Al n .v) B) (hW:WL=B λl=>.ret l) (hn:n<=1000:=by decide):LF X K fs (.List es pos) WL:=hW▸Tj h hn
variable {T2:Type}{wt:PV->W T2}{dQ:T2->bA}{tf:T2->W Bool}{te:T2->W PV}
def eg {f:PV->W PV} (hc:X.calm=true) (S:aA X.env.scope X.N sc N' ix) (hi:pU X K fs tg iter wl) (hg:∀cl C s2 H2 fp,PG (gq X sc N' cl C s2 H2 fp) tg (dI i)) (he:∀cl C s2 H2 fp t,EF (gq X sc N' cl C s2 H2 fp) K ((bV ix fs).set i (bd (.val t))) Ä (f t)) (h0:ix[i]?=bd bv) (hs:∀x,f8 iter X.env x=pure x:=by intro _;rfl) :
  LF X K fs (.ListComp Ä [⟨tg,iter,[],0⟩] sc pos) (.bind wl λl=>mapW l f):=
 have h1:(bV ix fs)[i]?=bd bv:=by unfold bV;rw [Ag,h0];rfl
 Ti hc S hi (λcl C s2 H2 fp=>V8 (hg cl C s2 H2 fp)) he (λ_=>rfl) (Nh h1) (λj hj=>by rw [AR] at hj;subst hj;exact h0) hs
def uC {tf:PV->W Bool}{te:PV->W PV} (hc:X.calm=true) (S:aA X.env.scope X.N sc N' ix) (hi:pU X K fs tg iter wl) (hg:∀cl C s2 H2 fp,PG (gq X sc N' cl C s2 H2 fp) tg (dI i)) (hf:∀cl C s2 H2 fp t,TF (gq X sc N' cl C s2 H2 fp) K ((bV ix fs).set i (bd (.val t))) c (tf t)) (he:∀cl C s2 H2 fp t,EF (gq X sc N' cl C s2 H2 fp) K ((bV ix fs).set i (bd (.val t))) Ä (te t)) (h0:ix[i]?=bd bv) (hs:∀x,f8 iter X.env x=pure x:=by intro _;rfl) :
  LF X K fs (.ListComp Ä [⟨tg,iter,[c],0⟩] sc pos) (.bind wl λl=>kf l λp=>zK (tf p) (te p)):=
 have h1:(bV ix fs)[i]?=bd bv:=by unfold bV;rw [Ag,h0];rfl
 Vx (wt:=.ret) (tf:=tf) (te:=te) hc S hi (λcl C s2 H2 fp=>V8 (hg cl C s2 H2 fp)) (λcl C s2 H2 fp t=>wM (hf cl C s2 H2 fp t)) he (λ_=>rfl) (Nh h1) (λj hj=>by rw [AR] at hj;subst hj;exact h0) hs
def rE (hc:X.calm=true) (S:aA X.env.scope X.N sc N' ix) (hi:pU X K fs tg iter wl) (hg:∀cl C s2 H2 fp,GF (gq X sc N' cl C s2 H2 fp) K (bV ix fs) tg is wt dQ) (he:∀cl C s2 H2 fp t,EF (gq X sc N' cl C s2 H2 fp) K (dQ t) Ä (te t))
  (hl:uc is (bV ix fs) dQ/\∀t,jD (dQ t) (bV ix fs)) (tN:∀j∈is,ix[j]?=bd bv) (hs:∀x,f8 iter X.env x=pure x:=by intro _;rfl) :
  LF X K fs (.ListComp Ä [⟨tg,iter,[],0⟩] sc pos) (.bind wl λl=>mapW l λp=>.bind (wt p) te):=Ti hc S hi hg he (λ_=>rfl) hl tN hs
def Tn (hc:X.calm=true) (S:aA X.env.scope X.N sc N' ix) (hi:pU X K fs tg iter wl) (hg:∀cl C s2 H2 fp,GF (gq X sc N' cl C s2 H2 fp) K (bV ix fs) tg is wt dQ) (hf:∀cl C s2 H2 fp t,TF (gq X sc N' cl C s2 H2 fp) K (dQ t) c (tf t)) (he:∀cl C s2 H2 fp t,EF (gq X sc N' cl C s2 H2 fp) K (dQ t) Ä (te t))
  (hl:uc is (bV ix fs) dQ/\∀t,jD (dQ t) (bV ix fs)) (tN:∀j∈is,ix[j]?=bd bv) (hs:∀x,f8 iter X.env x=pure x:=by intro _;rfl) :
  LF X K fs (.ListComp Ä [⟨tg,iter,[c],0⟩] sc pos) (.bind wl λl=>kf l λp=>.bind (wt p) λt=>zK (tf t) (te t)):=Vx hc S hi hg (λcl C s2 H2 fp t=>wM (hf cl C s2 H2 fp t)) he (λ_=>rfl) hl tN hs
variable {rest:List t0}{T:Type}{out:T->End}{x0:Bool}{kk:List PV->W T}
def SF.Md {tf:PV->W Bool}{te:PV->W PV} (hc:X.calm=true) (hN:X.N.Nodup) (yQ:X.N[i]?=bd y) (hx:X.env.scope.names.lookup y=bd .local) (S:aA X.env.scope X.N sc N' ix) (hi:pU X K fs tg iter wl) (hg:∀cl C s2 H2 fp,PG (gq X sc N' cl C s2 H2 fp) tg (dI j)) (hf:∀cl C s2 H2 fp t,TF (gq X sc N' cl C s2 H2 fp) K ((bV ix fs).set j (bd (.val t))) c (tf t)) (he:∀cl C s2 H2 fp t,EF (gq X sc N' cl C s2 H2 fp) K ((bV ix fs).set j (bd (.val t))) Ä (te t)) (h0:ix[j]?=bd bv) (hr:∀l,SF X K x0 (fs.set i (bd (.ol bv l))) rest (kk l) out)
  (pF:lw (.ListComp Ä [⟨tg,iter,[c],0⟩] sc pos) (bd (.Name y px)) mV.line X.env=pure true:=by rfl) (hs:∀x,f8 iter X.env x=pure x:=by intro _;rfl) :
  SF X K x0 fs (.Assign [.Name y px] (.ListComp Ä [⟨tg,iter,[c],0⟩] sc pos) mV::rest) (.bind (.bind wl λl=>kf l λp=>zK (tf p) (te p)) kk) out:=
 have h1:(bV ix fs)[j]?=bd bv:=by unfold bV;rw [Ag,h0];rfl
 SF.S4 (wt:=.ret) (tf:=tf) (te:=te) hc hN yQ hx S hi (λcl C s2 H2 fp=>V8 (hg cl C s2 H2 fp)) (λcl C s2 H2 fp t=>wM (hf cl C s2 H2 fp t)) he (λ_=>rfl) (Nh h1) (λm hj=>by rw [AR] at hj;subst hj;exact h0) hr pF hs
def Q7 {wt:PV->W T2}{te:T2->W PV}:(λl=>mapW l λp=>.bind (wt p) te)=λl=>kf l λp=>.bind (wt p) λt=>.bind (.ret true) λk=>if k=true then .bind (te t) λv=>.ret (bd v) else .ret bv:=funext λl=>by
 rw [vU];rfl
def SF.Qf (hc:X.calm=true) (hN:X.N.Nodup) (yQ:X.N[i]?=bd y) (hx:X.env.scope.names.lookup y=bd .local) (S:aA X.env.scope X.N sc N' ix) (hi:pU X K fs tg iter wl) (hg:∀cl C s2 H2 fp,GF (gq X sc N' cl C s2 H2 fp) K (bV ix fs) tg is wt dQ) (he:∀cl C s2 H2 fp t,EF (gq X sc N' cl C s2 H2 fp) K (dQ t) Ä (te t))
  (hl:uc is (bV ix fs) dQ/\∀t,jD (dQ t) (bV ix fs)) (tN:∀j∈is,ix[j]?=bd bv) (hr:∀l,SF X K x0 (fs.set i (bd (.ol bv l))) rest (kk l) out)
  (pF:lw (.ListComp Ä [⟨tg,iter,[],0⟩] sc pos) (bd (.Name y px)) mV.line X.env=pure true:=by rfl) (hs:∀x,f8 iter X.env x=pure x:=by intro _;rfl) :
  SF X K x0 fs (.Assign [.Name y px] (.ListComp Ä [⟨tg,iter,[],0⟩] sc pos) mV::rest) (.bind (.bind wl λl=>mapW l λp=>.bind (wt p) te) kk) out:=by
 rw [Q7];exact SF.S4 (tf:=λ_=>.ret true) hc hN yQ hx S hi hg (λ_ _ _ _ _ _=>N2) he (λp=>rfl) hl tN hr pF hs
def SF.mW {f:PV->W PV} (hc:X.calm=true) (hN:X.N.Nodup) (yQ:X.N[i]?=bd y) (hx:X.env.scope.names.lookup y=bd .local) (S:aA X.env.scope X.N sc N' ix) (hi:pU X K fs tg iter wl) (hg:∀cl C s2 H2 fp,PG (gq X sc N' cl C s2 H2 fp) tg (dI j)) (he:∀cl C s2 H2 fp t,EF (gq X sc N' cl C s2 H2 fp) K ((bV ix fs).set j (bd (.val t))) Ä (f t)) (h0:ix[j]?=bd bv) (hr:∀l,SF X K x0 (fs.set i (bd (.ol bv l))) rest (kk l) out)
  (pF:lw (.ListComp Ä [⟨tg,iter,[],0⟩] sc pos) (bd (.Name y px)) mV.line X.env=pure true:=by rfl) (hs:∀x,f8 iter X.env x=pure x:=by intro _;rfl) :
  SF X K x0 fs (.Assign [.Name y px] (.ListComp Ä [⟨tg,iter,[],0⟩] sc pos) mV::rest) (.bind (.bind wl λl=>mapW l f) kk) out:=
 have h1:(bV ix fs)[j]?=bd bv:=by unfold bV;rw [Ag,h0];rfl
 SF.Qf (wt:=.ret) hc hN yQ hx S hi (λcl C s2 H2 fp=>V8 (hg cl C s2 H2 fp)) he (Nh h1) (λm hj=>by rw [AR] at hj;subst hj;exact h0) hr pF hs
end
def Jc {f:db} (h:∀vs H Q E,¬sp vs H Q E):gm P w K mg base lO k f fd ps sp:=⟨λvs H Q E q=>(h _ _ _ _ q).elim,λA outer s H args us vs Q E _ _ _ _ q=>(h _ _ _ _ q).elim⟩
def FN {m:Pp PV n} (h:∀l Q,l.length=n->¬(cp n m l).run Q):∀vs H Q E,¬eM K ks (cp n m) vs H Q E:=λvs H Q E ⟨l,_,q⟩=>h l _ (jF q) q
def Qa {m:Pp (List PV) n} (h:∀l Q,l.length=n->¬(cp n m l).run Q):∀vs H Q E,¬fP K ks (cp n m) vs H Q E:=λvs H Q E ⟨l,_,q⟩=>h l _ (jF q) q
theorem aO (hr:cX k A):A.units+200 < o0:=by have:=hr.un;omega
end
section
open PySem PySem.Spec PyProof.Rows L2 PL
variable {K:Ab}
mutual
def PV.kd:PV->Bool
 | .tup l=>f7 l
 | .cl l=>f7 l
 | .ref _=>false
 | .ty _=>false
 | .dv _ _=>false
 | _=>true
def f7:List PV->Bool
 | []=>true
 | x::l=>PV.kd x&&f7 l
end
mutual
def PV.iT:PV->Nat
 | .tup l=>eK l+1
 | .cl l=>eK l+1
 | _=>0
def eK:List PV->Nat
 | []=>0
 | x::l=>max (PV.iT x) (eK l)
end
mutual
def iR:PV->PV->Bool
 | .aU,.aU=>true
 | .bl a,.bl b=>a==b
 | .bl a,.int b=>(if a then 1 else 0)==b
 | .int a,.bl b=>a==(if b then 1 else 0)
 | .int a,.int b=>a==b
 | .str a,.str b=>a==b
 | .tup l,.tup m=>gw l m
 | .cl l,.cl m=>gw l m
 | _,_=>false
def gw:List PV->List PV->Bool
 | [],[]=>true
 | x::l,y::m=>iR x y&&gw l m
 | _,_=>false
end
theorem rY:∀{l:List PV}{j:Nat}{x:PV},f7 l=true->l[j]?=bd x->PV.kd x=true
 | [],_,_,_,e=>by simp at e
 | y::l,0,x,h,e=>by
  simp at e;subst e;rw [f7,AO] at h;exact h.1
 | y::l,j+1,x,h,e=>by
  rw [f7,AO] at h;exact rY h.2 (by simpa using e)
theorem uM:∀{l:List PV}{j:Nat}{x:PV},l[j]?=bd x->PV.iT x<=eK l
 | [],_,_,e=>by simp at e
 | y::l,0,x,e=>by
  simp at e;subst e;rw [eK];omega
 | y::l,j+1,x,e=>by
  have:=uM (l:=l) (j:=j) (x:=x) (by simpa using e);rw [eK];omega
mutual
theorem y8:∀(x:PV),PV.kd x=true->iR x x=true
 | .aU,_=>by rw [iR]
 | .bl b,_=>by rw [iR];simp
 | .int i,_=>by rw [iR];simp
 | .str i,_=>by rw [iR];simp
 | .tup l,h=>by rw [iR];exact lK l (by rw [PV.kd] at h;exact h)
 | .cl l,h=>by rw [iR];exact lK l (by rw [PV.kd] at h;exact h)
 | .ref _,h=>by rw [PV.kd] at h;cases h
 | .ty _,h=>by rw [PV.kd] at h;cases h
 | .dv _ _,h=>by rw [PV.kd] at h;cases h
theorem lK:∀(l:List PV),f7 l=true->gw l l=true
 | [],_=>by rw [gw]
 | x::l,h=>by
  rw [f7,AO] at h;rw [gw,y8 x h.1,lK l h.2];rfl
end
def Oe (l m:List PV) (j:Nat):Bool:=match l[j]?,m[j]? with | some x,bd y=>iR x y | _,_=>true
theorem nH:∀(l m:List PV),((Av (min l.length m.length)).all (Oe l m)&&l.length==m.length)=gw l m
 | [],[]=>by rw [gw];rfl
 | [],_::_=>by
  rw [gw]
  ·simp
  ·intros;simp_all
  ·intros;simp_all
 | _::_,[]=>by
  rw [gw]
  ·simp
  ·intros;simp_all
  ·intros;simp_all
 | x::l,y::m=>by
  rw [gw,<- nH l m];have e:min (x::l).length (y::m).length=min l.length m.length+1:=by simp only [Ao];omega
  rw [e,List.range_succ_eq_map,List.all_cons,List.all_map];have e2:((x::l).length==(y::m).length)=(l.length==m.length):=by simp
  rw [e2,Bool.and_assoc];rfl
def N3 {m:List PV} (h:l.length≠m.length):gw l m=false:=by
 rw [<- nH];have:(l.length==m.length)=false:=by simpa using h
 rw [this,D7]
section
mutual
theorem VR.NY (I:Inv X Z σ H s):∀{v:V}{x y:PV},VR X.K [] H v x->VR X.K [] H v y->x=y
 | _,_,_,.aU,h=>by cases h;rfl
 | _,_,_,.bl b,h=>by cases h;rfl
 | _,_,_,.int b,h=>by cases h;rfl
 | _,_,_,.str b,h=>by cases h;rfl
 | _,_,_,.ty b,h=>by cases h;rfl
 | _,_,_,.ref e,h=>by simp at e
 | _,_,_,.tup e r,h=>by
  cases h with
  | tup e' r'=>
   have ee:=I.lh (d9.of e) (d9.of e');subst ee;rw [aL.NY I r r']
  | ref e=>simp at e
  | cl e' r'=>
   obtain⟨au,_,⟨o,n,h1,h2,_⟩,_⟩:=I.list e'.sq;obtain⟨its',_,⟨o',hU,sR,_⟩,_⟩:=I.tuple (d9.of e);rw [h1] at hU;cases hU;rw [h2] at sR;simp at sR
  | dk e' _ _=>rw [e] at e';cases e'
  | dt e' _ _=>rw [e] at e';cases e'
 | _,_,_,.dk e k r,h=>by
  cases h with
  | dk e' k' r'=>rw [e] at e';cases e';rw [k,k',aL.NY I r r']
  | dt e' _ _=>rw [e] at e';cases e'
  | ref e=>simp at e
  | tup e' _=>rw [e] at e';cases e'
  | cl e' r'=>
   obtain⟨au,_,⟨o,n,h1,h2,_⟩,_⟩:=I.list e'.sq;obtain⟨_,_,vs,_,o',_,_,hU,sR,_⟩:=sD I.bG (.inr ⟨_,e⟩);rw [h1] at hU;cases hU;have h3:=sR.1;rw [h2] at h3;simp at h3
 | _,_,_,.dt e k r,h=>by
  cases h with
  | dt e' k' r'=>rw [e] at e';cases e';rw [k,k',aL.NY I r r']
  | dk e' _ _=>rw [e] at e';cases e'
  | ref e=>simp at e
  | tup e' _=>rw [e] at e';cases e'
  | cl e' r'=>
   obtain⟨au,_,⟨o,n,h1,h2,_⟩,_⟩:=I.list e'.sq;obtain⟨_,_,vs,_,o',_,_,hU,sR,_⟩:=sC I.bG (.inr ⟨_,e⟩);rw [h1] at hU;cases hU;have h3:=sR.1;rw [h2] at h3;simp at h3
 | _,_,_,.cl e r,h=>by
  cases h with
  | dk e' _ _=>
   obtain⟨au,_,⟨o,n,h1,h2,_⟩,_⟩:=I.list e.sq;obtain⟨_,_,vs,_,o',_,_,hU,sR,_⟩:=sD I.bG (.inr ⟨_,e'⟩);rw [h1] at hU;cases hU;have h3:=sR.1;rw [h2] at h3;simp at h3
  | dt e' _ _=>
   obtain⟨au,_,⟨o,n,h1,h2,_⟩,_⟩:=I.list e.sq;obtain⟨_,_,vs,_,o',_,_,hU,sR,_⟩:=sC I.bG (.inr ⟨_,e'⟩);rw [h1] at hU;cases hU;have h3:=sR.1;rw [h2] at h3;simp at h3
  | cl e' r'=>
   obtain⟨au,k,⟨o,n,h1,h2,h3,h4⟩,_⟩:=I.list e.sq;obtain⟨its',k',⟨o',n',hU,sR,GI,V6⟩,_⟩:=I.list e'.sq;rw [h1] at hU;cases hU;rw [h4] at V6;have:au=its':=by injection V6 with a b;simpa using a
   subst this;have ee:=Vals.inj k k';subst ee;rw [aL.NY I r r']
  | ref e=>simp at e
  | tup e' r'=>
   obtain⟨au,_,⟨o,n,h1,h2,_⟩,_⟩:=I.list e.sq;obtain⟨its',_,⟨o',hU,sR,_⟩,_⟩:=I.tuple (d9.of e');rw [h1] at hU;cases hU;rw [h2] at sR;simp at sR
theorem aL.NY (I:Inv X Z σ H s):∀{v:List V}{x y:List PV},aL X.K [] H v x->aL X.K [] H v y->x=y
 | _,_,_,.nil,h=>by cases h;rfl
 | _,_,_,.cons r t,h=>by
  cases h with
  | cons r' t'=>rw [VR.NY I r r',aL.NY I t t']
end
structure Cmp (A:ss) (s:dL) (w w':ci) (b:Bool):Prop where
 rc:SeqAt.RcAt A s w w' b
 ne:SeqAt.RcNeAt A s w w' (!b)
 eq:Dj A s w w' b
def aaa (I:Inv X Z σ H s) {ws:List V}{m:List PV} (r:Vals vs au) (r':Vals ws its') (r1:aL X.K [] H vs l) (r2:aL X.K [] H ws m)
  (ih:∀(j:Nat) (x y:PV) (v v':V) (w w':ci),l[j]?=bd x->m[j]?=bd y->VR X.K [] H v x->VR X.K [] H v' y->RelV v w->RelV v' w'->Dj A s w w' (iR x y)) :
  ∀j (g1:j < au.toArray.size) (g2:j < its'.toArray.size),Dj A s au.toArray[j] its'.toArray[j] (Oe l m j):=λj g1 g2=>by
 have h1:j < au.length:=by simpa using g1
 have h2:j < its'.length:=by simpa using g2
 have hl:j < l.length:=by rw [<- r1.length,r.length];exact h1
 have hm:j < m.length:=by rw [<- r2.length,r'.length];exact h2
 obtain⟨v,v1,v2⟩:=r1.get (Ad hl);obtain⟨v',XX,Ă⟩:=r2.get (Ad hm);obtain⟨u,u1,u2⟩:=r.get v1;obtain⟨u',u1',u2'⟩:=r'.get XX;rw [Ad h1] at u1;rw [Ad h2] at u1';cases u1;cases u1';unfold Oe;rw [Ad hl,Ad hm];have:=ih j _ _ v v' _ _ (Ad hl) (Ad hm) v2 Ă u2 u2';simpa using this
inductive Sh (X:Cx) (H:Hp) (s:dL):PV->ci->Prop
 | aU:Sh X H s .aU .none
 | bl (b:Bool):Sh X H s (.bl b) (.bool b)
 | int (i:Int) (t:Tok):Sh X H s (.int i) (.int i t)
 | str (x:Str) (t:Tok):Sh X H s (.str x) (.str x t)
 | tup {p:db}{vs:List V}{au:List ci}{l:List PV} (e:VR X.K [] H (.ref p) (.tup l)) (k:Vals vs au) (r:aL X.K [] H vs l) (h:s.heap.IsTuple p au.toArray):Sh X H s (.tup l) (.ref p)
 | cl {p:db}{vs:List V}{au:List ci}{l:List PV} (e:VR X.K [] H (.ref p) (.cl l)) (k:Vals vs au) (r:aL X.K [] H vs l) (h:s.heap.IsList p au.toArray):Sh X H s (.cl l) (.ref p)
def Sh.of (I:Inv X Z σ H s) {v:V}{x:PV}{w:ci} (h:VR X.K [] H v x) (r:RelV v w) (d:PV.kd x=true):Sh X H s x w:=by
 cases h with
 | ref e=>simp at e
 | aU=>cases r;exact .aU
 | bl a=>cases r;exact .bl a
 | int a=>obtain⟨t,rfl⟩:=r;exact .int a t
 | str a=>obtain⟨t,rfl⟩:=r;exact .str a t
 | tup e q=>
  cases r;obtain⟨au,k,ht,_⟩:=I.tuple (d9.of e);exact .tup (.tup e q) k q ht
 | cl e q=>
  cases r;obtain⟨au,k,pl,_⟩:=I.list e.sq;exact .cl (.cl e q) k q pl.isList
 | _=>rw [PV.kd] at d;cases d
set_option maxHeartbeats 8000000 in
theorem WC (hK:X.K=K) (I:Inv X Z σ H s):∀(n:Nat) (x y:PV) (A:ss) (v v':V) (w w':ci),PV.iT x<=n->PV.kd x=true->PV.kd y=true->VR K [] H v x->VR K [] H v' y->RelV v w->RelV v' w'->A.units+n+1 < o0->Cmp A s w w' (iR x y):=by
 subst hK;intro n
 induction n using CW with
 | ind n ih=>
 intro x y A v v' w w' hd dx dy hv hv' r1 r2 hu;have a:=Sh.of I hv r1 dx;have b:=Sh.of I hv' r2 dy;clear hv hv' r1 r2;have el:∀{l m:List PV}{vs ws:List V}{au cD:List ci},f7 l=true->f7 m=true->eK l < n->Vals vs au->Vals ws cD->aL X.K [] H vs l->aL X.K [] H ws m->au.toArray.size=l.length/\cD.toArray.size=m.length/\∀j (g1:j < au.toArray.size) (g2:j < cD.toArray.size),Dj A.in1 s au.toArray[j] cD.toArray[j] (Oe l m j):=λd1 d2 hd k1 k2 r r'=>⟨by rw [Ai,<- k1.length,r.length],by rw [Ai,<- k2.length,r'.length],aaa I (A:=A.in1) k1 k2 r r' λj x y v v' w w' hx hy vx vy rx ry=>(ih _ hd x y A.in1 v v' w w' (uM hx) (rY d1 hx) (rY d2 hy) vx vy rx ry (by show A.units+1+_+1 < _;omega)).eq⟩;have fin:∀{pa pb:db}{l m:List PV},(pa=pb->l=m)->f7 l=true->SeqAt.RcAt A s (.ref pa) (.ref pb) (gw l m)->Dj A s (.ref pa) (.ref pb) (gw l m):=λ{pa pb l m} h d q=>by
  by_cases ZR:pa=pb
  ·rw [h ZR,lK _ (h ZR▸d),ZR];exact FE _
  ·exact Fp ZR q
 cases a <;> cases b
 case tup.tup pa vs au l e k r ht pb ws cD m e2 k2 r2 GC=>
  rw [PV.iT] at hd;obtain⟨z1,z2,ie⟩:=el dx dy ∅ k k2 r r2;have q1:=Fs ht GC (A:=A) ∅ ie;have q2:=SeqAt.RcNeAt.tuples ht GC (A:=A) ∅ ie;rw [z1,z2,nH] at q1 q2;exact⟨q1,q2,fin (λz=>by subst z;have:=VR.NY I e e2;injection this) dx q1⟩
 case cl.cl pa vs au l e k r ht pb ws cD m e2 k2 r2 GC=>
  rw [PV.iT] at hd;obtain⟨z1,z2,ie⟩:=el dx dy ∅ k k2 r r2;by_cases hz:l.length=m.length
  ·have q1:=Fz ht GC (by rw [z1,z2];exact hz) (A:=A) ∅ ie;have q2:=Fo ht GC (by rw [z1,z2];exact hz) (A:=A) ∅ ie;have ef:(Av l.length).all (Oe l m)=gw l m:=by rw [<- nH,hz,Nat.min_self,beq_self_eq_true,Bool.and_true]
   rw [z1,ef] at q1 q2;exact⟨q1,q2,fin (λz=>by subst z;have:=VR.NY I e e2;injection this) dx q1⟩
  ·have q1:=Eh (A:=A) ht GC (by rw [z1,z2];simpa using hz) ∅;have q2:=DY (A:=A) ht GC (by rw [z1,z2];simpa using hz) ∅;have ef:=N3 hz;rw [<- ef] at q1;have q2:SeqAt.RcNeAt A s (.ref pa) (.ref pb) (!gw l m):=by rw [ef];exact q2
   exact⟨q1,q2,fin (λz=>by subst z;have:=VR.NY I e e2;injection this) dx q1⟩
 all_goals
  clear ih el fin;rw [iR] <;> try (intros;simp_all;done)
  refine⟨?_,?_,?_⟩ <;> (try simp only [Bq,Dg]) <;> first | with_reducible exact .none_none | with_reducible exact .none_bool _ | with_reducible exact .none_int _ _ | with_reducible exact .none_str _ _ | with_reducible exact .none_tuple ‹_› ∅ | with_reducible exact .none_list ‹_› ∅ | with_reducible exact .bool_none _ | with_reducible exact .bool_str _ _ _ | with_reducible exact .bool_tuple _ ‹_› ∅ | with_reducible exact .bool_list _ ‹_› ∅ | with_reducible exact .int_none _ _ | with_reducible exact .int_str _ _ _ _ | with_reducible exact .int_tuple _ _ ‹_› ∅ | with_reducible exact .int_list _ _ ‹_› ∅ | with_reducible exact .str_none _ _ | with_reducible exact .str_bool _ _ _ | with_reducible exact .str_int _ _ _ _ | with_reducible exact .str_tuple _ _ ‹_› ∅ | with_reducible exact .str_list _ _ ‹_› ∅ | with_reducible exact .tuple_none ‹_› ∅ | with_reducible exact .tuple_bool _ ‹_› ∅ | with_reducible exact .tuple_int _ _ ‹_› ∅ | with_reducible exact .tuple_str _ _ ‹_› ∅ | with_reducible exact .tuple_list ‹_› ‹_› ∅ | with_reducible exact .list_none ‹_› ∅ | with_reducible exact .list_bool _ ‹_› ∅ | with_reducible exact .list_int _ _ ‹_› ∅ | with_reducible exact .list_str _ _ ‹_› ∅ | with_reducible exact .list_tuple ‹_› ‹_› ∅ | exact .same _ | exact .bool_bool _ _ | exact .bool_int _ _ _ | exact .int_bool _ _ _ | exact .int_int _ _ _ _ | exact .str_str _ _ _ _
end
end
section
open PySem PySem.Spec PyProof.Rows L2 PL
variable {K:Ab}
mutual
theorem VR.m8 {ι:List db}{H:Hp}:∀{v:V}{q:PV},VR K ι H v q->PV.kd q=true->VR K [] H v q
 | _,_,.aU,_=>.aU
 | _,_,.bl b,_=>.bl b
 | _,_,.int i,_=>.int i
 | _,_,.str x,_=>.str x
 | _,_,.ty n,h=>by rw [PV.kd] at h;cases h
 | _,_,.dk _ _ _,h=>by rw [PV.kd] at h;cases h
 | _,_,.dt _ _ _,h=>by rw [PV.kd] at h;cases h
 | _,_,.tup e r,h=>.tup e (aL.m8 r (by rw [PV.kd] at h;exact h))
 | _,_,.cl e r,h=>.cl e (aL.m8 r (by rw [PV.kd] at h;exact h))
 | _,_,.ref e,h=>by rw [PV.kd] at h;cases h
theorem aL.m8 {ι:List db}{H:Hp}:∀{v:List V}{q:List PV},aL K ι H v q->f7 q=true->aL K [] H v q
 | _,_,.nil,_=>.nil
 | _,_,.cons r s,h=>by
  rw [f7,AO] at h;exact .cons (VR.m8 r h.1) (aL.m8 s h.2)
end
def KD (x y:PV):Prop:=PV.kd x=true/\PV.kd y=true/\PV.iT x<=150
def dU:M2:=⟨λx y h Q=>KD x y/\Q (.bl (iR x y)) h,λf q=>⟨q.1,f _ _ q.2⟩⟩
def vR:M2:=⟨λx y h Q=>KD x y/\Q (.bl (!iR x y)) h,λf q=>⟨q.1,f _ _ q.2⟩⟩
def Qq (K:Ab) (neg:Bool):R2:=λu v H Q=>∃x y,VR K [] H u x/\VR K [] H v y/\KD x y/\Q (.bl (if neg then !iR x y else iR x y)) H
section
theorem Ve (hK:X.K=K) (hu:X.A.units+200 < o0):hJ X (lc .Eq) (Qq K false):=λZ s σ H u v w w' Q I r1 r2 ⟨x,y,h1,h2,⟨o1,o2,o3⟩,q⟩=>by
 exact ER (WC hK I 150 x y X.A u v w w' o3 o1 o2 h1 h2 r1 r2 ∅).rc ⟨.bl _,H,I,rfl,q⟩
theorem Va (hK:X.K=K) (hu:X.A.units+200 < o0):hJ X (lc .NotEq) (Qq K true):=λZ s σ H u v w w' Q I r1 r2 ⟨x,y,h1,h2,⟨o1,o2,o3⟩,q⟩=>by
 exact Ec (WC hK I 150 x y X.A u v w w' o3 o1 o2 h1 h2 r1 r2 ∅).ne ⟨.bl _,H,I,rfl,q⟩
def QY:M2.Ok K (Qq K false) dU:=λ{ι H h u v x y Q} hr hu hv q=>⟨x,y,VR.m8 hu q.1.1,VR.m8 hv q.1.2.1,q.1,q.2 ι _ H (Go.refl _ _) hr (.bl _)⟩
def QT:M2.Ok K (Qq K true) vR:=λ{ι H h u v x y Q} hr hu hv q=>⟨x,y,VR.m8 hu q.1.1,VR.m8 hv q.1.2.1,q.1,q.2 ι _ H (Go.refl _ _) hr (.bl _)⟩
def eJ (hK:X.K=K) (hu:X.A.units+200 < o0):JC X K .Eq b dU:=⟨⟨_,Ve hK hu,QY⟩,kL _⟩
def IJ (hK:X.K=K) (hu:X.A.units+200 < o0):JC X K .NotEq b vR:=⟨⟨_,Va hK hu,QT⟩,kL _⟩
end
end
end FL
variable {x:A4}{b b1:Bool}{t z i1 i2 a1 a2:BO}{ys:Array A4}{k1 k2:Nat}
namespace L2
open PySem PySem.Spec PyProof.Rows
def sN (b:Bool) (h:pc) (it a:db) (k:Nat):Prop:=match b with
 | true=>h.IsListIter it a k
 | false=>h.IsTupleIter it a k
def iW (b:Bool) (h:pc) (a:db) (xs:Array ci):Prop:=match b with
 | true=>h.IsList a xs
 | false=>h.IsTuple a xs
def sN.move (x:sN b h it a k) (g:∀o,h.get? it=bd o->h'.get? it=bd o):sN b h' it a k:=by
 cases b with
 | true=>obtain⟨o,e,p⟩:=(show h.IsListIter it a k from x);exact (show h'.IsListIter it a k from⟨o,g o e,p⟩)
 | false=>obtain⟨o,e,p⟩:=(show h.IsTupleIter it a k from x);exact (show h'.IsTupleIter it a k from⟨o,g o e,p⟩)
def iW.move (x:iW b h a xs) (g:∀o,h.get? a=bd o->h'.get? a=bd o):iW b h' a xs:=by
 cases b with
 | true=>obtain⟨o,e,p⟩:=(show h.IsList a xs from x);exact (show h'.IsList a xs from⟨o,g o e,p⟩)
 | false=>obtain⟨o,e,p⟩:=(show h.IsTuple a xs from x);exact (show h'.IsTuple a xs from⟨o,g o e,p⟩)
def sN.obj (x:sN b h it a k):∃o,h.get? it=bd o/\∀v,o.data≠.cell v:=by
 cases b with
 | true=>obtain⟨o,e,_,d⟩:=(show h.IsListIter it a k from x);exact⟨o,e,λv z=>by rw [d] at z;cases z⟩
 | false=>obtain⟨o,e,_,d⟩:=(show h.IsTupleIter it a k from x);exact⟨o,e,λv z=>by rw [d] at z;cases z⟩
def iW.lt (x:iW b h a xs):a < h.objs.size:=by
 cases b with
 | true=>obtain⟨o,e,p⟩:=(show h.IsList a xs from x);exact Ar e
 | false=>obtain⟨o,e,p⟩:=(show h.IsTuple a xs from x);exact Ar e
section
def kM (h:sN b s.heap it t i) (ht:iW b s.heap t items) (hx:items[i]?=bd x)
  (q:∀h':pc,sN b h' it t (i+1)->Cc it s.heap h'->Q x {s with heap:=h'}):d4 (d5 prog w) A (Builtin.SmallTypes.nextOf (.ref it)) Q E s:=by
 cases b with
 | true=>exact wpAny_nextOf_list_item h ht hx λh' a b=>q h' a b
 | false=>exact iq h ht hx q
def rk (hA:A.handled=bv) (h:sN b s.heap it t i) (ht:iW b s.heap t items) (hx:items[i]?=bv)
  (q:∀(h':pc) (e:db),FD it s.heap h'->(∃o,h'.get? e=bd o/\o.cls=.type "StopIteration")->E (.ref e) {s with heap:=h'}):d4 (d5 prog w) A (Builtin.SmallTypes.nextOf (.ref it)) Q E s:=by
 cases b with
 | true=>exact wpAny_nextOf_list_end hA h ht hx λh' e a b=>q h' e a b
 | false=>exact je hA h ht hx q
def Ka:Bool->String
 | true=>"list_iterator"
 | false=>"tuple_iterator"
def uq (h:iW b s.heap a xs) (q:Q (.ref s.heap.objs.size) {s with heap:=s.heap.push {cls:=.type (Ka b),data:=.fields #[.ref a,.int 0 0]}}):d4 (d5 prog w) A (pyIter (.ref a)) Q E s:=by
 cases b with
 | true=>exact CH h q
 | false=>exact C2 h q
def Ib (e:h.get? it=bd {cls:=.type (Ka b),data:=.fields #[.ref a,.int 0 0]}):sN b h it a 0:=by
 cases b with
 | true=>exact (show h.IsListIter it a 0 from⟨_,e,rfl,rfl⟩)
 | false=>exact (show h.IsTupleIter it a 0 from⟨_,e,rfl,rfl⟩)
end
structure j5 (b1 b2:Bool) (h:pc) (z TI TO i1 i2 a1 a2:db) (f0:ci) (k1 k2:Nat):Prop where
 zip:IsZip h z TI TO f0
 ti:IsPair h TI (.ref i1) (.ref i2)
 to:∃a b,IsPair h TO a b
 it1:sN b1 h i1 a1 k1
 it2:sN b2 h i2 a2 k2
def qD {E:ci->dL->Prop}{b2:Bool}{TI TO:db}{y:ci} (hA:ZipApart z TI TO i1 i2 a1 a2)
  (hz:j5 b1 b2 s.heap z TI TO i1 i2 a1 a2 .none k1 k2) (Tx:iW b1 s.heap a1 xs) (GC:iW b2 s.heap a2 ys) (hx:xs[k1]?=bd x) (hy:ys[k2]?=bd y)
  (q:∀h':pc,j5 b1 b2 h' z TI TO i1 i2 a1 a2 (wn s.heap.objs.size) (k1+1) (k2+1)->IsPair h' s.heap.objs.size x y->(∀c o,c≠z->c≠TO->c≠i1->c≠i2->s.heap.get? c=bd o->h'.get? c=bd o)->Q (.ref s.heap.objs.size) {s with heap:=h'}) :
  d4 (d5 prog w) A (Da.«zip.__next__» {pos:=[.ref z]}) (λfin s'=>∃v,fin=FH (FG v)/\Q v s') E s:=by
 obtain⟨hz,RB,⟨ta,tb,Ĕ⟩,û,ZI⟩:=hz;show d4 _ _ (field (.ref z) 2 >>= λr=>_) _ _ s;refine Aa (A1 hz rfl rfl ?_);refine Aa (A1 hz rfl rfl ?_);refine Aa (BG RB rfl ?_);refine Aa ?_;refine Aa (A1 hz rfl rfl ?_);refine Ah ?_;refine Aa (C1 ?_);refine Aa (A1 hz rfl rfl ?_);show d4 _ _ (zn (.ref z) 0 .ellipsis >>= λr=>_) _ _ s;refine Aa (A2 hz (show 0 < 5 by decide) λh1 z1 b1=>?_);show d4 _ _ ((forIn [(AB i1,0),(AB i2,1)] _ _) >>= λr=>_) _ _ _;refine Aa ?_;rw [B7];have tP:=b1.2;refine Aa ?_;refine Aa (El ?_);refine Aa (kM (û.move λo e=>(tP _ hA.i1z).trans e) (Tx.move λo e=>(tP _ hA.l1z).trans e) hx λh2 j2 b2=>Ah ?_);have NS:∀b,b≠z->b≠i1->h2.get? b=s.heap.get? b:=λb n1 n2=>(b2.2 b n2).trans (tP b n1);have á:=(NS _ hA.TOz hA.TOi1).trans Ĕ;refine Aa (BG á rfl ?_);refine Aa (Dv á λh3 t3 b3=>?_);have Í:∀b,b≠z->b≠i1->b≠TO->h3.get? b=s.heap.get? b:=λb n1 n2 n3=>(b3.2 b n3).trans (NS b n1 n2);refine Aa (Dw (Ah ?_));show d4 _ _ (forIn [(AB i2,1)] _ _) _ _ _;rw [B7];refine Aa ?_;refine Aa (El ?_);refine Aa (kM (ZI.move λo e=>(Í _ hA.i2z hA.i12.symm hA.TOi2.symm).trans e) (GC.move λo e=>(Í _ hA.l2z hA.l2i1 hA.l2TO).trans e) hy λh4 j4 b4=>Ah ?_);have to4:=(b4.2 _ hA.TOi2).trans t3;refine Aa (BG to4 rfl ?_);refine Aa (Dv to4 λh5 t5 b5=>?_);have to5:=t5;refine Aa (Dw (Ah ?_));refine Ah ?_;refine Aa (BG to5 rfl ?_);have Ć:=b5.1.trans (b4.1.trans (b3.1.trans (b2.1.trans b1.1)));refine Aa (CK ?_ (by show 2<=sizeLine;decide));have ZU:∀b,b≠z->b≠i1->b≠TO->b≠i2->h5.get? b=s.heap.get? b:=λb n1 n2 n3 n4=>(b5.2 b n3).trans ((b4.2 b n4).trans (Í b n1 n2 n3));have z5:h5.get? z=bd {cls:=.type "zip",data:=.fields #[.ellipsis,.bool false,.bool false,.ref TI,.ref TO]}:=(b5.2 _ hA.TOz.symm).trans ((b4.2 _ hA.i2z.symm).trans ((b3.2 _ hA.TOz.symm).trans ((b2.2 _ hA.i1z.symm).trans z1)));have kp:∀b o,h5.get? b=bd o->(h5.push {cls:=.type "tuple",data:=.seq #[x,y]}).get? b=bd o:=λb o e=>Aj _ e;have acD:(h5.push {cls:=.type "tuple",data:=.seq #[x,y]}).get? h5.objs.size=bd {cls:=.type "tuple",data:=.seq #[x,y]}:=Aq _ rfl;refine Aa ?_;show d4 _ _ (zn (.ref z) 0 (wn h5.objs.size) >>= λ_=>zn (.ref z) 1 (.bool false)) _ _ _;refine Aa (A2 (kp _ _ z5) (show 0 < 5 by decide) λh7 z7 b7=>?_);refine A2 z7 (show 1 < 5 by decide) λh8 z8 b8=>?_;have Kq:∀b,b≠z->h8.get? b=(h5.push {cls:=.type "tuple",data:=.seq #[x,y]}).get? b:=λb n=>(b8.2 b n).trans (b7.2 b n);have nz:s.heap.objs.size≠z:=λe=>by have:=Ar hz;rw [<- e] at this;exact A6 _ this
 refine Ah ⟨.ref h5.objs.size,rfl,?_⟩;rw [Ć];refine q h8 ⟨?_,?_,?_,?_,?_⟩ ?_ ?_
 ·rw [<- Ć];exact z8
 ·rw [IsPair,Kq _ hA.TIz];exact kp _ _ ((ZU _ hA.TIz hA.TIi1 hA.TITO hA.TIi2).trans RB)
 ·exact⟨x,y,by rw [IsPair,Kq _ hA.TOz];exact kp _ _ to5⟩
 ·refine j2.move λo e=>?_;rw [Kq _ hA.i1z];exact kp _ _ ((b5.2 _ hA.TOi1.symm).trans ((b4.2 _ hA.i12).trans ((b3.2 _ hA.TOi1.symm).trans e)))
 ·refine j4.move λo e=>?_;rw [Kq _ hA.i2z];exact kp _ _ ((b5.2 _ hA.TOi2.symm).trans e)
 ·rw [IsPair,Kq _ nz,<- Ć];exact acD
 ·intro c o n1 n2 n3 n4 e;rw [Kq _ n1];exact kp _ _ ((ZU _ n1 n3 n2 n4).trans e)
def sT {b2:Bool}{TI TO:db}{Q:PySem.Fin->dL->Prop} (hh:A.handled=bv) (hA:ZipApart z TI TO i1 i2 a1 a2)
  (hz:j5 b1 b2 s.heap z TI TO i1 i2 a1 a2 .none k1 k2) (Tx:iW b1 s.heap a1 xs) (GC:iW b2 s.heap a2 ys) (hx:xs[k1]?=bv\/ys[k2]?=bv)
  (q:∀(h':pc) (e:db),(∀c o,c≠z->c≠TO->c≠i1->c≠i2->s.heap.get? c=bd o->h'.get? c=bd o)->(∃o,h'.get? e=bd o/\o.cls=.type "StopIteration")->E (.ref e) {s with heap:=h'}) :
  d4 (d5 prog w) A (Da.«zip.__next__» {pos:=[.ref z]}) Q E s:=by
 obtain⟨hz,RB,⟨ta,tb,Ĕ⟩,û,ZI⟩:=hz;show d4 _ _ (field (.ref z) 2 >>= λr=>_) _ _ s;refine Aa (A1 hz rfl rfl ?_);refine Aa (A1 hz rfl rfl ?_);refine Aa (BG RB rfl ?_);refine Aa ?_;refine Aa (A1 hz rfl rfl ?_);refine Ah ?_;refine Aa (C1 ?_);refine Aa (A1 hz rfl rfl ?_);show d4 _ _ (zn (.ref z) 0 .ellipsis >>= λr=>_) _ _ s;refine Aa (A2 hz (show 0 < 5 by decide) λh1 z1 b1'=>?_);show d4 _ _ ((forIn [(AB i1,0),(AB i2,1)] _ _) >>= λr=>_) _ _ _;refine Aa ?_;rw [B7];have tP:=b1'.2;refine Aa ?_;refine Aa (El ?_);have fin:∀{h2:pc}{e:db},h2.get? z=bd {cls:=.type "zip",data:=.fields #[.ellipsis,.bool false,.bool false,.ref TI,.ref TO]}->(∃o,h2.get? e=bd o/\o.cls=.type "StopIteration")->(∀c o,c≠z->c≠TO->c≠i1->c≠i2->s.heap.get? c=bd o->h2.get? c=bd o)->d4 (d5 prog w) A (zn (.ref z) 0 .none) (λ_ s'=>E (.ref e) s') (λ_ _=>True) {s with heap:=h2}:=λ{h2 e} z2 ex k=>by
  refine A2 z2 (show 0 < 5 by decide) λh3 z3 b3=>?_;refine q h3 e (λc o n1 n2 n3 n4 ec=>?_) ?_
  ·rw [b3.2 _ n1];exact k c o n1 n2 n3 n4 ec
  ·obtain⟨o,eo,hc⟩:=ex;by_cases he:e=z
   ·subst he;rw [z2] at eo;cases eo;exact absurd (show BW "zip"=BW "StopIteration" from hc) ⋯
   ·exact⟨o,(b3.2 _ he).trans eo,hc⟩
 cases hx1:xs[k1]? with
 | none=>
  refine Aa (rk hh (û.move λo e=>(tP _ hA.i1z).trans e) (Tx.move λo e=>(tP _ hA.l1z).trans e) hx1 λh2 e k ex=>?_);have z2:h2.get? z=bd {cls:=.type "zip",data:=.fields #[.ellipsis,.bool false,.bool false,.ref TI,.ref TO]}:=k _ _ hA.i1z.symm z1;refine A2 z2 (show 0 < 5 by decide) λh3 z3 b3=>?_;refine q h3 e (λc o n1 n2 n3 n4 ec=>?_) ?_
  ·rw [b3.2 _ n1];exact k _ _ n3 ((tP _ n1).trans ec)
  ·obtain⟨o,eo,hc⟩:=ex;by_cases he:e=z
   ·subst he;rw [z2] at eo;cases eo;exact absurd (show BW "zip"=BW "StopIteration" from hc) ⋯
   ·exact⟨o,(b3.2 _ he).trans eo,hc⟩
 | some x=>
  have hy:ys[k2]?=bv:=by
   rcases hx with h | h
   ·rw [hx1] at h;cases h
   ·exact h
  refine Aa (kM (û.move λo e=>(tP _ hA.i1z).trans e) (Tx.move λo e=>(tP _ hA.l1z).trans e) hx1 λh2 j2 b2'=>Ah ?_);have NS:∀b,b≠z->b≠i1->h2.get? b=s.heap.get? b:=λb n1 n2=>(b2'.2 b n2).trans (tP b n1);have á:=(NS _ hA.TOz hA.TOi1).trans Ĕ;refine Aa (BG á rfl ?_);refine Aa (Dv á λh3 t3 b3=>?_);have Í:∀b,b≠z->b≠i1->b≠TO->h3.get? b=s.heap.get? b:=λb n1 n2 n3=>(b3.2 b n3).trans (NS b n1 n2);refine Aa (Dw (Ah ?_));refine Aa ?_;refine Aa (El ?_);show d4 _ _ (Builtin.SmallTypes.nextOf (.ref i2) >>= λv=>pure (bd v)) _ _ _;refine Aa (rk hh (ZI.move λo e=>(Í _ hA.i2z hA.i12.symm hA.TOi2.symm).trans e) (GC.move λo e=>(Í _ hA.l2z hA.l2i1 hA.l2TO).trans e) hy λh4 e k ex=>?_);have z4:h4.get? z=bd {cls:=.type "zip",data:=.fields #[.ellipsis,.bool false,.bool false,.ref TI,.ref TO]}:=k _ _ hA.i2z.symm ((b3.2 _ hA.TOz.symm).trans ((b2'.2 _ hA.i1z.symm).trans z1));refine A2 z4 (show 0 < 5 by decide) λh5 z5 b5=>?_;refine q h5 e (λc o n1 n2 n3 n4 ec=>?_) ?_
  ·rw [b5.2 _ n1];exact k _ _ n4 ((Í _ n1 n3 n2).trans ec)
  ·obtain⟨o,eo,hc⟩:=ex;by_cases he:e=z
   ·subst he;rw [z4] at eo;cases eo;exact absurd (show BW "zip"=BW "StopIteration" from hc) ⋯
   ·exact⟨o,(b5.2 _ he).trans eo,hc⟩
def oe {b2:Bool}{TI TO:db}{y:ci}{Q:Option ci->dL->Prop} (hA:ZipApart z TI TO i1 i2 a1 a2)
  (hz:j5 b1 b2 s.heap z TI TO i1 i2 a1 a2 .none k1 k2) (Tx:iW b1 s.heap a1 xs) (GC:iW b2 s.heap a2 ys) (hx:xs[k1]?=bd x) (hy:ys[k2]?=bd y)
  (q:∀h':pc,j5 b1 b2 h' z TI TO i1 i2 a1 a2 (wn s.heap.objs.size) (k1+1) (k2+1)->IsPair h' s.heap.objs.size x y->(∀c o,c≠z->c≠TO->c≠i1->c≠i2->s.heap.get? c=bd o->h'.get? c=bd o)->Q (bd (.ref s.heap.objs.size)) {s with heap:=h'}) :
  d4 (d5 prog w) A (pyNext (.ref z)) Q E s:=by
 have ty:s.TypeIs (.ref z) "zip":=⟨_,hz.zip,rfl⟩;refine Aa (CV (AY ty Dz (Be Dz ty F.entry_zip_next ?_ (F.args_zip_next_1 _))));exact qD hA hz Tx GC hx hy λh' a b c=>Ah (q h' a b c)
def pA {b2:Bool}{TI TO:db}{Q:Option ci->dL->Prop} (hh:A.handled=bv) (hA:ZipApart z TI TO i1 i2 a1 a2)
  (hz:j5 b1 b2 s.heap z TI TO i1 i2 a1 a2 .none k1 k2) (Tx:iW b1 s.heap a1 xs) (GC:iW b2 s.heap a2 ys) (hx:xs[k1]?=bv\/ys[k2]?=bv)
  (q:∀h':pc,(∀c o,c≠z->c≠TO->c≠i1->c≠i2->s.heap.get? c=bd o->h'.get? c=bd o)->Q bv {s with heap:=h'}) :
  d4 (d5 prog w) A (pyNext (.ref z)) Q E s:=by
 have ty:s.TypeIs (.ref z) "zip":=⟨_,hz.zip,rfl⟩;refine Aa (CV (AY ty Dz (Be Dz ty F.entry_zip_next ?_ (F.args_zip_next_1 _))));refine sT (A:=A.in1) hh hA hz Tx GC hx λh' e k ex=>?_;obtain⟨o,eo,hc⟩:=ex;refine Aa (Dm (T:="StopIteration") ⟨o,eo,hc⟩ isSubtype_stop ?_);exact Ah (q h' k)
def rz (b1 b2:Bool) (a1 a2:db) (xs ys:Array ci):Meets (Da.«zip.__new__» {pos:=[.type "zip",.ref a1,.ref a2]}) (λ_ R s=>iW b1 s.heap a1 xs/\iW b2 s.heap a2 ys/\
  ∀h':pc,j5 b1 b2 h' (s.heap.objs.size+4) (s.heap.objs.size+2) (s.heap.objs.size+3) s.heap.objs.size (s.heap.objs.size+1) a1 a2 .none 0 0->(∀b o,s.heap.get? b=bd o->h'.get? b=bd o)->R (.ok (.ret (.ref (s.heap.objs.size+4)))) {s with heap:=h'}):=
 .of_wp λprog w A R s h=>by
  obtain⟨h1,h2,q⟩:=h;refine Aa ?_;refine Aa (CA (a:=true) rfl ?_);refine Aa (CA sub_zip ?_);refine Ah ?_;refine Aa ?_;refine Aa ?_;rw [B7];refine Aa ?_;refine Aa (Bc (uq h1 (Ah ?_)));have k1:∀b o,s.heap.get? b=bd o->(s.heap.push {cls:=.type (Ka b1),data:=.fields #[.ref a1,.int 0 0]}).get? b=bd o:=λb o e=>Aj _ e;have g1:(s.heap.push {cls:=.type (Ka b1),data:=.fields #[.ref a1,.int 0 0]}).get? s.heap.objs.size=bd {cls:=.type (Ka b1),data:=.fields #[.ref a1,.int 0 0]}:=Aq _ rfl;have z1:(s.heap.push {cls:=.type (Ka b1),data:=.fields #[.ref a1,.int 0 0]}).objs.size=s.heap.objs.size+1:=CJ ..;generalize s.heap.push {cls:=.type (Ka b1),data:=.fields #[.ref a1,.int 0 0]}=tM at k1 g1 z1 ⊢;show d4 _ _ (forIn [AB a2] _ _) _ _ _;rw [B7];refine Aa ?_;refine Aa (Bc (uq (xs:=ys) (h2.move λo e=>k1 _ _ e) (Ah ?_)));show d4 _ _ (forIn [] _ _) _ _ _;rw [List.forIn_nil];refine Ah (Ah ?_);have k2:∀b o,tM.get? b=bd o->(tM.push {cls:=.type (Ka b2),data:=.fields #[.ref a2,.int 0 0]}).get? b=bd o:=λb o e=>Aj _ e;have g2:(tM.push {cls:=.type (Ka b2),data:=.fields #[.ref a2,.int 0 0]}).get? tM.objs.size=bd {cls:=.type (Ka b2),data:=.fields #[.ref a2,.int 0 0]}:=Aq _ rfl;have z2:(tM.push {cls:=.type (Ka b2),data:=.fields #[.ref a2,.int 0 0]}).objs.size=tM.objs.size+1:=CJ ..;show d4 _ _ (newTuple [.ref s.heap.objs.size,.ref tM.objs.size] >>= λr=>_) _ _ {s with heap:=tM.push {cls:=.type (Ka b2),data:=.fields #[.ref a2,.int 0 0]}};generalize tM.push {cls:=.type (Ka b2),data:=.fields #[.ref a2,.int 0 0]}=wA at k2 g2 z2 ⊢;refine Aa (CK ?_ (by show 2<=sizeLine;decide));have k3:∀b o,wA.get? b=bd o->(wA.push {cls:=.type "tuple",data:=.seq [AB s.heap.objs.size,AB tM.objs.size].toArray}).get? b=bd o:=λb o e=>Aj _ e;have g3:(wA.push {cls:=.type "tuple",data:=.seq [AB s.heap.objs.size,AB tM.objs.size].toArray}).get? wA.objs.size=bd {cls:=.type "tuple",data:=.seq #[.ref s.heap.objs.size,.ref tM.objs.size]}:=Aq _ rfl;have z3:(wA.push {cls:=.type "tuple",data:=.seq [AB s.heap.objs.size,AB tM.objs.size].toArray}).objs.size=wA.objs.size+1:=CJ ..;show d4 _ _ (newTuple [.none,.none] >>= λr=>_) _ _ {s with heap:=wA.push {cls:=.type "tuple",data:=.seq [AB s.heap.objs.size,AB tM.objs.size].toArray}};generalize wA.push {cls:=.type "tuple",data:=.seq [AB s.heap.objs.size,AB tM.objs.size].toArray}=Kh at k3 g3 z3 ⊢;refine Aa (CK ?_ (by show 2<=sizeLine;decide));have k4:∀b o,Kh.get? b=bd o->(Kh.push {cls:=.type "tuple",data:=.seq [AW,AW].toArray}).get? b=bd o:=λb o e=>Aj _ e;have g4:(Kh.push {cls:=.type "tuple",data:=.seq [AW,AW].toArray}).get? Kh.objs.size=bd {cls:=.type "tuple",data:=.seq #[.none,.none]}:=Aq _ rfl;have z4:(Kh.push {cls:=.type "tuple",data:=.seq [AW,AW].toArray}).objs.size=Kh.objs.size+1:=CJ ..;show d4 _ _ (newObj (.type "zip") (.fields #[.none,.bool false,.bool false,.ref wA.objs.size,.ref Kh.objs.size]) >>= λr=>_) _ _ {s with heap:=Kh.push {cls:=.type "tuple",data:=.seq [AW,AW].toArray}};generalize Kh.push {cls:=.type "tuple",data:=.seq [AW,AW].toArray}=Xd at k4 g4 z4 ⊢;refine Aa (Bp ?_ (by simp [sizeOk];decide));have k5:∀b o,Xd.get? b=bd o->(Xd.push {cls:=.type "zip",data:=.fields #[.none,.bool false,.bool false,.ref wA.objs.size,.ref Kh.objs.size]}).get? b=bd o:=λb o e=>Aj _ e;have g5:(Xd.push {cls:=.type "zip",data:=.fields #[.none,.bool false,.bool false,.ref wA.objs.size,.ref Kh.objs.size]}).get? Xd.objs.size=bd {cls:=.type "zip",data:=.fields #[.none,.bool false,.bool false,.ref wA.objs.size,.ref Kh.objs.size]}:=Aq _ rfl;have e1:=z1;have e2:wA.objs.size=s.heap.objs.size+2:=by rw [z2,e1]
  have e3:Kh.objs.size=s.heap.objs.size+3:=by rw [z3,e2]
  have e4:Xd.objs.size=s.heap.objs.size+4:=by rw [z4,e3]
  refine Ah ⟨.ref Xd.objs.size,rfl,?_⟩;rw [e2,e3] at g5 k5 ⊢;rw [e4] at g5 ⊢;rw [e3] at g4;rw [e1,e2] at g3;rw [e1] at g2;refine q _ ⟨g5,k5 _ _ (k4 _ _ g3),⟨_,_,k5 _ _ g4⟩,Ib (k5 _ _ (k4 _ _ (k3 _ _ (k2 _ _ g1)))),Ib (k5 _ _ (k4 _ _ (k3 _ _ g2)))⟩ λb o e=>k5 _ _ (k4 _ _ (k3 _ _ (k2 _ _ (k1 _ _ e))))
def K3 {b2:Bool} (h1:iW b1 s.heap a1 xs) (h2:iW b2 s.heap a2 ys)
  (q:∀h':pc,j5 b1 b2 h' (s.heap.objs.size+4) (s.heap.objs.size+2) (s.heap.objs.size+3) s.heap.objs.size (s.heap.objs.size+1) a1 a2 .none 0 0->(∀b o,s.heap.get? b=bd o->h'.get? b=bd o)->Q (.ref (s.heap.objs.size+4)) {s with heap:=h'}) :
  d4 (d5 prog w) A (call (.type "zip") [.ref a1,.ref a2]) Q E s:=
 callType_new F.called_zip ⋯ (F.typeCall_zip_2 _ _) (F.newCall_zip_2 _ _) (λo=>F.args_object_init_3 o _ _) F.entry_zip_new (rz b1 b2 a1 a2 xs ys) ⟨h1,h2,λh' z k=>⟨⟨_,z.zip,rfl⟩,q h' z k⟩⟩
def LG (b:Bool) (K:Ab) (H:Hp) (a:db) (xs:List V):Prop:=match b with
 | true=>cU K H a xs
 | false=>d9 K H a xs
def Inv.W4 {xs:List V} (I:Inv X Z σ H s) (h:LG b X.K H a xs):∃au:List ci,Vals xs au/\iW b s.heap a au.toArray/\xs.length<=sizeLine:=by
 cases b with
 | true=>obtain⟨au,r,p,z⟩:=I.list (show cU X.K H a xs from h);exact⟨au,r,p.isList,z⟩
 | false=>obtain⟨au,r,p,z⟩:=I.tuple (show d9 X.K H a xs from h);exact⟨au,r,p,z⟩
def Inv.Ia {xs ys:List V} (I:Inv X Z σ H s) (h:LG b X.K H a xs) (h':LG b X.K H a ys):xs=ys:=by
 cases b with
 | true=>
  obtain⟨au,k,⟨o,n,h1,h2,h3,h4⟩,_⟩:=I.list (show cU X.K H a xs from h);obtain⟨its',k',⟨o',n',hU,sR,GI,V6⟩,_⟩:=I.list (show cU X.K H a ys from h');rw [h1] at hU;cases hU;rw [h4] at V6;have:au=its':=by injection V6 with a b;simpa using a
  subst this;exact Vals.inj k k'
 | false=>exact I.lh h h'
def aaB (b1 b2:Bool) (K:Ab) (a1 a2:db):It where
 go:=λi H=>∃xs ys x y,LG b1 K H a1 xs/\LG b2 K H a2 ys/\xs[i]?=bd x/\ys[i]?=bd y
 SU:=λi H v H'=>∃p x y,v=.ref p/\H p=bv/\H'=upd H p (.tup [x,y])/\(∀xs,LG b1 K H a1 xs->xs[i]?=bd x)/\∀ys,LG b2 K H a2 ys->ys[i]?=bd y
 stop:=λi H=>∃xs ys,LG b1 K H a1 xs/\LG b2 K H a2 ys/\(xs.length<=i\/ys.length<=i)
theorem Jz {K:Ab}{b2:Bool}{TI TO:db} (hA:ZipApart z TI TO i1 i2 a1 a2):Turn P w K (.Tuple Ð kk pos) (aaB b1 b2 K a1 a2) [z,TI,TO,i1,i2] z (λi h=>j5 b1 b2 h z TI TO i1 i2 a1 a2 .none i i) where
 mem:=by simp
 obj:=λi h st b hb=>by
  simp only [Ay,BC,or_false] at hb;rcases hb with rfl | rfl | rfl | rfl | rfl
  ·exact⟨_,st.zip,λv z=>by cases z⟩
  ·exact⟨_,st.ti,λv z=>by cases z⟩
  ·obtain⟨_,_,e⟩:=st.to;exact⟨_,e,λv z=>by cases z⟩
  ·exact st.it1.obj
  ·exact st.it2.obj
 keep:=λi h h' st k=>⟨k z (by simp) _ st.zip,k TI (by simp) _ st.ti,let ⟨a,b,e⟩:=st.to;⟨a,b,k TO (by simp) _ e⟩,st.it1.move λo e=>k i1 (by simp) _ e,st.it2.move λo e=>k i2 (by simp) _ e⟩
 item:=by
  intro X hP hw hK hc i Z s σ H E I hf st hg;subst hP hw hK;obtain⟨xs,ys,x,y,hx,hy,gx,gy⟩:=hg;obtain⟨au,rx,tx,_⟩:=I.W4 hx;obtain⟨cD,ry,ty,_⟩:=I.W4 hy;obtain⟨u,gu,ru⟩:=kz rx gx;obtain⟨v,gv,rv⟩:=kz ry gy;refine oe hA st tx ty (by simpa using gu) (by simpa using gv) λh' zt np k=>?_;refine⟨_,rfl,?_⟩;refine Aa (wpAny_load zt.zip ?_);show d4 _ _ (if ((["enumerate","zip","dict_itemiterator","dict_reverseitemiterator","odict_iterator","itertools.zip_longest","itertools.pairwise"].contains "zip"&&(bd (wn s.heap.objs.size)==bd (wn s.heap.objs.size)))=true) then (do rule "for.unpacks-the-owned-tuple";zn (.ref z) 0 .none) else pure ()) _ _ _;rw [if_pos (by rw [beq_self_eq_true];decide)];refine Aa (C1 ?_);refine A2 zt.zip (show 0 < 5 by decide) λh2 z2 b2=>?_;have lt:∀b∈[z,TI,TO,i1,i2],b < s.heap.objs.size:=λb hb=>by
   simp only [Ay,BC,or_false] at hb;rcases hb with rfl | rfl | rfl | rfl | rfl
   ·exact Ar st.zip
   ·exact Ar st.ti
   ·obtain⟨_,_,e⟩:=st.to;exact Ar e
   ·obtain⟨o,e,_⟩:=st.it1.obj;exact Ar e
   ·obtain⟨o,e,_⟩:=st.it2.obj;exact Ar e
  have nz:s.heap.objs.size≠z:=λe=>A6 _ (by have:=lt z (by simp);rw [<- e] at this;exact this);have Zg:∀b o,b∉[z,TI,TO,i1,i2]->s.heap.get? b=bd o->h2.get? b=bd o:=λb o hb e=>by
   have GA:b≠z:=λq=>hb (by simp [q]);rw [b2.2 b GA];exact k b o GA (λq=>hb (by simp [q])) (λq=>hb (by simp [q])) (λq=>hb (by simp [q])) e
  have Y4:h2.get? s.heap.objs.size=bd {cls:=.type "tuple",data:=.seq #[u,v]}:=(b2.2 _ nz).trans np;have ZK:=I.bG.fresh (An s.heap.objs.size);refine⟨.ref s.heap.objs.size,upd H s.heap.objs.size (.tup [x,y]),I.qI (t':=s.toks) hf Zg (An _) ⟨by show 2<=sizeLine;decide,[u,v],.cons ru (.cons rv .nil),⟨_,Y4,rfl,_,rfl⟩⟩,rfl,⟨_,x,y,rfl,ZK,rfl,λxs' h'=>?_,λys' h'=>?_⟩,⟨z2,(b2.2 _ hA.TIz).trans zt.ti,let ⟨p,q,e⟩:=zt.to;⟨p,q,(b2.2 _ hA.TOz).trans e⟩,zt.it1.move λo e=>(b2.2 _ hA.i1z).trans e,zt.it2.move λo e=>(b2.2 _ hA.i2z).trans e⟩,λb hb=>?_⟩
  ·rw [I.Ia h' hx];exact gx
  ·rw [I.Ia h' hy];exact gy
  ·rw [aB (AM (lt b hb))];exact (hf b hb).1
 done:=by
  intro X hP hw hK hc i Z s σ H E I hf st hg;subst hP hw hK;obtain⟨xs,ys,hx,hy,hl⟩:=hg;obtain⟨au,rx,tx,_⟩:=I.W4 hx;obtain⟨cD,ry,ty,_⟩:=I.W4 hy;have el:=rx.length;have el2:=ry.length;refine pA (I.ok.hd hc) hA st tx ty ?_ λh' k=>⟨rfl,I.vi (t':=s.toks) hf λb o hb e=>k b o (λz=>hb (by simp [z])) (λz=>hb (by simp [z])) (λz=>hb (by simp [z])) (λz=>hb (by simp [z])) e⟩;rcases hl with hl | hl
  ·exact .inl (by simp;omega)
  ·exact .inr (by simp;omega)
 self:=λA i s Q E st h=>wpAny_pyIter_zip st.zip h
def Zn (K:Ab) (t1 t2:TE):TI:=λσ H R=>t1 σ H λx H1=>t2 σ H1 λy H2=>∃b1 b2 a b,x=.ref a/\y=.ref b/\(∃xs,LG b1 K H2 a xs)/\(∃ys,LG b2 K H2 b ys)/\R (aaB b1 b2 K a b) H2
def Qz (K:Ab) (hK:X.K=K) {e2:lm}{t2:TE} (hg:Gl X "zip") (hm:X.mg "zip"=bv) (h1:PE X e1 t1) (h2:PE X e2 t2)
  (zL:ce [e1,e2] X.env=(false,kt e1 X.env)::ce [e2] X.env:=by rfl) (qo:ce [e2] X.env=(false,kt e2 X.env)::ce [] X.env:=by rfl) (dH:(kw p2 (ce [e2] X.env)).any (·.1)=false:=by rfl) :
  PI X (.Tuple Ð kk tp) (.Call (.Name "zip" p1) [e1,e2] [] p2) (Zn K t1 t2):=by
 subst hK;intro Z s σ H R I h;refine BJ (jQ I hg hm boot_zip ?_ ⋯ ⋯);refine Bi ?_ zL dH;rw [zL,qo];refine Ci (bD (h1 Z s σ H _ I h) λu1 s1 ⟨x,H1,I1,r1,q1⟩=>?_);refine Ci (bD (h2 Z s1 σ H1 _ I1 q1) λu2 s2 ⟨y,H2,I2,r2,b1,b2,a,b,ex,ey,⟨xs,hx⟩,⟨ys,hy⟩,q⟩=>CG ?_);subst ex;subst ey;cases r1;cases r2;obtain⟨au,rx,tx,_⟩:=I2.W4 hx;obtain⟨cD,ry,ty,_⟩:=I2.W4 hy;have l1:=tx.lt;have l2:=ty.lt;refine K3 tx ty λh' zt k=>?_;refine wpAny_pyIter_zip zt.zip ?_;have dd:∀i j:Nat,i≠j->s2.heap.objs.size+i≠s2.heap.objs.size+j:=λi j n e=>n (Nat.add_left_cancel e);have na:∀i:Nat,a≠s2.heap.objs.size+i:=λi=>AM (AA l1 (BB _ _));have nb:∀i:Nat,b≠s2.heap.objs.size+i:=λi=>AM (AA l2 (BB _ _));have hA:ZipApart (s2.heap.objs.size+4) (s2.heap.objs.size+2) (s2.heap.objs.size+3) s2.heap.objs.size (s2.heap.objs.size+1) a b:=
  ⟨dd 2 4 ⋯,dd 3 4 ⋯,dd 0 4 ⋯,dd 1 4 ⋯,dd 2 3 ⋯,dd 2 0 ⋯,dd 2 1 ⋯,dd 3 0 ⋯,dd 3 1 ⋯,dd 0 1 ⋯,na 4,na 3,na 0,na 1,nb 4,nb 3,nb 0,nb 1⟩
 refine⟨_,_,_,_,H2,rfl,I2.kept (t':=s2.toks) k,Jz hA,zt,λc hc=>?_,q⟩;have Ú:s2.heap.objs.size<=c:=by
  simp only [Ay,BC,or_false] at hc;rcases hc with rfl | rfl | rfl | rfl | rfl
  ·exact BB _ _
  ·exact BB _ _
  ·exact BB _ _
  ·exact An _
  ·exact BB _ _
 exact I2.tS Ú (I2.bG.fresh Ú)
def Yw (K:Ab):V->Option Int->Option Int->Hp->VK->Prop:=λx lo hi H Q=>∃a xs,x=.ref a/\d9 K H a xs/\
 ((HT.d7 xs.length 0 lo=0/\HT.d7 xs.length xs.length hi=xs.length)->Q x H)/\(¬(HT.d7 xs.length 0 lo=0/\HT.d7 xs.length xs.length hi=xs.length)->kN H (.tup (xf xs lo hi)) Q)
def Qe (K:Ab) (hK:X.K=K):SlR X (Yw K):=by
 subst hK;intro Z s σ H x v vl vu lo hi sl Q I rx hs pl pu h;obtain⟨a,xs,rfl,hT,qw,qn⟩:=h;by_cases c:HT.d7 xs.length 0 lo=0/\HT.d7 xs.length xs.length hi=xs.length
 ·have q:=qw c;cases rx;obtain⟨au,r,ht,hz⟩:=I.tuple hT;have Á:au.toArray.size=xs.length:=by rw [Ai];exact r.length.symm
  refine⟨"tuple",_,Bj.lookup,ht.typeIs,?_⟩;obtain⟨os,Lz,Xg,RH⟩:=id hs;have Xi:s.TypeIs (.ref sl) "slice":=⟨os,Lz,Xg⟩;unfold FM
  try with_reducible refine Bc ?_
  first | refine Aa (Ah ?_) | skip
  refine Aa (Ed ht.typeIs ⋯ ?_);refine Aa (AY (name:=Cn "__getitem__") ht.typeIs Bj
   (Be Bj ht.typeIs entry_tuple_getitem ?_ (args_tuple_getitem _ _)))
  show d4 _ _ (Builtin.Tuple.tupleItemsOf (.ref a) >>= _) _ _ s;refine Aa (tupleItemsOf_ ht ?_);refine Aa (Co Xi ?_);refine Aa (HT.i8 hs pl pu ?_);show d4 _ _ (if (((HT.d7 au.toArray.size 0 lo:Nat):Int)==0&&(1:Int)==1&&(HT.d7 au.toArray.size au.toArray.size hi-HT.d7 au.toArray.size 0 lo)==au.toArray.size)=true then _ else _) _ _ s;rw [if_pos (by rw [Á,c.1,c.2];simp)];refine Aa ?_
  first
   | refine Aa (Co ht.typeIs (Ah ?_))
   | refine Co ht.typeIs (Ah ?_)
  first
   | rw [if_pos ⋯]
   | rw [if_pos rfl]
  refine Aa (C1 (Ah ⟨_,rfl,?_⟩));exact Ah ⟨.ref a,H,I,rfl,q⟩
 ·exact Uy Z s σ H _ v vl vu lo hi sl Q I rx hs pl pu ⟨a,xs,rfl,hT,c,λp hp=>(qn c).at p hp⟩
def YG (K:Ab):R2:=λx y H Q=>∃a b xs ys,x=.ref a/\y=.ref b/\d9 K H a xs/\d9 K H b ys/\xs.length+ys.length<=sizeLine/\
 (xs=[]->Q (.ref b) H)/\(xs≠[]->ys=[]->Q (.ref a) H)/\(xs≠[]->ys≠[]->kN H (.tup (xs++ys)) Q)
def QN (K:Ab) (hK:X.K=K):hJ X (sw .Add) (YG K):=by
 subst hK;intro Z s σ H x y v u Q I rx ry h;obtain⟨a,b,xs,ys,rfl,rfl,ha,hb,hz,q0,q1,q2⟩:=h;by_cases c:xs=[]
 ·cases rx;cases ry;obtain⟨au,r1,p1,_⟩:=I.tuple ha;obtain⟨cD,r2,p2,_⟩:=I.tuple hb;obtain⟨⟨cls,dd,data,sl⟩,ho,hc,n,hd⟩:=id p1;obtain⟨⟨WD,Sk,data2,Pg⟩,Kj,NM,n2,Î⟩:=id p2;simp only at hc hd NM Î;subst hc hd NM Î;exact concat_meets ⟨_,ho,rfl⟩ ⟨_,Kj,rfl⟩ noFill_tuple_add seq_tuple_add C7 C4 (CT _ _)
   (tuple_addW0 a b au.toArray cD.toArray n n2 dd Sk sl Pg (by rw [r1.jN.mpr c];rfl)) ⟨ho,Kj,.ref b,H,I,rfl,q0 c⟩
 ·exact Iv Z s σ H _ _ v u Q I rx ry ⟨a,b,xs,ys,rfl,rfl,ha,hb,c,hz,q1 c,λn p hp=>(q2 c n).at p hp⟩
end L2
namespace FL
section
open PySem PySem.Spec PyProof.Rows L2 PL
variable {K:Ab}
section
variable {a b c:lm}{w:W PV}{wm:W (List PV)}
def addW:PV->PV->W PV
 | .int i,.int j=>.ret (.int (i+j))
 | .str a,.str b=>.fM (a.length+b.length<=sizeLine) (.ret (.str (a++b)))
 | .tup a,.tup b=>.fM (a.length+b.length<=sizeLine) (.ret (.tup (a++b)))
 | _,_=>.fail
def cJ (hK:X.K=K) (ha:EF X K fs a wa) (hb:EF X K fs b wb):EF X K fs (.BinOp a .Add b pos) (.bind wa λx=>.bind wb λy=>addW x y):=
 ⟨PE.imp (Im ((QP K hK).or (QN K hK)) ha.p hb.p) λσ H Q ⟨sr,q⟩=>⟨sr,wa.mono (λx q1 u1 H1 g1 s1 v1=>⟨s1,wb.mono (λy q2 u2 H2 g2 s2 v2=>by
  have XX:=g2.vr s1 v1;cases XX with
  | int i=>
   cases v2 with
   | int j=>exact .inl ⟨_,rfl,q2 _ H2 (g1.trans g2) s2 (.int _)⟩
   | _=>exact q2.elim
  | str i=>
   cases v2 with
   | str j=>exact .inl ⟨_,rfl,q2.1,q2.2 _ H2 (g1.trans g2) s2 (.str _)⟩
   | _=>exact q2.elim
  | @tup p vs l e r=>
   cases v2 with
   | @tup p' Pd l' e' r'=>
    refine .inr ⟨p,p',vs,Pd,rfl,rfl,d9.of e,d9.of e',by rw [r.length,r'.length];exact q2.1,λz=>?_,λ_ z=>?_,λ_ _ q H3 s3 h3 n3=>?_⟩
    ·have z':=(PL.aL.jN r).mp z;subst z';exact q2.2 _ H2 (g1.trans g2) s2 (.tup e' r')
    ·have z':=(PL.aL.jN r').mp z;subst z';have q2:=q2.2;rw [CY] at q2;exact q2 _ H2 (g1.trans g2) s2 (.tup e r)
    ·exact q2.2 _ H3 ((g1.trans g2).trans (cZ.same s3)) (s2.same s3) (.tup h3 (aL.tk s3.eZ (r.append r')))
   | _=>exact q2.elim
  | _=>exact q2.elim) q1⟩) q⟩⟩
theorem lg:∀(l m:List PV),(gr l m).length=min l.length m.length
 | [],m=>by rw [gr];simp;intros;simp_all
 | x::l,[]=>by rw [gr];simp;intros;simp_all
 | x::l,y::m=>by rw [gr,Ao,lg l m];simp only [Ao];omega
def qE (l m:List PV):W (List PV):=.fM (l.length<=sizeLine) (.ret (gr l m))
def S3 (h:WS K H u l):∃(b:Bool) (a:db) (vs:List V),u=.ref a/\aL K [] H vs l/\∀H',bw K H H'->LG b K H' a vs:=by
 obtain⟨a,vs,e,h | h,r⟩:=h
 ·exact⟨true,a,vs,e,r,λH' t=>(t.f _ _ h).sq⟩
 ·exact⟨false,a,vs,e,r,λH' t=>d9.of (t.t _ _ h)⟩
theorem rH (hK:X.K=K) (hg:Gl X "zip") (hm:X.mg "zip"=bv) (ha:IF X K fs a wl) (hb:IF X K fs b wm)
  (zL:ce [a,b] X.env=(false,kt a X.env)::ce [b] X.env:=by rfl) (qo:ce [b] X.env=(false,kt b X.env)::ce [] X.env:=by rfl) (dH:(kw p2 (ce [b] X.env)).any (·.1)=false:=by rfl) :
  pU X K fs (.Tuple Ð kk tp) (.Call (.Name "zip" p1) [a,b] [] p2) (.bind wl λl=>.bind wm λm=>qE l m):=
 ⟨PI.imp (Qz K hK hg hm ha.p hb.p zL qo dH) λσ H R ⟨sr,q⟩=>⟨sr,wl.mono (λl q1 u1 H1 g1 s1 v1=>⟨s1,wm.mono (λm q2 u2 H2 g2 s2 v2=>by
  obtain⟨b1,a1,vs,rfl,r1,x1⟩:=S3 (v1.tk (g2.eL s1));obtain⟨b2,a2,ws,rfl,r2,x2⟩:=S3 v2;have tr:bw K H2 H2:=bw.refl H2;refine⟨b1,b2,a1,a2,rfl,rfl,⟨vs,x1 H2 tr⟩,⟨ws,x2 H2 tr⟩,q2.2 _ H2 (g1.trans g2) s2 ⟨by rw [lg];have:=q2.1;omega,λH' t=>⟨λi pp hp=>?_,vs,ws,x1 H' t,x2 H' t,?_⟩⟩⟩
  ·obtain⟨x,y,hx,hy,rfl⟩:=mL hp;obtain⟨v,h3,h4⟩:=(aL.tk t r1).get hx;obtain⟨v',GI,V6⟩:=(aL.tk t r2).get hy;refine⟨⟨vs,ws,v,v',x1 H' t,x2 H' t,h3,GI⟩,λz H3 yl=>?_⟩;obtain⟨p,x',y',rfl,hn,rfl,e1,e2⟩:=yl;have e1:=e1 vs (x1 H' t);have e2:=e2 ws (x2 H' t);rw [h3] at e1;rw [GI] at e2;cases e1;cases e2;have sm:=kI hn (.tup [v,v']);exact⟨sm,.tup aR (.cons (VR.tk sm.eZ h4) (.cons (VR.tk sm.eZ V6) .nil))⟩
  ·rw [lg,r1.length,r2.length];omega) q1⟩) q⟩⟩
variable {el eh:Option lm}{lo:W (Option Int)}
def FP (x:PV) (i j:Option Int):W PV:=match x with
 | .tup l=>.ret (.tup (kl l i j))
 | _=>.fail
def K2 {i j:Option Int} (h:HT.d7 l.length 0 i=0/\HT.d7 l.length l.length j=l.length):kl l i j=l:=by
 unfold kl;rw [h.1,h.2];simp
def zf (hK:X.K=K) (he:EF X K fs e w) (hl:OF X K fs el lo) (hh:OF X K fs eh hi):EF X K fs (.Subscript e (.Slice el eh bv p2) pos) (.bind w λx=>.bind lo λi=>.bind hi λj=>FP x i j):=⟨PE.imp (MH (Qe K hK) he.p hl.p hh.p) λσ H Q ⟨sr,q⟩=>⟨sr,w.mono (λx q1 u1 H1 g1 s1 v1=>⟨s1,lo.mono (λi q2 H2 g2 s2=>⟨s2,hi.mono (λj q3 H3 g3 s3=>by
 have XX:=g3.vr s2 (g2.vr s1 v1);have gg:=(g1.trans g2).trans g3;cases XX with
 | @tup p vs l e r=>
  have Á:=r.length;refine⟨p,vs,rfl,d9.of e,λc=>?_,λc q H4 s4 h4 n4=>?_⟩
  ·rw [Á] at c;have q3:(bm (PV.tup (kl l i j))).run _:=q3;rw [K2 c] at q3;exact q3 _ H3 gg s3 (.tup e r)
  ·exact q3 _ H4 (gg.trans (cZ.same s4)) (s3.same s4) (.tup h4 (aL.tk s4.eZ (r.cut i j)))
 | _=>exact q3.elim) q2⟩) q1⟩) q⟩⟩
end
end
end FL
namespace L2
open PySem PySem.Spec PyProof.Rows
def Mp (K:Ab) (C:List Int->Prop) (g:List Int->Int):List V->Hp->VK->Prop:=λxs H Q=>∃(p:db) (ns:List Int),xs=[.ref p]/\cU K H p (ns.map V.int)/\C ns/\Q (.int (g ns)) H
section
def JE {l:db}{vs:List ci} (hh:A.handled=bv) (hl:s.heap.IsList l vs.toArray) (hi:wS vs ns)
  (h:∀(h':pc) (t:Tok) tk,(∀b o,s.heap.get? b=bd o->h'.get? b=bd o)->Q (.int ns.sum t) {s with heap:=h',toks:=tk}):d4 (d5 prog w) A (call (.builtin "sum") [.ref l]) Q E s:=by
 obtain⟨xs,e⟩:=hi.allInts.items;have ù:ns=xs.toList.map (·.1):=by rw [<- hi.numsOf,<- nums_intItems,<- e]
 rw [e] at hl;refine sum_intListG hh hl λh' tk t' hk=>?_;have:=h h' t' tk hk;rw [preSum_eq,Cd (by simp),<- ù];exact this
end
def K9 {b:String}{C:List Int->Prop}{g:List Int->Int} (K:Ab) (hK:X.K=K) (hc:X.calm=true)
  (Ø:∀{s:dL}{l:db}{vs:List ci}{ns:List Int}{Q:ci->dL->Prop},X.A.handled=bv->s.heap.IsList l vs.toArray->wS vs ns->C ns->(∀(h':pc) (t:Tok) tk,(∀b o,s.heap.get? b=bd o->h'.get? b=bd o)->Q (.int (g ns) t) {s with heap:=h',toks:=tk})->d4 (d5 X.prog X.w) X.A (call (.builtin b) [.ref l]) Q X.xe s):bQ X (.builtin b) (Mp K C g):=by
 subst hK;intro Z s σ H xs us Q I r h;obtain⟨p,ns,rfl,hq,hC,q⟩:=h;obtain⟨u,rfl,rx⟩:=vals1 r;cases rx;obtain⟨au,r',pl,hz⟩:=I.list hq;exact Ø (I.ok.hd hc) pl.isList (intsAre_of r') hC λh' t tk hk=>⟨.int _,H,I.kept (t':=tk) hk,⟨t,rfl⟩,q⟩
end L2
variable {x:PL.PV}
namespace FL
section
open PySem PySem.Spec PyProof.Rows L2 PL
variable {K:Ab}
section
open Classical in
noncomputable def zO (K:Ab) (H:Hp) (x:PV) (w:ci):Bool:=decide (∃p v,RelV v w/\VR K [] H v p/\iR p x=true)
open Classical in
def Og (hK:X.K=K) (I:Inv X Z σ H s) {x p:PV}{v:V}{w:ci} (r:RelV v w) (h:VR K [] H v p):zO K H x w=iR p x:=by
 subst hK;cases e:iR p x with
 | true=>exact decide_eq_true ⟨p,v,r,h,e⟩
 | false=>
  refine decide_eq_false ?_;rintro⟨p',v',r',h',e'⟩;have:=Mj r r';subst this;rw [VR.NY I h h',e'] at e;cases e
theorem nJ (hK:X.K=K) (I:Inv X Z σ H s):∀{vs:List V}{au:List ci}{l:List PV},Vals vs au->aL K [] H vs l->au.map (zO K H x)=l.map λy=>iR y x
 | _,_,_,.nil,.nil=>rfl
 | _,_,_,.cons r t,.cons q z=>by rw [Aw,Aw,Og hK I r q,nJ hK I t z]
def tK (x:PV) (l:List PV):Prop:=PV.kd x=true/\f7 l=true/\eK l<=150
theorem mD (hK:X.K=K) (I:Inv X Z σ H s) {v:V}{w:ci} (hx:VR K [] H v x) (rx:RelV v w) (dx:PV.kd x=true) (hu:A.units+150+1 < o0) :
  ∀{vs:List V}{au:List ci}{l:List PV},Vals vs au->aL K [] H vs l->f7 l=true->eK l<=150->∀u∈au,Dj A s u w (zO K H x u)
 | _,_,_,.nil,.nil,_,_,u,hu=>by cases hu
 | _,_,_,.cons r t,.cons q z,d,dd,u,hm=>by
  rw [f7,AO] at d;rw [eK] at dd;rcases Ay.mp hm with rfl | hm
  ·rw [Og hK I r q];exact (WC hK I 150 _ x A _ v _ w ∅ d.1 dx q hx r rx hu).eq
  ·exact mD hK I hx rx dx hu t z d.2 ∅ u hm
end
def oG (x:PV) (l:List PV):Bool:=l.any λy=>iR y x
def Qn (K:Ab) (neg:Bool):R2:=λx y H Q=>∃p vs l xp,y=.ref p/\(cU K H p vs\/d9 K H p vs)/\aL K [] H vs l/\VR K [] H x xp/\tK xp l/\Q (.bl (if neg then !oG xp l else oG xp l)) H
section
theorem any_map' (f:α->Bool):∀l:List α,l.any f=(l.map f).any id
 | []=>rfl
 | x::l=>by rw [Ct,Aw,Ct,any_map' f l];rfl
theorem Vd (K:Ab) (hK:X.K=K) (hu:X.A.units+200 < o0):hJ X (lc .In) (Qn K false):=by
 intro Z s σ H x y v u Q I rx ry h;obtain⟨p,vs,l,xp,rfl,hq,hl,hx,ok,q⟩:=h;cases ry;have RA:X.A.in1.units+150+1 < o0:=by show X.A.units+1+150+1 < _;omega
 have fin:∀{au:List ci},Vals vs au->au.toArray.any (zO K H xp)=oG xp l:=λ{au} r=>by
  rw [show au.toArray.any (zO K H xp)=au.any (zO K H xp) by simp,any_map',nJ hK I r hl,<- any_map'];rfl
 rcases hq with hq | hq
 ·obtain⟨au,r,pl,hz⟩:=I.list (show cU X.K H p vs by rw [hK];exact hq);refine SeqAt.in_listAt (zO K H xp) pl.isList (λw hw=>mD hK I hx rx ok.1 RA r hl ok.2.1 ok.2.2 w (by simpa using hw)) ⟨.bl _,H,I,rfl,?_⟩;rw [fin r];exact q
 ·obtain⟨au,r,pl,hz⟩:=I.tuple (show d9 X.K H p vs by rw [hK];exact hq);refine SeqAt.in_tupleAt (zO K H xp) pl (λw hw=>mD hK I hx rx ok.1 RA r hl ok.2.1 ok.2.2 w (by simpa using hw)) ⟨.bl _,H,I,rfl,?_⟩;rw [fin r];exact q
theorem QK (K:Ab) (hK:X.K=K) (hu:X.A.units+200 < o0):hJ X (lc .NotIn) (Qn K true):=by
 intro Z s σ H x y v u Q I rx ry h;obtain⟨p,vs,l,xp,rfl,hq,hl,hx,ok,q⟩:=h;cases ry;have RA:X.A.in1.units+150+1 < o0:=by show X.A.units+1+150+1 < _;omega
 have fin:∀{au:List ci},Vals vs au->au.toArray.any (zO K H xp)=oG xp l:=λ{au} r=>by
  rw [show au.toArray.any (zO K H xp)=au.any (zO K H xp) by simp,any_map',nJ hK I r hl,<- any_map'];rfl
 rcases hq with hq | hq
 ·obtain⟨au,r,pl,hz⟩:=I.list (show cU X.K H p vs by rw [hK];exact hq);refine SeqAt.notIn_listAt (zO K H xp) pl.isList (λw hw=>mD hK I hx rx ok.1 RA r hl ok.2.1 ok.2.2 w (by simpa using hw)) ⟨.bl _,H,I,rfl,?_⟩;rw [fin r];exact q
 ·obtain⟨au,r,pl,hz⟩:=I.tuple (show d9 X.K H p vs by rw [hK];exact hq);refine SeqAt.notIn_tupleAt (zO K H xp) pl (λw hw=>mD hK I hx rx ok.1 RA r hl ok.2.1 ok.2.2 w (by simpa using hw)) ⟨.bl _,H,I,rfl,?_⟩;rw [fin r];exact q
def tL (x:PV) (l:List PV):Nat:=l.findIdx λy=>iR y x
def YC (K:Ab):V->List V->Hp->VK->Prop:=λx us H Q=>∃p vs l y q,x=.ref p/\us=[y]/\cU K H p vs/\aL K [] H vs l/\VR K [] H y q/\tK q l/\oG q l=true/\Q (.int (tL q l)) H
theorem Q3 (K:Ab) (hK:X.K=K) (hu:X.A.units+200 < o0):Ju X "list.index" (YC K):=by
 intro Z s σ H x vs v us Q I rx rv h;obtain⟨p,ws,l,y,q,rfl,rfl,hq,hl,hy,ok,has,qq⟩:=h;cases rx;obtain⟨u,rfl,ru⟩:=rv.one;have RA:X.A.in1.units+150+1 < o0:=by show X.A.units+1+150+1 < _;omega
 obtain⟨au,r,⟨⟨cls,dd,data,sl⟩,n,ho,hc,hd,jw⟩,hz⟩:=I.list (show cU X.K H p ws by rw [hK];exact hq);simp only at hc hd jw;subst hc hd jw;have em:=nJ (x:=q) hK I r hl;have Á:au.length=l.length:=by rw [<- r.length,hl.length]
 have kh:tL q l < l.length:=List.findIdx_lt_length_of_exists (by simpa [oG] using has);have at':∀(j:Nat) (h1:j < au.length) (h2:j < l.length),zO K H q au[j]=iR l[j] q:=λj h1 h2=>by
  have e:=congrArg (λz=>z[j]?) em;simp only [Ag,Ad h1,Ad h2,Ck] at e;exact Option.some.inj e
 have hsm:((tL q l:Nat):Int) < 2 ^ 63-1:=by
  have h8:l.length<=sizeLine:=by rw [<- hl.length];exact hz
  have h9:(sizeLine:Int) < 2 ^ 63-1:=by decide
  omega
 refine u8 F.slot_list_index ⟨_,ho,rfl⟩ F.entry_list_index (F.args_list_index_2 _ _) (SeqAt.list_indexAt p au.toArray n bv sl u (zO K H q) (tL q l) (by rw [Ai];omega) hsm ?_ ?_) ⟨ho,?_,?_⟩
 ·have h1:tL q l < au.length:=by omega
  rw [show au.toArray[tL q l]'(by rw [Ai];omega)=au[tL q l] by simp,at' _ h1 kh];exact List.findIdx_getElem (w:=kh)
 ·intro m hm hmj;have h1:m < au.length:=by rw [Ai] at hm;exact hm
  rw [show au.toArray[m]=au[m] by simp,at' _ h1 ∅];have:=List.not_of_lt_findIdx (p:=λy=>iR y q) (xs:=l) hmj;simpa using this
 ·intro w hw;exact mD hK I hy ru ok.1 RA r hl ok.2.1 ok.2.2 w (by simpa using hw)
 ·exact⟨.int _,H,I.tok _,⟨_,rfl⟩,qq⟩
def WA (x:PV) (l:List PV):Nat:=l.countP λy=>iR y x
theorem countP_map (f:α->Bool):∀l:List α,l.countP f=(l.map f).countP id
 | []=>rfl
 | x::l=>by rw [Aw,List.countP_cons,List.countP_cons,countP_map f l];rfl
def YF (K:Ab):V->List V->Hp->VK->Prop:=λx us H Q=>∃p vs l y q,x=.ref p/\us=[y]/\cU K H p vs/\aL K [] H vs l/\VR K [] H y q/\tK q l/\Q (.int (WA q l)) H
theorem Q5 (K:Ab) (hK:X.K=K) (hu:X.A.units+200 < o0):Ju X "list.count" (YF K):=by
 intro Z s σ H x vs v us Q I rx rv h;obtain⟨p,ws,l,y,q,rfl,rfl,hq,hl,hy,ok,qq⟩:=h;cases rx;obtain⟨u,rfl,ru⟩:=rv.one;have RA:X.A.in1.units+150+1 < o0:=by show X.A.units+1+150+1 < _;omega
 obtain⟨au,r,⟨⟨cls,dd,data,sl⟩,n,ho,hc,hd,jw⟩,hz⟩:=I.list (show cU X.K H p ws by rw [hK];exact hq);simp only at hc hd jw;subst hc hd jw;refine u8 F.slot_list_count ⟨_,ho,rfl⟩ F.entry_list_count (F.args_list_count_2 _ _) (SeqAt.list_countAt p au.toArray n bv sl u (zO K H q)) ⟨ho,?_,?_⟩
 ·intro w hw;exact mD hK I hy ru ok.1 RA r hl ok.2.1 ok.2.2 w (by simpa using hw)
 ·refine⟨.int _,H,I.tok _,⟨s.toks,?_⟩,qq⟩;rw [show au.toArray.toList=au from rfl,countP_map,nJ hK I r hl,<- countP_map];rfl
end
end
end FL
variable {Q:PL.PV->Prop}
namespace FL
section
open PySem PySem.Spec PyProof.Rows L2 PL
variable {K:Ab}
section
variable {a b c:lm}{w:W PV}
def rM (neg:Bool) (x:PV) (l:List PV):W Bool:=.fM (tK x l) (.ret (if neg then !oG x l else oG x l))
def blW (b:Bool):W PV:=.ret (.bl b)
def Wg:∀σ H Q,fE K fs (.bind wa λx=>.bind wl λl=>.bind (rM neg x l) blW) σ H Q->S0 (Qn K neg) (fE K fs wa) (fQ K fs wl) σ H Q:=λσ H Q ⟨sr,q⟩=>
 ⟨sr,wa.mono (λx q1 u1 H1 g1 s1 v1=>⟨s1,wl.mono (λl q2 u2 H2 g2 s2 v2=>by
  obtain⟨ad,vs,rfl,h,rs⟩:=v2.sq s2;exact⟨ad,vs,l,x,rfl,h,rs,g2.vr s1 v1,q2.1,q2.2 _ H2 (g1.trans g2) s2 (.bl _)⟩) q1⟩) q⟩
def Wf:∀σ H Q,fT K fs (.bind wa λx=>.bind wl λl=>rM neg x l) σ H Q->S0 (Qn K neg) (fE K fs wa) (fQ K fs wl) σ H λx H'=>∃k,x=.bl k/\Q k H':=λσ H Q ⟨sr,q⟩=>
 ⟨sr,wa.mono (λx q1 u1 H1 g1 s1 v1=>⟨s1,wl.mono (λl q2 u2 H2 g2 s2 v2=>by
  obtain⟨ad,vs,rfl,h,rs⟩:=v2.sq s2;exact⟨ad,vs,l,x,rfl,h,rs,g2.vr s1 v1,q2.1,_,rfl,q2.2 H2 (g1.trans g2) s2⟩) q1⟩) q⟩
def TY (hK:X.K=K) (hu:X.A.units+200 < o0) (ha:EF X K fs a wa) (hb:QF X K fs b wl) (hk:mo .In b=false:=by rfl):EF X K fs (.Compare a [.In] [b] pos) (.bind wa λx=>.bind wl λl=>.bind (rM false x l) blW):=⟨PE.imp (qa (Vd K hK hu) ha.p hb.p hk) (Wg (neg:=false))⟩
def vo (hK:X.K=K) (hu:X.A.units+200 < o0) (ha:EF X K fs a wa) (hb:QF X K fs b wl) (hk:mo .NotIn b=false:=by rfl):TF X K fs (.Compare a [.NotIn] [b] pos) (.bind wa λx=>.bind wl λl=>rM true x l):=⟨PT.imp (pZ (QK K hK hu) ha.p hb.p hk) (Wf (neg:=true))⟩
abbrev Zm (neg:Bool) (wa:W PV) (wl:W (List PV)):W PV:=.bind wa λx=>.bind wl λl=>.bind (rM neg x l) blW
abbrev Rx (neg:Bool) (wa:W PV) (wl:W (List PV)):W Bool:=.bind wa λx=>.bind wl λl=>rM neg x l
def sumLW (l:List PV):W PV:=.bind (o5 l) λns=>.ret (.int ns.sum)
def Kf {C:List Int->Prop}{g:List Int->Int}{f:List PV->W PV} (hf:∀{l:List PV}{Q:PV->Prop},(f l).run Q->∃ns:List Int,l=ns.map PV.int/\C ns/\Q (.int (g ns))):∀σ H Q,fE K fs (.bind wl f) σ H Q->tCB (Mp K C g) (S1 (fQL K fs wl) X6) σ H Q:=λσ H Q ⟨sr,q⟩=>⟨sr,wl.mono (λl q1 u1 H1 g1 s1 _ v1=>by
 obtain⟨ns,el,hC,q2⟩:=hf q1;obtain⟨a,vs,rfl,h1,r1⟩:=v1 H1 .refl s1;rw [el] at r1;have:=lF r1;subst this;exact⟨a,ns,rfl,h1,hC,q2 _ H1 g1 s1 (.int _)⟩) q⟩
def JG (h:(sumLW l).run Q):∃ns:List Int,l=ns.map PV.int/\True/\Q (.int ns.sum):=let ⟨ns,e,q⟩:=lG h;⟨ns,e,trivial,q⟩
def Wt (hK:X.K=K) (hc:X.calm=true) (hg:Gl X "sum") (hm:X.mg "sum"=bv) (ha:xB X K fs e wl) (he:ce [e] X.env=(false,kt e X.env)::ce [] X.env:=by rfl) (dH:(kw pos (ce [] X.env)).any (·.1)=false:=by rfl):EF X K fs (.Call (.Name "sum" p) [e] [] pos) (.bind wl sumLW):=⟨PE.imp (eP (K9 (C:=λ_=>True) (g:=λns=>ns.sum) K hK hc λa b c _ q=>JE a b c q) hg hm (show nw "sum"=bd (.builtin "sum") by rfl) (bh ha.p cC he) ⋯ ⋯ he dH) (Kf JG)⟩
def sortI (ns:List Int):List Int:=ns.mergeSort (λa b=>decide (a<=b))
theorem L8 (h1:ms.Perm ns) (h2:ms.Pairwise (·<=·)):ms=sortI ns:=by
 have h3:(sortI ns).Perm ns:=CS ns _;have h4:(sortI ns).Pairwise (λa b=>decide (a<=b)=true):=Es (λa b c=>by simp;omega) (λa b=>by simp;omega) ns;exact List.Perm.eq_of_pairwise (le:=λa b=>a<=b) (λa b _ _ h h'=>Int.le_antisymm h h') h2 (h4.imp (by simp)) (h1.trans h3.symm)
def vB (l:List PV):W (List PV):=.bind (o5 l) λns=>.fM (ns.length < 64) (.ret ((sortI ns).map PV.int))
def Rg (hK:X.K=K) (hg:Gl X "sorted") (hm:X.mg "sorted"=bv) (ha:xB X K fs e wl) (he:ce [e] X.env=(false,kt e X.env)::ce [] X.env:=by rfl) (dH:(kw pos (ce [] X.env)).any (·.1)=false:=by rfl):LF X K fs (.Call (.Name "sorted" p) [e] [] pos) (.bind wl vB):=⟨PE.imp (eP (Hk K hK) hg hm boot_sorted (bh ha.p cC he) ⋯ ⋯ he dH) λσ H Q ⟨sr,q⟩=>⟨sr,wl.mono (λl q1 u1 H1 g1 s1 _ v1=>by
 obtain⟨ns,el,hC,q2⟩:=lG (l:=l) q1;obtain⟨a,vs,rfl,h1,r1⟩:=v1 H1 .refl s1;rw [el] at r1;have:=lF r1;subst this;refine⟨a,ns,rfl,h1,hC,λms a2 a3=>?_⟩;rw [L8 a2 a3];exact Iz g1 s1 (ny _ _ _) q2) q⟩⟩
def Ry (l:List PV) (x:PV):W PV:=.fM (tK x l/\oG x l=true) (.ret (.int (tL x l)))
def Sn (l:List PV) (x:PV):W PV:=.fM (tK x l) (.ret (.int (WA x l)))
def R7 (hK:X.K=K) (hu:X.A.units+200 < o0) (ho:xB X K fs o wl) (he:EF X K fs e w)
  (dZ:py o "index" X.env (kt o X.env)=kt o X.env:=by rfl)
  (mw:((kw bt (ce [e] X.env)).all (λx=>!x.1)&&(Fa bt (wv [] X.env)).all (λx=>x.1.isSome)
   && decide ([e].length+([]:List tz).length+(if ([]:List tz).isEmpty then 0 else 1) < 30))=true:=by rfl)
  (dY:(Â.endLine==bt.line)=true:=by rfl) (pG:ce [e] X.env=(false,kt e X.env)::ce [] X.env:=by rfl) (eB:(kw bt (ce [] X.env)).any (·.1)=false:=by rfl) :
  EF X K fs (.Call (.Attribute o "index" Â) [e] [] bt) (.bind wl λl=>.bind w λx=>Ry l x):=
 ⟨PE.imp (om K hK Bw PySem.F.slot_list_index PySem.F.type_list_index (Q3 K hK hu) ho.p (bh he.p cC pG) dZ mw dY pG eB) λσ H Q ⟨sr,q⟩=>⟨sr,wl.mono (λl q1 u1 H1 g1 s1 _ v1=>by
  obtain⟨a,vs,eu,h1,_⟩:=v1 H1 .refl s1;subst eu;refine⟨.inl ⟨rfl,_,h1⟩,s1,w.mono (λx q2 u2 H2 g2 s2 v2=>?_) q1⟩
  ·obtain⟨a',vs,ea,h2,r2⟩:=v1 H2 g2 s2;cases ea;exact⟨a,vs,l,u2,x,rfl,rfl,h2,r2,v2,q2.1.1,q2.1.2,q2.2 _ H2 (g1.trans g2) s2 (.int _)⟩) q⟩⟩
def R9 (hK:X.K=K) (hu:X.A.units+200 < o0) (ho:xB X K fs o wl) (he:EF X K fs e w)
  (dZ:py o "count" X.env (kt o X.env)=kt o X.env:=by rfl)
  (mw:((kw bt (ce [e] X.env)).all (λx=>!x.1)&&(Fa bt (wv [] X.env)).all (λx=>x.1.isSome)
   && decide ([e].length+([]:List tz).length+(if ([]:List tz).isEmpty then 0 else 1) < 30))=true:=by rfl)
  (dY:(Â.endLine==bt.line)=true:=by rfl) (pG:ce [e] X.env=(false,kt e X.env)::ce [] X.env:=by rfl) (eB:(kw bt (ce [] X.env)).any (·.1)=false:=by rfl) :
  EF X K fs (.Call (.Attribute o "count" Â) [e] [] bt) (.bind wl λl=>.bind w λx=>Sn l x):=
 ⟨PE.imp (om K hK Bw PySem.F.slot_list_count PySem.F.type_list_count (Q5 K hK hu) ho.p (bh he.p cC pG) dZ mw dY pG eB) λσ H Q ⟨sr,q⟩=>⟨sr,wl.mono (λl q1 u1 H1 g1 s1 _ v1=>by
  obtain⟨a,vs,eu,h1,_⟩:=v1 H1 .refl s1;subst eu;refine⟨.inl ⟨rfl,_,h1⟩,s1,w.mono (λx q2 u2 H2 g2 s2 v2=>?_) q1⟩
  ·obtain⟨a',vs,ea,h2,r2⟩:=v1 H2 g2 s2;cases ea;exact⟨a,vs,l,u2,x,rfl,rfl,h2,r2,v2,q2.1,q2.2 _ H2 (g1.trans g2) s2 (.int _)⟩) q⟩⟩
end
end
end FL
variable {x:Bool}
namespace FL
section
open PySem PySem.Spec PyProof.Rows L2 PL
variable {K:Ab}
section
variable {rest:List t0}{T:Type}{out:T->End}
def VS (l:List PV):PV->W PV
 | .int k=>.fM (0<=k/\k < 1000) (.MY l[k.toNat]?)
 | _=>.fail
def SF.ad6 (i:Nat) {op:Operator}{ti:TIp}{M:M2}{k:List PV->W T} (hs:fs[i]?=bd (bd (.ol q0 l))) (hK:X.K=K) (hN:X.N[i]?=bd y) (hv:xt X.env.scope y) (hi:EF X K fs ei wi) (he:EF X K fs e we) (ho:PIp X op ti) (hM:M2.Ok K ti M) (hr:∀l',SF X K x (fs.set i (bd (.ol q0 l'))) rest (k l') out)
  (hd:(y==("__debug__":Str))=false:=by decide) (iL:(y==("__classdict__":Str))=false:=by decide)
  (ha:∀ov iv new,augStore ei ov iv new=(do sn [new,ov,iv] (Ev ov iv new);release [new,ov,iv] [];pure .next):=by intros;rfl) :
  SF X K x fs (.AugAssign (.Subscript (.Name y p) ei gc) op e pos::rest) (.bind wi λn=>.bind (VS l n) λg=>.bind we λv=>.bind (of2 M g v) λr=>.bind (gh l n r) k) out:=
 SF.step (Qv (dj hN hv hd iL) hi.p (NR K hK) he.p ho n9 ha) λD σ H ⟨sr,q⟩=>by
  obtain⟨a,ws,e1,h1,r1⟩:=c7 sr hs;refine⟨_,e1,sr,wi.mono (λn q1 u1 H1 g1 s1 v1=>?_) q⟩;obtain⟨a',ws1,mK,hU,xF⟩:=c7 s1 hs;rw [e1] at mK;cases mK;cases v1 with
  | int kk=>
   have q1:(0<=kk/\kk < 1000)/\(W.MY l[kk.toNat]?).run _:=q1;obtain⟨⟨b1,b2⟩,q1⟩:=q1;cases hg:l[kk.toNat]? with
   | none=>rw [hg] at q1;exact q1.elim
   | some g=>
    rw [hg] at q1;obtain⟨u,hu,ru⟩:=xF.get hg;refine⟨a,ws1,kk,u,rfl,rfl,cU.of hU,b1,b2,hu,s1,we.mono (λv q2 u2 H2 g2 s2 v2=>?_) q1⟩;refine vQ hM s2 (g2.vr s1 ru) v2 ((of2 M g v).mono (λr q3 u3 H3 g3 s3 v3=>?_) q2);obtain⟨a',XU,T4,GI,UP⟩:=c7 s3 hs;rw [e1] at T4;cases T4;have q3:(match nu l.length kk with | some j=>bm (l.set j r) | none=>W.fail).run _:=q3;cases hj:nu l.length kk with
    | none=>rw [hj] at q3;exact q3.elim
    | some j=>
     rw [hj] at q3;refine⟨a,XU,kk,j,rfl,rfl,GI,by rw [UP.length];exact hj,λH4 sx h4=>?_⟩;obtain⟨s4,g4⟩:=jM s3 hs e1 sx h4 (UP.set v3 j);exact⟨_,k _,hr _,s4,(k _).mono (λt q4=>q4.go (((g1.trans g2).trans g3).f.trans g4) sr s4) q3⟩
  | _=>exact q1.elim
def Qd (l:List PV) (i j:PV) (m:List PV):W (List PV):=match i,j with
 | .int a,.int c=>.fM (0<=a/\a<=c/\c<=l.length/\l.length+m.length<=sizeLine) (.ret (l.take a.toNat++m++l.drop c.toNat))
 | _,_=>.fail
def SF.Yl (i:Nat) {lo hi:lm}{k:List PV->W T} (hs:fs[i]?=bd (bd (.ol q0 l))) (hN:X.N[i]?=bd y) (hv:xt X.env.scope y) (he:LF X K fs e wl) (hl:EF X K fs lo wa) (hh:EF X K fs hi wb) (hr:∀l',SF X K x (fs.set i (bd (.ol q0 l'))) rest (k l') out)
  (ha:∀v,xz (.Subscript (.Name y p) (.Slice (bd lo) (bd hi) bv p2) gc) X.env v=(do
   let ov <- sn [v] (kt (.Name y p) X.env)
   let iv <- sn [v,ov] (kt (.Slice (bd lo) (bd hi) bv p2) X.env)
   Gf gc
   sn [v,ov,iv] (Ev ov iv v)
   release [iv,v,ov] []):=by intro _;rfl)
  (hd:(y==("__debug__":Str))=false:=by decide) (iL:(y==("__classdict__":Str))=false:=by decide)
  (Zw:FS [.Subscript (.Name y p) (.Slice (bd lo) (bd hi) bv p2) gc] e pos.line X.env=pure false:=by rfl) (hw:Gc [.Subscript (.Name y p) (.Slice (bd lo) (bd hi) bv p2) gc] e X.env=pure bv:=by rfl)
  (h1:(ww [.Subscript (.Name y p) (.Slice (bd lo) (bd hi) bv p2) gc] X.env).map (·.2)=[xz (.Subscript (.Name y p) (.Slice (bd lo) (bd hi) bv p2) gc) X.env]:=by rfl) :
  SF X K x fs (.Assign [.Subscript (.Name y p) (.Slice (bd lo) (bd hi) bv p2) gc] e pos::rest) (.bind wl λm=>.bind wa λa=>.bind wb λb=>.bind (Qd l a b m) k) out:=
 SF.step (vI he.p (MD (dj hN hv hd iL) hl.p hh.p ha) Zw hw h1) λD σ H ⟨sr,q⟩=>by
  refine⟨sr,wl.mono (λm q1 b vb H1 g1 s1 nb eb rb=>?_) q⟩;obtain⟨a,ws,e1,h1,r1⟩:=c7 s1 hs;refine⟨_,e1,s1,wa.mono (λi1 q2 u2 H2 g2 s2 v2=>⟨s2,wb.mono (λj1 q3 u3 H3 g3 s3 v3=>?_) q2⟩) q1⟩;obtain⟨a',XU,T4,GI,UP⟩:=c7 s3 hs;rw [e1] at T4;cases T4;have Ă:=g3.vr s2 v2;have no:¬dG σ fs b:=sr.noOwn nb;have eb3:=(g2.trans g3).o4 eb no;have rb3:=(g2.trans g3).Lv s1 rb;have ne:a≠b:=λz=>no ⟨i,_,a,hs,rfl,e1,.inl z.symm⟩;cases Ă with
  | int aa=>
   cases v3 with
   | int cc=>
    have q3:(0<=aa/\aa<=cc/\cc<=l.length/\l.length+m.length<=sizeLine)/\(k (l.take aa.toNat++m++l.drop cc.toNat)).run _:=q3;obtain⟨⟨c1,c2,c3,c4⟩,q3⟩:=q3;refine⟨a,b,XU,vb,aa,cc,rfl,rfl,rfl,rfl,GI,eb3,ne,c1,c2,by rw [UP.length];exact c3,by rw [UP.length,rb3.length];exact c4,?_⟩;have sx:nZ a H3 (upd H3 a (.lst (XU.take aa.toNat++vb++XU.drop cc.toNat))):=λz o n hz=>by rw [aB n];exact hz
    obtain⟨s4,g4⟩:=jM s3 hs e1 sx aR (((UP.take aa.toNat).append rb3).append (UP.drop cc.toNat));exact⟨_,k _,hr _,s4,(k _).mono (λt q4=>q4.go (((g1.trans g2).trans g3).f.trans g4) sr s4) q3⟩
   | _=>exact q3.elim
  | _=>exact q3.elim
def UG (l:List PV) (v:PV):W (List PV):=match v with
 | .int k=>.bind (o5 l) λns=>.fM (k∈ns) (.ret ((ns.erase k).map PV.int))
 | _=>.fail
theorem SF.remove (i:Nat) {k:List PV->W T} (hs:fs[i]?=bd (bd (.ol q0 l))) (hK:X.K=K) (hN:X.N[i]?=bd y) (hv:xt X.env.scope y) (he:EF X K fs e we) (hr:∀l',SF X K x (fs.set i (bd (.ol q0 l'))) rest (k l') out)
  (hd:(y==("__debug__":Str))=false:=by decide) (iL:(y==("__classdict__":Str))=false:=by decide) (dZ:py (.Name y p) "remove" X.env (kt (.Name y p) X.env)=kt (.Name y p) X.env:=by rfl)
  (mw:((kw bt (ce [e] X.env)).all (λx=>!x.1)&&(Fa bt (wv [] X.env)).all (λx=>x.1.isSome)
   && decide ([e].length+([]:List tz).length+(if ([]:List tz).isEmpty then 0 else 1) < 30))=true:=by rfl)
  (dY:(Â.endLine==bt.line)=true:=by rfl) (pG:ce [e] X.env=(false,kt e X.env)::ce [] X.env:=by rfl) (eB:(kw bt (ce [] X.env)).any (·.1)=false:=by rfl)
  (pF:lw (.Call (.Attribute (.Name y p) "remove" Â) [e] [] bt) bv pos.line X.env=pure false:=by rfl) :
  SF X K x fs (.Expr (.Call (.Attribute (.Name y p) "remove" Â) [e] [] bt) pos::rest) (.bind we λv=>.bind (UG l v) k) out:=
 SF.step (mY (om K hK Bw PySem.F.slot_list_remove PySem.F.type_list_remove F5 (dj hN hv hd iL) (bh he.p cC pG) dZ mw dY pG eB) pF) λD σ H ⟨sr,q⟩=>by
  obtain⟨a,ws,e1,h1,r1⟩:=c7 sr hs;refine⟨_,e1,.inl ⟨rfl,_,cU.of h1⟩,sr,we.mono (λv q1 u H1 g1 s1 v1=>?_) q⟩;obtain⟨a',pq,mK,hU,xF⟩:=c7 s1 hs;rw [e1] at mK;cases mK;cases v1 with
  | int kk=>
   obtain⟨ns,el,hk,q2⟩:=lG (l:=l) q1;subst el;have:=lF xF;subst this;refine⟨a,ns,kk,rfl,rfl,hU,hk,λH2 sx h2=>?_⟩;obtain⟨s2,g2⟩:=jM s1 hs e1 sx h2 (ny _ _ (ns.erase kk));exact⟨_,k _,hr _,s2,(k _).mono (λt q3=>q3.go (g1.f.trans g2) sr s2) q2⟩
  | _=>exact q1.elim
end
end
end FL
variable {vs:List (L2.Key×L2.V)}{kvs:List (L2.Key×PL.PV)}{q:L2.Key×PL.PV}
namespace FL
section
open PySem PySem.Spec PyProof.Rows L2 PL
variable {K:Ab}
abbrev w2 (f:PV->PV->W PV) (wa wb:W PV):W PV:=.bind wa λx=>.bind wb λy=>f x y
structure WZ (P:tt) (w:wE) (K:Ab) (mg:Str->Option ci) (base:pc) (f:db) (k:Nat) (ps:List Str) (sp:Sp) where
 fd:Fk
 ok:gm P w K mg base lO k f fd ps sp
 bi:Binds K fd ps []
 kp:CI K (.ref f)=true
section
variable {x:Str}{R:Type}{B:(List PV->W R)->W R}{fa:db}
def ad8 (hg:Gl X x) (hm:X.mg x=bd (.ref fa)) (hr:AF X K fs es ks B) (hd:(x==("__debug__":Str))=false:=by decide) (pG:ce (.Name x pos::es) X.env=(false,kt (.Name x pos) X.env)::ce es X.env:=by rfl):AF X K fs (.Name x pos::es) (.f fa::ks) B:=by
 obtain⟨wr,hp,hB⟩:=hr.p;refine⟨wr,PA.imp (bh (p0 (v:=.ref fa) hg hm rfl hd) hp pG) λσ H Q ⟨sr,q⟩=>?_,hB⟩;exact⟨sr,wr.mono (λl q2 vs H2 g2 s2 v2=>q2 _ H2 g2 s2 (.f v2)) q⟩
def Sd {B:(List PV->W PV)->W PV} (i:Nat) (G:WZ X.prog X.w X.K X.mg X.base fa k ps (eM K ks m)) (hr:cX k' X.A) (hk:k<=k') (hs:fs[i]?=bd (bd (.adr fa))) (ha:AF X K fs (e::es) ks B) (hW:W'=B m) (hN:X.N[i]?=bd x:=by rfl) (hv:xt X.env.scope x:=by first | exact CB rfl | exact Cs (CB rfl) | exact Cs (Cs rfl)) (hd:(x==("__debug__":Str))=false:=by decide) (iL:(x==("__classdict__":Str))=false:=by decide)
  (he:ce (e::es) X.env=(false,kt e X.env)::ce es X.env:=by rfl) (dH:(kw pos (ce es X.env)).any (·.1)=false:=by rfl):EF X K fs (.Call (.Name x p) (e::es) [] pos) W':=by
 subst hW;obtain⟨w,hp,hB⟩:=ha.p;rw [hB];refine⟨PE.imp (MP (dvs:=[]) (ds:=[]) (E:=E0) G.ok (hr.mono hk) (dj hN hv hd iL) G.kp G.bi .nil Ta hp he dH) λσ H Q ⟨sr,q⟩=>?_⟩;obtain⟨u,e1,r⟩:=sr.at' i _ hs;rcases r with⟨v,e,_⟩ | ⟨a,e,r⟩
 ·cases e
 ·have r:a=fa:=r;subst r;subst e;refine⟨_,e1,rfl,sr,w.mono (λl q1 vs H1 g1 s1 v1=>?_) q⟩;show eM K ks m (vs++[]) H1 Q E0;rw [CY];exact⟨l,v1.c s1,(m l).mono (λz q2 u H2 g2 r2=>let ⟨s2,g3⟩:=g2.caller v1 s1;q2 u H2 (g1.trans g3) s2 r2) q1⟩
end
def Gs:PV->W Key
 | .int i=>.ret (.inl i)
 | .str s=>.ret (.inr s)
 | _=>.fail
def pI (kvs:List (Key×PV)) (k:Key):Bool:=kvs.any λkv=>decide (kv.1=k)
def pJ (kvs:List (Key×PV)) (k:Key):Option PV:=(kvs.find? λkv=>decide (kv.1=k)).map (·.2)
def putP (kvs:List (Key×PV)) (k:Key) (v:PV):List (Key×PV):=if pI kvs k=true then kvs.map (λkv=>if kv.1=k then (kv.1,v) else kv) else kvs++[(k,v)]
def da (K:Ab) (H:Hp) (vs:List (Key×V)) (kvs:List (Key×PV)):Prop:=vs.map (·.1)=kvs.map (·.1)/\aL K [] H (vs.map (·.2)) (kvs.map (·.2))
section
def da.cons_inv {p:Key×V} (h:da K H (p::vs) (q::kvs)):p.1=q.1/\VR K [] H p.2 q.2/\da K H vs kvs:=by
 obtain⟨h1,h2⟩:=h;injection h1 with a b;cases h2 with
 | cons r t=>exact⟨a,r,b,t⟩
def da.mk {p:Key×V} (e:p.1=q.1) (r:VR K [] H p.2 q.2) (h:da K H vs kvs):da K H (p::vs) (q::kvs):=⟨by rw [Aw,Aw,e,h.1],.cons r h.2⟩
theorem da.ind {C:List (Key×V)->List (Key×PV)->Prop} (h0:C [] []) (h1:∀p q vs kvs,p.1=q.1->VR K [] H p.2 q.2->da K H vs kvs->C vs kvs->C (p::vs) (q::kvs)):∀{vs kvs},da K H vs kvs->C vs kvs
 | [],[],_=>h0
 | [],_::_,h=>by simp [da] at h
 | _::_,[],h=>by simp [da] at h
 | p::vs,q::kvs,h=>let ⟨a,b,c⟩:=h.cons_inv;h1 p q vs kvs a b c (da.ind h0 h1 c)
def da.has (h:da K H vs kvs) (k:Key):(iI vs k).isSome=pI kvs k:=by
 rw [<- mP];refine da.ind (C:=λvs kvs=>(vs.any λkv=>decide (kv.1=k))=kvs.any λkv=>decide (kv.1=k)) rfl (λp q vs kvs e _ _ ih=>?_) h;rw [Ct,Ct,ih,e]
def da.get (h:da K H vs kvs) (k:Key) (g:pJ kvs k=bd v):∃u,iI vs k=bd u/\VR K [] H u v:=by
 refine da.ind (C:=λvs kvs=>pJ kvs k=bd v->∃u,iI vs k=bd u/\VR K [] H u v) (λg=>by simp [pJ] at g) (λp q vs kvs e r _ ih g=>?_) h g;by_cases c:p.1=k
 ·rw [kA c];have c':=e▸c;have:pJ (q::kvs) k=bd q.2:=by simp [pJ,BI,c']
  rw [this] at g;cases g;exact⟨_,rfl,r⟩
 ·rw [kB c];have c':=e▸c;have:pJ (q::kvs) k=pJ kvs k:=by simp [pJ,BI,c']
  exact ih (this▸g)
def da.put (h:da K H vs kvs) (k:Key) (r:VR K [] H u v):da K H (putK vs k u) (putP kvs k v):=by
 have hh:(vs.any λkv=>decide (kv.1=k))=pI kvs k:=by rw [mP];exact h.has k
 unfold putK putP;rw [hh]
 split
 ·refine da.ind (C:=λvs kvs=>da K H (vs.map λkv=>if kv.1=k then (kv.1,u) else kv) (kvs.map λkv=>if kv.1=k then (kv.1,v) else kv)) ⟨rfl,.nil⟩ (λp q vs kvs e rr _ ih=>?_) h;rw [Aw,Aw];by_cases c:p.1=k
  ·rw [if_pos c,if_pos (e▸c)];exact da.mk e r ih
  ·rw [if_neg c,if_neg (e▸c)];exact da.mk e rr ih
 ·refine da.ind (C:=λvs kvs=>da K H (vs++[(k,u)]) (kvs++[(k,v)])) ⟨rfl,.cons r .nil⟩ (λp q vs kvs e rr _ ih=>da.mk e rr ih) h
def da.length (h:da K H vs kvs):vs.length=kvs.length:=by
 have:=congrArg BU h.1;simpa using this
end
section
variable {a:lm}{rest:List t0}{T:Type}{out:T->End}
def vP (sr:aW K H σ fs) (hs:fs[i]?=bd (bd (.od kvs))):∃a vs,σ[i]?=bd (bd (.ref a))/\H a=bd (.dK vs)/\da K H vs kvs:=by
 obtain⟨u,e1,r⟩:=sr.at' i _ hs;rcases r with⟨v,e,_⟩ | ⟨a,e,vs,q1,q2,q3⟩
 ·cases e
 ·subst e;exact⟨a,vs,e1,q1,q2,q3⟩
def SF.acp {k:W T} (hN:X.N.Nodup) (hi:X.N[i]?=bd y) (hx:Loc X.env.scope y) (hr:SF X K x (fs.set i (bd (.od []))) rest k out) (hs:lw (.Dict [] [] p2) (bd (.Name y p')) pos.line X.env=pure false:=by rfl)
  (hf:X.fn y=true\/X.env.scope.names.lookup y=bd .local:=by first | exact .inl rfl | exact .inr rfl | assumption):SF X K x fs (.Assign [.Name y p'] (.Dict [] [] p2) pos::rest) k out:=SF.step (qV hN hi hx MM hs hf) λD σ H ⟨sr,q⟩=>λa H1 s1 e1 n1=>by
 have no:=sr.noOwn n1;have s2:=(sr.same s1).qU (t:=.od []) ⟨[],e1,rfl,.nil⟩ no i;exact⟨_,k,hr,s2,k.mono (λt q2=>q2.go (cL.qU (sr.same s1) (cL.same s1 sr) no n1 i) sr s2) q⟩
def Tp {Q:Key->Prop} (r:VR K [] H u v) (q:(Gs v).run Q):∃k,u=kV k/\Q k:=by
 cases r with
 | int i=>exact⟨.inl i,rfl,q⟩
 | str s=>exact⟨.inr s,rfl,q⟩
 | _=>exact q.elim
def Rv (i:Nat) (hs:fs[i]?=bd (bd (.od kvs))) (hN:X.N[i]?=bd y):∀σ H Q,fT K fs (.bind wa λx=>.bind (Gs x) λk=>.ret (if neg then !pI kvs k else pI kvs k)) σ H Q->(fE K fs wa) σ H λu H1=>(X2 i) σ H1 λz H2=>∃a o,z=.ref a/\uf H2 a u o/\(∃b,(V.bl (if neg then !o.isSome else o.isSome))=.bl b/\Q b H2):=λσ H Q ⟨sr,q⟩=>
 ⟨sr,wa.mono (λv q1 u H1 g1 s1 v1=>by
  obtain⟨k,rfl,q2⟩:=Tp v1 q1;obtain⟨a,vs,e1,h1,r1⟩:=vP s1 hs;refine⟨_,e1,a,_,rfl,uf.k h1,_,rfl,?_⟩;rw [r1.has k];exact q2 H1 g1 s1) q⟩
theorem X1 (i:Nat) (hs:fs[i]?=bd (bd (.od kvs))) (hu:X.A.units+200 < o0) (ha:EF X K fs a wa) (hN:X.N[i]?=bd y:=by rfl) (hv:xt X.env.scope y:=by first | exact CB rfl | exact Cs (CB rfl) | exact Cs (Cs rfl)) (hd:(y==("__debug__":Str))=false:=by decide) (iL:(y==("__classdict__":Str))=false:=by decide) (hk:mo .In (.Name y p)=false:=by rfl) :
  TF X K fs (.Compare a [.In] [.Name y p] pos) (.bind wa λx=>.bind (Gs x) λk=>.ret (pI kvs k)):=⟨PT.imp (UU (U6 ∅ ha.p (dj hN hv hd iL)) hk) (Rv (neg:=false) i hs hN)⟩
def US (kvs:List (Key×PV)) (n v:PV):W (List (Key×PV)):=.bind (Gs n) λkk=>.fM (kvs.length < sizeLine) (.ret (putP kvs kk v))
theorem SF.putD (i:Nat) {k:List (Key×PV)->W T} (hs:fs[i]?=bd (bd (.od kvs))) (hu:X.A.units+200 < o0) (hN:X.N[i]?=bd y) (hv:xt X.env.scope y) (he:EF X K fs e we) (hi:EF X K fs ei wi) (hr:∀l',SF X K x (fs.set i (bd (.od l'))) rest (k l') out)
  (hd:(y==("__debug__":Str))=false:=by decide) (iL:(y==("__classdict__":Str))=false:=by decide) (pF:lw e (bd (.Subscript (.Name y p) ei gc)) pos.line X.env=pure false:=by rfl) :
  SF X K x fs (.Assign [.Subscript (.Name y p) ei gc] e pos::rest) (.bind we λv=>.bind wi λn=>.bind (US kvs n v) k) out:=
 SF.step (Qu ∅ (dj hN hv hd iL) hi.p he.p pF) λD σ H ⟨sr,q⟩=>by
  refine⟨sr,we.mono (λv q1 u H1 g1 s1 v1=>?_) q⟩;obtain⟨a,vs,e1,h1,r1⟩:=vP s1 hs;refine⟨_,e1,s1,wi.mono (λn q2 u2 H2 g2 s2 v2=>?_) q1⟩;obtain⟨kk,rfl,hz,q3⟩:=Tp v2 q2;obtain⟨a',Pd,mK,hU,xF⟩:=vP s2 hs;rw [e1] at mK;cases mK;refine⟨a,_,rfl,Pb.k hU (by rw [xF.length];exact hz),?_⟩;have sx:nZ a H2 (upd H2 a (.dK (putK Pd kk u))):=λz o n hz=>by rw [aB n];exact hz
  obtain⟨s3,g3⟩:=mm (t':=.od (putP kvs kk v)) s2 hs rfl (by simp) e1 sx λtk=>⟨_,aR,(xF.put kk (g2.vr s1 v1)).1,aL.tk tk (xF.put kk (g2.vr s1 v1)).2⟩;exact⟨_,k _,hr _,s3,(k _).mono (λt q4=>q4.go ((g1.trans g2).f.trans g3) sr s3) q3⟩
end
end
section
open PySem PySem.Spec PyProof.Rows L2 PL
variable {K:Ab}
def fAs (K:Ab) (fs:bA) (i:Nat) (w:W (List PV)):TS:=λD σ H=>aW K H σ fs/\w.run λl=>∀a vs H',cZ σ fs H H'->aW K H' σ fs->H a=bv->H' a=bd (.lst vs)->aL K [] H' vs l->D.nx (σ.set i (bd (.ref a))) H'
structure AS (X:Cx) (K:Ab) (fs:bA) (st:t0) (i:Nat) (w:W (List PV)):Prop where p:PS X st (fAs K fs i w)
section
variable {st:t0}{rest:List t0}{T:Type}{out:T->End}{k:List PV->W T}
def SF.as (h:AS X K fs st i wl) (hr:∀l,SF X K x (fs.set i (bd (.ol bv l))) rest (k l) out):SF X K x fs (st::rest) (.bind wl k) out:=SF.step h.p λD σ H ⟨sr,q⟩=>⟨sr,wl.mono (λl q1 a ws H1 g1 s1 n e v1=>by
 have no:=sr.noOwn n;have s2:=s1.qU (t:=.ol bv l) ⟨by simp,ws,e,v1⟩ no i;exact⟨_,k l,hr l,s2,(k l).mono (λt q2=>q2.go (cL.qU s1 g1.f no n i) sr s2) q1⟩) q⟩
def WK (b:Nat) (hs:fs[b]?=bd (bd (.ol q0 l))) (h:AS X K (fs.set b (bd (.val (.cl l)))) st i wl):AS X K fs st i (.bind wl LS):=⟨λZ s σ H D I ⟨sr,q⟩=>by
 obtain⟨a,ws,ob,I2,s2,Ë⟩:=bor I sr hs;refine bD (h.p Z s σ _ {nx:=λσ' H1=>∃b vs l',σ'=σ.set i (bd (.ref b))/\cZ σ (fs.set _ (bd (.val (.cl l)))) (upd H a (.cO ob (.lst ws))) H1/\aW K H1 σ (fs.set _ (bd (.val (.cl l))))/\upd H a (.cO ob (.lst ws)) b=bv/\H1 b=bd (.lst vs)/\aL K [] H1 vs l'/\tX l'=true/\∀a vs H',cZ σ fs H H'->aW K H' σ fs->H a=bv->H' a=bd (.lst vs)->aL K [] H' vs l'->D.nx (σ.set i (bd (.ref a))) H',rt:=D.rt,bk:=D.bk,ct:=D.ct} I2 ⟨s2,wl.mono (λl' q1 b vs H1 g1 s1 n e v1=>⟨b,vs,l',rfl,g1,s1,n,e,v1,q1.1,q1.2⟩) q⟩) λf s1 q1=>?_;cases f with
 | next=>
  obtain⟨σ',H1,I1,b,vs,l',rfl,g1,Qj,n,eb,v1,d,q1⟩:=q1;obtain⟨I3,g3,s3,t3,k3⟩:=Ë _ s1 H1 I1 g1 Qj;have nb:b≠a:=λy=>by subst y;rw [aR] at n;cases n
  exact⟨_,_,I3,q1 b vs _ g3 s3 (by rw [aB nb] at n;exact n) (k3 b vs nb eb) (aL.jX t3 v1 d)⟩
 | ret v=>exact q1
 | brk=>exact q1
 | cont=>exact q1⟩
end
section
variable {c:lm}{T2:Type}{wt:PV->W T2}{dQ:T2->bA}{tf:T2->W Bool}{te:T2->W PV}
def aaw (hc:X.calm=true) (hN:X.N.Nodup) (yQ:X.N[i]?=bd y) (hx:X.env.scope.names.lookup y=bd .local) (S:aA X.env.scope X.N sc N' ix) (hi:pU X K fs tg iter wl) (hg:∀cl C s2 H2 fp,GF (gq X sc N' cl C s2 H2 fp) K (bV ix fs) tg is wt dQ) (ZJ:∀cl C s2 H2 fp t,FF (gq X sc N' cl C s2 H2 fp) K (dQ t) Ê (tf t)) (he:∀cl C s2 H2 fp t,EF (gq X sc N' cl C s2 H2 fp) K (dQ t) Ä (te t))
  (hf:∀p,f p=.bind (wt p) λt=>.bind (tf t) λk=>if k=true then .bind (te t) λv=>.ret (bd v) else .ret bv) (hl:uc is (bV ix fs) dQ/\∀t,jD (dQ t) (bV ix fs)) (tN:∀j∈is,ix[j]?=bd bv)
  (pF:lw (.ListComp Ä [⟨tg,iter,Ê,0⟩] sc pos) (bd (.Name y px)) mV.line X.env=pure true:=by rfl) (hs:∀x,f8 iter X.env x=pure x:=by intro _;rfl) :
  AS X K fs (.Assign [.Name y px] (.ListComp Ä [⟨tg,iter,Ê,0⟩] sc pos) mV) i (.bind wl λl=>kf l f):=
 ⟨PS.imp (yk hc hN yQ hx S hi.p (λcl C s2 H2 fp=>(hg cl C s2 H2 fp).p) (λcl C s2 H2 fp Z s σ H Q I ⟨t,q⟩=>(ZJ cl C s2 H2 fp t).p Z s σ H Q I q) (λcl C s2 H2 fp Z s σ H Q I ⟨t,q⟩=>(he cl C s2 H2 fp t).p Z s σ H Q I q) pF hs) λD σ H ⟨sr,q⟩=>
  N5 (K:=K) S rfl hf hl.1 hl.2 tN σ H _ ⟨sr,q⟩⟩
def WJ {tf:PV->W Bool}{te:PV->W PV} (hc:X.calm=true) (hN:X.N.Nodup) (yQ:X.N[i]?=bd y) (hx:X.env.scope.names.lookup y=bd .local) (S:aA X.env.scope X.N sc N' ix) (hi:pU X K fs tg iter wl) (hg:∀cl C s2 H2 fp,PG (gq X sc N' cl C s2 H2 fp) tg (dI j)) (hf:∀cl C s2 H2 fp t,TF (gq X sc N' cl C s2 H2 fp) K ((bV ix fs).set j (bd (.val t))) c (tf t)) (he:∀cl C s2 H2 fp t,EF (gq X sc N' cl C s2 H2 fp) K ((bV ix fs).set j (bd (.val t))) Ä (te t)) (h0:ix[j]?=bd bv)
  (pF:lw (.ListComp Ä [⟨tg,iter,[c],0⟩] sc pos) (bd (.Name y px)) mV.line X.env=pure true:=by rfl) (hs:∀x,f8 iter X.env x=pure x:=by intro _;rfl) :
  AS X K fs (.Assign [.Name y px] (.ListComp Ä [⟨tg,iter,[c],0⟩] sc pos) mV) i (.bind wl λl=>kf l λp=>zK (tf p) (te p)):=
 have h1:(bV ix fs)[j]?=bd bv:=by unfold bV;rw [Ag,h0];rfl
 aaw (wt:=.ret) (tf:=tf) (te:=te) hc hN yQ hx S hi (λcl C s2 H2 fp=>V8 (hg cl C s2 H2 fp)) (λcl C s2 H2 fp t=>wM (hf cl C s2 H2 fp t)) he (λ_=>rfl) (Nh h1) (λm hj=>by rw [AR] at hj;subst hj;exact h0) pF hs
end
end
end FL
namespace L2
open PySem PySem.Spec PyProof.Rows
def Inv.RP {σ:St}{kvs:List (Key×V)} (I:Inv X Z σ H s) (e:H a=bd (.dK kvs)):∃o,Inv X Z σ (upd H a (.cO o (.dK kvs))) s:=by
 obtain⟨z,hs,vs,r,o,es,ep,h1,h2⟩:=(show bq X.prog X.w H s.heap a (.dK kvs) from I.bG a _ e);exact⟨o,I.write (x:=a) (e:=a) (o:=.cO o (.dK kvs)) (h':=s.heap) (t':=s.toks) (by rw [e];exact Cf) (.inl rfl) (λb u _ z=>z) ⟨o,h1⟩ ⟨h1,z,hs,vs,r,o,es,ep,h1,h2⟩⟩
end L2
variable {kvs:List (List L2.Key×PL.PV)}
namespace FL
section
open PySem PySem.Spec PyProof.Rows L2 PL
variable {K:Ab}
def dvK (kvs:List (Key×PV)):PV:=.dv (kvs.map λkv=>kP kv.1) (kvs.map (·.2))
def Pm (kvs:List (List Key×PV)):PV:=.dv (kvs.map λkv=>.tup (kv.1.map kP)) (kvs.map (·.2))
def n5 (K:Ab) (H:Hp) (vs:List (List Key×V)) (kvs:List (List Key×PV)):Prop:=vs.map (·.1)=kvs.map (·.1)/\aL K [] H (vs.map (·.2)) (kvs.map (·.2))
def SO (K:Ab) (H:Hp) (ob:HO) (v:PV):Prop:=(∃vs kvs,ob=.dK vs/\v=dvK kvs/\da K H vs kvs)\/∃vs kvs,ob=.dT vs/\v=Pm kvs/\n5 K H vs kvs
def fDv (K:Ab) (fs:bA) (w:W PV):TE:=λσ H Q=>aW K H σ fs/\w.run λv=>∀a ob H',cZ σ fs H H'->aW K H' σ fs->H a=bv->H' a=bd ob->SO K H' ob v->Q (.ref a) H'
structure DVF (X:Cx) (K:Ab) (fs:bA) (e:lm) (w:W PV):Prop where p:PE X e (fDv K fs w)
section
variable {σ:L2.St}{fs:bA}{H:Hp}{a:db}{ob:HO}{v:PV}
def qJ (o':HO) (e:H a=bd ob) (n1:∀vs,ob≠.tup vs) (n2:∀o u,ob≠.cO o u):bw K H (upd H a o'):=⟨λb ws q=>by rw [aB (λz=>by subst z;rw [e] at q;cases q;exact n1 _ rfl)];exact q,λb o u q=>by rw [aB (λz=>by subst z;rw [e] at q;cases q;exact n2 _ _ rfl)];exact q⟩
def aW.Ym (s:aW K H σ fs) (n:¬dG σ fs a) (e:H a=bd ob) (n1:∀vs,ob≠.tup vs) (n2:∀o u,ob≠.cO o u) (o':HO):aW K (upd H a o') σ fs:=⟨s.len,λi t q=>by
 obtain⟨u,h1,h2⟩:=s.at' i t q;exact⟨u,h1,h2.mono (qJ o' e n1 n2) (λx b o eb ow hb z=>by subst eb;rw [aB (λy:b=a=>n ⟨i,t,x,q,ow,h1,y▸hb⟩)];exact z)⟩,s.nd⟩
def Zh {vs:List (List Key×V)} (h:vs.map (·.1)=kvs.map (·.1)):(kvs.map λkv=>PV.tup (kv.1.map kP))=vs.map λkv=>PV.tup (kv.1.map kP):=by
 have:=congrArg (FJ λk:List Key=>PV.tup (k.map kP)) h;rw [AN,AN] at this;exact this.symm
def Zi {kvs:List (Key×PV)} (h:vs.map (·.1)=kvs.map (·.1)):(kvs.map λkv=>kP kv.1)=vs.map λkv=>kP kv.1:=by
 have:=congrArg (FJ kP) h;rw [AN,AN] at this;exact this.symm
def SO.cO {X:Cx}{Z:List (db×Obj)}{s:dL}{σ':L2.St} (I:Inv X Z σ' H s) (e:H a=bd ob) (d:SO K H ob v):∃u,Inv X Z σ' (upd H a u) s/\VR K [] (upd H a u) (.ref a) v/\(∀vs,ob≠.tup vs)/\∀o u,ob≠.cO o u:=by
 rcases d with⟨vs,kvs,rfl,rfl,d1,d2⟩ | ⟨vs,kvs,rfl,rfl,d1,d2⟩
 ·obtain⟨o,I2⟩:=I.RP e;exact⟨_,I2,.dk aR (Zi d1) (aL.tk (qJ _ e (by simp) (by simp)) d2),by simp,by simp⟩
 ·obtain⟨o,I2⟩:=I.freeze e;exact⟨_,I2,.dt aR (Zh d1) (aL.tk (qJ _ e (by simp) (by simp)) d2),by simp,by simp⟩
end
section
variable {a b c:lm}{w:W PV}
def ad1 (h:DVF X K fs e w):EF X K fs e w:=⟨λZ s σ H Q I ⟨sr,q⟩=>by
 refine bD (h.p Z s σ H (λu H1=>∃a ob v,u=.ref a/\cZ σ fs H H1/\aW K H1 σ fs/\H a=bv/\H1 a=bd ob/\SO K H1 ob v/\∀u H',cZ σ fs H H'->aW K H' σ fs->VR K [] H' u v->Q u H') I ⟨sr,w.mono (λv q1 a ob H1 g1 s1 n e d=>⟨a,ob,v,rfl,g1,s1,n,e,d,q1⟩) q⟩) λu s1 ⟨v,H1,I1,r1,a,ob,v',e,g1,Qj,n,ea,d,q1⟩=>?_;subst e;obtain⟨o',I2,vr,n1,n2⟩:=d.cO I1 ea;exact⟨.ref a,_,I2,r1,q1 _ _ (g1.side n _) (Qj.Ym (λz=>sr.noOwn n z) ea n1 n2 _) vr⟩⟩
def Iq (kv:List Key×PV):PV:=.tup [.tup (kv.1.map kP),kv.2]
theorem Nr (H:Hp):∀k:List Key,aL K [] H (k.map kV) (k.map kP)
 | []=>.nil
 | .inl i::k=>.cons (.int i) (Nr H k)
 | .inr i::k=>.cons (.str i) (Nr H k)
theorem II:∀{k:List Key}{vs:List V},aL K [] H vs (k.map kP)->vs=k.map kV
 | [],_,h=>by cases h;rfl
 | .inl i::k,_,h=>by
  cases h with
  | cons x t=>cases x;rw [II t];rfl
 | .inr i::k,_,h=>by
  cases h with
  | cons x t=>cases x;rw [II t];rfl
theorem yu:∀{kvs:List (List Key×PV)}{vs:List V},aL K [] H vs (kvs.map Iq)->∃zs:List Pz,vs=zs.map (λz=>V.ref z.pa)/\(∀z∈zs,z.At H)/\zs.map (·.k)=kvs.map (·.1)/\aL K [] H (zs.map (·.v)) (kvs.map (·.2))
 | [],_,h=>by cases h;exact⟨[],rfl,by simp,rfl,.nil⟩
 | kv::kvs,_,h=>by
  cases h with
  | cons x t=>
  obtain⟨zs,z1,z2,z3,z4⟩:=yu t;cases x with
  | @tup p ws _ e r=>
  cases r with
  | cons x1 t1=>
  cases t1 with
  | cons x2 t2=>
  cases t2;cases x1 with
  | @tup b us _ e1 r1=>
  have:=II r1;subst this;refine⟨⟨p,kv.1,b,_⟩::zs,by rw [Aw,z1],λz hz=>?_,by rw [Aw,Aw,z3],.cons x2 z4⟩;rcases Ay.mp hz with rfl | hz
  ·exact⟨e,e1⟩
  ·exact z2 z hz
def Hg (l:List PV):W PV:=⟨λQ=>∃kvs:List (List Key×PV),l=kvs.map Iq/\(kvs.map (·.1)).Nodup/\kvs.length<=1000/\Q (Pm kvs),λf q=>q.imp λkvs h=>⟨h.1,h.2.1,h.2.2.1,f _ h.2.2.2⟩⟩
theorem Sl (hK:X.K=K) (hc:X.calm=true) (hu:X.A.units+200 < o0) (hg:Gl X "dict") (hm:X.mg "dict"=bv) (ha:xB X K fs e wl) (he:ce [e] X.env=(false,kt e X.env)::ce [] X.env:=by rfl) (dH:(kw pos (ce [] X.env)).any (·.1)=false:=by rfl) :
  DVF X K fs (.Call (.Name "dict" p) [e] [] pos) (.bind wl Hg):=⟨PE.imp (lu (Hq K hK hc ∅) hg hm boot_dict (bh ha.p cC he) ⋯ ⋯ he dH) λσ H Q ⟨sr,q⟩=>⟨sr,wl.mono (λl q1 u H1 g1 s1 v0 v1=>by
  obtain⟨kvs,rfl,nd,hl,q1⟩:=q1;obtain⟨a,vs,rfl,e3,e4⟩:=v1 H1 .refl s1;obtain⟨zs,rfl,z2,z3,z4⟩:=yu e4;have hzl:zs.length=kvs.length:=by have:=congrArg BU z3;simpa using this
  refine⟨a,zs,rfl,e3,z2,by rw [z3];exact nd,by omega,λp H2 s2 h2 n2=>?_⟩;exact q1 _ _ H2 (g1.trans (cZ.same s2)) (s1.same s2) (g1.there _ n2) h2 (.inr ⟨_,_,rfl,rfl,by rw [AN,<- z3];rfl,by rw [AN];exact aL.tk s2.eZ z4⟩)) q⟩⟩
def KW (nd:(kvs.map (·.1)).Nodup) (hl:kvs.length<=1000) (q:Q (Pm kvs)):(Hg (kvs.map Iq)).run Q:=⟨kvs,rfl,nd,hl,q⟩
def lQ (kvs:List (List Key×PV)) (k:List Key):Option PV:=(kvs.find? λkv=>decide (kv.1=k)).map (·.2)
theorem n5.get {k:List Key}:∀{vs:List (List Key×V)}{kvs:List (List Key×PV)},n5 K H vs kvs->(lQ kvs k=bv->iI vs k=bv)/\∀{v},lQ kvs k=bd v->∃u,iI vs k=bd u/\VR K [] H u v
 | [],[],_=>⟨λ_=>rfl,λg=>by simp [lQ] at g⟩
 | [],_::_,h=>by simp [n5] at h
 | _::_,[],h=>by simp [n5] at h
 | p::vs,q::kvs,h=>by
  obtain⟨h1,h2⟩:=h;rw [Aw,Aw] at h1 h2;injection h1 with e b;cases h2 with
  | cons r t=>
  have ih:=n5.get (k:=k) (vs:=vs) (kvs:=kvs) ⟨b,t⟩;by_cases c:p.1=k
  ·rw [kA c];have c':=e▸c;have:lQ (q::kvs) k=bd q.2:=by simp [lQ,BI,c']
   rw [this];refine⟨λz=>(by cases z),λ{v} z=>?_⟩;cases z;exact⟨_,rfl,r⟩
  ·rw [kB c];have c':=e▸c;have:lQ (q::kvs) k=lQ kvs k:=by simp [lQ,BI,c']
   rw [this];exact ih
def da.get' {k:Key}:∀{vs:List (Key×V)}{kvs:List (Key×PV)},da K H vs kvs->(pJ kvs k=bv->iI vs k=bv)/\∀{v},pJ kvs k=bd v->∃u,iI vs k=bd u/\VR K [] H u v:=λ{vs kvs} h=>⟨λz=>by
 have:=h.has k;cases e:iI vs k with
 | none=>rfl
 | some u=>
  rw [e] at this;have h2:=this.symm;unfold pJ at z;rw [Option.map_eq_none_iff,List.find?_eq_none] at z;obtain⟨x,hx,ď⟩:=BL.mp h2;exact absurd ď (z x hx),λz=>h.get k z⟩
def Tt (k:Key) (l:List PV):kP k≠.tup l:=by cases k <;> exact PV.noConfusion
def VN {a b:Key} (h:kP a=kP b):a=b:=by
 cases a <;> cases b <;> simp [kP] at h <;> rw [h]
theorem wo:∀{a b:List Key},a.map kP=b.map kP->a=b
 | [],[],_=>rfl
 | [],_::_,h=>by simp at h
 | _::_,[],h=>by simp at h
 | x::a,y::b,h=>by
  rw [Aw,Aw] at h;injection h with h1 h2;rw [VN h1,wo h2]
inductive zJ:PV->PV->Option PV->Prop
 | k (kvs:List (Key×PV)) (k:Key):kvs≠[]->zJ (dvK kvs) (kP k) (pJ kvs k)
 | t (kvs:List (List Key×PV)) (k:List Key):kvs≠[]->zJ (Pm kvs) (.tup (k.map kP)) (lQ kvs k)
def Uh {kvs:List (Key×PV)} (h0:kvs≠[]) (h:VR K [] H u (dvK kvs)):∃a o vs,u=.ref a/\H a=bd (.cO o (.dK vs))/\da K H vs kvs:=by
 have Þ:∀{vs:List (Key×V)}{kvs:List (Key×PV)},(kvs.map λkv=>kP kv.1)=(vs.map λkv=>kP kv.1)->vs.map (·.1)=kvs.map (·.1):=λ{vs kvs} e=>by
  have e:(kvs.map (·.1)).map kP=(vs.map (·.1)).map kP:=by rw [AN,AN];exact e
  exact (wo e).symm
 cases h with
 | @dk a o vs _ _ e k r=>exact⟨a,o,vs,rfl,e,Þ k,r⟩
 | @dt a o vs _ _ e k r=>
  cases kvs with
  | nil=>exact absurd rfl h0
  | cons x l=>cases vs with
   | nil=>simp at k
   | cons y m=>simp at k;exact absurd k.1 (Tt _ _)
def LP (h0:kvs≠[]) (h:VR K [] H u (Pm kvs)):∃a o vs,u=.ref a/\H a=bd (.cO o (.dT vs))/\n5 K H vs kvs:=by
 have Þ:∀{vs:List (List Key×V)}{kvs:List (List Key×PV)},(kvs.map λkv=>PV.tup (kv.1.map kP))=(vs.map λkv=>PV.tup (kv.1.map kP))->vs.map (·.1)=kvs.map (·.1):=λ{vs kvs} e=>by
  induction kvs generalizing vs with
  | nil=>cases vs with
   | nil=>rfl
   | cons y m=>simp at e
  | cons x l ih=>cases vs with
   | nil=>simp at e
   | cons y m=>
    injection e with e1 e2;injection e1 with e1;rw [Aw,Aw,wo e1,ih e2]
 cases h with
 | @dt a o vs _ _ e k r=>exact⟨a,o,vs,rfl,e,Þ k,r⟩
 | @dk a o vs _ _ e k r=>
  cases kvs with
  | nil=>exact absurd rfl h0
  | cons x l=>cases vs with
   | nil=>simp at k
   | cons y m=>simp at k;exact absurd k.1.symm (Tt _ _)
def zJ.ok {z:V}{d y:PV}{r:Option PV} (h:zJ d y r) (hu:VR K [] H u d) (hz:VR K [] H z y):∃a o,u=.ref a/\IsD H a/\uf H a z o/\(r=bv->o=bv)/\∀v,r=bd v->∃w,o=bd w/\VR K [] H w v:=by
 cases h with
 | k kvs k h0=>
  obtain⟨a,o,vs,rfl,e,d⟩:=Uh h0 hu;have ez:z=kV k:=by
   cases k with
   | inl i=>cases hz;rfl
   | inr i=>cases hz;rfl
  subst ez;exact⟨a,iI vs k,rfl,.inl ⟨vs,.inr ⟨o,e⟩⟩,.inl ⟨vs,k,.inr ⟨o,e⟩,rfl,rfl⟩,(da.get' d).1,λv=>(da.get' d).2⟩
 | t kvs k h0=>
  obtain⟨a,o,vs,rfl,e,d⟩:=LP h0 hu;cases hz with
  | @tup b us _ e1 r1=>
  have:=II r1;subst this;exact⟨a,iI vs k,rfl,.inr ⟨vs,.inr ⟨o,e⟩⟩,.inr ⟨vs,k,b,.inr ⟨o,e⟩,rfl,e1,rfl⟩,(n5.get d).1,λv=>(n5.get d).2⟩
def dgW (d y:PV):W PV:=⟨λQ=>∃v,zJ d y (bd v)/\Q v,λf ⟨v,a,q⟩=>⟨v,a,f _ q⟩⟩
def dgB (a b:W PV):W PV:=.bind a λx=>.bind b λy=>dgW x y
theorem Oy (hu:X.A.units+200 < o0) (ha:EF X K fs a wa) (hb:EF X K fs b wb) (hs:WV b):EF X K fs (.Subscript a b pos) (dgB wa wb):=⟨PE.imp (QE ∅ ha.p hb.p hs) λσ H Q ⟨sr,q⟩=>⟨sr,wa.mono (λx q1 u1 H1 g1 s1 v1=>⟨s1,wb.mono (λy q2 u2 H2 g2 s2 v2=>by
 obtain⟨v,g,q2⟩:=q2;obtain⟨a,o,rfl,_,g2',_,h⟩:=g.ok (g2.vr s1 v1) v2;obtain⟨w,rfl,vw⟩:=h v rfl;exact⟨a,w,rfl,g2',q2 _ H2 (g1.trans g2) s2 vw⟩) q1⟩) q⟩⟩
def Jn {k:List Key} (h:lQ kvs k=bd v) (q:Q v):(dgW (Pm kvs) (.tup (k.map kP))).run Q:=⟨v,by rw [<- h];exact .t kvs k (λz=>by subst z;simp [lQ] at h),q⟩
def Nl (d:PV):W (List PV):=⟨λQ=>∃kvs:List (List Key×PV),d=Pm kvs/\kvs≠[]/\kvs.length<=1000/\Q (kvs.map λkv=>.tup (kv.1.map kP)),λf q=>q.imp λkvs h=>⟨h.1,h.2.1,h.2.2.1,f _ h.2.2.2⟩⟩
theorem Rq (h:EF X K fs e w):pU X K fs tg e (.bind w Nl):=⟨PI.imp (MB h.p) λσ H R ⟨sr,q⟩=>⟨sr,w.mono (λx q1 u1 H1 g1 s1 v1=>by
 obtain⟨kvs,rfl,h0,hl,q1⟩:=q1;obtain⟨a,o,vs,rfl,e,d1,d2⟩:=LP h0 v1;have len:vs.length=kvs.length:=by have:=congrArg BU d1;simpa using this
 refine⟨a,o,vs,rfl,e,q1 _ H1 g1 s1 ⟨a9 (by simpa using hl),λH' t=>?_⟩⟩;have e':=t.z _ _ _ e;refine⟨λi p hp=>?_,vs,e',by simp [len]⟩;rw [Ag] at hp;cases z:kvs[i]? with
 | none=>rw [z] at hp;cases hp
 | some kv=>
  rw [z] at hp;have hp:=Option.some.inj hp;subst hp;have hi:=(Ak.mp z).1;refine⟨⟨vs,e',by omega⟩,λy H2 yy=>?_⟩;obtain⟨rfl,yy⟩:=yy;obtain⟨b,k,v,rfl,k2,k3⟩:=yy vs e';have ek:k=kv.1:=by
   have h1:(vs.map (·.1))[i]?=bd k:=by rw [Ag,k2];rfl
   rw [d1,Ag,z] at h1;exact (Option.some.inj h1).symm
  subst ek;exact⟨j8.refl _,.tup k3 (Nr _ _)⟩) q⟩⟩
def J7 {Q:List PV->Prop} (h0:kvs≠[]) (hl:kvs.length<=1000) (q:Q (kvs.map λkv=>.tup (kv.1.map kP))):(Nl (Pm kvs)).run Q:=⟨kvs,rfl,h0,hl,q⟩
end
end
end FL
namespace L2
open PySem PySem.Spec PyProof.Rows
section
variable {σ:St}
theorem Inv.yW (I:Inv X Z σ H s):∀bs:List db,(∀b∈bs,∃ws,H b=bd (.lst ws))->∃H',Inv X Z σ H' s/\(∀c,c∉bs->H' c=H c)/\∀b∈bs,∃ob ws,H b=bd (.lst ws)/\H' b=bd (.cO ob (.lst ws))
 | [],_=>⟨H,I,λ_ _=>rfl,λb hb=>nomatch hb⟩
 | b::bs,h=>by
  obtain⟨H',I',h1,h2⟩:=Inv.yW I bs λc hc=>h c (.tail _ hc);by_cases hb:b∈bs
  ·refine⟨H',I',λc hc=>h1 c λz=>hc (.tail _ z),λc hc=>?_⟩;rcases Ay.mp hc with rfl | hc
   ·exact h2 _ hb
   ·exact h2 c hc
  ·obtain⟨ws,e⟩:=h b (.head _);obtain⟨ob,I2⟩:=I'.qp ((h1 b hb).trans e);refine⟨_,I2,λc hc=>?_,λc hc=>?_⟩
   ·rw [aB (λz=>by subst z;exact hc (.head _))];exact h1 c λz=>hc (.tail _ z)
   ·by_cases cb:c=b
    ·subst cb;exact⟨ob,ws,e,aR⟩
    ·rcases Ay.mp hc with z | hc
     ·exact absurd z cb
     ·obtain⟨Vi,pq,e1,e2⟩:=h2 c hc;exact⟨Vi,pq,e1,by rw [aB cb];exact e2⟩
open Classical in
theorem Inv.LR {f:db->List V} (J:Inv X Z σ H s):∀bs:List db,(∀b∈bs,∃ob,H b=bd (.cO ob (.lst (f b))))->(∀b∈bs,∀o u,X.H₀ b≠bd (.cO o u))->Inv X Z σ (λc=>if c∈bs then bd (.lst (f c)) else H c) s
 | [],_,_=>by
  have:(λc=>if c∈([]:List db) then bd (HO.lst (f c)) else H c)=H:=funext λc=>if_neg (by simp);rw [this];exact J
 | b::bs,h,h0=>by
  have J2:=Inv.LR J bs (λc hc=>h c (.tail _ hc)) λc hc=>h0 c (.tail _ hc);by_cases hb:b∈bs
  ·have:(λc=>if c∈b::bs then bd (HO.lst (f c)) else H c)=λc=>if c∈bs then bd (.lst (f c)) else H c:=funext λc=>by
    by_cases z:c=b
    ·subst z;rw [if_pos (.head _),if_pos hb]
    ·by_cases y:c∈bs
     ·rw [if_pos (.tail _ y),if_pos y]
     ·rw [if_neg (λx=>(Ay.mp x).elim z y),if_neg y]
   rw [this];exact J2
  ·obtain⟨ob,e⟩:=h b (.head _);have e2:(λc=>if c∈bs then bd (HO.lst (f c)) else H c) b=bd (.cO ob (.lst (f b))):=by show (if b∈bs then _ else _)=_;rw [if_neg hb];exact e
   have hk:=uI J2.bG e2;have J3:=J2.X0 e2 (h0 b (.head _)) (hk b _ aR) hk;have:(λc=>if c∈b::bs then bd (HO.lst (f c)) else H c)=upd (λc=>if c∈bs then bd (HO.lst (f c)) else H c) b (.lst (f b)):=funext λc=>by
    by_cases z:c=b
    ·subst z;rw [if_pos (.head _),aR]
    ·rw [aB z];by_cases y:c∈bs
     ·rw [if_pos (.tail _ y),if_pos y]
     ·rw [if_neg (λx=>(Ay.mp x).elim z y),if_neg y]
   rw [this];exact J3
end
end L2
namespace FL
section
open PySem PySem.Spec PyProof.Rows L2 PL
variable {K:Ab}
section
variable {bs:List db}{ls:List (List PV)}
def jb (sr:aW K H σ fs) (hs:fs[i]?=bd (bd (.qd bs ls))):∃a,σ[i]?=bd (bd (.ref a))/\iH K H a (.qd bs ls):=by
 obtain⟨u,e1,r⟩:=sr.at' i _ hs;rcases r with⟨v,e,_⟩ | ⟨a,e,r⟩
 ·cases e
 ·subst e;exact⟨a,e1,r⟩
theorem OL:∀{bs:List db}{ls:List (List PV)},bs.length=ls.length->(∀(j:Nat) (b:db) (l:List PV),bs[j]?=bd b->ls[j]?=bd l->VR K [] H' (.ref b) (.cl l))->aL K [] H' (bs.map V.ref) (ls.map PV.cl)
 | [],[],_,_=>.nil
 | [],_::_,h,_=>by simp at h
 | _::_,[],h,_=>by simp at h
 | b::bs,l::ls,h,hv=>.cons (hv 0 b l rfl rfl) (OL (by simpa using h) λj b l h1 h2=>hv (j+1) b l (by simpa using h1) (by simpa using h2))
def aat (I:Inv X Z σ H s) (sr:aW K H σ fs) (hs:fs[i]?=bd (bd (.qd bs ls))):∃H',Inv X Z σ H' s/\aW K H' σ (fs.set i (bd (.ol bv (ls.map PV.cl))))/\cL σ fs H σ (fs.set i (bd (.ol bv (ls.map PV.cl)))) H'/\(∀c,H c=bv->H' c=bv)/\
  ∀σ' s' H1,Inv X Z σ' H1 s'->cZ σ (fs.set i (bd (.ol bv (ls.map PV.cl)))) H' H1->aW K H1 σ (fs.set i (bd (.ol bv (ls.map PV.cl))))->∃H2,Inv X Z σ' H2 s'/\cZ σ fs H H2/\aW K H2 σ fs/\(∀p vs,H1 p=bd (.tup vs)->H2 p=bd (.tup vs))/\∀p vs,H p=bv->H1 p=bd (.lst vs)->H2 p=bd (.lst vs):=by
 obtain⟨a,e1,q1,q2,q3,q4,q5⟩:=jb sr hs;have inn:∀b∈bs,∃ws,H b=bd (.lst ws):=λb hb=>by
  obtain⟨j,hj⟩:=CM hb;have h1:=(Ak.mp hj).1;obtain⟨ws,e,_⟩:=q5 j b _ hj (Ad (by rw [<- q4];exact h1));exact⟨ws,e⟩
 obtain⟨H',I',k1,k2⟩:=I.yW bs inn;have tk:bw K H H':=⟨λb vs z=>by
  by_cases c:b∈bs
  ·obtain⟨ws,e⟩:=inn b c;rw [e] at z;cases z
  ·rw [k1 b c];exact z,λb o u z=>by
  by_cases c:b∈bs
  ·obtain⟨ws,e⟩:=inn b c;rw [e] at z;cases z
  ·rw [k1 b c];exact z⟩
 have aU:∀c,H c=bv->H' c=bv:=λc z=>by
  by_cases y:c∈bs
  ·obtain⟨ws,e⟩:=inn c y;rw [e] at z;cases z
  ·rw [k1 c y];exact z
 have it:∀{t:SL},(bd t:Option SL)=bd (.ol bv (ls.map PV.cl))->t=.ol bv (ls.map PV.cl):=λz=>by injection z
 have s2:aW K H' σ (fs.set i (bd (.ol bv (ls.map PV.cl)))):=by
  refine⟨by simp [sr.len],λj t z=>?_,λj k t u b1 b2 b z1 z2 o1 o2=>?_⟩
  ·rcases ba z with⟨rfl,rfl⟩ | ⟨n,z⟩
   ·refine⟨_,e1,.inr ⟨a,rfl,by simp,bs.map V.ref,by rw [k1 a q2];exact q1,OL q4 λj b l h1 h2=>?_⟩⟩;obtain⟨ob,ws,f1,f2⟩:=k2 b (Br h1);obtain⟨pq,f3,f4⟩:=q5 j b l h1 h2;rw [f1] at f3;cases f3;exact .cl (.inl ⟨ob,f2⟩) (aL.tk tk f4)
   ·obtain⟨u,h1,h2⟩:=sr.at' j t z;exact⟨u,h1,h2.mono tk (λx b o eb ow hb zz=>by
     subst eb;rw [k1 b (λy=>n (sr.nd j i t _ x a b z hs ow rfl h1 e1 hb (.inr y)))];exact zz)⟩
  ·intro y1 y2 w1 w2;have f:∀{j:Nat}{t:SL}{c:db},(fs.set i (bd (.ol bv (ls.map PV.cl))))[j]?=bd (bd t)->t.own=true->σ[j]?=bd (bd (.ref c))->t.has c b->∃t',fs[j]?=bd (bd t')/\t'.own=true/\t'.has c b:=λ{j t c} z ow y hb=>by
    rcases ba z with⟨rfl,rfl⟩ | ⟨n,z⟩
    ·refine⟨_,hs,rfl,?_⟩;rcases hb with hb | hb
     ·exact .inl hb
     ·cases hb
    ·exact⟨t,z,ow,hb⟩
   obtain⟨t',a1,a2,a3⟩:=f z1 o1 y1 w1;obtain⟨u',c1,c2,c3⟩:=f z2 o2 y2 w2;exact sr.nd j k t' u' b1 b2 b a1 c1 a2 c2 y1 y2 a3 c3
 have pf:∀φ b,eW σ (fs.set i (bd (.ol bv (ls.map PV.cl)))) φ b->eW σ fs φ b:=λφ b ⟨j,z1,z3⟩=>by
  rcases ba z1 with⟨_,z⟩ | ⟨n,z1⟩
  ·cases z
  ·exact⟨j,z1,z3⟩
 have pb:∀φ b,eW σ fs φ b->eW σ (fs.set i (bd (.ol bv (ls.map PV.cl)))) φ b:=λφ b ⟨j,z1,z3⟩=>by
  have ji:j≠i:=λy=>by subst y;rw [hs] at z1;cases z1
  exact⟨j,by rw [aK ji];exact z1,z3⟩
 have npb:∀b∈bs,∀φ,¬eW σ fs φ b:=λb hb φ ⟨j,z1,z3⟩=>by
  have:=sr.nd j i _ _ b a b z1 hs rfl rfl z3 e1 (.inl rfl) (.inr hb);subst this;rw [hs] at z1;cases z1
 have gf:cL σ fs H σ (fs.set i (bd (.ol bv (ls.map PV.cl)))) H':=by
  refine⟨λb o z n=>⟨?_,λy=>?_⟩,λb z=>?_,λb φ z=>.inl (pb φ b z)⟩
  ·rw [k1 b (λy=>n ⟨i,_,a,hs,rfl,e1,.inr y⟩)];exact z
  ·obtain⟨j,t,x,z1,z2,z3,z4⟩:=y;rcases ba z1 with⟨rfl,rfl⟩ | ⟨m,z1⟩
   ·rcases z4 with z4 | z4
    ·exact n ⟨j,_,x,hs,rfl,z3,.inl z4⟩
    ·cases z4
   ·exact n ⟨j,t,x,z1,z2,z3,z4⟩
  ·by_cases c:b∈bs
   ·obtain⟨ob,ws,f1,f2⟩:=k2 b c;rw [f2] at z;cases z
   ·rw [k1 b c] at z;exact z
 refine⟨H',I',s2,gf,aU,λσ' s' H1 J g s1=>?_⟩
 classical
 have fz:∀b∈bs,∃ob,H1 b=bd (.cO ob (.lst ((match H b with | some (.lst ws)=>ws | _=>[]):List V))):=λb hb=>by
  obtain⟨ob,ws,f1,f2⟩:=k2 b hb;rw [f1];exact⟨ob,g.keep b _ f2 λφ p=>npb b hb φ (pf φ b p)⟩
 have h0:∀b∈bs,∀o u,X.H₀ b≠bd (.cO o u):=λb hb o u z=>by
  have:=I.base.pL b o u z;obtain⟨ws,e⟩:=inn b hb;rw [e] at this;cases this
 have J2:=Inv.LR (f:=λb=>match H b with | some (.lst ws)=>ws | _=>[]) J bs fz h0;have tN:∀b∈bs,(λc=>if c∈bs then bd (HO.lst (match H c with | some (.lst ws)=>ws | _=>[])) else H1 c) b=H b:=λb hb=>by
  obtain⟨ws,e⟩:=inn b hb;show (if b∈bs then _ else _)=_;rw [if_pos hb,e]
 have yP:∀b,b∉bs->(λc=>if c∈bs then bd (HO.lst (match H c with | some (.lst ws)=>ws | _=>[])) else H1 c) b=H1 b:=λb hb=>by
  show (if b∈bs then _ else _)=_;rw [if_neg hb]
 generalize (λc=>if c∈bs then bd (HO.lst (match H c with | some (.lst ws)=>ws | _=>[])) else H1 c)=H2 at J2 tN yP;have ge:cZ σ fs H H2:=by
  refine⟨λb o z n=>?_,λb z=>?_⟩
  ·by_cases c:b∈bs
   ·rw [tN b c];exact z
   ·rw [yP b c];exact g.keep b o (by rw [k1 b c];exact z) λφ p=>n φ (pf φ b p)
  ·by_cases c:b∈bs
   ·rw [tN b c] at z;exact z
   ·rw [yP b c] at z;have:=g.there b z;rw [k1 b c] at this;exact this
 refine⟨H2,J2,ge,⟨sr.len,λj t z=>?_,sr.nd⟩,λp vs z=>?_,λp vs n z=>?_⟩
 ·obtain⟨u,m1,m2⟩:=sr.at' j t z;refine⟨u,m1,?_⟩;by_cases c:∃φ,t=.kn φ
  ·obtain⟨φ,rfl⟩:=c;have ji:j≠i:=λy=>by subst y;rw [hs] at z;cases z
   rcases m2 with⟨v,y,_⟩ | ⟨b,rfl,_⟩
   ·cases y
   ·obtain⟨vs,y1,y2⟩:=s1.ownAt (t:=.kn φ) (i:=j) (by rw [aK ji];exact z) rfl m1;refine .inr ⟨b,rfl,vs,?_,y2⟩;rw [yP b (λy=>npb b y φ ⟨j,z,m1⟩)];exact y1
  ·refine m2.mono (ge.eL sr) (λx b o eb ow hb zz=>ge.keep b o zz λφ ⟨j',p1,p3⟩=>?_);subst eb;have:=sr.nd j j' t _ x b b z p1 ow rfl m1 p3 hb (.inl rfl);subst this;rw [z] at p1;cases p1;exact c ⟨φ,rfl⟩
 ·rw [yP p (λy=>by obtain⟨ob,f⟩:=fz p y;rw [f] at z;cases z)];exact z
 ·rw [yP p (λy=>by obtain⟨ws,e⟩:=inn p y;rw [e] at n;cases n)];exact z
end
section
variable {a e2:lm}{rest:List t0}{qL:Pos}{T:Type}{out:T->End}{w w1 w2:W PV}{bs:List db}{ls:List (List PV)}
def Jk (i:Nat) (hs:fs[i]?=bd (bd (.qd bs ls))) (h:EF X K (fs.set i (bd (.ol bv (ls.map PV.cl)))) e w):EF X K fs e (.bind w qK):=⟨λZ s σ H Q I ⟨sr,q⟩=>by
 obtain⟨H',I2,s2,_,_,Ë⟩:=aat I sr hs;refine bD (h.p Z s σ _ (λu H1=>∃v,cZ σ (fs.set i (bd (.ol bv (ls.map PV.cl)))) H' H1/\aW K H1 σ (fs.set i (bd (.ol bv (ls.map PV.cl))))/\VR K [] H1 u v/\v.dat=true/\∀u H',cZ σ fs H H'->aW K H' σ fs->VR K [] H' u v->Q u H') I2 ⟨s2,w.mono (λv q1 u H1 g1 s1 v1=>⟨v,g1,s1,v1,q1.1,q1.2⟩) q⟩) λu s1 ⟨x,H1,I1,r1,v,g1,Qj,v1,d,q1⟩=>?_;obtain⟨H2,I3,g3,s3,t3,_⟩:=Ë σ s1 H1 I1 g1 Qj;exact⟨x,_,I3,r1,q1 x _ g3 s3 (VR.jX t3 v1 d)⟩⟩
def SF.ZX (i:Nat) {Pf:List t0}{wt:W T} (hs:fs[i]?=bd (bd (.qd bs ls))) (hr:SF X K x (fs.set i (bd (.ol bv (ls.map PV.cl)))) Pf wt out):SF X K x fs Pf wt out:=⟨λZ s σ H D I ⟨sr,q⟩=>by
 obtain⟨H',I2,s2,gf,_,_⟩:=aat I sr hs;exact hr.p Z s σ _ D I2 ⟨s2,wt.mono (λt q3=>q3.go gf sr s2) q⟩⟩
def SF.Yo {k:W T} (hN:X.N.Nodup) (hi:X.N[i]?=bd y) (hx:Loc X.env.scope y) (hr:SF X K x (fs.set i (bd (.qd [] []))) rest k out) (hs:lw (.List [] p2) (bd (.Name y p')) pos.line X.env=pure false:=by rfl)
  (hf:X.fn y=true\/X.env.scope.names.lookup y=bd .local:=by first | exact .inl rfl | exact .inr rfl | assumption):SF X K x fs (.Assign [.Name y p'] (.List [] p2) pos::rest) k out:=SF.step (qV hN hi hx (Io cC) hs hf) λD σ H ⟨sr,q⟩=>⟨A5 _,λa H1 s1 e1 n1=>by
 have no:=sr.noOwn n1;have oa:iH K H1 a (.qd [] []):=⟨e1,by simp,by simp,rfl,λj b l h=>by simp at h⟩;have s2:=(sr.same s1).qU (t:=.qd [] []) oa no i;exact⟨_,k,hr,s2,k.mono (λt q2=>q2.go (cL.qU (sr.same s1) (cL.same s1 sr) no n1 i) sr s2) q⟩⟩
def Rp (ls:List (List PV)):PV->W (Nat×List PV)
 | .int k=>.MY ((nu ls.length k).bind λj=>(ls[j]?).map λl=>(j,l))
 | _=>.fail
theorem SF.O0 (i:Nat) {k:List db->List (List PV)->W T} (hs:fs[i]?=bd (bd (.qd bs ls))) (hK:X.K=K) (hN:X.N[i]?=bd y) (hv:xt X.env.scope y) (he:LF X K fs e wl) (hr:∀ÿ Vs,SF X K x (fs.set i (bd (.qd ÿ Vs))) rest (k ÿ Vs) out)
  (hd:(y==("__debug__":Str))=false:=by decide) (iL:(y==("__classdict__":Str))=false:=by decide) (dZ:py (.Name y p) "append" X.env (kt (.Name y p) X.env)=kt (.Name y p) X.env:=by rfl)
  (mw:((kw bt (ce [e] X.env)).all (λx=>!x.1)&&(Fa bt (wv [] X.env)).all (λx=>x.1.isSome)
   && decide ([e].length+([]:List tz).length+(if ([]:List tz).isEmpty then 0 else 1) < 30))=true:=by rfl)
  (dY:(Â.endLine==bt.line)=true:=by rfl) (pG:ce [e] X.env=(false,kt e X.env)::ce [] X.env:=by rfl) (eB:(kw bt (ce [] X.env)).any (·.1)=false:=by rfl)
  (pF:lw (.Call (.Attribute (.Name y p) "append" Â) [e] [] bt) bv pos.line X.env=pure false:=by rfl) :
  SF X K x fs (.Expr (.Call (.Attribute (.Name y p) "append" Â) [e] [] bt) pos::rest) (.bind wl λl=>.fM (ls.length < sizeLine) (.bind (.any λ_=>True) λÿ=>.bind (.ret (ls++[l])) λVs=>k ÿ Vs)) out:=
 SF.step (mY (om K hK Bw Ej Ei rm (dj hN hv hd iL) (bh he.p cC pG) dZ mw dY pG eB) pF) λD σ H ⟨sr,q⟩=>by
  obtain⟨a,e1,q1,q2,q3,q4,q5⟩:=jb sr hs;refine⟨_,e1,.inl ⟨rfl,_,cU.of q1⟩,sr,wl.mono (λl ql b vs H1 g1 s1 nb eb vl=>?_) q⟩;obtain⟨a',mK,r1,r2,r3,r4,r5⟩:=jb s1 hs;rw [e1] at mK;cases mK;refine⟨a,_,_,rfl,rfl,r1,by rw [Af,r4];exact ql.1,λH2 sx h2=>?_⟩;have hq:=ql.2 (bs++[b]) trivial;have Ha:H a≠bv:=λz=>by rw [q1] at z;cases z
  have ab:a≠b:=λz=>Ha (z▸nb);have bin:∀c∈bs,∃ws,H c=bd (.lst ws):=λc hc=>by
   obtain⟨j,hj⟩:=CM hc;obtain⟨ws,e,_⟩:=q5 j c _ hj (Ad (by rw [<- q4];exact (Ak.mp hj).1));exact⟨ws,e⟩
  have bn:b∉bs:=λz=>by obtain⟨ws,e⟩:=bin b z;rw [nb] at e;cases e
  have nbo:=sr.noOwn nb;have tk:bw K H1 H2:=⟨λc us z=>sx c _ (λw=>by subst w;rw [r1] at z;cases z) z,λc o u z=>sx c _ (λw=>by subst w;rw [r1] at z;cases z) z⟩;have oa:iH K H2 a (.qd (bs++[b]) (ls++[l])):=by
   refine⟨by rw [h2,A3];rfl,λz=>?_,?_,by simp [r4],λj c l' h1 h3=>?_⟩
   ·rcases AX.mp z with z | z
    ·exact r2 z
    ·exact ab (by simpa using z)
   ·exact Cq.mpr ⟨r3,by simp,λu hu v hv w=>by simp at hv;subst hv;subst w;exact bn hu⟩
   ·rcases iM h1 with h1 | ⟨rfl,rfl⟩
    ·rcases iM h3 with h3 | ⟨rfl,rfl⟩
     ·obtain⟨ws,f1,f2⟩:=r5 j c l' h1 h3;exact⟨ws,sx c _ (λz=>by subst z;exact r2 (Br h1)) f1,aL.tk tk f2⟩
     ·have:=(Ak.mp h1).1;omega
    ·rcases iM h3 with h3 | ⟨_,rfl⟩
     ·have:=(Ak.mp h3).1;omega
     ·exact⟨vs,sx c _ (BE ab) eb,aL.tk tk vl⟩
  have V5:∀c,(SL.qd (bs++[b]) (ls++[l])).has a c->(SL.qd bs ls).has a c\/c=b:=λc h=>by
   rcases h with h | h
   ·exact .inl (.inl h)
   ·rcases AX.mp (show c∈bs++[b] from h) with h | h
    ·exact .inl (.inr h)
    ·exact .inr (by simpa using h)
  have s2:aW K H2 σ (fs.set i (bd (.qd (bs++[b]) (ls++[l])))):=by
   refine⟨by simp [s1.len],λj t z=>?_,λj k t u b1 b2 c z1 z2 o1 o2 y1 y2 w1 w2=>?_⟩
   ·rcases ba z with⟨rfl,rfl⟩ | ⟨n,z⟩
    ·exact⟨_,e1,.inr ⟨a,rfl,oa⟩⟩
    ·obtain⟨u,m1,m2⟩:=s1.at' j t z;exact⟨u,m1,m2.mono tk (λx c o ec ow hc zz=>sx c o (λw=>by subst ec;subst w;exact n (s1.nd j i t _ x c c z hs ow rfl m1 e1 hc (.inl rfl))) zz)⟩
   ·have M4:∀{j:Nat}{t:SL}{c':db},fs[j]?=bd (bd t)->t.own=true->σ[j]?=bd (bd (.ref c'))->¬t.has c' b:=λ{j t c'} m1 m2 m3 m4=>nbo ⟨j,t,c',m1,m2,m3,m4⟩;rcases ba z1 with⟨rfl,rfl⟩ | ⟨n1,v1⟩ <;> rcases ba z2 with⟨m,rfl⟩ | ⟨n2,v2⟩
    ·exact m.symm
    ·rw [e1] at y1;cases y1;rcases V5 c w1 with w1 | w1
     ·exact s1.nd _ k _ u _ b2 c hs v2 rfl o2 e1 y2 w1 w2
     ·exact absurd (w1▸w2) (M4 v2 o2 y2)
    ·subst m;rw [e1] at y2;cases y2;rcases V5 c w2 with w2 | w2
     ·exact s1.nd j _ t _ b1 _ c v1 hs o1 rfl y1 e1 w1 w2
     ·exact absurd (w2▸w1) (M4 v1 o1 y1)
    ·exact s1.nd j k t u b1 b2 c v1 v2 o1 o2 y1 y2 w1 w2
  have g2:cL σ fs H σ (fs.set i (bd (.qd (bs++[b]) (ls++[l])))) H2:=by
   refine⟨λc o z n=>⟨sx c o (λw=>by subst w;exact n ⟨i,_,c,hs,rfl,e1,.inl rfl⟩) (g1.o4 z n),λyy=>?_⟩,λc z=>?_,λc φ z=>?_⟩
   ·obtain⟨j,t,x,z1,z2,z3,z4⟩:=yy;rcases ba z1 with⟨rfl,rfl⟩ | ⟨m,z1⟩
    ·rw [e1] at z3;cases z3;rcases V5 c z4 with z4 | rfl
     ·exact n ⟨j,_,_,hs,rfl,e1,z4⟩
     ·rw [nb] at z;cases z
    ·exact n ⟨j,t,x,z1,z2,z3,z4⟩
   ·refine g1.there c ?_;cases zz:H1 c with
    | none=>rfl
    | some o=>
     by_cases ca:c=a
     ·subst ca;rw [h2] at z;cases z
     ·rw [sx c o ca zz] at z;cases z
   ·obtain⟨j,p1,p2⟩:=z;have ji:j≠i:=λw=>by subst w;rw [hs] at p1;cases p1
    exact .inl ⟨j,by rw [aK ji];exact p1,p2⟩
  exact⟨_,k _ _,hr _ _,s2,(k _ _).mono (λt q2=>q2.go g2 sr s2) hq⟩
theorem SF.Yp (i:Nat) {k:List (List PV)->W T} (hs:fs[i]?=bd (bd (.qd bs ls))) (hK:X.K=K) (hN:X.N[i]?=bd y) (hv:xt X.env.scope y) (he:EF X K fs e we) (h1:EF X K fs e1 w1) (h2:EF X K fs e2 w2) (tM:qB e1) (hr:∀Vs,SF X K x (fs.set i (bd (.qd bs Vs))) rest (k Vs) out)
  (ha:∀v,xz (.Subscript (.Subscript (.Name y p) e1 qL) e2 gc) X.env v=(do
   let ov <- sn [v] (kt (.Subscript (.Name y p) e1 qL) X.env)
   let iv <- sn [v,ov] (kt e2 X.env)
   Gf gc
   sn [v,ov,iv] (Ev ov iv v)
   release [v,ov,iv] []):=by intro _;rfl)
  (hd:(y==("__debug__":Str))=false:=by decide) (iL:(y==("__classdict__":Str))=false:=by decide) (Zw:FS [.Subscript (.Subscript (.Name y p) e1 qL) e2 gc] e pos.line X.env=pure false:=by rfl) (hw:Gc [.Subscript (.Subscript (.Name y p) e1 qL) e2 gc] e X.env=pure bv:=by rfl)
  (hq1:(ww [.Subscript (.Subscript (.Name y p) e1 qL) e2 gc] X.env).map (·.2)=[xz (.Subscript (.Subscript (.Name y p) e1 qL) e2 gc) X.env]:=by rfl) :
  SF X K x fs (.Assign [.Subscript (.Subscript (.Name y p) e1 qL) e2 gc] e pos::rest) (.bind we λv=>.bind w1 λn=>.bind (Rp ls n) λjl=>.bind w2 λm=>.bind (gh jl.2 m v) λl'=>.bind (.ret (ls.set jl.1 l')) k) out:=
 SF.step (vI he.p (MC (MJ (IM K hK) (dj hN hv hd iL) h1.p tM) h2.p n9 ha) Zw hw hq1) λD σ H ⟨sr,q⟩=>by
  refine⟨sr,we.mono (λv qv u H1 g1 s1 v1=>?_) q⟩;obtain⟨a,mK,q1,q2,q3,q4,q5⟩:=jb s1 hs;refine⟨_,mK,s1,w1.mono (λn qn u2 H2 g2 s2 v2=>?_) qv⟩;obtain⟨a2,Wv,r1,r2,r3,r4,r5⟩:=jb s2 hs;rw [mK] at Wv;cases Wv;cases v2 with
  | int kk=>
   have qn:(W.MY ((nu ls.length kk).bind λj=>(ls[j]?).map λl=>(j,l))).run _:=qn;cases hj:nu ls.length kk with
   | none=>rw [hj] at qn;exact qn.elim
   | some j=>
    have jl:=(wu hj).2.1;have hl:ls[j]?=bd ls[j]:=Ad jl;rw [hj] at qn;simp only [Option.bind_some] at qn;rw [hl] at qn;have qn:(am w2 λm=>.bind (gh ls[j] m v) λl'=>.bind (.ret (ls.set j l')) k).run _:=qn;have hb:bs[j]?=bd (bs[j]'∅):=Ad ∅;generalize bs[j]'∅=b at hb;generalize ls[j]=l at hl qn;have hix:cn (bs.map V.ref) kk=bd (.ref b):=by
     unfold cn;rw [Af,r4,hj];show (bs.map V.ref)[j]?=_;rw [Ag,hb];rfl
    refine .inl ⟨a,_,kk,.ref b,rfl,rfl,cU.of r1,hix,s2,w2.mono (λm qm u3 H3 g3 s3 v3=>?_) qn⟩;obtain⟨a3,T4,p1,p2,p3,p4,p5⟩:=jb s3 hs;rw [mK] at T4;cases T4;cases v3 with
    | int k2=>
     have qm:(match nu l.length k2 with | some j2=>bm (l.set j2 v) | none=>W.fail).run _:=qm;cases NI:nu l.length k2 with
     | none=>rw [NI] at qm;exact qm.elim
     | some j2=>
      rw [NI] at qm;obtain⟨ws,f1,f2⟩:=p5 j b l hb hl;refine⟨b,ws,k2,j2,rfl,rfl,f1,by rw [f2.length];exact NI,λH4 sx h4=>?_⟩;have Ĥ:=Br hb;have ab:a≠b:=λz=>p2 (z▸Ĥ);obtain⟨s4,g4⟩:=oY (t':=.qd bs (ls.set j (l.set j2 v))) s3 hs rfl (by simp) mK (c:=b) (.inr Ĥ) (.inr Ĥ) (λc h=>h) rfl sx λtk=>by
       refine⟨sx a _ ab p1,p2,p3,by simp [p4],λj' b' l' m1 m2=>?_⟩;by_cases c:j'=j
       ·subst c;rw [hb] at m1;cases m1;rw [Bt ∅] at m2;cases m2;exact⟨_,h4,aL.tk tk (f2.set ((g2.trans g3).vr s1 v1) j2)⟩
       ·rw [A8 (BE c)] at m2;obtain⟨pq,f3,f4⟩:=p5 j' b' l' m1 m2;refine⟨pq,sx b' _ (λz=>?_) f3,aL.tk tk f4⟩;subst z;have h1:=Ak.mp hb;have h2:=Ak.mp m1;exact c ((Ew p3).mp (h2.2.trans h1.2.symm))
      exact⟨_,k _,hr _,s4,(k _).mono (λt q3=>q3.go (((g1.trans g2).trans g3).f.trans g4) sr s4) qm⟩
    | _=>exact qm.elim
  | _=>exact qn.elim
end
end
end FL
variable {κ:PyProof.Rows.SortKind}{vs:List A4}{p:Array Nat}
namespace L2
open PySem PySem.Spec PyProof.Rows
def eX (N:Nat) (P:α->Prop):DP α->Prop
 | .ret a=>P a
 | .ask i j k=>i < N/\j < N/\∀b,eX N P (k b)
theorem eX.mono {N:Nat}{P P':α->Prop} (h:∀a,P a->P' a):∀{t:DP α},eX N P t->eX N P' t
 | .ret a,q=>h a q
 | .ask i j k,q=>⟨q.1,q.2.1,λb=>eX.mono h (q.2.2 b)⟩
theorem eX.bind {N:Nat}{P:α->Prop}{P':β->Prop}{f:α->DP β} (hf:∀a,P a->eX N P' (f a)):∀{t:DP α},eX N P t->eX N P' (t.bind f)
 | .ret a,q=>hf a q
 | .ask i j k,q=>⟨q.1,q.2.1,λb=>eX.bind hf (q.2.2 b)⟩
theorem eX.wp {N:Nat}{P:α->Prop}{cmp:Nat->Nat->(Bool->dL->Prop)->dL->Prop}{Q:α->dL->Prop} (hc:∀i j C,i < N->j < N->(∀b,C b s)->cmp i j C s) (hq:∀a,P a->Q a s):∀{t:DP α},eX N P t->t.kasWp cmp Q s
 | .ret a,q=>hq a q
 | .ask i j k,q=>hc i j _ q.1 q.2.1 λb=>eX.wp hc hq (q.2.2 b)
def cY (N:Nat) (p:Array Nat):Prop:=p.toList.Perm (Av N)
def cY.lt {N:Nat} (h:cY N p) (h0:0 < N) (k:Nat):p.getD k 0 < N:=by
 by_cases c:k < p.size
 ·have:p.getD k 0=p[k]:=by simp [Array.getD,c]
  rw [this];exact AI.mp (h.mem_iff.mp (by simp))
 ·have:p.getD k 0=0:=by simp [Array.getD,c]
  rw [this];exact h0
def cY.rev {N:Nat} (h:cY N p) (i j:Nat):cY N (EM p i j):=(D8.mp (mirror_perm p i j _)).trans h
def cY.bub {N:Nat} (h:cY N p) (i j:Nat):cY N (bubble p i j):=(D8.mp (bubble_perm p i j)).trans h
section
variable {N:Nat} (h0:0 < N)
include h0
theorem Nq (h:cY N p):∀f n,eX N (λ_=>True) (PySem.W.kas_asc p f n)
 | 0,n=>trivial
 | f+1,n=>⟨h.lt h0 _,h.lt h0 _,λb=>by
  cases b with
  | true=>exact trivial
  | false=>exact Nq h f (n+1)⟩
theorem wg:∀f (p:Array Nat) n q,cY N p->eX N (λr=>cY N r.1) (PySem.W.kas_desc f p n q)
 | 0,p,n,q,h=>h
 | f+1,p,n,q,h=>⟨h.lt h0 _,h.lt h0 _,λb=>by
  cases b with
  | true=>
   show eX N _ (if q > 0 then _ else _)
   split
   ·exact wg f _ _ _ (h.rev _ _)
   ·exact wg f _ _ _ h
  | false=>exact⟨h.lt h0 _,h.lt h0 _,λb=>by
    cases b with
    | true=>exact h
    | false=>exact wg f _ _ _ h⟩⟩
def Nn {m:Nat} (h:cY N p):eX N (λr=>cY N r.2) (PySem.W.kas_tail3 n m p):=by
 exact eX.bind (N:=N) (P:=λ_=>True) (P':=λr:Nat×Array Nat=>cY N r.2) (f:=λk=>.ret (k,EM p 0 n)) (λk _=>(show cY N (EM p 0 n) from h.rev _ _)) (Nq h0 (h.rev _ _) _ _)
def Np {m:Nat} (h:cY N p):eX N (λr=>cY N r.2) (PySem.W.kas_descPart n m p):=eX.bind (λr hr=>by
 split
 ·exact Nn h0 (hr.rev _ _)
 ·exact Nn h0 hr) (wg h0 _ _ _ _ h)
def Rm {m:Nat} (h:cY N p):eX N (λr=>cY N r.2) (PySem.W.kas_count m p):=eX.bind (λn _=>by
 split
 ·exact h
 ·split
  ·exact⟨h.lt h0 _,h.lt h0 _,λb=>by
    cases b with
    | true=>exact h
    | false=>exact Np h0 (h.rev _ _)⟩
  ·exact Np h0 h) (Nq h0 h _ _)
theorem wd (h:cY N p) (k:Nat):∀f l r,eX N (λ_=>True) (PySem.W.kas_place p k f l r)
 | 0,l,r=>trivial
 | f+1,l,r=>by
  show eX N _ (if l≥r then _ else _)
  split
  ·exact trivial
  ·exact⟨h.lt h0 _,h.lt h0 _,λb=>by
    cases b with
    | true=>exact wd h k f _ _
    | false=>exact wd h k f _ _⟩
theorem Tq:∀f (p:Array Nat) k,cY N p->eX N (cY N) (PySem.W.kas_bin f p k)
 | 0,p,k,h=>h
 | f+1,p,k,h=>eX.bind (λl _=>Tq f _ _ (h.bub _ _)) (wd h0 h k _ _ _)
def VL:eX N (cY N) (Fy N):=eX.bind (λr hr=>by
 split
 ·exact Tq h0 _ _ _ hr
 ·exact hr) (Rm h0 (List.Perm.refl _))
end
section
theorem Gi {P:PySem.Fin->dL->Prop} (ho:s.heap.get? a=bd (ut "list" vs.toArray n)) (ZS:vs.length < 64)
  (ĝ:2<=vs.length->∀h',(∀b o,b≠a->s.heap.get? b=bd o->h'.get? b=bd o)->d4 (d5 prog w) A (keyKind' vs.toArray) (λk s'=>k=κ/\s'={s with heap:=h'}) (λ_ _=>False) {s with heap:=h'})
  (kh:∀h',(∀b o,b≠a->s.heap.get? b=bd o->h'.get? b=bd o)->∀i j,i < vs.length->j < vs.length->∀C:Bool->dL->Prop,(∀b,C b {s with heap:=h'})->d4 (d5 prog w) A (keyLt' κ (vs.getD i AW) (vs.getD j AW)) C (λ_ _=>False) {s with heap:=h'})
  (h:∀out:List ci,out.Perm vs->P (.done (.ret .none)) {s with heap:=sortedHeap s.heap a vs out.toArray}) :
  d4 (d5 prog w) A (Da.«list.sort» ⟨[.ref a],[]⟩) P E s:=by
 rw [list_sort_plain];have ha:=Ar ho;refine Aa (listItems_at ho rfl ?_);refine Aa (listUpdate_at ho rfl ?_);obtain⟨e1,ho1⟩:∃e1,(s.heap.update a (Bl λ_=>#[])).get? a=bd (ut "list" #[] e1):=⟨_,get?_update_seq ho (λ_=>#[])⟩;refine Aa (seqEpoch_at ho1 rfl ?_);refine Aa (CK ?_);refine Aa (wpAny_newList ?_);refine Bc ?_;have ø:(((s.heap.update a (Bl λ_=>#[])).push (ut "tuple" vs.toArray 0)).push (ut "list" #[] 0)).get? a=bd (ut "list" #[] e1):=by
  rw [Heap.get?_push_ne _ _ _ (by rw [size_push',Eo];exact AM (C9 ha)),Heap.get?_push_ne _ _ _ (by rw [Eo];exact AM ha)];exact ho1
 have kp:∀b o,b≠a->s.heap.get? b=bd o->(((s.heap.update a (Bl λ_=>#[])).push (ut "tuple" vs.toArray 0)).push (ut "list" #[] 0)).get? b=bd o:=λb o n e=>Aj _ (Aj _ (by rw [Fe _ _ _ _ n];exact e));dsimp only;have hsz:vs.toArray.size=vs.length:=by simp
 by_cases h2:vs.toArray.size < 2
 ·rw [if_pos h2,if_pos h2];refine Aa (Ah ?_);refine Aa (Ah ?_);dsimp only;refine Aa (seqEpoch_at ø rfl ?_);refine Aa (listUpdate_at ø rfl ?_ (hsz2:=by rw [Array.size_map];show (pairsOf vs).size<=_;rw [pairsOf_size,sizeLine_eq];omega));simp only [bne_self_eq_false,Am,if_false];refine Ah ?_;have e:(arrOf (SortSt.mk' general' (vs.toArray.zip vs.toArray) #[] 7 bv)).map (·.2)=vs.toArray:=by
   apply Ez.mp;simp [List.map_snd_zip]
  show P _ {s with heap:=_};rw [e];exact h vs (List.Perm.refl _)
 ·rw [if_neg h2,if_neg h2];have sR:2<=vs.length:=by omega
  refine Aa (BP (ĝ sR _ kp) (λk s0 hk=>?_) λ_ _ x=>x.elim);obtain⟨rfl,rfl⟩:=hk;have hw:(Fy vs.length).kasWp (PySem.W.kas_ask prog w A k vs) (λp s'=>cY vs.length p/\s'={s with heap:=((s.heap.update a (Bl λ_=>#[])).push (ut "tuple" vs.toArray 0)).push (ut "list" #[] 0)}) {s with heap:=((s.heap.update a (Bl λ_=>#[])).push (ut "tuple" vs.toArray 0)).push (ut "list" #[] 0)}:=
   eX.wp (λi j C hi hj hC=>kh _ kp i j hi hj C hC) (λp hp=>⟨hp,rfl⟩) (VL (show 0 < vs.length by omega))
  refine Aa (BP (PySem.W.kat_run (Q:=λmI s'=>∃p:Array Nat,cY vs.length p/\arrOf mI=p.map (PySem.W.kas_item (vs.toArray.zip vs.toArray))/\failedOf mI=bv/\s'={s with heap:=((s.heap.update a (Bl λ_=>#[])).push (ut "tuple" vs.toArray 0)).push (ut "list" #[] 0)})
   rfl sR ZS (λp' mI s' a1 a2 a3 a4=>⟨p',a4.1,a2,a3,a4.2⟩) hw) ?_ λ_ _ e=>e)
  rintro⟨⟨⟩,mI⟩ s' ⟨p,hp,har,hf,rfl⟩;have yP:=PySem.W.kat_snds rfl har;have Tz:(p.toList.map λi=>vs.getD i AW).Perm vs:=by
   have e:(Av vs.length).map (λi=>vs.getD i AW)=vs:=by
    apply Bg;intro i;by_cases c:i < vs.length
    ·rw [Ag,Bv c,Ad c];show bd (vs.getD i AW)=_;rw [Ap,Ad c];rfl
    ·rw [Ax (by simp;omega),Ax ∅]
   have:=hp.map (λi=>vs.getD i AW);rw [e] at this;exact this
  rw [yP];refine Aa (seqEpoch_at ø rfl ?_);refine Aa (listUpdate_at ø rfl ?_ (hsz2:=by rw [Ai,Tz.length_eq,sizeLine_eq];omega));rw [hf];simp only [bne_self_eq_false,Am,if_false];exact Ah (h _ Tz)
def Qb {l:db}{Q:ci->dL->Prop} (hl:s.heap.IsList l vs.toArray) (ZS:vs.length < 64)
  (ĝ:2<=vs.length->∀h',(∀b o,s.heap.get? b=bd o->h'.get? b=bd o)->d4 (d5 prog w) A.in1.in1 (keyKind' vs.toArray) (λk s'=>k=κ/\s'={s with heap:=h'}) (λ_ _=>False) {s with heap:=h'})
  (kh:∀h',(∀b o,s.heap.get? b=bd o->h'.get? b=bd o)->∀i j,i < vs.length->j < vs.length->∀C:Bool->dL->Prop,(∀b,C b {s with heap:=h'})->d4 (d5 prog w) A.in1.in1 (keyLt' κ (vs.getD i AW) (vs.getD j AW)) C (λ_ _=>False) {s with heap:=h'})
  (h:∀out:List ci,out.Perm vs->Q (.ref (s.heap.objs.size+1)) {s with heap:=sortedAll s.heap vs out.toArray}) :
  d4 (d5 prog w) A (call (.builtin "sorted") [.ref l]) Q E s:=by
 refine Calls.call_function_entry kind_sorted plain_sorted entry_sorted (args_sorted1 _) ?_;refine Aa (m:=checkCount "sorted" 1 1 _) (Ah ?_);refine Aa (collect_list hl ?_);refine Aa (wpAny_newList ?_);have hsz:((s.heap.push (ut "list" #[] 0)).update s.heap.objs.size (Bl (·++vs.toArray))).objs.size=s.heap.objs.size+1:=by
  rw [Eo,size_push']
 have ö:(((s.heap.push (ut "list" #[] 0)).update s.heap.objs.size (Bl (·++vs.toArray))).push (ut "list" vs.toArray 0)).get? (s.heap.objs.size+1)=bd (ut "list" vs.toArray 0):=by
  rw [<- hsz];exact Aq _ rfl
 have kp:∀b o,s.heap.get? b=bd o->b≠s.heap.objs.size+1/\(((s.heap.push (ut "list" #[] 0)).update s.heap.objs.size (Bl (·++vs.toArray))).push (ut "list" vs.toArray 0)).get? b=bd o:=λb o e=>by
  have lt:=Ar e;refine⟨AM (C9 lt),Aj _ ?_⟩;rw [Fe _ _ _ _ (AM lt)];exact Aj _ e
 show d4 _ _ _ _ _ {s with heap:=((s.heap.push (ut "list" #[] 0)).update s.heap.objs.size (Bl (·++vs.toArray))).push (ut "list" vs.toArray 0)};rw [hsz];refine Aa (Bc (Be slot_list_sort ⟨_,ö,rfl⟩ entry_list_sort (Gi (κ:=κ) ö ZS (λh2 h' k=>?_) (λh' k=>?_) λout hp=>⟨_,rfl,?_⟩) (args_list_sort _)))
 ·exact ĝ h2 h' λb o e=>k b o (kp b o e).1 (kp b o e).2
 ·exact kh h' λb o e=>k b o (kp b o e).1 (kp b o e).2
 ·exact Ah ⟨_,rfl,h out hp⟩
end
end L2
variable {x:PL.PV}{i j:Int}{p:Cu}{t1:PySem.Tok}
namespace FL
section
open PySem PySem.Spec PyProof.Rows L2 PL
variable {K:Ab}
def oC:PV->Bool
 | .tup [.str _,.tup [.int _,.int _]]=>true
 | _=>false
def Gw (h:oC x=true):∃s i j,x=.tup [.str s,.tup [.int i,.int j]]:=by
 unfold oC at h
 split at h
 ·exact⟨_,_,_,rfl⟩
 ·cases h
section
def Si (I:Inv X Z σ H s) {v:V}{u:ci} (hv:VR X.K [] H v x) (ru:RelV v u) (hx:oC x=true):∃(a b:db) (st:Str) (i j:Int) (t t1 t2:Tok) (oa ob:Obj) (na nb:Nat),u=.ref a/\s.heap.get? a=bd oa/\oa.cls=.type "tuple"/\oa.data=.seq #[.str st t,.ref b] na/\s.heap.get? b=bd ob/\ob.cls=.type "tuple"/\ob.data=.seq #[.int i t1,.int j t2] nb:=by
 obtain⟨st,i,j,rfl⟩:=Gw hx;cases hv with
 | @tup p vs _ e r=>
 cases ru;cases r with
 | cons r1 r2=>
 cases r1;cases r2 with
 | cons r2 r3=>
 cases r3;cases r2 with
 | @tup b ws _ e2 r4=>
 cases r4 with
 | cons r4 r5=>
 cases r4;cases r5 with
 | cons r5 r6=>
 cases r6;cases r5;obtain⟨au,rv,⟨o,h1,h2,n,h3⟩,_⟩:=I.tuple (d9.of (K:=X.K) e);obtain⟨cD,rv2,⟨o2,k1,k2,n2,k3⟩,_⟩:=I.tuple (d9.of (K:=X.K) e2);cases rv with
 | cons q1 q2=>
 cases q2 with
 | cons q2 q3=>
 cases q3;cases rv2 with
 | cons m1 m2=>
 cases m2 with
 | cons m2 m3=>
 cases m3;obtain⟨t,rfl⟩:=q1;cases q2;obtain⟨t1,rfl⟩:=m1;obtain⟨t2,rfl⟩:=m2;exact⟨p,b,st,i,j,t,t1,t2,o,o2,n,n2,rfl,h1,h2,h3,k1,k2,k3⟩
end
theorem Sf {b a' b':db}{st mI:Str}{i' j':Int}{t t2 t' Yi Yg:Tok}{oa W7 Vi:Obj}{na nb na' ĉ:Nat} (hu:A.units+1 < o0)
  (h1:s.heap.get? a=bd oa) (h3:oa.data=.seq #[.str st t,.ref b] na) (k1:s.heap.get? b=bd ob) (k2:ob.cls=.type "tuple") (k3:ob.data=.seq #[.int i t1,.int j t2] nb)
  (hU:s.heap.get? a'=bd W7) (GI:W7.data=.seq #[.str mI t',.ref b'] na') (Ď:s.heap.get? b'=bd Vi) (č:Vi.cls=.type "tuple") (Č:Vi.data=.seq #[.int i' Yi,.int j' Yg] ĉ)
  {C:Bool->dL->Prop} (hC:∀b,C b s):d4 (d5 prog w) A (keyLt' (tuples' true) (.ref a) (.ref a')) C (λ_ _=>False) s:=by
 refine PySem.W.kat_lt h1 h3 hU GI (Fx (Dj.str_str st t mI t' prog w _ _ (PySem.W.kat_go (λ_=>PySem.W.kat_yes ?_) λ_=>PySem.W.kat_no ?_)))
 ·refine Fx ?_;have hT:s.heap.IsTuple b #[.int i t1,.int j t2]:=⟨ob,k1,k2,nb,k3⟩;have hT':s.heap.IsTuple b' #[.int i' Yi,.int j' Yg]:=⟨Vi,Ď,č,ĉ,Č⟩;have go:∀e,PySem.W.KatGo prog w A true (decide ((#[DU st t,.ref b]:Array ci).size < (#[DU mI t',.ref b']:Array ci).size)) C (.ref b) (.ref b') [] 1 e s:=λe=>PySem.W.kat_go (λ_=>PySem.W.kat_yes (PySem.W.kat_nil (hC _))) λ_=>PySem.W.kat_no (PySem.W.kat_one _ _ (HT.Gg hT hT' (.cons i t1 (.cons j t2 .nil)) (.cons i' Yi (.cons j' Yg .nil)) ∅ (hC _)));by_cases c:b=b'
  ·subst c;exact FE (.ref b) prog w _ _ (go _)
  ·refine Fp c (Fs (e:=λk=>if k=0 then i==i' else j==j') hT hT' ∅ λk g1 g2=>?_) prog w _ _ (go _);have:k=0\/k=1:=by simp at g1;omega
   rcases this with rfl | rfl
   ·exact DZ i t1 i' Yi
   ·exact DZ j t2 j' Yg
 ·exact oneLt_str (hC _)
section
def UH (K:Ab):List V->Hp->VK->Prop:=λxs H Q=>∃(p:db) (vs:List V) (l:List PV),xs=[.ref p]/\cU K H p vs/\aL K [] H vs l/\l.length < 64/\l.all oC=true/\∀m:List PV,m.Perm l->∀ws,aL K [] H ws m->kN H (.lst ws) Q
def MF {vs:List V}{out:List ci} (r:Vals vs us) (v:aL K [] H vs l) (p:out.Perm us):∃ws m,Vals ws out/\aL K [] H ws m/\m.Perm l:=by
 induction p generalizing vs l with
 | nil=>cases r;cases v;exact⟨[],[],.nil,.nil,.refl _⟩
 | cons x p ih=>
  cases r with
  | cons r1 r2=>
  cases v with
  | cons v1 v2=>
  obtain⟨ws,m,a,b,c⟩:=ih r2 v2;exact⟨_::ws,_::m,.cons r1 a,.cons v1 b,.cons _ c⟩
 | swap x y l'=>
  cases r with
  | cons r1 r2=>
  cases r2 with
  | cons r2 r3=>
  cases v with
  | cons v1 v2=>
  cases v2 with
  | cons v2 v3=>exact⟨_::_::_,_::_::_,.cons r2 (.cons r1 r3),.cons v2 (.cons v1 v3),.swap _ _ _⟩
 | trans p1 p2 ih1 ih2=>
  obtain⟨ws,m,a,b,c⟩:=ih2 r v;obtain⟨pq,m',a',b',c'⟩:=ih1 a b;exact⟨pq,m',a',b',c'.trans c⟩
theorem Hj (hK:X.K=K) (hu:X.A.units+200 < o0):bQ X (.builtin "sorted") (UH K):=by
 subst hK;intro Z s σ H xs us Q I r h;obtain⟨p,vs,l,rfl,hq,hv,ZS,hd,q⟩:=h;obtain⟨u,rfl,rx⟩:=vals1 r;cases rx;obtain⟨au,r',pl,hz⟩:=I.list hq;have hl:=r'.length;have Kk:=hv.length;have el:∀i,i < au.length->∃(a b:db) (st:Str) (i1 j1:Int) (t t1 t2:Tok) (oa ob:Obj) (na nb:Nat),au.getD i AW=.ref a/\s.heap.get? a=bd oa/\oa.cls=.type "tuple"/\oa.data=.seq #[.str st t,.ref b] na/\s.heap.get? b=bd ob/\ob.cls=.type "tuple"/\ob.data=.seq #[.int i1 t1,.int j1 t2] nb:=λi hi=>by
  have e1:vs[i]?=bd vs[i]:=Ad ∅;obtain⟨x,ex,vx⟩:=hv.ZT e1;have hx:=Cy.mp hd x (Br ex);have ru:RelV vs[i] (au.getD i AW):=by
   obtain⟨u,ē,Ē⟩:=Vals.get r' e1;rw [Ap,ē];exact Ē
  exact Si I vx ru hx
 refine Qb (κ:=tuples' true) pl.isList ∅ (λh2 h' kp=>?_) (λh' kp i j hi hj C hC=>?_) λout hp=>?_
 ·have ß:∀l:List ci,(∀v∈l,∃(a:db) (x:ci) (st:Str) (t:Tok) (oa:Obj) (na:Nat),v=.ref a/\h'.get? a=bd oa/\oa.cls=.type "tuple"/\oa.data=.seq #[.str st t,x] na)->∃fs,PySem.W.KatTups h' l fs/\fs.length=l.length/\∀v∈fs,∃st t,v=DU st t:=by
   intro l
   induction l with
   | nil=>intro _;exact⟨[],trivial,rfl,by simp⟩
   | cons v l ih=>
    intro hl;obtain⟨fs,f1,f2,f3⟩:=ih λy hy=>hl y (.tail _ hy);obtain⟨a,x,st,t,oa,na,rfl,g1,g2,g3⟩:=hl v (.head _);refine⟨.str st t::fs,PySem.W.KatTups.cons g1 g2 g3 rfl f1,by simp [f2],λy hy=>?_⟩;rcases Ay.mp hy with rfl | hy
    ·exact⟨st,t,rfl⟩
    ·exact f3 y hy
  obtain⟨fs,f1,f2,f3⟩:=ß au λv hv=>by
   obtain⟨i,hi,rfl⟩:=DM hv;obtain⟨a,b,st,i1,j1,t,t1,t2,oa,ob,na,nb,e,h1,h2,h3,_⟩:=el i hi;rw [Ap,Ad hi] at e;exact⟨a,.ref b,st,t,oa,na,e,kp _ _ h1,h2,h3⟩
  refine PySem.W.kat_kind (T:=.type "str") f1 ∅ (λv hv=>?_) ⋯ ⟨rfl,rfl⟩;obtain⟨st,t,rfl⟩:=f3 v hv;exact PySem.W.Looks.now
 ·obtain⟨a,b,st,i1,j1,t,t1,t2,oa,ob,na,nb,e,h1,h2,h3,k1,k2,k3⟩:=el i hi;obtain⟨a',b',mI,i1',j1',t',Yi,Yg,W7,Vi,na',ĉ,e',hU,sR,GI,Ď,č,Č⟩:=el j hj;rw [e,e'];exact Sf (s:={s with heap:=h'}) (by show X.A.units+1+1+1 < _;omega) (kp _ _ h1) h3 (kp _ _ k1) k2 k3 (kp _ _ hU) GI (kp _ _ Ď) č Č hC
 ·obtain⟨ws,m,a1,a2,a3⟩:=MF r' hv hp;obtain⟨e,he⟩:=sortedAll_at s.heap au out.toArray;refine⟨.ref (s.heap.objs.size+1),_,I.laid (t':=s.toks) (λ_ _=>sortedAll_old) (E7 _) (show bq X.prog X.w _ _ _ (.lst ws) from⟨?_,out,e,a1,he⟩),rfl,(q m a3 ws a2).at _ (I.bG.fresh (E7 _))⟩;rw [a2.length,a3.length_eq];rw [<- Kk];exact hz
def L7 (l:List PV):W (List PV):=.fM (l.length < 64/\l.all oC=true) (.any λm=>m.Perm l)
def Rf (hK:X.K=K) (hu:X.A.units+200 < o0) (hg:Gl X "sorted") (hm:X.mg "sorted"=bv) (ha:xB X K fs e wl) (he:ce [e] X.env=(false,kt e X.env)::ce [] X.env:=by rfl) (dH:(kw pos (ce [] X.env)).any (·.1)=false:=by rfl):LF X K fs (.Call (.Name "sorted" p) [e] [] pos) (.bind wl L7):=
 ⟨PE.imp (eP (Hj hK hu) hg hm boot_sorted (bh ha.p cC he) ⋯ ⋯ he dH) λσ H Q ⟨sr,q⟩=>⟨sr,wl.mono (λl q1 u1 H1 g1 s1 _ v1=>by
  obtain⟨⟨c1,c2⟩,q2⟩:=q1;obtain⟨a,vs,rfl,h1,r1⟩:=v1 H1 .refl s1;exact⟨a,vs,l,rfl,h1,r1,c1,c2,λm hm ws hw=>Iz g1 s1 hw (q2 m hm)⟩) q⟩⟩
end
end
end FL
variable {x:BZ}
namespace FL
section
open PySem PySem.Spec PyProof.Rows L2 PL
variable {K:Ab}
structure TupK (K:Ab) (a:db) (ts:List Str):Prop where
 ex:∃(o:Obj) (au:Array ci) (n:Nat),K.lookup a=bd o/\o.cls=.type "tuple"/\o.data=.seq au n/\au.size<=sizeLine/\Vals (ts.map V.str) au.toList
def tup3K {z:Str}{t2 t3:Tok} (h:K.lookup a=bd ⟨.type "tuple",od,.seq #[.str x t1,.str y t2,.str z t3] n,Ph⟩):TupK K a [x,y,z]:=⟨_,_,_,h,rfl,rfl,a9 (by show 3<=_;decide),.cons ⟨_,rfl⟩ (.cons ⟨_,rfl⟩ (.cons ⟨_,rfl⟩ .nil))⟩
section
theorem strs_vr (H:Hp):∀ts:List Str,aL K [] H (ts.map V.str) (ts.map PV.str)
 | []=>.nil
 | t::ts=>.cons (.str t) (strs_vr H ts)
def it_mt (hK:X.K=K) {ts:List Str} (hm:X.mg x=bd (.ref a)) (T:TupK K a ts) (hg:Gl X x:=by rfl) (hd:(x==("__debug__":Str))=false:=by decide):pU X K fs tg (.Name x pos) (.ret (ts.map PV.str)):=⟨by
 subst hK;intro Z s σ H R I ⟨sr,q⟩;have sq:∀H',d9 X.K H' a (ts.map V.str):=λ_=>.inr T.ex;refine bD (p0 hg hm (v:=.ref a) rfl hd Z s σ H (λu H1=>u=.ref a/\H1=H) I ⟨rfl,rfl⟩) λv s1 ⟨x,H1,I1,r1,e1,e2⟩=>?_;subst e1;subst e2;cases r1;obtain⟨au,rv,pl,hz⟩:=I1.tuple (sq _);have jf:JF X.K H1 (Itt X.K a) (ts.map PV.str):=⟨by rw [Af] at hz ⊢;exact hz,λH' t=>by
  have e2:=strs_vr (K:=X.K) H' ts;refine⟨λi p hp=>?_,_,sq H',by rw [e2.length];exact An _⟩;obtain⟨v,h3,h4⟩:=e2.get hp;refine⟨⟨_,v,sq H',h3⟩,λx H3 y=>?_⟩;obtain⟨rfl,y⟩:=y;have:=y _ (sq _);rw [h3] at this;cases this;exact⟨j8.refl _,h4⟩⟩
 refine C2 (show s1.heap.IsTuple a au.toArray from pl) ?_;refine⟨s1.heap.objs.size,[s1.heap.objs.size],_,_,H1,rfl,I1.kept (t':=s1.toks) λb o e=>Aj _ e,qH a _,⟨_,Aq _ rfl,rfl,rfl⟩,λb hb=>?_,q _ H1 .refl sr jf⟩;have e:b=s1.heap.objs.size:=by simpa using hb
 subst e;exact I1.tS (An _) (I1.bG.fresh (An _))⟩
end
end
open PySem PySem.Spec PyProof.Rows L2 PL
def gM (ns:List Int):Prop:=∃g s c:Int,ns=[g,s,c]/\0<=g/\0<=s/\s < 2305843009213693951/\0<=c
def drawn (m:Int):W PV:=.any λv=>∃d:Int,v=.int d/\0<=d/\d < m
def bz:PV->W PV
 | .int m=>.fM (0 < m/\m<=2000) (drawn m)
 | _=>.fail
def oo:of2 (aI g) (.int i) (.int j)=.ret (g i j):=wT λQ=>⟨Cz,λq=>⟨rfl,q⟩⟩
def qe {C:Int->Int->Prop}:of2 (WO C g) (.int i) (.int j)=.fM (C i j) (.ret (g i j)):=wT λQ=>⟨λq=>⟨q.1,q.2.2⟩,λq=>⟨q.1,rfl,q.2⟩⟩
section
variable (i j:Int) (a b:Bool) (x y:PV) (l m:List PV) (s t:Str)
@[simp] theorem oK:of2 oq (.int i) (.int j)=.ret (.int (i-j)):=oo
@[simp] theorem Ob:of2 ou (.int i) (.int j)=.fM (wP i j) (.ret (.int (i*j))):=qe
@[simp] theorem adX:of2 oDiv (.int i) (.int j)=.fM (SS i j) (.ret (.int (i / j))):=qe
@[simp] theorem Oc:of2 oMod (.int i) (.int j)=.fM (0 < j) (.ret (.int (i % j))):=qe
@[simp] theorem Wj:of2 yA (.int i) (.int j)=.fM (Pc i j) (.ret (.int (i ^ j.toNat))):=qe
@[simp] theorem za:of2 oLt (.int i) (.int j)=.ret (.bl (decide (i < j))):=oo
@[simp] theorem Od:of2 oLe (.int i) (.int j)=.ret (.bl (decide (i<=j))):=oo
@[simp] theorem TU:of2 Y3 (.int i) (.int j)=.ret (.bl (decide (j < i))):=oo
@[simp] theorem Z8:of2 oGe (.int i) (.int j)=.ret (.bl (decide (j<=i))):=oo
@[simp] theorem Z7:of2 Tv (.int i) (.int j)=.ret (.int (i+j)):=oo
def sh:of2 dU x y=.fM (KD x y) (.ret (.bl (iR x y))):=wT λQ=>⟨λq=>⟨q.1,q.2.2⟩,λq=>⟨q.1,rfl,q.2⟩⟩
def TR:of2 vR x y=.fM (KD x y) (.ret (.bl (!iR x y))):=wT λQ=>⟨λq=>⟨q.1,q.2.2⟩,λq=>⟨q.1,rfl,q.2⟩⟩
@[simp] theorem adW:of2 acz (.bl a) (.bl b)=.ret (.bl (a==b)):=wT λQ=>⟨Cz,λq=>⟨rfl,q⟩⟩
@[simp] theorem uN:of2 m6 (.bl a) (.bl b)=.ret (.bl (!(a==b))):=wT λQ=>⟨Cz,λq=>⟨rfl,q⟩⟩
@[simp] theorem oM:of2 F0 x .aU=.ret (.bl x.lT):=wT λQ=>⟨Cz,λq=>⟨rfl,q⟩⟩
@[simp] theorem Wo:of2 QX (.str s) (.str t)=.ret (.bl (!(Builtin.Str.occurrences t s 0 t.length 1).isEmpty)):=wT λQ=>⟨Cz,λq=>⟨rfl,q⟩⟩
def Wn {c:Nat} (h:cn s.cps.toList i=bd c):of2 M3 (.str s) (.int i)=.fM (s.length<=sizeLine) (.ret (.str ⟨#[c]⟩)):=wT λQ=>by
 show (s.length<=sizeLine/\match cn s.cps.toList i with | some c=>_/\_ | none=>False)↔_;rw [h];exact⟨λq=>⟨q.1,q.2.2⟩,λq=>⟨q.1,rfl,q.2⟩⟩
@[simp] theorem iz:addW (.int i) (.int j)=.ret (.int (i+j)):=(rfl)
@[simp] theorem R4:addW (.str s) (.str t)=.fM (s.length+t.length<=sizeLine) (.ret (.str (s++t))):=(rfl)
@[simp] theorem R3:addW (.tup l) (.tup m)=.fM (l.length+m.length<=sizeLine) (.ret (.tup (l++m))):=(rfl)
@[simp] theorem iU:mq (.int i)=.ret (.int (-i)):=(rfl)
@[simp] theorem bp:Xt (.bl a)=.ret a:=(rfl)
@[simp] theorem uO (w:W PV):k7 (.bl true) w=w:=(rfl)
@[simp] theorem Xp (w:W PV):k7 (.bl false) w=.ret (.bl false):=(rfl)
@[simp] theorem gA (w:W PV):Lf (.bl true) w=w:=(rfl)
@[simp] theorem Ji (w:W PV):Lf (.bl false) w=.ret (.bl false):=(rfl)
@[simp] theorem N9 (w:W PV):orW (.bl true) w=.ret (.bl true):=(rfl)
@[simp] theorem Oa (w:W PV):orW (.bl false) w=w:=(rfl)
@[simp] theorem Wk:Q0 (.bl a)=.ret (.bl (!a)):=(rfl)
@[simp] theorem bb:cG (.bl a)=.ret a:=(rfl)
@[simp] theorem abz:cG (.int i)=.ret (i != 0):=(rfl)
@[simp] theorem aby:cG .aU=.ret false:=(rfl)
@[simp] theorem abx:cG (.tup l)=.ret (!l.isEmpty):=(rfl)
@[simp] theorem abA:cG (.cl l)=.ret (!l.isEmpty):=(rfl)
@[simp] theorem ay:ax (.tup l)=.ret l:=(rfl)
@[simp] theorem bI:ax (.cl l)=.ret l:=(rfl)
@[simp] theorem wO:yH (.cl l)=.ret l:=(rfl)
@[simp] theorem a6:IP l (.int i)=.MY (cn l i):=(rfl)
@[simp] theorem sg:oA l=.ret (.int l.length):=(rfl)
@[simp] theorem sf:kF l=.ret (.tup l):=(rfl)
@[simp] theorem Z9:blW a=.ret (.bl a):=(rfl)
@[simp] theorem lL:part (.int i)=.ret (bd i):=(rfl)
@[simp] theorem mB:pw (.tup [x,y])=.ret (x,y):=(rfl)
@[simp] theorem Wi (z:PV):un3 (.tup [x,y,z])=.ret (x,y,z):=(rfl)
@[simp] theorem Wh (z u:PV):un4 (.tup [x,y,z,u])=.ret (x,y,z,u):=(rfl)
@[simp] theorem Jh (k:Kd):dJ k (.int i)=.ret (.bl (k.is (.int i))):=(rfl)
@[simp] theorem gz (k:Kd):dJ k (.str s)=.ret (.bl (k.is (.str s))):=(rfl)
@[simp] theorem fK (k:Kd):dJ k (.tup l)=.ret (.bl (k.is (.tup l))):=(rfl)
@[simp] theorem abG (k:Kd):dJ k (.cl l)=.ret (.bl (k.is (.cl l))):=(rfl)
@[simp] theorem abH (k:Kd):dJ k (.bl a)=.ret (.bl (k.is (.bl a))):=(rfl)
@[simp] theorem abF (k:Kd):dJ k .aU=.ret (.bl (k.is .aU)):=(rfl)
@[simp] theorem ck:qf dF [.tup l]=.ret (.int l.length):=wT λQ=>⟨Cz,λq=>⟨rfl,q⟩⟩
@[simp] theorem iw:qf dF [.cl l]=.ret (.int l.length):=wT λQ=>⟨Cz,λq=>⟨rfl,q⟩⟩
@[simp] theorem RV:qf dF [.str s]=.fM (s.length<=sizeLine) (.ret (.int s.length)):=wT λQ=>⟨λq=>⟨q.1,q.2.2⟩,λq=>⟨q.1,rfl,q.2⟩⟩
@[simp] theorem Wr:qf OX [.int i]=.ret (.int (if i < 0 then -i else i)):=wT λQ=>⟨Cz,λq=>⟨rfl,q⟩⟩
@[simp] theorem abI:qf sJ [.int i]=.ret (.int i):=wT λQ=>⟨Cz,λq=>⟨rfl,q⟩⟩
@[simp] theorem nI:qf sJ [.bl a]=.ret (.int (if a then 1 else 0)):=wT λQ=>⟨Cz,λq=>⟨rfl,q⟩⟩
@[simp] theorem Wm:qf OW [.int i,.int j]=.ret (.int (if j > i then j else i)):=wT λQ=>⟨Cz,λq=>⟨rfl,q⟩⟩
@[simp] theorem Wl:qf OV [.int i,.int j]=.ret (.int (if j < i then j else i)):=wT λQ=>⟨Cz,λq=>⟨rfl,q⟩⟩
@[simp] theorem mC (p q:Option Int):FP (.tup l) p q=.ret (.tup (kl l p q)):=(rfl)
@[simp] theorem abB:Gs (.int i)=.ret (.inl i):=(rfl)
@[simp] theorem RX:Gs (.str s)=.ret (.inr s):=(rfl)
@[simp] theorem fJ:j9 (.int j)=.fM (okN 0 j) (.ret (ka 0 j.toNat)):=(rfl)
@[simp] theorem Jf (k:Int):Ii (.int i) (.int j) (.int k)=.fM (k = -1/\okN j i) (.ret (lY i (i-j).toNat)):=(rfl)
@[simp] theorem N7:FQ (.str s)=.fM (s.cps.size<=sizeLine) (.ret (s.cps.toList.map λc=>.str ⟨#[c]⟩)):=(rfl)
@[simp] theorem GY:tq (l++[x])=.ret (l,x):=by unfold tq;simp
@[simp] theorem N8:yg l (.int i)=.fM (-(2 ^ 63)<=i/\i < 2 ^ 63/\l.length*i.toNat<=sizeLine) (.ret (Al i.toNat l).flatten):=(rfl)
@[simp] theorem R0:Kd.is .int (.int i)=true:=(rfl)
@[simp] theorem abD:Kd.is .int (.bl a)=true:=(rfl)
@[simp] theorem abE:Kd.is .bool (.bl a)=true:=(rfl)
@[simp] theorem R1:Kd.is .bool (.int i)=false:=(rfl)
@[simp] theorem iy:Kd.is .str (.str s)=true:=(rfl)
@[simp] theorem jV:Kd.is .str (.tup l)=false:=(rfl)
@[simp] theorem RZ:Kd.is .str (.int i)=false:=(rfl)
@[simp] theorem wQ:Kd.is .tup (.tup l)=true:=(rfl)
@[simp] theorem Jg:Kd.is .tup (.str s)=false:=(rfl)
@[simp] theorem RY:Kd.is .tup (.int i)=false:=(rfl)
@[simp] theorem abC:Kd.is .tup (.bl a)=false:=(rfl)
@[simp] theorem df (h0:0 < i) (h1:i<=2000):bz (.int i)=drawn i:=re ⟨h0,h1⟩
def bJ {m:Int} (h:∀d:Int,0<=d->d < m->Q (.int d)):(drawn m).run Q:=λv ⟨d,e,h0,h1⟩=>e▸h d h0 h1
end
namespace W
variable {α β:Type}
def le (a b:W α):Prop:=∀Q,b.run Q->a.run Q
def le.refl (a:W α):a.le a:=λ_ h=>h
def le.of_eq {a b:W α} (h:a=b):a.le b:=h▸le.refl a
def le.ret {a:W α}{v:α}{f:α->W β}{b:W β} (h:a.le (.ret v)) (hf:(f v).le b):(a.bind f).le b:=λQ q=>h _ (hf Q q)
def le.use {a:W α}{v:α}{Q:α->Prop} (h:a.le (.ret v)) (q:Q v):a.run Q:=h _ q
end W
section
variable {S R:Type}
@[simp] theorem ZZ (s:S) (f:PV->S->W S):dN [] s f=.ret s:=(rfl)
@[simp] theorem KC (x:PV) (r:List PV) (s:S) (f:PV->S->W S):dN (x::r) s f=.bind (f x s) λs'=>dN r s' f:=(rfl)
theorem nF {f:PV->S->W S}{Q:S->Prop} (I:List PV->S->Prop):∀{l:List PV}{s:S},I l s->(∀x r s,I (x::r) s->(f x s).run (I r))->(∀s,I [] s->Q s)->(dN l s f).run Q
 | [],s,h0,_,he=>he s h0
 | x::r,s,h0,hs,he=>(f x s).mono (λs' h=>nF I h hs he) (hs x r s h0)
theorem forF_run {f:PV->S->W (Lp S R)}{Q:Lp S R->Prop} (I:List PV->S->Prop):∀{l:List PV}{s:S},I l s->(∀x r s,I (x::r) s->(f x s).run λo=>match o with | .go s'=>I r s' | .out t=>Q (.out t))->(∀s,I [] s->Q (.go s))->(FL.mz l s f).run Q
 | [],s,h0,_,he=>he s h0
 | x::r,s,h0,hs,he=>(f x s).mono (λo h=>match o,h with
  | .go s',h=>forF_run I h hs he
  | .out t,h=>h) (hs x r s h0)
theorem jU {f:PV->S->W S}{Q:S->Prop} (I:Nat->S->Prop) {s:S} (h0:I 0 s) (hs:∀(i:Nat) (x:PV) s,l[i]?=bd x->I i s->(f x s).run (I (i+1))) (he:∀s,I l.length s->Q s):(dN l s f).run Q:=by
 refine nF (λr s=>∃i,i<=l.length/\r=l.drop i/\I i s) ⟨0,A5 _,rfl,h0⟩ (λx r s ⟨i,hi,e,h⟩=>?_) (λs ⟨i,hi,e,h⟩=>?_)
 ·have kh:i < l.length:=by
   rcases Dc i l.length with h | h
   ·exact h
   ·rw [EJ h] at e;cases e
  rw [Bs kh] at e;injection e with e1 e2;subst e1;exact (f _ s).mono (λs' h'=>⟨i+1,kh,e2,h'⟩) (hs i _ s (Ad kh) h)
 ·have:i=l.length:=by
   have:=congrArg BU e;rw [Dp] at this;simp at this;omega
  subst this;exact he s h
theorem Jb {f:PV->S->W (Lp S R)}{Q:Lp S R->Prop} (I:Nat->S->Prop) {s:S} (h0:I 0 s) (hs:∀(i:Nat) (x:PV) s,l[i]?=bd x->I i s->(f x s).run λo=>match o with | .go s'=>I (i+1) s' | .out t=>Q (.out t)) (he:∀s,I l.length s->Q (.go s)):(FL.mz l s f).run Q:=by
 refine forF_run (λr s=>∃i,i<=l.length/\r=l.drop i/\I i s) ⟨0,A5 _,rfl,h0⟩ (λx r s ⟨i,hi,e,h⟩=>?_) (λs ⟨i,hi,e,h⟩=>?_)
 ·have kh:i < l.length:=by
   rcases Dc i l.length with h | h
   ·exact h
   ·rw [EJ h] at e;cases e
  rw [Bs kh] at e;injection e with e1 e2;subst e1;exact (f _ s).mono (λo h'=>match o,h' with
   | .go s',h'=>⟨i+1,kh,e2,h'⟩
   | .out t,h'=>h') (hs i _ s (Ad kh) h)
 ·have:i=l.length:=by
   have:=congrArg BU e;simp at this;omega
  subst this;exact he s h
def nG {f:PV->S->W S}{Q:S->Prop} (I:Nat->S->Prop) {s:S} (h0:I 0 s) (hs:∀(i:Nat) s,i < n->I i s->(f (.int (i:Int)) s).run (I (i+1))) (he:∀s,I n s->Q s):(dN (ka 0 n) s f).run Q:=
 jU I h0 (λi x s hx h=>by obtain⟨hi,rfl⟩:=oE hx;rw [EK];exact hs i s hi h) (λs h=>he s (by rw [jv] at h;exact h))
def y6 {f:PV->S->W (Lp S R)}{Q:Lp S R->Prop} (I:Nat->S->Prop) {s:S} (h0:I 0 s) (hs:∀(i:Nat) s,i < n->I i s->(f (.int (i:Int)) s).run λo=>match o with | .go s'=>I (i+1) s' | .out t=>Q (.out t)) (he:∀s,I n s->Q (.go s)):(FL.mz (ka 0 n) s f).run Q:=
 Jb I h0 (λi x s hx h=>by obtain⟨hi,rfl⟩:=oE hx;rw [EK];exact hs i s hi h) (λs h=>he s (by rw [jv] at h;exact h))
theorem gH {c:S->W Bool}{b:S->W S}{Q:S->Prop} (I:Nat->S->Prop) {s:S} (h0:I n s) (hs:∀n s,I n s->(c s).run λk=>if k=true then (b s).run (λs'=>∃m,m < n/\I m s') else Q s):(ku c b s).run Q:=by
 refine⟨n+1,?_⟩;have:∀k n s,n < k->I n s->(mh c b k s).run Q:=by
  intro k
  induction k with
  | zero=>intro n s h;omega
  | succ k ih=>
   intro n s hn h;refine (c s).mono (λz q=>?_) (hs n s h);cases z with
   | true=>exact (b s).mono (λs' ⟨m,hm,h'⟩=>ih m s' ∅ h') (show (b s).run _ from q)
   | false=>exact q
 exact this (n+1) n s ∅ h0
theorem zR {c:S->W Bool}{b:S->W (Lp S R)}{Q:Lp S R->Prop} (I:Nat->S->Prop) {s:S} (h0:I n s) (hs:∀n s,I n s->(c s).run λk=>if k=true then (b s).run (λo=>match o with | .go s'=>∃m,m < n/\I m s' | .out t=>Q (.out t)) else Q (.go s)):(FL.qG c b s).run Q:=by
 refine⟨n+1,?_⟩;have:∀k n s,n < k->I n s->(jE c b k s).run Q:=by
  intro k
  induction k with
  | zero=>intro n s h;omega
  | succ k ih=>
   intro n s hn h;refine (c s).mono (λz q=>?_) (hs n s h);cases z with
   | true=>exact (b s).mono (λo q=>match o,q with
    | .go s',⟨m,hm,h'⟩=>ih m s' ∅ h'
    | .out t,q=>q) (show (b s).run _ from q)
   | false=>exact q
 exact this (n+1) n s ∅ h0
theorem vV {f:PV->W PV}{g:PV->PV}:∀{l:List PV},(∀x∈l,f x=.ret (g x))->mapW l f=.ret (l.map g)
 | [],_=>rfl
 | x::r,h=>by
  show am (f x) (λy=>am (mapW r f) λl=>bm (y::l))=_;rw [h x (.head _),vV λy hy=>h y (.tail _ hy)];rfl
theorem Gp {g:PV->Option PV}:∀{l:List PV},(∀x∈l,f x=.ret (g x))->kf l f=.ret (l.filterMap g)
 | [],_=>rfl
 | x::r,h=>by
  show am (f x) (λo=>am (kf r f) λl=>bm (o.toList++l))=_;rw [h x (.head _),Gp λy hy=>h y (.tail _ hy),BD];cases g x <;> rfl
@[simp] theorem nX (bs:List Bool):xl (bs.map PV.bl)=.ret (.bl (bs.all id)):=by unfold xl;rw [xj];rfl
@[simp] theorem SA (bs:List Bool):O2 (bs.map PV.bl)=.ret (.bl (bs.any id)):=by unfold O2;rw [xj];rfl
theorem all_map (f:PV->Bool) (l:List PV):xl (l.map λx=>.bl (f x))=.ret (.bl (l.all f)):=by
 have:(l.map λx=>PV.bl (f x))=(l.map f).map PV.bl:=by rw [AN];rfl
 rw [this,nX,List.all_map];rfl
end
section
variable (i j:Int) (a b:Bool) (x y:PV) (l m:List PV) (s t:Str)
@[simp] theorem TN:iR (.int i) (.int j)=(i==j):=by rw [iR]
@[simp] theorem N4:iR (.str s) (.str t)=(s==t):=by rw [iR]
@[simp] theorem TQ:iR (.bl a) (.bl b)=(a==b):=by rw [iR]
@[simp] theorem afc:iR (.tup l) (.tup m)=gw l m:=by rw [iR]
@[simp] theorem afd:iR (.cl l) (.cl m)=gw l m:=by rw [iR]
@[simp] theorem adT:gw [] []=true:=by rw [gw]
@[simp] theorem adS:gw (x::l) (y::m)=(iR x y&&gw l m):=by rw [gw]
@[simp] theorem abr:PV.kd (.int i)=true:=by rw [PV.kd] <;> simp
@[simp] theorem adR:PV.kd (.bl a)=true:=by rw [PV.kd] <;> simp
@[simp] theorem abp:PV.kd (.str s)=true:=by rw [PV.kd] <;> simp
@[simp] theorem abq:PV.kd .aU=true:=by rw [PV.kd] <;> simp
@[simp] theorem abo:PV.kd (.tup l)=f7 l:=by rw [PV.kd]
@[simp] theorem adQ:PV.kd (.cl l)=f7 l:=by rw [PV.kd]
@[simp] theorem Z0:f7 []=true:=by rw [f7]
@[simp] theorem Xk:f7 (x::l)=(PV.kd x&&f7 l):=by rw [f7]
@[simp] theorem Z5:PV.iT (.int i)=0:=by rw [PV.iT] <;> simp
@[simp] theorem abw:PV.iT (.bl a)=0:=by rw [PV.iT] <;> simp
@[simp] theorem Z3:PV.iT (.str s)=0:=by rw [PV.iT] <;> simp
@[simp] theorem Z4:PV.iT .aU=0:=by rw [PV.iT] <;> simp
@[simp] theorem Z2:PV.iT (.tup l)=eK l+1:=by rw [PV.iT]
@[simp] theorem abv:PV.iT (.cl l)=eK l+1:=by rw [PV.iT]
@[simp] theorem Xm:eK []=0:=by rw [eK]
@[simp] theorem We:eK (x::l)=max (PV.iT x) (eK l):=by rw [eK]
def zb:KD (.int i) (.int j):=⟨by simp,by simp,by simp⟩
@[simp] theorem c8:of2 dU (.int i) (.int j)=.ret (.bl (i==j)):=by rw [sh,re (zb i j),TN]
@[simp] theorem wN:of2 vR (.int i) (.int j)=.ret (.bl (!(i==j))):=by rw [TR,re (zb i j),TN]
@[simp] theorem Wq:of2 dU (.bl a) (.bl b)=.ret (.bl (a==b)):=by rw [sh,re ⟨by simp,by simp,by simp⟩,TQ]
@[simp] theorem adV:of2 vR (.bl a) (.bl b)=.ret (.bl (!(a==b))):=by rw [TR,re ⟨by simp,by simp,by simp⟩,TQ]
end
theorem gZ:∀{l:List PV},f7 l=true↔∀x∈l,PV.kd x=true
 | []=>by simp
 | x::l=>by rw [f7,AO,gZ (l:=l)];simp
theorem g8:∀{l:List PV},(∀x∈l,PV.iT x<=n)->eK l<=n
 | [],_=>by simp
 | x::l,h=>by
  have h1:=h x (.head _);have h2:=g8 (l:=l) λy hy=>h y (.tail _ hy);rw [eK];omega
structure EV where
 P:tt
 w:wE
 K:Ab
 mg:Str->Option ci
 base:pc
structure DF where
 x:Str
 s:t0
 ps:List Str
 k:Nat
 sp:Ab->Sp
abbrev DF.C (d:DF) (v:EV):=SQ v.P v.w v.K v.mg v.base d.x d.k d.ps (d.sp v.K)
structure DI (v:EV) (d:DF) where
 f:db
 fd:Fk
 fn:Po v.K d.x d.x d.s f fd
 bi:Binds v.K fd d.ps []
 at':v.mg d.x=bd (.ref f)
abbrev DI.O {v:EV}{d:DF} (D:DI v d):Prop:=gm v.P v.w v.K v.mg v.base lO d.k D.f D.fd d.ps (d.sp v.K)
def DI.c {v:EV}{d:DF} (D:DI v d) (h:D.O):d.C v:=⟨D.f,D.fd,h,D.bi,D.fn.kp,D.at'⟩
def DI.cN {v:EV}{d:DF} (D:DI v d) (h:gm v.P v.w v.K v.mg v.base lO k D.f D.fd d.ps sp):SQ v.P v.w v.K v.mg v.base d.x k d.ps sp:=⟨D.f,D.fd,h,D.bi,D.fn.kp,D.at'⟩
def DI.cA {v:EV}{d:DF} (D:DI v d) (h:D.O):WZ v.P v.w v.K v.mg v.base D.f d.k d.ps (d.sp v.K):=⟨D.fd,h,D.bi,D.fn.kp⟩
structure DX (K:Ab) (x:Str) (st:t0):Prop where
 ex:∃f fd,AG K ev x=bd (bd (.ref f))/\Po K x x st f fd
def dx {K:Ab}{st:t0}{f:db}{kV:ci} (a:AG K ev x=bd (bd (.ref f))) (l:K.lookup f=bd ⟨oc,od,.func (B2 x x (gB st) (bo st) (ag st) .none kV È pm an cM ct),Ph⟩)
  (c:DW K cM x=true) (k:CI K (.ref f)=true):DX K x st:=⟨f,_,a,Wc l c k⟩
def fe {N P:List Str} (h1:sc.kind=.function:=by rfl) (h2:sc.isCoroutine=false:=by rfl) (h3:sc.isGenerator=false:=by rfl) (h4:N.Nodup:=by decide +kernel) (h5:N.take P.length=P:=by rfl) (h6:∀x∈P,sc.names.lookup x=bd .local\/sc.names.lookup x=bd .cell:=by decide +kernel) (h7:∀y∈sc.names,y.2≠.free:=by decide +kernel):aq N P sc:=⟨h1,h2,h3,h4,h5,h6,h7⟩
def lcs {N:List Str} (h1:sc.kind=.function:=by rfl) (h2:∀y∈sc.names,y.2≠.cell:=by decide +kernel) (h3:∀y∈sc.names,y.2=.local->sc.names.lookup y.1=bd .local:=by decide +kernel) (h4:∀y∈sc.names,y.2=.free->(Xs.names.lookup y.1=bd .cell\/Xs.names.lookup y.1=bd .free):=by decide +kernel) (h5:N'.Nodup:=by decide +kernel) (h6:ix.length=N'.length:=by rfl)
  (h7:((ix.zip N').all λp=>match p.1 with | none=>true | some j=>decide (N[j]?=bd p.2)&&decide (sc.names.lookup p.2=bd .free))=true:=by decide +kernel):aA Xs N sc N' ix:=⟨h1,h2,h3,h4,h5,h6,h7⟩
abbrev ko (l:List (Str×BT)):nn:={kind:=.function,names:=(Cn ".0",.local)::l,isGenerator:=false,isCoroutine:=false,more:=[]}
abbrev lo:BT:=.local
abbrev gi:BT:=.globalImplicit
abbrev fr:BT:=.free
section
variable {v:EV}{st:t0}{N:List Str}
def Y9 {m:Pp PV n} (D:DI v ⟨x,st,ps,k+1,λK=>eM K ks (cp n m)⟩) (S:aq N ps (ag st)) (Ã:∀l:List PV,l.length=n->∀(cM:ci) (A:ss) (outer:List Env) (s:dL) (H:Hp) (E:XK),cX k (A.deeper (sK x (ag st) s.heap.objs.size D.f cM))->SF (jz lO v.P v.w v.K v.mg v.base N x (ag st) D.f cM A outer s H E).xG v.K false (jB ks l N.length) (bo st) (cp n m l) .rt)
  (pH:ks.length=ps.length:=by rfl) (one:jC ks:=by repeat' first | exact de | exact aE (n:=0) | exact aE (n:=1) | exact aE (n:=2) | exact aE (n:=3) | exact aE (n:=4) | exact aE (n:=5) | exact aE (n:=6) | apply gn | apply kK):D.O:=fnV D.fn S pH one Ã
def mkL {m:Pp (List PV) n} (D:DI v ⟨x,st,ps,k+1,λK=>fP K ks (cp n m)⟩) (S:aq N ps (ag st)) (Ã:∀l:List PV,l.length=n->∀(cM:ci) (A:ss) (outer:List Env) (s:dL) (H:Hp) (E:XK),cX k (A.deeper (sK x (ag st) s.heap.objs.size D.f cM))->SF (jz lO v.P v.w v.K v.mg v.base N x (ag st) D.f cM A outer s H E).xG v.K false (jB ks l N.length) (bo st) (cp n m l) .rl)
  (pH:ks.length=ps.length:=by rfl) (one:jC ks:=by repeat' first | exact de | exact aE (n:=0) | exact aE (n:=1) | exact aE (n:=2) | exact aE (n:=3) | exact aE (n:=4) | exact aE (n:=5) | exact aE (n:=6) | apply gn | apply kK):D.O:=fnL D.fn S pH one Ã
def acF {m:W PV} (D:DI v ⟨x,st,ps,k+1,λK=>eM K ks (cp 0 m)⟩) (S:aq N ps (ag st)) (Ã:∀(cM:ci) (A:ss) (outer:List Env) (s:dL) (H:Hp) (E:XK),cX k (A.deeper (sK x (ag st) s.heap.objs.size D.f cM))->SF (jz lO v.P v.w v.K v.mg v.base N x (ag st) D.f cM A outer s H E).xG v.K false (jB ks [] N.length) (bo st) (m) .rt)
  (pH:ks.length=ps.length:=by rfl) (one:jC ks:=by repeat' first | exact de | exact aE (n:=0) | exact aE (n:=1) | exact aE (n:=2) | exact aE (n:=3) | exact aE (n:=4) | exact aE (n:=5) | exact aE (n:=6) | apply gn | apply kK):D.O:=Y9 (n:=0) (m:=m) D S (λl hl=>match l,hl with | [],_=>Ã) pH one
def lP {m:PV->W PV} (D:DI v ⟨x,st,ps,k+1,λK=>eM K ks (cp 1 m)⟩) (S:aq N ps (ag st)) (Ã:∀(x0:PV) (cM:ci) (A:ss) (outer:List Env) (s:dL) (H:Hp) (E:XK),cX k (A.deeper (sK x (ag st) s.heap.objs.size D.f cM))->SF (jz lO v.P v.w v.K v.mg v.base N x (ag st) D.f cM A outer s H E).xG v.K false (jB ks [x0] N.length) (bo st) (m x0) .rt)
  (pH:ks.length=ps.length:=by rfl) (one:jC ks:=by repeat' first | exact de | exact aE (n:=0) | exact aE (n:=1) | exact aE (n:=2) | exact aE (n:=3) | exact aE (n:=4) | exact aE (n:=5) | exact aE (n:=6) | apply gn | apply kK):D.O:=Y9 (n:=1) (m:=m) D S (λl hl=>match l,hl with | [x0],_=>Ã x0) pH one
def ox {m:PV->PV->W PV} (D:DI v ⟨x,st,ps,k+1,λK=>eM K ks (cp 2 m)⟩) (S:aq N ps (ag st)) (Ã:∀(x0:PV) (x1:PV) (cM:ci) (A:ss) (outer:List Env) (s:dL) (H:Hp) (E:XK),cX k (A.deeper (sK x (ag st) s.heap.objs.size D.f cM))->SF (jz lO v.P v.w v.K v.mg v.base N x (ag st) D.f cM A outer s H E).xG v.K false (jB ks [x0,x1] N.length) (bo st) (m x0 x1) .rt)
  (pH:ks.length=ps.length:=by rfl) (one:jC ks:=by repeat' first | exact de | exact aE (n:=0) | exact aE (n:=1) | exact aE (n:=2) | exact aE (n:=3) | exact aE (n:=4) | exact aE (n:=5) | exact aE (n:=6) | apply gn | apply kK):D.O:=Y9 (n:=2) (m:=m) D S (λl hl=>match l,hl with | [x0,x1],_=>Ã x0 x1) pH one
def M9 {m:PV->PV->PV->W PV} (D:DI v ⟨x,st,ps,k+1,λK=>eM K ks (cp 3 m)⟩) (S:aq N ps (ag st)) (Ã:∀(x0:PV) (x1:PV) (x2:PV) (cM:ci) (A:ss) (outer:List Env) (s:dL) (H:Hp) (E:XK),cX k (A.deeper (sK x (ag st) s.heap.objs.size D.f cM))->SF (jz lO v.P v.w v.K v.mg v.base N x (ag st) D.f cM A outer s H E).xG v.K false (jB ks [x0,x1,x2] N.length) (bo st) (m x0 x1 x2) .rt)
  (pH:ks.length=ps.length:=by rfl) (one:jC ks:=by repeat' first | exact de | exact aE (n:=0) | exact aE (n:=1) | exact aE (n:=2) | exact aE (n:=3) | exact aE (n:=4) | exact aE (n:=5) | exact aE (n:=6) | apply gn | apply kK):D.O:=Y9 (n:=3) (m:=m) D S (λl hl=>match l,hl with | [x0,x1,x2],_=>Ã x0 x1 x2) pH one
def Y8 {m:PV->PV->PV->PV->PV->W PV} (D:DI v ⟨x,st,ps,k+1,λK=>eM K ks (cp 5 m)⟩) (S:aq N ps (ag st)) (Ã:∀(x0:PV) (x1:PV) (x2:PV) (x3:PV) (x4:PV) (cM:ci) (A:ss) (outer:List Env) (s:dL) (H:Hp) (E:XK),cX k (A.deeper (sK x (ag st) s.heap.objs.size D.f cM))->SF (jz lO v.P v.w v.K v.mg v.base N x (ag st) D.f cM A outer s H E).xG v.K false (jB ks [x0,x1,x2,x3,x4] N.length) (bo st) (m x0 x1 x2 x3 x4) .rt)
  (pH:ks.length=ps.length:=by rfl) (one:jC ks:=by repeat' first | exact de | exact aE (n:=0) | exact aE (n:=1) | exact aE (n:=2) | exact aE (n:=3) | exact aE (n:=4) | exact aE (n:=5) | exact aE (n:=6) | apply gn | apply kK):D.O:=Y9 (n:=5) (m:=m) D S (λl hl=>match l,hl with | [x0,x1,x2,x3,x4],_=>Ã x0 x1 x2 x3 x4) pH one
def Q6 {m:PV->W (List PV)} (D:DI v ⟨x,st,ps,k+1,λK=>fP K ks (cp 1 m)⟩) (S:aq N ps (ag st)) (Ã:∀(x0:PV) (cM:ci) (A:ss) (outer:List Env) (s:dL) (H:Hp) (E:XK),cX k (A.deeper (sK x (ag st) s.heap.objs.size D.f cM))->SF (jz lO v.P v.w v.K v.mg v.base N x (ag st) D.f cM A outer s H E).xG v.K false (jB ks [x0] N.length) (bo st) (m x0) .rl)
  (pH:ks.length=ps.length:=by rfl) (one:jC ks:=by repeat' first | exact de | exact aE (n:=0) | exact aE (n:=1) | exact aE (n:=2) | exact aE (n:=3) | exact aE (n:=4) | exact aE (n:=5) | exact aE (n:=6) | apply gn | apply kK):D.O:=mkL (n:=1) (m:=m) D S (λl hl=>match l,hl with | [x0],_=>Ã x0) pH one
def F7 {m:PV->PV->W (List PV)} (D:DI v ⟨x,st,ps,k+1,λK=>fP K ks (cp 2 m)⟩) (S:aq N ps (ag st)) (Ã:∀(x0:PV) (x1:PV) (cM:ci) (A:ss) (outer:List Env) (s:dL) (H:Hp) (E:XK),cX k (A.deeper (sK x (ag st) s.heap.objs.size D.f cM))->SF (jz lO v.P v.w v.K v.mg v.base N x (ag st) D.f cM A outer s H E).xG v.K false (jB ks [x0,x1] N.length) (bo st) (m x0 x1) .rl)
  (pH:ks.length=ps.length:=by rfl) (one:jC ks:=by repeat' first | exact de | exact aE (n:=0) | exact aE (n:=1) | exact aE (n:=2) | exact aE (n:=3) | exact aE (n:=4) | exact aE (n:=5) | exact aE (n:=6) | apply gn | apply kK):D.O:=mkL (n:=2) (m:=m) D S (λl hl=>match l,hl with | [x0,x1],_=>Ã x0 x1) pH one
def Za {m:PV->PV->PV->W (List PV)} (D:DI v ⟨x,st,ps,k+1,λK=>fP K ks (cp 3 m)⟩) (S:aq N ps (ag st)) (Ã:∀(x0:PV) (x1:PV) (x2:PV) (cM:ci) (A:ss) (outer:List Env) (s:dL) (H:Hp) (E:XK),cX k (A.deeper (sK x (ag st) s.heap.objs.size D.f cM))->SF (jz lO v.P v.w v.K v.mg v.base N x (ag st) D.f cM A outer s H E).xG v.K false (jB ks [x0,x1,x2] N.length) (bo st) (m x0 x1 x2) .rl)
  (pH:ks.length=ps.length:=by rfl) (one:jC ks:=by repeat' first | exact de | exact aE (n:=0) | exact aE (n:=1) | exact aE (n:=2) | exact aE (n:=3) | exact aE (n:=4) | exact aE (n:=5) | exact aE (n:=6) | apply gn | apply kK):D.O:=mkL (n:=3) (m:=m) D S (λl hl=>match l,hl with | [x0,x1,x2],_=>Ã x0 x1 x2) pH one
def acG {m:PV->PV->PV->PV->PV->W (List PV)} (D:DI v ⟨x,st,ps,k+1,λK=>fP K ks (cp 5 m)⟩) (S:aq N ps (ag st)) (Ã:∀(x0:PV) (x1:PV) (x2:PV) (x3:PV) (x4:PV) (cM:ci) (A:ss) (outer:List Env) (s:dL) (H:Hp) (E:XK),cX k (A.deeper (sK x (ag st) s.heap.objs.size D.f cM))->SF (jz lO v.P v.w v.K v.mg v.base N x (ag st) D.f cM A outer s H E).xG v.K false (jB ks [x0,x1,x2,x3,x4] N.length) (bo st) (m x0 x1 x2 x3 x4) .rl)
  (pH:ks.length=ps.length:=by rfl) (one:jC ks:=by repeat' first | exact de | exact aE (n:=0) | exact aE (n:=1) | exact aE (n:=2) | exact aE (n:=3) | exact aE (n:=4) | exact aE (n:=5) | exact aE (n:=6) | apply gn | apply kK):D.O:=mkL (n:=5) (m:=m) D S (λl hl=>match l,hl with | [x0,x1,x2,x3,x4],_=>Ã x0 x1 x2 x3 x4) pH one
end
section
variable {K:Ab}{WL:W (List PV)}
theorem eC (G:SQ X.prog X.w X.K X.mg X.base x k ps (eM K ks m)) (hr:cX k' X.A) (ha:AF X K fs (e::es) ks B) (hk:k<=k':=by first | exact Di rfl | exact An _ | omega) (hg:Gl X x:=by rfl) (hW:W'=B m:=by rfl) (nA:(x==("__debug__":Str))=false:=by decide)
  (he:ce (e::es) X.env=(false,kt e X.env)::ce es X.env:=by rfl) (dH:(kw pos (ce es X.env)).any (·.1)=false:=by rfl):EF X K fs (.Call (.Name x p) (e::es) [] pos) W':=Sb G hr hk hg ha hW nA he dH
theorem lC {m:List PV->W (List PV)}{B:(List PV->W (List PV))->W (List PV)} (G:SQ X.prog X.w X.K X.mg X.base x k ps (fP K ks m)) (hr:cX k' X.A) (ha:AF X K fs (e::es) ks B) (hk:k<=k':=by first | exact Di rfl | exact An _ | omega) (hg:Gl X x:=by rfl) (hW:WL=B m:=by rfl) (nA:(x==("__debug__":Str))=false:=by decide)
  (he:ce (e::es) X.env=(false,kt e X.env)::ce es X.env:=by rfl) (dH:(kw pos (ce es X.env)).any (·.1)=false:=by rfl):LF X K fs (.Call (.Name x p) (e::es) [] pos) WL:=Rh G hr hk hg ha hW nA he dH
def di (i:Nat) (hN:X.N.Nodup) (hi:X.N[i]?=bd x:=by rfl) (hx:Loc X.env.scope x:=by first | exact .inl rfl | exact .inr rfl) (hf:X.fn x=true\/X.env.scope.names.lookup x=bd .local:=by first | exact .inl rfl | exact .inr rfl | assumption):PG X (.Name x pos) (dI i):=QA hN hi hx hf
variable {T:Type}{out:T->End}{rest:List t0}
def sv (i:Nat) {k:PV->W T} (hN:X.N.Nodup) (he:EF X K fs e we) (hr:∀v,SF X K b (fs.set i (bd (.val v))) rest (k v) out) (hi:X.N[i]?=bd y:=by rfl) (hx:Loc X.env.scope y:=by first | exact .inl rfl | exact .inr rfl) (hs:lw e (bd (.Name y p')) pos.line X.env=pure false:=by rfl)
  (hf:X.fn y=true\/X.env.scope.names.lookup y=bd .local:=by first | exact .inl rfl | exact .inr rfl | assumption):SF X K b fs (.Assign [.Name y p'] e pos::rest) (.bind we k) out:=SF.set hN hi hx he hr hs hf
def sl (i:Nat) {k:List PV->W T} (hN:X.N.Nodup) (he:LF X K fs e wl) (hr:∀l,SF X K b (fs.set i (bd (.ol bv l))) rest (k l) out) (hi:X.N[i]?=bd y:=by rfl) (hx:Loc X.env.scope y:=by first | exact .inl rfl | exact .inr rfl) (hs:lw e (bd (.Name y p')) pos.line X.env=pure false:=by rfl)
  (hf:X.fn y=true\/X.env.scope.names.lookup y=bd .local:=by first | exact .inl rfl | exact .inr rfl | assumption):SF X K b fs (.Assign [.Name y p'] e pos::rest) (.bind wl k) out:=SF.aco hN hi hx he hr hs hf
end
end FL
variable {P:List A4->Prop}{m:PL.PV->FL.W PL.PV}{d:FL.DF}
namespace FL
open PySem PySem.Spec PyProof.Rows L2 PL
def us1 (h:∀a,P [a]):∀us:List ci,us.length=1->P us
 | [_],_=>h _
def us2 (h:∀a b,P [a,b]):∀us:List ci,us.length=2->P us
 | a::_,e=>us1 (P:=λl=>P (a::l)) (h _) _ (Fv.inj e)
def us3 (h:∀a b c,P [a,b,c]):∀us:List ci,us.length=3->P us
 | a::_,e=>us2 (P:=λl=>P (a::l)) (h _) _ (Fv.inj e)
def us4 (h:∀a b c d,P [a,b,c,d]):∀us:List ci,us.length=4->P us
 | a::_,e=>us3 (P:=λl=>P (a::l)) (h _) _ (Fv.inj e)
def us5 (h:∀a b c d e,P [a,b,c,d,e]):∀us:List ci,us.length=5->P us
 | a::_,e=>us4 (P:=λl=>P (a::l)) (h _) _ (Fv.inj e)
def us6 (h:∀a b c d e f,P [a,b,c,d,e,f]):∀us:List ci,us.length=6->P us
 | a::_,e=>us5 (P:=λl=>P (a::l)) (h _) _ (Fv.inj e)
def DX.mk2 {v:EV} (D:DX v.K d.x d.s) (X:v.K.In h) (G:h.Ns ev v.mg)
  (hb:∀(kV È pm:ci) (an:Option db) (cM ct:ci) (us:List ci),us.length=d.ps.length->bindArgs (B2 d.x d.x (gB d.s) (bo d.s) (ag d.s) .none kV È pm an cM ct) ⟨us,[]⟩=pure (d.ps.zip us):=by
   first
    | exact λ_ _ _ _ _ _=>us1 λ_=>rfl
    | exact λ_ _ _ _ _ _=>us2 λ_ _=>rfl
    | exact λ_ _ _ _ _ _=>us3 λ_ _ _=>rfl
    | exact λ_ _ _ _ _ _=>us4 λ_ _ _ _=>rfl
    | exact λ_ _ _ _ _ _=>us5 λ_ _ _ _ _=>rfl
    | exact λ_ _ _ _ _ _=>us6 λ_ _ _ _ _ _=>rfl
    | exact λ_ _ _ _ _ _=>us7 λ_ _ _ _ _ _ _=>rfl
    | exact λ_ _ _ _ _ _=>us8 λ_ _ _ _ _ _ _ _=>rfl):Nonempty (DI v d):=by
 obtain⟨f,fd,a,F⟩:=D.ex;exact⟨⟨f,fd,F,F.binds hb,BF X G a⟩⟩
def DX.go {v:EV} (D:DX v.K d.x d.s) (X:v.K.In h) (G:h.Ns ev v.mg) {P:Prop} (k:∀D:DI v d,D.O) (r:d.C v->P)
  (hb:∀(kV È pm:ci) (an:Option db) (cM ct:ci) (us:List ci),us.length=d.ps.length->bindArgs (B2 d.x d.x (gB d.s) (bo d.s) (ag d.s) .none kV È pm an cM ct) ⟨us,[]⟩=pure (d.ps.zip us):=by
   first
    | exact λ_ _ _ _ _ _=>us1 λ_=>rfl
    | exact λ_ _ _ _ _ _=>us2 λ_ _=>rfl
    | exact λ_ _ _ _ _ _=>us3 λ_ _ _=>rfl
    | exact λ_ _ _ _ _ _=>us4 λ_ _ _ _=>rfl
    | exact λ_ _ _ _ _ _=>us5 λ_ _ _ _ _=>rfl
    | exact λ_ _ _ _ _ _=>us6 λ_ _ _ _ _ _=>rfl
    | exact λ_ _ _ _ _ _=>us7 λ_ _ _ _ _ _ _=>rfl
    | exact λ_ _ _ _ _ _=>us8 λ_ _ _ _ _ _ _ _=>rfl):P:=by
 obtain⟨D⟩:=D.mk2 X G hb;exact r (D.c (k D))
def Ie (K:Ab):Sp:=λvs H Q _=>∃(a:db) (ns:List Int),vs=[.ref a]/\SJ H/\cU K H a (ns.map V.int)/\ns.length<=63/\∀H',Q (.bl true) H'
def Rc {K:Ab} (ok:∀ns:List Int,ns.length<=63->(m (.cl (ns.map PV.int))).run (·=.bl true)):∀vs H Q E,Ie K vs H Q E->eM K [.v] (cp 1 m) vs H Q E:=λvs H Q E ⟨a,ns,e,hO,hS,hl,q⟩=>by
 subst e;have fz:Ua K H a (ns.map V.int):=by
  rcases hS with (h | ⟨o,h⟩) | h
  ·rcases hO a with z | ⟨o,xs,z⟩
   ·rw [h] at z;cases z
   ·rw [h] at z;cases z
  ·exact .inl ⟨o,h⟩
  ·exact .inr h
 refine⟨[.cl (ns.map PV.int)],.v (.cl fz (ny _ _ ns)) .nil,(m (.cl (ns.map PV.int))).mono (λv e u H' _ r=>?_) (ok ns hl)⟩;subst e;cases r;exact q H'
structure aaG (K:Ab) (mg:Str->Option ci) (d:DF):Prop where
 f:∀v:EV,v.K=K->v.mg=mg->∀D:DI v d,D.O
def mkAll {l:EO}{K:Ab}{fa:db}{st:t0} (ok:∀ns:List Int,ns.length<=63->(m (.cl (ns.map PV.int))).run (·=.bl true)) (X:K.In h) (G:h.Ns ev mg) (hfa:mg "law"=bd (.ref fa)) (aag:DX K "law" st)
  (hb:∀(kV È pm:ci) (an:Option db) (cM ct:ci) (us:List ci),us.length=1->bindArgs (B2 "law" "law" (gB st) (bo st) (ag st) .none kV È pm an cM ct) ⟨us,[]⟩=pure (([("_law_script":Str)]:List Str).zip us))
  (F:aaG K mg ⟨"law",st,["_law_script"],k,λK=>eM K [.v] (cp 1 m)⟩) :
  ∃fd:Fk,(∀(s:dL) (v:ci),BindsTo s fd ⟨[v],[]⟩ [("_law_script",v)])/\∀base:pc,K.In base->base.Ns ev mg->gm l.prog w K mg base lO k fa fd ["_law_script"] (Ie K):=by
 obtain⟨f,fd,a,F'⟩:=aag.ex;have e:=hfa.symm.trans (BF X G a);cases e;have fb:=F'.binds (ps:=["_law_script"]) hb;obtain⟨oc,od,kV,È,pm,an,cM,ct,Ph,rfl,_⟩:=id F'.ex;exact⟨B2 "law" "law" (gB st) (bo st) (ag st) .none kV È pm an cM ct,λs v=>.of_eq (hb kV È pm an cM ct [v] rfl),λbase _ _=>(F.f ⟨l.prog,w,K,mg,base⟩ rfl rfl ⟨_,_,F',fb,hfa⟩).imp (Rc ok)⟩
end FL
namespace My
open PySem PySem.Spec PyProof.Rows L2 PL FL
def jP (iZ:PV):W (List PV):=
 []\λeE=>
 am (iZ\λx3=>bm [x3]) λcF=>
 am (ku (λs4=>(s4.2\λl5=>bm (!l5.isEmpty))) (λs4=>(
 am (tq s4.2) λt7=>
 t7.2\λx9=>am (hX s4.1 x9) λfv=>
 dB (mT (am (am (bm t7.2) (dJ .str)) cG)) (
 am (am (bm t7.2) ax) λVD=>am (se t7.1 VD) λdh=>
 bm (fv,dh)) (
 bm (fv,t7.1)))) (eE,cF)) λs4=>
 (s4.1\λZf=>bm Zf.reverse)
def ir (iZ:PV):W PV:=
 []\λjH=>
 []\λvW=>
 am (iZ\λx3=>jP x3) λl30=>am (dN l30 (jH,vW) λvL s4=>(
 am (am (am (bm vL) (dJ .str)) cG) λb=>am (if b=true then (
 vL\λve=>am (hX s4.1 ve) λHV=>
 bm (HV,s4.2)) else (
 am (tq s4.2) λt20=>
 am (tq t20.1) λt22=>
 am (t22.2\λJv=>t20.2\λxM=>bm (.tup [Jv,xM])) λxK=>am (hX s4.1 xK) λHU=>
 bm (HU,t22.1))) λUC=>
 am (b2 oq (am (bm UC.1) oA) (bm (.int 1))) λLJ=>am (hX UC.2 LJ) λyI=>
 bm (UC.1,yI))) λs4=>
 (am (bm s4.1) kF)
def dq (cf:PV):W PV:=
 (dB (am (am (bm cf) (dJ .str)) cG) (bm (.tup [])) (bm cf))
def ft (iZ:PV):W PV:=
 am (iZ\λx2=>ir x2) λjH=>
 am (am (am (bm jH) ax) λl4=>mapW l4 λp5=>(bm .aU)) λxo=>
 am (am (am (bm jH) ax) λl6=>.fM (l6.length<=sizeLine) (.ret (d6 0 l6))) λl19=>am (dN l19 xo λp8 s7=>am (pw p8) λt9=>(
 am (am (t9.2\λmM=>dq mM) ax) λJ6=>am (dN J6 s7 λI0 pz=>(
 t9.1\λke=>I0\λkq=>am (gh pz kq ke) λzA=>
 bm zA)) λpz=>
 bm pz)) λs7=>
 (am (bm s7) kF)
def eG (fH:PV) (kW:PV):W PV:=
 (dB (am (am (bf (am (bm fH) ax) (bm kW)) (dJ .str)) cG) (bf (am (bm fH) ax) (bm kW)) (bm kW))
def gQ (dM:PV):W (List PV):=
 am (dM\λx2=>ft x2) λd8=>
 am (am (am (bm d8) ax) λl4=>mapW l4 λp5=>(bm (.tup []))) λlE=>
 am (am (b2 oq (c1 dF (bm d8)) (bm (.int 1))) λx6=>am (am (bm (.int 1)) mq) λx7=>am (am (bm (.int 1)) mq) λx8=>Ii x6 x7 x8) λJ6=>am (dN J6 lE λkU s9=>(
 am (dB (t2 F0 (bf (am (bm d8) ax) (bm kU)) (bm .aU)) (bm (.tup [])) (bf (bm s9) (bf (am (bm d8) ax) (bm kU)))) λzB=>
 am (w2 addW (kU\λkr=>bm (.tup [kr])) (bm zB)) λke=>kU\λkq=>am (gh s9 kq ke) λyK=>
 bm yK)) λs9=>
 bm s9
def eQ (vY:PV) (kW:PV):W PV:=
 (am (am (am (c1 dF (bm vY)) j9) λl2=>kf l2 λp3=>zK (sY (Rx true (bm p3) (am (bf (am (bm vY) ax) (bm kW)) ax)) (Rx true (bm kW) (am (bf (am (bm vY) ax) (bm p3)) ax))) (bm p3)) kF)
def kQ (dM:PV):W PV:=
 am (dM\λx2=>ir x2) λfZ=>
 am (dM\λx4=>gQ x4) λlE=>
 (am (am (am (c1 dF (bm fZ)) j9) λl6=>mapW l6 λp7=>(am (fZ\λx8=>p7\λx9=>eG x8 x9) λmM=>(.int 0)\λxO=>am (am (bf (am (bm fZ) ax) (bm p7)) λvf=>dq vf) λkr=>am ((.cl lE)\λke=>p7\λkq=>eQ ke kq) λLK=>bm (.tup [mM,xO,kr,LK]))) kF)
def gU (fB:PV) (k_:PV):W (List PV):=
 (.int 0)\λOP=>
 am (t2 oLt (bm k_) (c1 dF (bm fB))) λb=>am (if b=true then (
 am (c1 OX (bf (am (bm fB) ax) (bm k_))) λOO=>
 bm OO) else (
 bm OP)) λs3=>
 am (b2 ou (b2 oMod (bm s3) (b2 ou (b2 yA (bm (.int 10)) (bm (.int 60))) (b2 yA (bm (.int 10)) (bm (.int 60))))) (c1 sJ (b2 oGe (bm s3) (b2 yA (bm (.int 10)) (bm (.int 18)))))) λnN=>
 (nN\λx6=>am (b2 oMod (w2 addW (w2 addW (bm s3) (b2 ou (bm (.int 104729)) (bm k_))) (bm (.int 7))) (bm (.int 2305843009213693951))) λx7=>(.int 0)\λx8=>bm [x6,x7,x8])
def fY (dw:List PV) (jg:PV):W (PV×List PV):=
 dB (t2 Y3 (bf (bm dw) (bm (.int 0))) (bm (.int 0))) (
 am (b2 oMod (bf (bm dw) (bm (.int 0))) (bm jg)) λJm=>
 am (b2 oDiv (bf (bm dw) (bm (.int 0))) (bm jg)) λx3=>(.int 0)\λx4=>am (gh dw x4 x3) λml=>
 Jm\λx5=>bm (x5,ml)) (
 (.int 2)\λx6=>am (VS dw x6) λx7=>(.int 1)\λx8=>am (of2 Tv x7 x8) λmM=>am (gh dw x6 mM) λgL=>
 am (b2 oMod (w2 addW (w2 addW (b2 ou (bf (bm gL) (bm (.int 1))) (bm (.int 69069))) (b2 ou (bm (.int 9973)) (bf (bm gL) (bm (.int 2))))) (bm (.int 5))) (bm (.int 2305843009213693921))) λrq=>
 am (b2 oMod (b2 ou (bm rq) (w2 addW (w2 addW (b2 oMod (bm rq) (bm (.int 999983))) (b2 ou (bm (.int 2)) (bf (bm gL) (bm (.int 2))))) (bm (.int 3)))) (bm (.int 2305843009213693907))) λkr=>(.int 1)\λke=>am (gh gL ke kr) λik=>
 am (b2 oMod (b2 oDiv (bf (bm ik) (bm (.int 1))) (bm (.int 65537))) (bm jg)) λkq=>bm (kq,ik))
def dA (jg:PV):W (List PV):=
 (.str "abcdefghijklmnopqrstuvwxyz")\λoz=>
 am ((.int 26)\λx3=>bz x3) λqr=>
 am (bf ((.int 1)\λx5=>(.int 3)\λx6=>(.int 5)\λx7=>(.int 7)\λx8=>(.int 9)\λx9=>(.int 11)\λmM=>bm [x5,x6,x7,x8,x9,mM]) ((.int 6)\λxO=>bz xO)) λzW=>
 am (bf ((.str "")\λkr=>(.str "k")\λke=>bm [kr,ke]) ((.int 2)\λkq=>bz kq)) λvq=>
 am ((.str "")\λxN=>(.str "q")\λve=>(.str "zz")\λvc=>(.str "abcdef")\λqF=>bm [xN,ve,vc,qF]) λwR=>
 []\λrV=>
 am (am (bm jg) j9) λVz=>am (dN Vz rV λVM UB=>(
 am (b2 M3 (bm oz) (b2 oMod (w2 addW (bm qr) (b2 ou (bm zW) (bm VM))) (bm (.int 26)))) λuA=>
 am (w2 addW (w2 addW (bm vq) (bm uA)) (bf (am (bm (.cl wR)) ax) (b2 oMod (w2 addW (bm qr) (bm VM)) (bm (.int 4))))) λXT=>am (hX UB XT) λyY=>
 bm yY)) λUB=>
 bm UB
def m__law_same:Nat->PV->PV->W PV
 | 0,_,_=>W.fail
 | n+1,gk,pO=>
 dB (am (am (bm pO) (dJ .tup)) cG) (
 dB (PQ (mT (am (am (bm gk) (dJ .tup)) cG)) (t2 vR (c1 dF (bm gk)) (c1 dF (bm pO)))) (
 (bm (.bl false))) (
 (am (am (am (am (bm gk) ax) λl1=>am (am (bm pO) ax) λl2=>qE l1 l2) λl3=>mapW l3 λp4=>am (pw p4) λt5=>(t5.1\λx6=>t5.2\λx7=>m__law_same n x6 x7)) xl))) (
 dB (PQ (am (am (bm pO) (dJ .str)) cG) (t2 F0 (bm pO) (bm .aU))) (
 (t4 (b2 dU (am (bm gk) (dJ .str)) (am (bm pO) (dJ .str))) (b2 dU (bm gk) (bm pO)))) (
 (t4 (am (bm gk) (dJ .int)) (t4 (am (am (bm gk) (dJ .bool)) Q0) (b2 dU (bm gk) (bm pO))))))
def gR (aP:PV):W PV:=
 (t4 (am (bm aP) (dJ .int)) (am (am (bm aP) (dJ .bool)) Q0))
def fV (aP:PV) (jg:PV):W PV:=
 (t4 (am (bm aP) (dJ .tup)) (b2 dU (c1 dF (bm aP)) (bm jg)))
def jk (aP:PV):W PV:=
 dB (PQ (mT (am (am (bm aP) (dJ .str)) cG)) (mT (chT oLe oLe (bm (.int 1)) (c1 dF (bm aP)) (bm (.int 8))))) (
 (bm (.bl false))) (
 (am (am (am (bm aP) FQ) λl1=>mapW l1 λp2=>(b2 QX (bm p2) (bm (.str "abcdefghijklmnopqrstuvwxyz")))) xl))
def gT (aP:PV) (FY:PV):W PV:=
 am (aP\λx3=>bm [x3]) λcF=>
 am (qG (λs4=>(s4.2\λl5=>bm (!l5.isEmpty))) (λs4=>(
 am (tq s4.2) λt7=>
 dB (am (t7.2\λx8=>(.int 2)\λx9=>fV x8 x9) cG) (
 am (am (bm t7.2) ax) λVD=>am (se t7.1 VD) λdh=>
 bm (.go (s4.1,dh))) (
 dB (PQ (mT (am (t7.2\λke=>jk ke) cG)) (sY (t7.2\λvf=>am (Gs vf) λk13=>bm (pI s4.1 k13)) (mT (am (bm FY) cG)))) (
 (.bl false)\λkq=>bm (Lp.out kq)) (
 (.bl true)\λxN=>t7.2\λve=>am (US s4.1 ve xN) λIh=>
 bm (.go (Ih,t7.1)))))) ([],cF)) (zM (λs4=>
 (bm (.bl true))) id)
def dW (fH:PV) (dP:PV):W (List PV):=
 (am (am (am (bm fH) ax) λl1=>am (am (bm dP) ax) λl2=>qE l1 l2) λl3=>kf l3 λp4=>am (pw p4) λt5=>zK (mT (am (am (bm t5.1) (dJ .str)) cG)) (bm t5.2))
def bF (Ma:PV):W PV:=
 (bf (am (bm Ma) ax) (am (c1 dF (bm Ma)) λx1=>bz x1))
def kR (eF:PV):W PV:=
 am (am (bm eF) ax) λqM=>
 am ((.int 4)\λx3=>bz x3) λSW=>
 am (ku (λs4=>(t2 Y3 (am (bm s4) oA) (bm (.int 1)))) (λs4=>(
 am (bf (am (am (b2 oq (am (bm s4) oA) (bm (.int 1))) λx6=>bz x6) λx7=>am (b2 oq (am (bm s4) oA) (bm (.int 2))) λx8=>(.int 0)\λx9=>(.int 0)\λmM=>bm [x7,x8,x9,mM]) (bm SW)) λmH=>
 am (am (bf (bm s4) (bm mH)) λvf=>am (bf (bm s4) (w2 addW (bm mH) (bm (.int 1)))) λkr=>bm (.tup [vf,kr])) λqc=>
 am (sY (t2 dU (bm SW) (bm (.int 3))) (t2 dU ((.int 2)\λke=>bz ke) (bm (.int 0)))) λb=>am (if b=true then (
 am (am (bf (bm s4) (w2 addW (bm mH) (bm (.int 1)))) λqF=>am (bf (bm s4) (bm mH)) λva=>bm (.tup [qF,va])) λqb=>
 bm qb) else (
 bm qc)) λW5=>
 am (W5\λsU=>bm [sU]) λl24=>mH\λxM=>am (w2 addW (bm mH) (bm (.int 2))) λxK=>am (Qd s4 xM xK l24) λpY=>
 bm pY)) qM) λs4=>
 (bf (bm s4) (bm (.int 0)))
def nk:W PV:=
 (am (Kz (am (w2 addW (bm (.int 1)) (am (bf ((.int 5)\λx1=>(.int 8)\λx2=>bm [x1,x2]) (c1 sJ (b2 dU ((.int 8)\λx3=>bz x3) (bm (.int 0))))) λx4=>bz x4)) λx5=>dA x5)) λx6=>kR x6)
def a7:Nat->PV->W (List PV)
 | 0,_=>W.fail
 | n+1,cQ=>
 dB (am (am (bm cQ) (dJ .str)) cG) (
 (cQ\λx1=>bm [x1])) (
 am (am (bf (am (bm cQ) ax) (bm (.int 0))) λx3=>a7 n x3) λvF=>
 am (am (bm vF) oA) λrA=>
 am (am (bf (am (bm cQ) ax) (bm (.int 1))) λx5=>a7 n x5) λl18=>am (dN l18 vF λyd s6=>(
 am (dB (am (am (bm yd) (dJ .str)) cG) (bm yd) (am (w2 addW (bf (am (bm yd) ax) (bm (.int 0))) (bm rA)) λx9=>am (w2 addW (bf (am (bm yd) ax) (bm (.int 1))) (bm rA)) λmM=>bm (.tup [x9,mM]))) λxO=>am (hX s6 xO) λMh=>
 bm Mh)) λs6=>
 (s6\λVC=>am (am (am (b2 oq (bm rA) (bm (.int 1))) λvf=>am (b2 oq (am (bm s6) oA) (bm (.int 1))) λkr=>bm (.tup [vf,kr])) λke=>bm [ke]) λVB=>xg VC VB))
def eU (bS:PV):W PV:=
 am (am ((.int 0)\λx2=>bm [x2]) λl3=>am (c1 dF (bm bS)) λx4=>yg l3 x4) λjW=>
 am (am (am (am (bm bS) ax) λl6=>.fM (l6.length<=sizeLine) (.ret (d6 0 l6))) λl7=>kf l7 λp8=>am (pw p8) λt9=>zK (mT (am (am (bm t9.2) (dJ .str)) cG)) (bm t9.1)) λGm=>
 (.int 0)\λxc=>
 am (ku (λpz=>(pz.2.1\λZf=>bm (!Zf.isEmpty))) (λpz=>(
 am (am (am (am (bm (.cl pz.2.1)) ax) λXb=>kf Xb λYT=>zK (sY (Rx true (bf (am (bf (am (bm bS) ax) (bm YT)) ax) (bm (.int 0))) (am (bm (.cl pz.2.1)) ax)) (Rx true (bf (am (bf (am (bm bS) ax) (bm YT)) ax) (bm (.int 1))) (am (bm (.cl pz.2.1)) ax))) (bm YT)) LS) λyh=>
 am ((.cl yh)\λxN=>bF xN) λrO=>
 am (w2 addW (w2 addW (bm pz.2.2) (bm (.int 1))) (am (bf ((.int 1)\λvc=>(.int 3)\λqF=>(.int 13)\λva=>bm [vc,qF,va]) ((.int 3)\λJw=>bz Jw)) λsU=>bz sU)) λxb=>
 xb\λxM=>rO\λxK=>am (gh pz.1 xK xM) λlZ=>
 rO\λLJ=>am (UG pz.2.1 LJ) λIC=>
 bm (lZ,IC,xb))) (jW,Gm,xc)) λpz=>
 (am (bm pz.1) kF)
def gN (dM:PV) (dP:PV) (jY:PV):W (List PV):=
 am (dM\λx2=>ft x2) λd8=>
 []\λvN=>
 am (am (am (bm jY) ax) λl4=>.fM (l4.length<=sizeLine) (.ret (d6 0 l4))) λl19=>am (dN l19 vN λp6 s5=>am (pw p6) λt7=>(
 am (am (am (bm dP) ax) λl8=>.fM (l8.length<=sizeLine) (.ret (d6 0 l8))) λJ6=>am (dN J6 s5 λW6 s9=>am (pw W6) λYh=>(
 dB (sY (t2 oLe (bm Yh.2) (bm t7.2)) (PQ (t2 F0 (bf (am (bm d8) ax) (bm Yh.1)) (bm .aU)) (t2 oLt (bm t7.2) (bf (am (bm dP) ax) (bf (am (bm d8) ax) (bm Yh.1)))))) (
 am (Yh.1\λkr=>t7.1\λke=>bm (.tup [kr,ke])) λkq=>am (hX s9 kq) λyw=>
 bm yw) (
 bm s9))) λs9=>
 bm s9)) λs5=>
 bm s5
def jh (fH:PV) (dP:PV) (jY:PV) (m7:PV) (MV:PV):W PV:=
 am (bf (am (bm MV) ax) (bm (.int 0))) λlI=>
 am (bf (am (bm MV) ax) (bm (.int 1))) λnt=>
 am (b2 oLt (bf (am (bm dP) ax) (bm lI)) (bf (am (bm jY) ax) (bm nt))) λuK=>
 am (dB (am (bm uK) cG) (lI\λx5=>bm (.tup [x5])) (am (bf (am (bm fH) ax) (bm lI)) λx6=>dq x6)) λbelow_4=>
 am (am (am (am (bm below_4) ax) λl8=>mapW l8 λp9=>(dgB (bm m7) (p9\λmM=>am (b2 oq (bm nt) (bm (.int 1))) λxO=>bm (.tup [mM,xO])))) kF) λHS=>
 am (am (am (am (bm m7) Nl) λZe=>kf Ze λYU=>zK (sY (t2 dU (bf (am (bm YU) ax) (bm (.int 1))) (bm nt)) (t2 vR (bf (am (bm YU) ax) (bm (.int 0))) (bm lI))) (dgB (bm m7) (bm YU))) kF) λuY=>
 (am (fH\λkq=>lI\λLK=>eG kq LK) λxN=>nt\λve=>HS\λvc=>uY\λqF=>bm (.tup [xN,ve,vc,qF]))
def lB (dM:PV) (dP:PV):W PV:=
 am (dM\λx2=>ir x2) λfZ=>
 am (am ((.int 0)\λx4=>bm [x4]) λl7=>am (am (fZ\λx5=>dP\λx6=>dW x5 x6) vB) λl8=>xg l7 l8) λsI=>
 am (dM\λmM=>dP\λxO=>(.cl sI)\λvf=>gN mM xO vf) λvM=>
 am (am (am (am (am (bm (.cl vM)) ax) λXb=>.fM (Xb.length<=sizeLine) (.ret (d6 0 Xb))) λVC=>mapW VC λë=>am (pw ë) λą=>(ą.2\λve=>ą.1\λvc=>bm (.tup [ve,vc]))) Hg) λrf=>
 (am (am (am (bm (.cl vM)) ax) λl20=>mapW l20 λp21=>(fZ\λJw=>dP\λsU=>(.cl sI)\λJv=>rf\λxM=>p21\λxK=>jh Jw sU Jv xM xK)) kF)
def lA (aP:PV):W PV:=
 (aP\λx1=>(.bl true)\λx2=>gT x1 x2)
def cS (aJ:PV) (a8:PV):W PV:=
 (bf (am (bf (am (bm aJ) ax) (bm a8)) ax) (bm (.int 2)))
def fX (aJ:PV) (a8:PV):W PV:=
 (bf (am (bf (am (bm aJ) ax) (bm a8)) ax) (bm (.int 3)))
def jq (aJ:PV) (a8:PV) (SV:PV):W PV:=
 (t4 (b2 dU (aJ\λx1=>a8\λx2=>cS x1 x2) (bm (.tup []))) (b2 dU (bf (am (bf (am (bm aJ) ax) (bm a8)) ax) (bm (.int 0))) (bm SV)))
def dr (gJ:PV):W PV:=
 (bf (am (bf (am (bm gJ) ax) (bm (.int 0))) ax) (bm (.int 0)))
def fm (gJ:PV):W PV:=
 (bf (am (bf (am (bm gJ) ax) (bm (.int 0))) ax) (am (bm (.int 1)) mq))
def nj (gJ:PV):W PV:=
 (am (am (am (gJ\λx3=>am (am (bm (.int 2)) part) λi1=>bv\λj2=>FP x3 i1 j2) ax) λl4=>mapW l4 λp5=>(p5\λx6=>dr x6)) kF)
def fU (aM:PV) (a8:PV):W (List PV):=
 am (aM\λx2=>a8\λx3=>cS x2 x3) λmR=>
 (dB (t2 dU (c1 dF (bm mR)) (bm (.int 2))) (mR\λx4=>am (am (bf (am (bm mR) ax) (bm (.int 1))) λx5=>am (bf (am (bm mR) ax) (bm (.int 0))) λx6=>bm (.tup [x5,x6])) λx7=>bm [x4,x7]) (bm []))
def gP (aM:PV) (a8:PV):W (List PV):=
 am (aM\λx2=>a8\λx3=>fX x2 x3) λsH=>
 (am (am (am (bm sH) ax) λl4=>mapW l4 λp5=>(a8\λx6=>p5\λx7=>bm (.tup [x6,x7]))) λZf=>am (am (am (bm sH) ax) λl8=>mapW l8 λp9=>(p9\λmM=>a8\λxO=>bm (.tup [mM,xO]))) λZe=>xg Zf Ze)
def fo (aM:PV) (cf:PV) (a8:PV):W (List PV):=
 dB (am (am (bm cf) (dJ .str)) cG) (
 (dB (am (aM\λx1=>a8\λx2=>cf\λx3=>jq x1 x2 x3) cG) (am ((.str "found")\λx4=>(.tup [])\λx5=>bm (.tup [x4,x5])) λx6=>bm [x6]) (bm []))) (
 am (am (aM\λx8=>a8\λx9=>fU x8 x9) λVE=>mapW VE λIr=>((.str "split")\λvf=>Ir\λkr=>bm (.tup [vf,kr]))) λIc=>
 am (am (aM\λkq=>a8\λLK=>gP kq LK) λJ6=>mapW J6 λp18=>((.str "over")\λvc=>p18\λqF=>bm (.tup [vc,qF]))) λIu=>
 (am (am (am (am ((.str "doubled")\λva=>am (a8\λJw=>a8\λsU=>bm (.tup [Jw,sU])) λJv=>bm (.tup [va,Jv])) λxM=>bm [xM]) λl26=>am (am (bm (.cl Ic)) yH) λVA=>xg l26 VA) λl28=>am (am (bm (.cl Iu)) yH) λVz=>xg l28 Vz) L7))
def jn (aM:PV) (aP:PV):W PV:=
 (t4 (aP\λx1=>gR x1) (chB oLe oLt (bm (.int 0)) (bm aP) (c1 dF (bm aM))))
def jo (aM:PV) (aP:PV):W PV:=
 dB (PQ (mT (am (am (bm aP) (dJ .tup)) cG)) (t2 dU (c1 dF (bm aP)) (bm (.int 0)))) (
 (bm (.bl false))) (
 dB (mT (am (am (am (am (bm aP) ax) λl1=>mapW l1 λp2=>(aM\λx3=>p2\λx4=>jn x3 x4)) xl) cG)) (
 (bm (.bl false))) (
 (am (am (am (am (bm aP) ax) λl8=>am (am (aP\λx7=>am (am (bm (.int 1)) part) λi5=>bv\λj6=>FP x7 i5 j6) ax) λl9=>qE l8 l9) λVE=>mapW VE λIr=>am (pw Ir) λPe=>(Zm false (bm Pe.2) (am (aM\λkr=>Pe.1\λke=>cS kr ke) ax))) xl)))
def fW (aM:PV) (cf:PV) (aP:PV):W PV:=
 am (dB (am (am (bm cf) (dJ .str)) cG) (bm (.int 2)) (bm (.int 4))) λNc=>
 (t4 (aP\λx4=>Nc\λx5=>fV x4 x5) (t4 (aM\λx2=>am (bf (am (bm aP) ax) (bm (.int 0))) λx3=>jo x2 x3) (am (bf (am (bm aP) ax) (bm (.int 1))) (dJ .str))))
def cV (aM:PV) (uh:PV) (aP:PV):W PV:=
 am (am (am (bm uh) ax) λl2=>mapW l2 λp3=>(bm .aU)) λLO=>
 aP\λx5=>am (am (bm (.int 1)) mq) λx6=>am (gh LO x6 x5) λmi=>
 am (am (b2 oq (c1 dF (bm uh)) (bm (.int 1))) λx7=>am (am (bm (.int 1)) mq) λx8=>am (am (bm (.int 1)) mq) λx9=>Ii x7 x8 x9) λl33=>am (mz l33 mi λlx Qi=>(
 am (bf (am (bm uh) ax) (bm lx)) λqg=>
 am (bf (bm Qi) (bm lx)) λvh=>
 dB (mT (am (aM\λke=>qg\λkq=>vh\λLK=>fW ke kq LK) cG)) (
 .aU\λxN=>bm (Lp.out xN)) (
 am (am (am (qg\λve=>dq ve) ax) λl22=>am (am (vh\λva=>am (am (bm (.int 2)) part) λi19=>bv\λj20=>FP va i19 j20) ax) λl23=>qE l22 l23) λl31=>am (dN l31 Qi λp25 UA=>am (pw p25) λĄ=>(
 Ą.2\λLJ=>Ą.1\λXS=>am (gh UA XS LJ) λHN=>
 bm HN)) λUA=>
 bm (.go UA)))) (zM (λQi=>
 (bm (.cl Qi))) id)
def jr (aM:PV) (cf:PV) (gJ:PV):W PV:=
 (Zm false (am (bf (am (bm gJ) ax) (bm (.int 1))) λx1=>am (gJ\λx2=>nj x2) λx3=>bm (.tup [x1,x3])) (aM\λx4=>cf\λx5=>am (gJ\λx6=>fm x6) λx7=>fo x4 x5 x7))
def jm (aM:PV) (FO:PV) (aP:PV):W PV:=
 dB (mT (am (FO\λx1=>lA x1) cG)) (
 (bm (.bl false))) (
 am (FO\λx3=>ir x3) λzX=>
 am (aM\λx5=>zX\λx6=>aP\λx7=>cV x5 x6 x7) λmi=>
 dB (PQ (t2 F0 (bm mi) (bm .aU)) (t2 vR (c1 dF (bf (am (bm aP) ax) (bm (.int 0)))) (bm (.int 1)))) (
 (bm (.bl false))) (
 (am (am (am (am (bm zX) ax) λl8=>am (am (bm mi) ax) λl9=>qE l8 l9) λVE=>mapW VE λIr=>am (pw Ir) λPe=>(aM\λkr=>Pe.1\λke=>Pe.2\λkq=>jr kr ke kq)) xl)))
def fD (eF:PV):W PV:=
 am (am (bm eF) ax) λqM=>
 am ((.int 4)\λx3=>bz x3) λgI=>
 am (ku (λs4=>(t2 Y3 (am (bm s4) oA) (bm (.int 1)))) (λs4=>(
 am (bf (am (am (b2 oq (am (bm s4) oA) (bm (.int 1))) λx6=>bz x6) λx7=>am (b2 oq (am (bm s4) oA) (bm (.int 2))) λx8=>(.int 0)\λx9=>(.int 0)\λmM=>bm [x7,x8,x9,mM]) (bm gI)) λmH=>
 am (am (bf (bm s4) (bm mH)) λvf=>am (bf (bm s4) (w2 addW (bm mH) (bm (.int 1)))) λkr=>bm (.tup [vf,kr])) λqc=>
 am (sY (t2 dU (bm gI) (bm (.int 3))) (t2 dU ((.int 2)\λke=>bz ke) (bm (.int 0)))) λb=>am (if b=true then (
 am (am (bf (bm s4) (w2 addW (bm mH) (bm (.int 1)))) λqF=>am (bf (bm s4) (bm mH)) λva=>bm (.tup [qF,va])) λqb=>
 bm qb) else (
 bm qc)) λW5=>
 am (W5\λsU=>bm [sU]) λl24=>mH\λxM=>am (w2 addW (bm mH) (bm (.int 2))) λxK=>am (Qd s4 xM xK l24) λpY=>
 bm pY)) qM) λs4=>
 (bf (bm s4) (bm (.int 0)))
def eS:W PV:=
 (am (Kz (am (w2 addW (bm (.int 1)) (am (bf ((.int 5)\λx1=>(.int 8)\λx2=>bm [x1,x2]) (c1 sJ (b2 dU ((.int 8)\λx3=>bz x3) (bm (.int 0))))) λx4=>bz x4)) λx5=>dA x5)) λx6=>fD x6)
def eR (f6:PV):W PV:=
 am (am (f6\λx2=>a7 12 x2) λl3=>kf l3 λp4=>zK (am (am (bm p4) (dJ .str)) cG) (bm p4)) λmN=>
 am (w2 addW (bm (.int 1)) (am (bf ((.int 6)\λx6=>(.int 10)\λx7=>bm [x6,x7]) (c1 sJ (b2 dU ((.int 8)\λx8=>bz x8) (bm (.int 0))))) λx9=>bz x9)) λNb=>
 (am (Kz (am (am (bm Nb) j9) λVD=>mapW VD λì=>((.cl mN)\λkr=>bF kr))) λke=>fD ke)
def eT (aJ:PV) (a8:PV):W (List PV):=
 am (bf (am (bm aJ) ax) (bm a8)) λx1=>am (un4 x1) λt3=>
 am (am ((.str "doubled")\λx5=>a8\λx6=>a8\λx7=>bm (.tup [x5,x6,x7])) λx8=>bm [x8]) λwK=>
 am (t2 dU (c1 dF (bm t3.2.2.1)) (bm (.int 2))) λb=>am (if b=true then (
 am (am ((.str "split")\λva=>am (bf (am (bm t3.2.2.1) ax) (bm (.int 0))) λJw=>am (bf (am (bm t3.2.2.1) ax) (bm (.int 1))) λsU=>bm (.tup [va,Jw,sU])) λJv=>am ((.str "split")\λxM=>am (bf (am (bm t3.2.2.1) ax) (bm (.int 1))) λxK=>am (bf (am (bm t3.2.2.1) ax) (bm (.int 0))) λXT=>bm (.tup [xM,xK,XT])) λLJ=>bm [Jv,LJ]) λVz=>am (se wK Vz) λyZ=>
 bm yZ) else (
 bm wK)) λYr=>
 am (am (bm t3.2.2.2) ax) λl43=>am (dN l43 Yr λjc Qh=>(
 am (am ((.str "over")\λXO=>a8\λXN=>jc\λXM=>bm (.tup [XO,XN,XM])) λXJ=>am ((.str "over")\λx37=>jc\λx38=>a8\λXI=>bm (.tup [x37,x38,XI])) λx40=>bm [XJ,x40]) λl41=>am (se Qh l41) λnC=>
 bm nC)) λQh=>
 bm Qh
def cx (aJ:PV) (bS:PV) (aY:PV) (cf:PV) (a8:PV):W (List PV):=
 am (bf (am (bm bS) ax) (bm cf)) λye=>
 dB (am (am (bm ye) (dJ .str)) cG) (
 (am (am ((.str "found")\λx2=>a8\λx3=>a8\λx4=>bm (.tup [x2,x3,x4])) λx5=>bm [x5]) λl6=>am (c1 sJ (t4 (b2 dU (bf (am (bf (am (bm aJ) ax) (bm a8)) ax) (bm (.int 2))) (bm (.tup []))) (b2 dU (bf (am (bf (am (bm aJ) ax) (bm a8)) ax) (bm (.int 0))) (bm ye)))) λx7=>yg l6 x7)) (
 (am (aJ\λx8=>a8\λx9=>eT x8 x9) λVE=>kf VE λIr=>zK (sY (am (bf (am (bf (am (bm aY) ax) (bf (am (bm ye) ax) (bm (.int 0)))) ax) (bf (am (bm Ir) ax) (bm (.int 1)))) cG) (am (bf (am (bf (am (bm aY) ax) (bf (am (bm ye) ax) (bm (.int 1)))) ax) (bf (am (bm Ir) ax) (bm (.int 2)))) cG)) (bm Ir)))
def gV (aJ:PV) (bS:PV):W (List PV):=
 am (am (c1 dF (bm bS)) j9) λl32=>am (dN l32 (([]:List db),([]:List (List PV))) λrj s3=>(
 am (am ((.bl false)\λx5=>bm [x5]) λl6=>am (c1 dF (bm aJ)) λx7=>yg l6 x7) λl8=>W.fM (s3.2.length < sizeLine) (am (W.any λ_=>True) λb9=>(s3.2++[l8])\λrX=>
 am (am (c1 dF (bm aJ)) j9) λl30=>am (dN l30 (b9,rX) λpW Lw=>(
 am (am (am (am (am (am (bf (am (bf (am (bm aJ) ax) (bm pW)) ax) (bm (.int 2))) ax) λVC=>mapW VC λë=>(bf (am (bf (am (bm (.cl (Lw.2.map PV.cl))) ax) (bm rj)) ax) (bm ë))) O2) qK) qK) λTb=>
 am (am (am (orB (bm Tb) (am (aJ\λxN=>bS\λve=>am (bm (.cl (Lw.2.map PV.cl))) λvc=>rj\λqF=>pW\λva=>cx xN ve vc qF va) λl22=>bm (.bl (!l22.isEmpty)))) qK) qK) λsU=>rj\λJv=>am (Rp Lw.2 Jv) λZk=>pW\λxK=>am (gh Zk.2 xK sU) λVA=>(Lw.2.set Zk.1 VA)\λyX=>
 bm (Lw.1,yX))) λLw=>
 bm Lw))) λs3=>
 bm (s3.2.map PV.cl)
def eI (aJ:PV) (bS:PV) (aY:PV) (cf:PV) (a8:PV):W PV:=
 am (a8\λx2=>bm [x2]) λdm=>
 am (am (c1 dF (bm aJ)) j9) λl35=>am (dN l35 dm λUl s4=>(
 am (am (am (bf (am (bf (am (bm aJ) ax) (bf (bm s4) (am (bm (.int 1)) mq))) ax) (bm (.int 2))) ax) λl7=>kf l7 λp8=>zK (am (bf (am (bf (am (bm aY) ax) (bm cf)) ax) (bm p8)) cG) (bm p8)) λVh=>
 am (orB (am (aJ\λxO=>bS\λvf=>aY\λkr=>cf\λke=>am (bf (bm s4) (am (bm (.int 1)) mq)) λkq=>cx xO vf kr ke kq) λVB=>bm (.bl (VB.isEmpty))) (b2 dU ((.int 3)\λmM=>bz mM) (bm (.int 0)))) λOj=>
 dB (sY (am (am (bm (.cl Vh)) yH) λJ6=>bm (!J6.isEmpty)) (am (bm Oj) cG)) (
 am ((.cl Vh)\λvc=>bF vc) λqF=>am (hX s4 qF) λgs=>
 bm gs) (
 bm s4))) λs4=>
 am (ku (λMf=>(am (aJ\λJw=>bS\λsU=>aY\λJv=>cf\λxM=>am (bf (bm Mf) (am (bm (.int 1)) mq)) λxK=>cx Jw sU Jv xM xK) λVA=>bm (VA.isEmpty))) (λMf=>(
 am (am (Kz (am (am (bf (am (bf (am (bm aJ) ax) (bf (bm Mf) (am (bm (.int 1)) mq))) ax) (bm (.int 2))) ax) λVz=>kf Vz λê=>zK (am (bf (am (bf (am (bm aY) ax) (bm cf)) ax) (bm ê)) cG) (bm ê))) λXR=>bF XR) λXQ=>am (hX Mf XQ) λmZ=>
 bm mZ)) s4) λMf=>
 (am (bm Mf) kF)
def cT:Nat->PV->PV->PV->PV->PV->W PV
 | 0,_,_,_,_,_=>W.fail
 | n+1,aJ,bS,aY,cf,bZ=>
 am (am (Kz (aJ\λx1=>bS\λx2=>aY\λx3=>cf\λx4=>am (bf (am (bm bZ) ax) (am (bm (.int 1)) mq)) λx5=>cx x1 x2 x3 x4 x5)) λx6=>bF x6) λx7=>am (un3 x7) λt8=>
 dB (t2 dU (bm t8.1) (bm (.str "found"))) (
 (bZ\λx9=>t8.1\λmM=>bm (.tup [x9,mM]))) (
 am (bf (am (bm bS) ax) (bm cf)) λqR=>
 am (aJ\λkr=>bS\λke=>aY\λkq=>am (bf (am (bm qR) ax) (bm (.int 0))) λLK=>am (aJ\λxN=>bS\λve=>aY\λvc=>am (bf (am (bm qR) ax) (bm (.int 0))) λqF=>t8.2.1\λva=>eI xN ve vc qF va) λJw=>cT n kr ke kq LK Jw) λy7=>
 (bZ\λsU=>t8.1\λJv=>y7\λxM=>am (aJ\λxK=>bS\λXT=>aY\λLJ=>am (bf (am (bm qR) ax) (bm (.int 1))) λXS=>am (aJ\λx30=>bS\λXR=>aY\λXQ=>am (bf (am (bm qR) ax) (bm (.int 1))) λXO=>t8.2.2\λXN=>eI x30 XR XQ XO XN) λXM=>cT n xK XT LJ XS XM) λXJ=>bm (.tup [sU,Jv,xM,XJ])))
def cH (aJ:PV) (oX:PV):W PV:=
 am (oX\λx2=>a7 12 x2) λkJ=>
 am (aJ\λx4=>(.cl kJ)\λx5=>gV x4 x5) λmG=>
 am (b2 oq (c1 dF (bm (.cl kJ))) (bm (.int 1))) λGr=>
 am (am (am (c1 dF (bm aJ)) j9) λl9=>kf l9 λW6=>zK (am (aJ\λxO=>(.cl kJ)\λvf=>(.cl mG)\λkr=>Gr\λke=>W6\λkq=>cx xO vf kr ke kq) λVB=>bm (!VB.isEmpty)) (bm W6)) λL9=>
 (aJ\λxN=>(.cl kJ)\λve=>(.cl mG)\λvc=>Gr\λqF=>am (am ((.cl L9)\λva=>bF va) λJw=>bm (.tup [Jw])) λsU=>cT 12 xN ve vc qF sU)
def m_ways_within (gJ:PV):W (List PV):=
 []\λeE=>
 am (gJ\λx3=>bm [x3]) λcF=>
 am (ku (λs4=>(s4.2\λl5=>bm (!l5.isEmpty))) (λs4=>(
 am (tq s4.2) λt7=>
 t7.2\λx9=>am (hX s4.1 x9) λfv=>
 am (am (t7.2\λkr=>am (am (bm (.int 2)) part) λi11=>bv\λj12=>FP kr i11 j12) ax) λXb=>am (se t7.1 Xb) λdh=>
 bm (fv,dh))) (eE,cF)) λs4=>
 (s4.1\λVC=>bm VC.reverse)
def m_places (gJ:PV):W PV:=
 (am (am (gJ\λx1=>m_ways_within x1) λl2=>mapW l2 λp3=>(am (p3\λx4=>fm x4) λx5=>am (bf (am (bm p3) ax) (bm (.int 1))) λx6=>bm (.tup [x5,x6]))) kF)
def m_lost_on (aM:PV) (S9:PV):W PV:=
 (am (am (am (S9\λx3=>bv\λi1=>am (am (am (bm (.int 1)) mq) part) λj2=>FP x3 i1 j2) ax) λl4=>kf l4 λp5=>zK (t2 dU (c1 dF (aM\λx6=>p5\λx7=>cS x6 x7)) (bm (.int 2))) (bm p5)) oA)
def m_counted (aM:PV) (gJ:PV):W PV:=
 am (gJ\λx2=>m_ways_within x2) λvK=>
 am (am (am (bm (.cl vK)) ax) λl4=>mapW l4 λp5=>(bf (am (bm p5) ax) (bm (.int 1)))) λOC=>
 am (am (am (am (bm (.cl vK)) ax) λl7=>mapW l7 λp8=>(aM\λx9=>am (bf (am (bm p8) ax) (bm (.int 0))) λmM=>m_lost_on x9 mM)) sumLW) λNd=>
 (am (am (am (bm ([("split":Str),("doubled":Str),("over":Str)].map PV.str)) λVD=>mapW VD λì=>(am (am (bm (.cl OC)) yH) λZe=>ì\λke=>Sn Ze ke)) λVB=>am (Nd\λkq=>bm [kq]) λJ6=>xg VB J6) kF)
def dX (f6:PV) (aJ:PV):W (List PV):=
 am (f6\λx2=>a7 12 x2) λkJ=>
 (am (am (bm aJ) ax) λl3=>mapW l3 λp4=>(dB (am (am (bf (am (bm p4) ax) (bm (.int 0))) (dJ .str)) cG) (am (am (bm (.cl kJ)) yH) λl5=>am (bf (am (bm p4) ax) (bm (.int 0))) λx6=>Ry l5 x6) (bf (am (bm p4) ax) (bm (.int 0)))))
def bc (bj:PV) (bZ:PV):W PV:=
 []\λwL=>
 am (am (bm bZ) ax) λl8=>am (dN l8 wL λFl s2=>(
 dB (PQ (s2\λl4=>bm (l4.isEmpty)) (t2 vR (bf (bm s2) (am (bm (.int 1)) mq)) (bf (am (bm bj) ax) (bm Fl)))) (
 am (bf (am (bm bj) ax) (bm Fl)) λx6=>am (hX s2 x6) λJa=>
 bm Ja) (
 bm s2))) λs2=>
 (am (bm s2) kF)
def aX:Nat->PV->PV->W PV
 | 0,_,_=>W.fail
 | n+1,bj,c6=>
 am (bj\λx2=>am (bf (am (bm c6) ax) (bm (.int 0))) λx3=>bc x2 x3) λdm=>
 dB (t2 dU (c1 dF (bm c6)) (bm (.int 2))) (
 (dm\λx4=>am (bf (am (bm c6) ax) (bm (.int 1))) λx5=>bm (.tup [x4,x5]))) (
 (dm\λx6=>am (bf (am (bm c6) ax) (bm (.int 1))) λx7=>am (bj\λx8=>am (bf (am (bm c6) ax) (bm (.int 2))) λx9=>aX n x8 x9) λmM=>am (bj\λxO=>am (bf (am (bm c6) ax) (bm (.int 3))) λvf=>aX n xO vf) λkr=>bm (.tup [x6,x7,mM,kr])))
def nh (fB:PV):W PV:=
 am (am ((.int 1)\λx3=>am (am (c1 dF (bm fB)) λx1=>(.int 6)\λx2=>qf OV [x1,x2]) λx4=>qf OW [x3,x4]) j9) λl61=>am (mz l61 () λċ s6=>(
 am (fB\λx9=>ċ\λmM=>gU x9 mM) λqW=>YL gM qW (
 am (eS) λcE=>
 am (cE\λkr=>am (am (Kz (cE\λke=>a7 12 ke)) λkq=>eU kq) λLK=>lB kr LK) λi7=>
 am (cE\λve=>kQ ve) λqx=>
 am (cE\λqF=>i7\λva=>dX qF va) λeV=>
 am (cE\λsU=>eR sU) λdR=>
 am (am (bm (.int 3)) j9) λl59=>am (mz l59 () λPJ é=>(
 am (i7\λLJ=>dR\λXS=>cH LJ XS) λfN=>
 am ((.cl eV)\λXR=>fN\λXQ=>aX 12 XR XQ) λm5=>
 dB (PQ (t2 m6 (i7\λXJ=>dR\λx37=>fN\λx38=>jm XJ x37 x38) (bm (.bl true))) (t2 m6 (qx\λXO=>dR\λXN=>m5\λXM=>jm XO XN XM) (bm (.bl true)))) (
 (.bl false)\λXI=>bm (Lp.out XI)) (
 dB (mT (am (am (qx\λx40=>m5\λx41=>m_counted x40 x41) λx42=>am (i7\λx43=>fN\λx44=>m_counted x43 x44) λx45=>m__law_same 4 x42 x45) cG)) (
 (.bl false)\λx46=>bm (Lp.out x46)) (
 am (am (am (am (fN\λx48=>m_places x48) ax) λl49=>mapW l49 λp50=>am (pw p50) λă=>(am (bf (am (bm (.cl eV)) ax) (bm ă.1)) λx52=>ă.2\λx53=>bm (.tup [x52,x53]))) kF) λOB=>
 dB (mT (am (am (m5\λx54=>m_places x54) λx55=>OB\λx56=>m__law_same 4 x55 x56) cG)) (
 (.bl false)\λx57=>bm (Lp.out x57)) (
 bm (.go ())))))) (zM (λé=>
 bm (.go ())) Lp.out)))) (zM (λs6=>
 (bm (.bl true))) id)
end My
variable {Q:List PL.PV->Prop}{t:My.Tr}
namespace My
open PySem PySem.Spec PyProof.Rows L2 PL FL
def Tr.pv:Tr->PV
 | .leaf x=>.str x
 | .node l r=>.tup [l.pv,r.pv]
def Ent.pv:Ent->PV
 | .word x=>.str x
 | .pair a b=>.tup [.int (a:Int),.int (b:Int)]
def vC {l:List α} (h:l≠[]):∃a x,l=a++[x]:=⟨l.dropLast,l.getLast h,(List.dropLast_concat_getLast h).symm⟩
def Mc {a b:List Tr} (h:posts a++b=t.post):sizes a+b.length=t.size:=by
 have h1:=congrArg BU h;rw [Ae,t.post_len] at h1;have h2:∀l:List Tr,(posts l).length=sizes l:=by
  intro l
  induction l with
  | nil=>rfl
  | cons x l ih=>
   have e1:posts (x::l)=x.post++posts l:=rfl;have e2:sizes (x::l)=x.size+sizes l:=rfl;rw [e1,e2,Ae,ih,x.post_len]
 rw [h2] at h1;exact h1
theorem fy {x:PV} (h:l.length < 1000):hX l x=.ret (l++[x]):=re (by have:=a9 (n:=1000) (An _);omega)
theorem MU (t:Tr) (hz:t.size<=900):(jP t.pv).le (.ret (t.post.map Tr.pv)):=λQ q=>by
 refine gH (λn s=>∃ts bs:List Tr,n=sizes ts/\s=(bs.map Tr.pv,ts.map Tr.pv)/\posts ts++bs.reverse=t.post) ⟨[t],[],rfl,rfl,by rw [oh];simp⟩ ?_;rintro n s ⟨ts,bs,rfl,rfl,hp⟩;have hs:=Mc hp;rw [Ca] at hs;by_cases he:ts=[]
 ·subst he;have ę:bs.reverse=t.post:=hp;simp;rw [<- List.map_reverse,ę];exact q
 ·obtain⟨us,u,rfl⟩:=vC he;have Kk:=len_sizes us;rw [bR,fh] at hs;simp;rw [fy (by rw [Af];omega)];cases u with
  | leaf x=>
   simp [Tr.pv];refine⟨_,?_,us,rfl,bs++[.leaf x],⟨by simp [Tr.pv],rfl⟩,?_⟩
   ·rw [bR,fh];show sizes us < sizes us+1;omega
   ·rw [jL,oh] at hp;rw [DL,<- hp];simp [Tr.post]
  | node c d=>
   have e1:se (us.map Tr.pv) [c.pv,d.pv]=.ret (us.map Tr.pv++[c.pv,d.pv]):=re (a9 (by
    have:(Tr.node c d).size=c.size+d.size+1:=rfl;simp;omega))
   simp [Tr.pv,e1];refine⟨_,?_,us++[c,d],rfl,bs++[.node c d],⟨by simp [Tr.pv],by simp⟩,?_⟩
   ·have e2:sizes [Tr.node c d]=c.size+d.size+1:=by rw [fh];rfl
    have e3:sizes [c,d]=c.size+d.size:=by simp [sizes]
    rw [bR,bR,e2,e3];omega
   ·rw [jL,oh] at hp;rw [DL,<- hp,jL,JT];simp [Tr.post]
def ar (l:List Nat):List PV:=l.map λ(n:Nat)=>.int (n:Int)
@[simp] theorem bE (l:List Nat):(ar l).length=l.length:=Af _
@[simp] theorem ng (a b:List Nat):ar (a++b)=ar a++ar b:=A3
@[simp] theorem fj (a:Nat) (l:List Nat):ar (a::l)=.int (a:Int)::ar l:=rfl
@[simp] theorem kO:ar []=[]:=rfl
def oD (n:Nat):ka 0 n=ar (Av n):=by
 refine B9 λi _=>?_;rw [EK]
theorem Gn {p:Nat->Bool}:∀{l:List Nat},(∀k∈l,f (.int ((k:Nat):Int))=.ret (if p k=true then bd (.int ((k:Nat):Int)) else bv))->kf (ar l) f=.ret (ar (l.filter p))
 | [],_=>rfl
 | k::l,h=>by
  show am (f _) (λo=>am (kf (ar l) f) λm=>bm (o.toList++m))=_;rw [h k (.head _),Gn λy hy=>h y (.tail _ hy),Ce];cases p k <;> rfl
theorem qh {f:PV->W PV}{g:Nat->PV}:∀{l:List Nat},(∀k∈l,f (.int ((k:Nat):Int))=.ret (g k))->mapW (ar l) f=.ret (l.map g)
 | [],_=>rfl
 | k::l,h=>by
  show am (f _) (λy=>am (mapW (ar l) f) λm=>bm (y::m))=_;rw [h k (.head _),qh λy hy=>h y (.tail _ hy)];rfl
def Zc (g:PV->Option PV) (h:∀x∈l,f x=.ret (g x)) (q:Q (l.filterMap g)):(kf l f).run Q:=by rw [Gp h];exact q
def Gb {f:PV->W PV} (g:PV->PV) (h:∀x∈l,f x=.ret (g x)) (q:Q (l.map g)):(mapW l f).run Q:=by rw [vV h];exact q
def rC {l:List Nat} (p:Nat->Bool) (h:∀k∈l,f (.int ((k:Nat):Int))=.ret (if p k=true then bd (.int ((k:Nat):Int)) else bv)) (q:Q (ar (l.filter p))):(kf (ar l) f).run Q:=by rw [Gn h];exact q
def ux {l:List Nat}{f:PV->W PV} (g:Nat->PV) (h:∀k∈l,f (.int ((k:Nat):Int))=.ret (g k)) (q:Q (l.map g)):(mapW (ar l) f).run Q:=by rw [qh h];exact q
theorem m9 (t:Tr) (hz:t.size<=900):(ir t.pv).le (.ret (.tup ((t.nd 0).map Ent.pv))):=λQ q=>by
 unfold ir;simp only [im,cr];refine W.le.use (MU t hz) ?_;refine nF (λr s=>∃(k:List Tr) (À:List Ent) (ls:List Nat),r=k.map Tr.pv/\s=(À.map Ent.pv,ar ls.reverse)/\run k À ls=bd (t.nd 0,[t.size-1])/\À.length+k.length<=900/\ls.length<=À.length) ⟨t.post,[],[],rfl,rfl,JQ t,by simp [t.post_len];omega,An _⟩ ?_ ?_
 ·rintro x r s ⟨k,À,ls,e,rfl,h,hl,ZD⟩;cases k with
  | nil=>cases e
  | cons p k=>
   injection e with e1 e2;subst e1;subst e2;rw [Ao] at hl;cases p with
   | leaf x=>
    have a1:∀y,hX (ar ls.reverse) y=.ret (ar ls.reverse++[y]):=λy=>fy (by simp;omega);simp [Tr.pv,fy (l:=À.map Ent.pv) (by simp;omega),a1];refine⟨k,rfl,À++[Ent.word x],À.length::ls,⟨by simp [Ent.pv],by simp⟩,h,by simp;omega,by simp;omega⟩
   | node c d=>
    match ls,h,ZD with
    | b::a::ls,h,ZD=>
     rw [Ao,Ao] at ZD;have a0:ar (b::a::ls).reverse=(ar ls.reverse++[.int (a:Int)])++[.int (b:Int)]:=by simp
     have a1:∀y,hX (ar ls.reverse) y=.ret (ar ls.reverse++[y]):=λy=>fy (by simp;omega);rw [a0];simp only [Tr.pv,im,fK,jV,bb,Am,if_false,GY];simp [fy (l:=À.map Ent.pv) (by simp;omega),a1];refine⟨k,rfl,À++[Ent.pair a b],À.length::ls,⟨by simp [Ent.pv],by simp⟩,h,by simp;omega,by simp;omega⟩
 ·rintro s ⟨k,À,ls,e,rfl,h,hl,ZD⟩;cases k with
  | nil=>
   cases h;simpa using q
  | cons p k=>cases e
end My
variable {a b d:Int}
namespace My
open PySem PySem.Spec PyProof.Rows L2 PL FL
theorem mulL (h:-1000000000<=a/\a<=1000000000):wP a b:=Te ∅ ∅
theorem mulR (h:-1000000000<=b/\b<=1000000000):wP a b:=mul_r ∅ ∅
theorem PU:∀ns l Q,gM ns->((cp 1 bz) l).run Q->((λlo l=>cp 1 (fY lo) l) (ns.map PV.int) l).run λt=>Q t.1/\∃Iy:List Int,t.2=Iy.map PV.int/\gM Iy:=by
 rintro ns l Q ⟨g,s,c,rfl,g0,s0,s1,c0⟩ q
 match l,q with
 | [],q=>exact q.elim
 | _::_::_,q=>exact q.elim
 | [x],q=>
  show (fY _ x).run _;have q:=q;cases x with
  | int m=>
   obtain⟨⟨m0,m1⟩,q⟩:=q;have q:∀d:Int,0<=d->d < m->Q (.int d):=λd h0 h1=>q _ ⟨d,rfl,h0,h1⟩;unfold fY;generalize hA:(2305843009213693921:Int)=A;generalize hB:(2305843009213693907:Int)=B;generalize hC:(65537:Int)=C;generalize hD:(999983:Int)=D;have A0:0 < A:=by omega
   have B0:0 < B:=by omega
   have C0:0 < C:=by omega
   have D0:0 < D:=by omega
   by_cases hg:0 < g
   ·simp [cn,nu,hg,m0,gh,SS];refine⟨by omega,q _ (B8 _ ∅) (B1 _ m0),[g / m,s,c],rfl,_,_,_,rfl,Int.ediv_nonneg g0 ∅,s0,s1,c0⟩
   ·have e1:wP s 69069:=mulR ∅;have e2:wP 9973 (c+1):=mulL ∅;have e3:wP 2 (c+1):=mulL ∅;simp [cn,nu,hg,m0,gh,VS,e1,e2,e3,A0,B0,C0,D0];generalize hM:(s*69069+9973*(c+1)+5) % A=M;have M0:0<=M:=by rw [<- hM];exact B8 _ ∅
    have M1:M < A:=by rw [<- hM];exact B1 _ A0
    have e4:∀y,wP M y:=λy=>Te ∅ ∅;generalize hN:M*(M % D+2*(c+1)+3) % B=N;have N0:0<=N:=by rw [<- hN];exact B8 _ ∅
    have N1:N < B:=by rw [<- hN];exact B1 _ B0
    refine⟨e4 _,⟨C0,by omega⟩,q _ (B8 _ ∅) (B1 _ m0),[g,N,c+1],rfl,_,_,_,rfl,g0,N0,by omega,by omega⟩
  | _=>exact q.elim
theorem WN (i:Int):0<=(if i < 0 then -i else i):=by split <;> omega
theorem Qw {k:Int} (k0:0<=k) (q:∀l,(∃ms:List Int,l=ms.map PV.int/\gM ms)->Q l):(gU (.cl (ns.map PV.int)) (.int k)).run Q:=by
 unfold gU;generalize hA:(2305843009213693951:Int)=A;have A0:0 < A:=by omega
 have fin:∀x:Int,0<=x->(am (b2 ou (b2 oMod (bm (.int x)) (b2 ou (b2 yA (bm (.int 10)) (bm (.int 60))) (b2 yA (bm (.int 10)) (bm (.int 60))))) (c1 sJ (b2 oGe (bm (.int x)) (b2 yA (bm (.int 10)) (bm (.int 18)))))) λnN=>
 (nN\λx6=>am (b2 oMod (w2 addW (w2 addW (bm (.int x)) (b2 ou (bm (.int 104729)) (bm (.int k)))) (bm (.int 7))) (bm (.int A))) λx7=>(.int 0)\λx8=>bm [x6,x7,x8])).run Q:=by
  intro x x0;have p1:Pc 10 60:=⟨by decide,by decide,by decide⟩;have p2:Pc 10 18:=⟨by decide,by decide,by decide⟩;simp only [im,Wj,re p1,re p2,Ob,Oc,Z8,nI,iz,W.OM,W.Qk,ga,re (mulL (show -1000000000<=(104729:Int)/\(104729:Int)<=1000000000 by decide)),re A0];refine⟨IntMulOk.of_bits (by decide +kernel) (by decide +kernel),by decide +kernel,?_,?_⟩
  ·split
   ·exact mulR ∅
   ·exact mulR ∅
  ·refine q _ ⟨[_,_,_],rfl,_,_,_,rfl,Int.mul_nonneg (B8 _ (by decide +kernel)) ?_,B8 _ ∅,by rw [hA];exact B1 _ A0,CN _⟩
   split <;> decide
 by_cases kh:k < (ns.length:Int)
 ·obtain⟨v,e,e2⟩:=OY (xs:=ns.map PV.int) k0 (by rw [Af];exact kh);rw [Ag] at e2;obtain⟨c,rfl⟩:∃c,v=.int c:=by
   cases z:ns[k.toNat]? with
   | none=>rw [z] at e2;cases e2
   | some c=>rw [z] at e2;exact⟨c,(Option.some.inj e2).symm⟩
  simp only [im,iw,za,Af,kh,decide_true,bp,if_true,bI,a6,e,sB,Wr];exact fin _ (WN _)
 ·simp only [im,iw,za,Af,kh,decide_false,bp,Am,if_false];exact fin 0 (CN _)
theorem F8 (h0:0<=d) (h1:d < 6):∃st:Int,cn [PV.int 1,PV.int 3,PV.int 5,PV.int 7,PV.int 9,PV.int 11] d=bd (.int st)/\(st=1\/st=3\/st=5\/st=7\/st=9\/st=11):=by
 have:d=0\/d=1\/d=2\/d=3\/d=4\/d=5:=by omega
 rcases this with rfl | rfl | rfl | rfl | rfl | rfl
 ·exact⟨1,rfl,by decide⟩
 ·exact⟨3,rfl,by decide⟩
 ·exact⟨5,rfl,by decide⟩
 ·exact⟨7,rfl,by decide⟩
 ·exact⟨9,rfl,by decide⟩
 ·exact⟨11,rfl,by decide⟩
theorem F9 (h0:0<=d) (h1:d < 2):∃bg:Str,cn [PV.str "",PV.str "k"] d=bd (.str bg)/\Part bg 1:=by
 have:d=0\/d=1:=by omega
 rcases this with rfl | rfl
 ·exact⟨"",rfl,by decide +kernel,by decide +kernel⟩
 ·exact⟨"k",rfl,by decide +kernel,by decide +kernel⟩
theorem Ga (h0:0<=d) (h1:d < 4):∃bg:Str,cn [PV.str "",PV.str "q",PV.str "zz",PV.str "abcdef"] d=bd (.str bg)/\Part bg 6:=by
 have:d=0\/d=1\/d=2\/d=3:=by omega
 rcases this with rfl | rfl | rfl | rfl
 ·exact⟨"",rfl,by decide +kernel,by decide +kernel⟩
 ·exact⟨"q",rfl,by decide +kernel,by decide +kernel⟩
 ·exact⟨"zz",rfl,by decide +kernel,by decide +kernel⟩
 ·exact⟨"abcdef",rfl,by decide +kernel,by decide +kernel⟩
theorem cu (h:-1000<=i/\i<=1000/\-1000<=j/\j<=1000) (h2:j-i<=1000):okN i j:=⟨by omega,by omega,by omega,by omega,a9 ∅⟩
theorem Jx {m:Int} (m0:0<=m) (m1:m<=26) (q:∀ws:List Str,ws.length=m.toNat->(∀x∈ws,Wd x)->ws.Nodup->Q (ws.map PV.str)):(dA (.int m)).run Q:=by
 unfold dA;simp only [im,cr,df 26 ⋯ ⋯,df 6 ⋯ ⋯,df 2 ⋯ ⋯];refine bJ λd1 a1 b1=>bJ λd3 a3 b3=>?_;obtain⟨st,pG,kst⟩:=F8 a3 b3;simp only [a6,pG,sB,ga];refine bJ λd5 a5 b5=>?_;obtain⟨bg,hbg,kbg⟩:=F9 a5 b5;simp only [a6,hbg,sB,ga,fJ,re (cu (i:=0) (j:=m) ∅ ∅)];have lb:=kbg.1;refine nG (λi s=>∃ws:List Str,s=ws.map PV.str/\ws.length=i/\(∀x∈ws,Wd x)/\(ws.map λx=>x.cps[bg.length]?)=(Av i).map λk:Nat=>bd (97+((d1+st*(0+(k:Int))) % 26).toNat)) ⟨[],rfl,rfl,by simp,rfl⟩ ?_ ?_
 ·rintro i s hi ⟨ws,rfl,hl,hw,hs⟩;have e0:0<=(d1+st*(0+(i:Int))) % 26:=B8 _ ⋯;have e1:(d1+st*(0+(i:Int))) % 26 < 26:=B1 _ ⋯;have e2:(d1+st*(i:Int))=d1+st*(0+(i:Int)):=by rw [EK]
  obtain⟨en,hen,ken⟩:=Ga (d:=(d1+(i:Int)) % 4) (B8 _ ⋯) (B1 _ ⋯);have le:=ken.1;have c1:wP st (i:Int):=mulL ∅;have c2:("abcdefghijklmnopqrstuvwxyz":Str).length<=sizeLine:=by decide +kernel
  have c3:bg.length+(⟨#[97+((d1+st*(0+(i:Int))) % 26).toNat]⟩:Str).length<=sizeLine:=a9 (by show bg.length+1<=1000;omega);have c4:(bg++(⟨#[97+((d1+st*(0+(i:Int))) % 26).toNat]⟩:Str)).length+en.length<=sizeLine:=a9 (by rw [C5];show bg.length+1+en.length<=1000;omega);simp only [im,cr,Ob,re c1,iz,Oc,re (show (0:Int) < 26 by decide),re (show (0:Int) < 4 by decide),e2,Wn _ _ (J4 e0 e1),re c2,R4,re c3,bI,a6,hen,sB,re c4,fy (l:=ws.map PV.str) (by rw [Af];omega),ga];refine⟨ws++[bg++⟨#[97+((d1+st*(0+(i:Int))) % 26).toNat]⟩++en],by rw [A3];rfl,by rw [Ae,hl];rfl,?_,by rw [A3,hs,List.range_succ,A3,List.map_singleton,List.map_singleton,Jy]⟩;intro x hx;rcases AX.mp hx with z | z
  ·exact hw x z
  ·rw [AR.mp z];exact LL kbg ken ∅ ∅
 ·rintro s ⟨ws,rfl,hl,hw,hs⟩;refine q ws hl hw ?_;refine vS (g:=λx:Str=>x.cps[bg.length]?) ?_;rw [hs];exact tE kst ∅
end My
variable {Q:PL.PV->Prop}{ws:List BZ}
namespace My
open PySem PySem.Spec PyProof.Rows L2 PL FL
theorem WI {l:List α} (h:k+1 < l.length):∃a x y b,l=a++x::y::b/\a.length=k:=by
 refine⟨l.take k,l[k],l[k+1],l.drop (k+2),?_,by rw [Cw];omega⟩;have e1:l.drop k=l[k]::l.drop (k+1):=Bs ∅;have e2:=Bs ∅;rw [<- e2,<- e1,List.take_append_drop]
theorem xU (hw:ws≠[]) (h8:ws.length<=100) (q:∀t:Tr,t.aG.Perm ws->Q t.pv):(kR (.cl (ws.map PV.str))).run Q:=by
 unfold kR;simp only [im,cr,bI,ga,df 4 ⋯ ⋯];refine bJ λw w0 w1=>?_;refine gH (λn s=>∃ts:List Tr,s=ts.map Tr.pv/\n=ts.length/\ts≠[]/\(ts.flatMap Tr.aG).Perm ws/\ts.length<=100) (n:=ws.length) ⟨ws.map Tr.leaf,by simp [Tr.pv],by simp,by simpa using hw,?_,by simpa using h8⟩ ?_
 ·rw [List.flatMap_map];have:ws.flatMap (λx=>(Tr.leaf x).aG)=ws:=by
   simp [Tr.aG,List.flatMap_singleton']
  rw [this]
 ·rintro n s ⟨ts,rfl,rfl,NG,hp,hl⟩;by_cases h1:1 < ts.length
  ·have c0:(1:Int) < (ts.length:Int):=by omega
   simp only [im,cr,sg,Af,TU,c0,decide_true,bp,ga,if_true,oK,df ((ts.length:Int)-1) ∅ ∅];refine bJ λd d0 d1=>?_;obtain⟨a,ha,a0,a1⟩:∃a:Nat,cn [PV.int d,PV.int ((ts.length:Int)-2),PV.int 0,PV.int 0] w=bd (.int (a:Int))/\0<=a/\a+1 < ts.length:=by
    have:w=0\/w=1\/w=2\/w=3:=by omega
    rcases this with rfl | rfl | rfl | rfl
    ·exact⟨d.toNat,by show bd (PV.int d)=_;rw [Int.toNat_of_nonneg d0],by omega,by omega⟩
    ·exact⟨ts.length-2,by show bd (PV.int ((ts.length:Int)-2))=_;congr 2;omega,by omega,by omega⟩
    ·exact⟨0,rfl,by omega,by omega⟩
    ·exact⟨0,rfl,by omega,by omega⟩
   obtain⟨as,x,y,bs,rfl,hk⟩:=WI a1;have i0:cn ((as++x::y::bs).map Tr.pv) (a:Int)=bd x.pv:=bC (by rw [Ag,AE ∅];simp [hk]);have i1:cn ((as++x::y::bs).map Tr.pv) ((a:Int)+1)=bd y.pv:=by
    have:((a:Int)+1)=((a+1:Nat):Int):=by push_cast;rfl
    rw [this];exact bC (by rw [Ag,AE ∅];simp [hk])
   simp only [a6,ha,sB,ga,i0,i1,iz,im];have fin:∀p:Tr,p.aG.Perm (x.aG++y.aG)->(Qd ((as++x::y::bs).map Tr.pv) (.int (a:Int)) (.int ((a:Int)+2)) [p.pv]).run λa=>∃m,m < (as++x::y::bs).length/\∃ts:List Tr,a=ts.map Tr.pv/\m=ts.length/\ts≠[]/\(ts.flatMap Tr.aG).Perm ws/\ts.length<=100:=by
    intro p Ę;rw [Ae,Ao,Ao] at hl;refine⟨⟨by omega,by omega,?_,a9 ?_⟩,?_⟩
    ·rw [Af,Ae,Ao,Ao];push_cast;omega
    ·rw [Af,Ae,Ao,Ao];simp;omega
    ·have e:((as++x::y::bs).map Tr.pv).take (a:Int).toNat++[p.pv]++((as++x::y::bs).map Tr.pv).drop ((a:Int)+2).toNat=(as++p::bs).map Tr.pv:=by
      have t1:(a:Int).toNat=as.length:=by omega
      have t2:((a:Int)+2).toNat=as.length+2:=by omega
      rw [t1,t2,<- List.map_take,<- List.map_drop,List.take_left' rfl];have:(as++x::y::bs).drop (as.length+2)=bs:=by
       rw [show as++x::y::bs=(as++[x,y])++bs by simp,List.drop_left' (by simp)]
      rw [this];simp
     show ∃m,_/\∃ts:List Tr,_;rw [e];refine⟨(as++p::bs).length,by simp,as++p::bs,rfl,rfl,by simp,?_,by simp;omega⟩;refine List.Perm.trans ?_ hp;simp only [Cb,List.flatMap_cons];refine List.Perm.append_left _ ?_;rw [<- A9];exact Ę.append_right _
   by_cases h3:w=3
   ·subst h3;simp only [c8,bp,beq_self_eq_true,ga,im,if_true,cr,df 2 ⋯ ⋯];refine bJ λd2 d20 d21=>?_;by_cases h4:d2=0
    ·subst h4;simp only [c8,bp,beq_self_eq_true,ga,im,if_true,cr,i0,i1,a6,iz,sB];exact fin (.node y x) List.perm_append_comm
    ·have e4:(d2==0)=false:=by simpa using h4
     simp only [c8,bp,e4,ga,im,cr,Am,if_false];exact fin (.node x y) (List.Perm.refl _)
   ·have e3:(w==3)=false:=by simpa using h3
    simp only [c8,bp,e3,ga,im,cr,Am,if_false];exact fin (.node x y) (List.Perm.refl _)
  ·have c0:¬(1:Int) < (ts.length:Int):=by omega
   simp only [im,cr,sg,Af,TU,c0,decide_false,bp,ga,Am,if_false]
   match ts,NG,h1,hp with
   | [t],_,_,hp=>
    have:t.aG.Perm ws:=by simpa using hp
    exact q t this
   | _::_::_,_,h1,_=>simp at h1
structure pe (t:Tr):Prop where
 ws:t.Ws
 nd:t.aG.Nodup
 few:t.aG.length<=8
theorem Kp (q:∀t:Tr,pe t->Q t.pv):nk.run Q:=by
 unfold nk;simp only [im,cr,df 8 ⋯ ⋯];refine bJ λd d0 d1=>?_;obtain⟨n,hn,n0,n1⟩:∃n:Int,cn [PV.int 5,PV.int 8] (if (d==0)=true then 1 else 0)=bd (.int n)/\0 < n/\n<=8:=by
  by_cases h:d=0
  ·subst h;exact⟨8,rfl,by decide,by decide⟩
  ·have e:(d==0)=false:=by simpa using h
   rw [e];exact⟨5,rfl,by decide,by decide⟩
 simp only [c8,ga,nI,a6,hn,sB,df n n0 ∅];refine bJ λk k0 k1=>?_;refine Jx ∅ ∅ λws hl hw hd=>?_;refine xU (λz=>by rw [z] at hl;simp at hl;omega) ∅ λt ht=>q t ⟨λx hx=>hw x (ht.mem_iff.mp hx),ht.nodup_iff.mpr hd,by rw [ht.length_eq,hl];omega⟩
end My
variable {a b i j y:Nat}{ds:List Int}{m:List PL.PV}
namespace My
open PySem PySem.Spec PyProof.Rows L2 PL FL
def tJ:Ent->Bool
 | .word _=>false
 | .pair _ _=>true
structure Dt (t:Tr) (ds:List Int) (left:List Nat) (d:Int):Prop where
 len:ds.length=t.size
 zero:∀j,j < t.size->(tJ (en t 0 j)=false\/j∈left)->ds.getD j 0=0
 up:∀j,j < t.size->j∉left->∀a b,en t 0 j=.pair a b->a∉left/\b∉left/\ds.getD a 0 < ds.getD j 0/\ds.getD b 0 < ds.getD j 0/\1<=ds.getD j 0/\ds.getD j 0<=d
 inj:∀i j,i < t.size->j < t.size->i∉left->j∉left->tJ (en t 0 i)=true->tJ (en t 0 j)=true->ds.getD i 0=ds.getD j 0->i=j
 pos:0<=d
 Xa:∀j∈left,j < t.size/\tJ (en t 0 j)=true
 ris:left.Pairwise (· < ·)
def iO {l:List Int}{v:Int} (h:i < l.length):(l.set i v).getD i 0=v:=by rw [Ap,Bt h];rfl
def bT {l:List Int}{v:Int} (h:i≠j):(l.set i v).getD j 0=l.getD j 0:=by rw [Ap,A8 h,<- Ap]
def tu {l:List Nat} (h:l.Pairwise (· < ·)) {x:Nat}:y∈l.erase x↔y∈l/\y≠x:=by
 have nd:l.Nodup:=h.imp (λz=>AM z);rw [nd.mem_erase_iff];exact⟨λz=>⟨z.2,z.1⟩,λz=>⟨z.2,z.1⟩⟩
theorem dE (t:Tr) (h:j < t.size) (e:en t 0 j=.pair a b):a < j/\b < j:=by
 rcases OU t 0 j h with⟨x,e1,_⟩ | ⟨a',b',e1,e2,e3,_⟩
 ·rw [e1] at e;cases e
 ·rw [e1] at e;injection e with h1 h2;omega
theorem Dt.next {left:List Nat}{x:Int} (D:Dt t ds left d) (hj:j∈left) (e:en t 0 j=.pair a b) (ha:a∉left) (hb:b∉left) (hx:0<=x):Dt t (ds.set j (d+1+x)) (left.erase j) (d+1+x):=by
 obtain⟨hjs,hjp⟩:=D.Xa j hj;obtain⟨haj,hbj⟩:=dE t hjs e;have Pj:j < ds.length:=by rw [D.len];exact hjs
 have hm:∀y,y∈left.erase j↔y∈left/\y≠j:=λy=>tu D.ris;have Ó:∀y,y < t.size->y∉left->ds.getD y 0<=d:=λy hy ò=>by
  cases ey:en t 0 y with
  | word w=>rw [D.zero y hy (.inl (by rw [ey];rfl))];exact D.pos
  | pair p q=>exact (D.up y hy ò p q ey).2.2.2.2.2
 refine⟨by rw [BS];exact D.len,λy hy hc=>?_,λy hy ò p q ey=>?_,λu v hu hv hul hvl pu pv Tw=>?_,by have:=D.pos;omega,λy hy=>D.Xa y ((hm y).mp hy).1,List.Pairwise.sublist List.erase_sublist D.ris⟩
 ·have Zs:j≠y:=λz=>by
   subst z;rcases hc with hc | hc
   ·rw [hjp] at hc;cases hc
   ·exact ((hm j).mp hc).2 rfl
  rw [bT Zs];exact D.zero y hy (hc.imp id λz=>((hm y).mp z).1)
 ·by_cases Zs:j=y
  ·subst Zs;rw [e] at ey;injection ey with h1 h2;subst h1 h2;have la:=Ó a ∅ ha;have lb:=Ó b ∅ hb;rw [iO Pj,bT ∅,bT ∅];have:=D.pos;exact⟨λz=>ha ((hm a).mp z).1,λz=>hb ((hm b).mp z).1,by omega,by omega,by omega,by omega⟩
  ·have acU:y∉left:=λz=>ò ((hm y).mpr ⟨z,BE Zs⟩);obtain⟨p1,p2,p3,p4,p5,p6⟩:=D.up y hy acU p q ey;have np:j≠p:=λz=>p1 (z▸hj);have nq:j≠q:=λz=>p2 (z▸hj);rw [bT Zs,bT np,bT nq];exact⟨λz=>p1 ((hm p).mp z).1,λz=>p2 ((hm q).mp z).1,p3,p4,p5,by omega⟩
 ·by_cases c1:j=u
  ·by_cases c2:j=v
   ·exact c1.symm.trans c2
   ·exfalso;subst c1;have VY:v∉left:=λz=>hvl ((hm v).mpr ⟨z,BE c2⟩);rw [iO Pj,bT c2] at Tw;have:=Ó v hv VY;omega
  ·have Zu:u∉left:=λz=>hul ((hm u).mpr ⟨z,BE c1⟩);by_cases c2:j=v
   ·exfalso;subst c2;rw [iO Pj,bT c1] at Tw;have:=Ó u hu Zu;omega
   ·have VY:v∉left:=λz=>hvl ((hm v).mpr ⟨z,BE c2⟩);rw [bT c1,bT c2] at Tw;exact D.inj u v hu hv Zu VY pu pv Tw
def splits (t:Tr):List Nat:=(Av t.size).filter λj=>tJ (en t 0 j)
def Dt.first (t:Tr):Dt t (Al t.size 0) (splits t) 0:=by
 have z:∀j,(Al t.size (0:Int)).getD j 0=0:=λj=>by
  rw [Ap,Bx]
  split <;> rfl
 have mem:∀j,j∈splits t↔j < t.size/\tJ (en t 0 j)=true:=λj=>by unfold splits;rw [AL,AI]
 refine⟨Ba,λj _ _=>z j,λj hj hn a b e=>absurd ((mem j).mpr ⟨hj,by rw [e];rfl⟩) hn,λi j hi hj hni _ pi _ _=>absurd ((mem i).mpr ⟨hi,pi⟩) hni,CN _,λj hj=>(mem j).mp hj,?_⟩;exact List.Pairwise.filter _ Df
theorem Jj (t:Tr):d6 0 ((t.nd 0).map Ent.pv)=(Av t.size).map λj=>PV.tup [.int ((j:Nat):Int),(en t 0 j).pv]:=by
 have hl:(d6 0 ((t.nd 0).map Ent.pv)).length=t.size:=by rw [cI,Af,t.br]
 apply Bg;intro i;by_cases hi:i < t.size
 ·have h1:(d6 0 ((t.nd 0).map Ent.pv))[i]?=bd ((d6 0 ((t.nd 0).map Ent.pv))[i]'∅):=Ad _;obtain⟨y,hy,e⟩:=gE h1;rw [Ag,e7 t 0 i hi] at hy;have Rz:=Option.some.inj hy;rw [h1,e,<- Rz,Ag,Bv hi,Az];rfl
 ·rw [Ax ∅,Ax (by rw [Af,BQ];omega)]
def Q9:PV->Option PV
 | .tup [_,.str _]=>bv
 | .tup [k,_]=>bd k
 | _=>bv
def Vv (t:Tr):(d6 0 ((t.nd 0).map Ent.pv)).filterMap Q9=ar (splits t):=by
 rw [Jj];unfold splits;generalize Av t.size=l
 induction l with
 | nil=>rfl
 | cons j l ih=>
  rw [Aw,BD,Ce];cases e:en t 0 j with
  | word w=>exact ih
  | pair a b=>
   rw [ih];rfl
def uu (l:List Nat):ar l=(l.map λn=>((n:Nat):Int)).map PV.int:=by unfold ar;rw [AN];rfl
theorem si (y:Nat):∀l:List Nat,(l.map λn=>((n:Nat):Int)).erase (y:Int)=(l.erase y).map λn=>((n:Nat):Int)
 | []=>rfl
 | a::l=>by
  rw [Aw,List.erase_cons,List.erase_cons,si y l];by_cases c:a=y
  ·subst c;simp
  ·have c1:(((a:Nat):Int)==(y:Int))=false:=by simp;omega
   have c2:(a==y)=false:=by simpa using c
   rw [c1,c2];simp
theorem Vp (h0:0<=d) (h1:d < 3):∃m:Int,cn [PV.int 1,PV.int 3,PV.int 13] d=bd (.int m)/\0 < m/\m<=13:=by
 have:d=0\/d=1\/d=2:=by omega
 rcases this with rfl | rfl | rfl
 ·exact⟨1,rfl,by decide,by decide⟩
 ·exact⟨3,rfl,by decide,by decide⟩
 ·exact⟨13,rfl,by decide,by decide⟩
theorem Ij:∀(l:List Nat) (k n:Nat),l.Pairwise (· < ·)->(∀x∈l,k<=x/\x < n)->l.length<=n-k
 | [],_,_,_,_=>A5 _
 | a::l,k,n,h,hb=>by
  have h1:=(D6.mp h);have h2:=hb a BA;have ih:=Ij l (a+1) n h1.2 λx hx=>⟨h1.1 x hx,(hb x (AV _ hx)).2⟩;rw [Ao];omega
def Uz (s:Nat):Ent->Ent
 | .word x=>.word x
 | .pair p q=>.pair (p+s) (q+s)
theorem F2:∀(t:Tr) (o s:Nat),t.nd (o+s)=(t.nd o).map (Uz s)
 | .leaf _,_,_=>rfl
 | .node a b,o,s=>by
  have ha:=a.size_pos;rw [Tr.nd,Tr.nd,F2 a o s,show o+s+a.size=o+a.size+s by omega,F2 b (o+a.size) s,A3,A3];congr 2;congr 1 <;> omega
def oS (h:l.length+m.length<=1000):xg l m=.ret (l++m):=re (a9 h)
theorem gD:∀(n:Nat) (t:Tr),t.depth < n->t.size<=900->(a7 n t.pv).le (.ret ((t.nd 0).map Ent.pv))
 | 0,_,h,_=>by omega
 | n+1,.leaf w,_,_=>λQ q=>by
  unfold a7;simp [Tr.pv];exact q
 | n+1,.node a b,h,hz=>λQ q=>by
  have hs:(Tr.node a b).size=a.size+b.size+1:=rfl;have hpa:=a.size_pos;have hd:a.depth < n/\b.depth < n:=by simp [Tr.depth] at h;omega
  unfold a7;have i0:cn [a.pv,b.pv] 0=bd a.pv:=rfl;have i1:cn [a.pv,b.pv] 1=bd b.pv:=rfl;simp only [Tr.pv,im,cr,fK,jV,bb,Am,if_false,ay,a6,i0,i1,sB];refine W.le.use (gD n a hd.1 ∅) ?_;simp only [sg,Af,a.br,ga];refine W.le.use (gD n b hd.2 ∅) ?_;refine jU (λi s=>s=(a.nd 0++((b.nd 0).take i).map (Uz a.size)).map Ent.pv) (by simp) (λi x s hx hs=>?_) (λs hs=>?_)
  ·subst hs;rw [Ag] at hx;cases e:(b.nd 0)[i]? with
   | none=>rw [e] at hx;cases hx
   | some en=>
    rw [e] at hx;have ex:=Option.some.inj hx;subst ex;have hi:i < b.size:=by have:=(Ak.mp e).1;rw [b.br] at this;exact this
    have et:(b.nd 0).take (i+1)=(b.nd 0).take i++[en]:=by rw [E8,e];rfl
    have al:∀y,hX ((a.nd 0++((b.nd 0).take i).map (Uz a.size)).map Ent.pv) y=.ret ((a.nd 0++((b.nd 0).take i).map (Uz a.size)).map Ent.pv++[y]):=λy=>fy (by simp [a.br];omega);cases en with
    | word w=>
     simp only [Ent.pv,im,cr,gz,iy,bb,if_true,al,ga,et];simp [Uz,Ent.pv]
    | pair u v=>
     have j0:cn [PV.int (u:Int),PV.int (v:Int)] 0=bd (.int u):=rfl;have j1:cn [PV.int (u:Int),PV.int (v:Int)] 1=bd (.int v):=rfl;simp only [Ent.pv,im,cr,fK,jV,bb,Am,if_false,ay,a6,j0,j1,sB,iz,al,ga,et];simp [Uz,Ent.pv]
  ·subst hs;rw [Cd (by rw [Af];exact An _)];have es:(b.nd 0).map (Uz a.size)=b.nd a.size:=by rw [<- F2 b 0 a.size,Az]
   rw [es];simp only [im,cr,oK,sg,Af,Ae,a.br,b.br,ga];rw [oS (by simp [a.br,b.br];omega)];have e:(Tr.node a b).nd 0=a.nd 0++b.nd a.size++[.pair (a.size-1) (a.size+b.size-1)]:=by rw [Tr.nd];simp
   rw [e] at q;have e1:((a.size:Int)-1)=((a.size-1:Nat):Int):=by omega
   have e2:(((a.size+b.size:Nat):Int)-1)=((a.size+b.size-1:Nat):Int):=by omega
   rw [e1,e2];simpa [Ent.pv] using q
theorem pick_run (h0:l≠[]) (h1:l.length<=1000) (q:∀x∈l,Q x):(bF (.cl l)).run Q:=by
 unfold bF;have hp:0 < l.length:=Fg.mpr h0;simp only [im,cr,bI,iw,df (l.length:Int) ∅ ∅,ga];refine bJ λd d0 d1=>?_;obtain⟨v,hv,đ⟩:=OY (xs:=l) d0 d1;simp only [a6,hv,sB,ga];exact q v (Br đ)
theorem Gx (k:Nat) (l:List Nat) (b:Bool):rM b (.int (k:Int)) (ar l)=.ret (if b then !decide (k∈l) else decide (k∈l)):=by
 have h1:tK (.int (k:Int)) (ar l):=⟨by simp,gZ.mpr λx hx=>by
  obtain⟨n,_,rfl⟩:=Au.mp hx;simp,g8 λx hx=>by
  obtain⟨n,_,rfl⟩:=Au.mp hx;simp⟩
 have h2:oG (.int (k:Int)) (ar l)=decide (k∈l):=by
  unfold oG ar;rw [List.any_map]
  induction l with
  | nil=>simp
  | cons a l ih=>
   have ih:=ih ⟨by simp,gZ.mpr λx hx=>by
    obtain⟨n,_,rfl⟩:=Au.mp hx;simp,g8 λx hx=>by
    obtain⟨n,_,rfl⟩:=Au.mp hx;simp⟩
   rw [Ct,ih];by_cases c:a=k
   ·subst c;simp
   ·have c1:(((a:Nat):Int)==(k:Int))=false:=by simp;omega
    have c2:¬k=a:=λz=>c z.symm;simp [c1,c2]
 unfold rM;rw [re h1,h2]
def OI (l:List Nat):tX (ar l)=true:=zu.mpr λx hx=>by
 obtain⟨n,_,rfl⟩:=Au.mp hx;rw [PV.dat] <;> simp
def dC (ds:List Int):List PV:=ds.map PV.int
@[simp] theorem gX (ds:List Int):(dC ds).length=ds.length:=Af _
def Nv (ds:List Int) (y:Nat) (v:Int):(dC ds).set y (.int v)=dC (ds.set y v):=by unfold dC;rw [EE]
def Qm (t:Tr) (left:List Nat) (j:Nat):Bool:=match en t 0 j with
 | .pair a b=>!decide (a∈left)&&!decide (b∈left)
 | _=>false
theorem IQ (h:k < n):nu n (k:Int)=bd k:=by
 unfold nu;rw [if_pos ∅,if_pos ∅];simp
def jK (h:k < l.length):gh l (.int (k:Int)) v=.ret (l.set k v):=by
 unfold gh;simp [IQ h]
def F4 (t:Tr) (h:j < t.size):cn ((t.nd 0).map Ent.pv) (j:Int)=bd (en t 0 j).pv:=bC (by rw [Ag,e7 t 0 j h];rfl)
theorem KZ (t:Tr) (hz:t.size<=900) (q:∀ds d,Dt t ds [] d->d<=13*((splits t).length:Int)->Q (.tup (dC ds))):(eU (.cl ((t.nd 0).map Ent.pv))).run Q:=by
 unfold eU;have e1:yg [PV.int 0] (.int ((t.nd 0).map Ent.pv).length)=.ret (dC (Al t.size 0)):=by
  rw [N8,re ⟨by omega,by rw [Af,t.br];omega,a9 (by simp [t.br];omega)⟩];congr 1;rw [Af,t.br,AZ]
  induction t.size with
  | zero=>rfl
  | succ n ih=>rw [Bu,B5,ih];rfl
 have e3:((t.nd 0).map Ent.pv).length<=sizeLine:=a9 (by rw [Af,t.br];omega);simp only [im,iw,e1,bI,re e3,cr];refine Zc Q9 (λx hx=>?_) ?_
 ·rw [Jj] at hx;obtain⟨j,hj,rfl⟩:=Au.mp hx;cases en t 0 j with
  | word w=>simp [Ent.pv,Q9]
  | pair u v=>simp [Ent.pv,Q9]
 rw [Vv t];refine gH (λn s=>∃(ds:List Int) (left:List Nat) (d:Int),s=(dC ds,ar left,PV.int d)/\n=left.length/\Dt t ds left d/\d+13*(left.length:Int)<=13*((splits t).length:Int)) ⟨_,_,0,rfl,rfl,Dt.first t,by omega⟩ ?_;rintro n s ⟨ds,left,d,rfl,rfl,D,hd⟩;by_cases he:left=[]
 ·subst he;simp;exact q ds d D (by simpa using hd)
 ·have ee:(!(ar left).isEmpty)=true:=by cases left with | nil=>exact absurd rfl he | cons a l=>rfl
  have ZD:left.length<=t.size:=by
   have:=Ij left 0 t.size D.ris λx hx=>⟨A5 _,(D.Xa x hx).1⟩;omega
  obtain⟨r,hr,hr2⟩:∃r∈left,Qm t left r=true:=by
   obtain⟨l0,l1,rfl⟩:∃l0 l1,left=l0::l1:=by cases left with | nil=>exact absurd rfl he | cons a l=>exact⟨a,l,rfl⟩
   refine⟨l0,.head _,?_⟩;obtain⟨h1,h2⟩:=D.Xa l0 (.head _);unfold Qm;cases e:en t 0 l0 with
   | word w=>rw [e] at h2;cases h2
   | pair a b=>
    obtain⟨g1,g2⟩:=dE t h1 e;have Ó:∀y∈l0::l1,l0<=y:=λy hy=>by
     rcases Ay.mp hy with rfl | hy
     ·exact An _
     ·exact DT ((D6.mp D.ris).1 y hy)
    have na:a∉l0::l1:=λz=>by have:=Ó a z;omega
    have nb:b∉l0::l1:=λz=>by have:=Ó b z;omega
    show (!decide _&&!decide _)=true;rw [decide_eq_false na,decide_eq_false nb];rfl
  have ne:ar (left.filter (Qm t left))≠[]:=by
   intro z;have:=congrArg BU z;rw [bE] at this;have m:=AL.mpr ⟨hr,hr2⟩;rw [Et.mp this] at m;cases m
  have e5:LS (ar (left.filter (Qm t left)))=.ret (ar (left.filter (Qm t left))):=re (OI _);simp only [ga,ee,if_true,im,cr];refine rC (Qm t left) (λk hk=>?_) ?_
  ·obtain⟨h1,h2⟩:=D.Xa k hk;unfold Qm;cases e:en t 0 k with
   | word w=>rw [e] at h2;cases h2
   | pair a b=>
    have j0:cn [PV.int (a:Int),PV.int (b:Int)] 0=bd (.int a):=rfl;have j1:cn [PV.int (a:Int),PV.int (b:Int)] 1=bd (.int b):=rfl;simp only [im,bI,a6,F4 t h1,e,Ent.pv,sB,ay,j0,j1,Gx,if_true];by_cases ca:a∈left
    ·simp [ca]
    ·simp [ca];by_cases cb:b∈left
     ·simp [cb]
     ·simp [cb]
  rw [e5];refine pick_run ne (by rw [bE];have:=Bb (Qm t left) left;omega) λx hx=>?_;obtain⟨j,hj,rfl⟩:=Au.mp hx;obtain⟨V3,NI⟩:=AL.mp hj;obtain⟨js,jp⟩:=D.Xa j V3;cases ej:en t 0 j with
  | word w=>rw [ej] at jp;cases jp
  | pair a b=>
  unfold Qm at NI;rw [ej] at NI;simp at NI;simp only [iz,ga,df 3 ⋯ ⋯];refine bJ λz z0 z1=>?_;obtain⟨m,hm,m0,m1⟩:=Vp z0 z1;simp only [a6,hm,sB,ga,df m m0 ∅];refine bJ λy y0 y1=>?_;have ď:UG (ar left) (.int (j:Int))=.ret (ar (left.erase j)):=by
   show am (o5 (ar left)) _=_;rw [uu,lH];show W.fM _ _=_;rw [re (Au.mpr ⟨j,V3,rfl⟩),si,<- uu]
  simp only [iz,ga,jK (l:=dC ds) (k:=j) (by rw [gX,D.len];exact js),ď,Nv];refine⟨(left.erase j).length,by rw [En V3];have:=EH V3;omega,_,_,_,rfl,rfl,D.next V3 ej NI.1 NI.2 y0,?_⟩;rw [En V3];have:=EH V3;omega
theorem pe.size (g:pe t):t.size<=15:=by have:=t.size_eq;have:=g.few;omega
theorem pe.depth (g:pe t):t.depth < 8:=by have:=t.nP;have:=g.few;omega
theorem Pu (h:Wd x):jk (.str x)=.ret (.bl true):=by
 unfold jk;obtain⟨h1,h2,h3⟩:=h;have c1:x.length<=sizeLine:=a9 ∅;have c2:x.cps.size<=sizeLine:=c1;have c3:(1:Int)<=(x.length:Int):=by omega
 have c4:(x.length:Int)<=8:=by omega
 simp only [im,gz,iy,bb,Bq,Am,if_false,RV,re c1,Od,c3,c4,decide_true,uO,bp,N7,re c2];rw [vV (g:=λ_=>PV.bl true) λy hy=>?_]
 ·simp only [im];rw [all_map (λ_=>true)];congr 2;exact Cy.mpr λ_ _=>rfl
 ·obtain⟨c,hc,rfl⟩:=Au.mp hy;obtain⟨k1,k2⟩:=h3 c hc;simp only [Wo,Gy k1 k2]
def FT (l:List PV) (n:Int):fV (.tup l) (.int n)=.ret (.bl ((l.length:Int)==n)):=by
 unfold fV;simp only [im,fK,wQ,gA,ck,c8]
def UD (x:Str) (n:PV):fV (.str x) n=.ret (.bl false):=by
 unfold fV;simp only [im,gz,Jg,Ji]
def LM (i:Int):gR (.int i)=.ret (.bl true):=by
 unfold gR;simp
theorem NQ (t:Tr) (hw:t.Ws) (b:Bool) (hd:b=true\/t.aG.Nodup) (hz:t.size<=900):(gT t.pv (.bl b)).le (.ret (.bl true)):=λQ q=>by
 unfold gT;simp only [im,cr];refine zR (λn s=>∃(ts:List Tr) (kvs:List (Key×PV)),n=sizes ts/\s=(kvs,ts.map Tr.pv)/\(∀x∈ts.flatMap Tr.aG,Wd x)/\(b=true\/(ts.flatMap Tr.aG).Nodup/\∀x∈ts.flatMap Tr.aG,pI kvs (.inr x)=false)/\sizes ts+kvs.length<=900) (n:=sizes [t]) ⟨[t],[],rfl,rfl,λx hx=>hw x (by simpa using hx),by rcases hd with h | h;exact .inl h;exact .inr ⟨by simpa using h,by simp [pI]⟩,by rw [fh];simpa using hz⟩ ?_;rintro n s ⟨ts,kvs,rfl,rfl,h1,h2,h3⟩;by_cases he:ts=[]
 ·subst he;exact q
 ·obtain⟨us,u,rfl⟩:=vC he;have hsu:=u.size_pos;have Kk:=len_sizes us;rw [bR,fh] at h3;have ee:(!((us++[u]).map Tr.pv).isEmpty)=true:=by simp
  have em:(us++[u]).map Tr.pv=us.map Tr.pv++[u.pv]:=by simp
  simp only [im,ga,ee,if_true,cr];rw [em];simp only [GY,ga];cases u with
  | leaf x=>
   have wx:Wd x:=h1 x (by simp [Tr.aG]);have c1:kvs.length < sizeLine:=uo ∅;have cb:=h2.imp id λh=>h.2 x (by simp [Tr.aG]);have ct:(if (pI kvs (.inr x))=true then (bm (!b)) else bm false)=bm false:=by
    rcases cb with h | h
    ·rw [h];split <;> rfl
    ·rw [h];rfl
   simp only [Tr.pv,UD,bb,ga,Am,if_false,Pu wx,Bq,im,RX,ct,US,re c1,cr];refine⟨sizes us,by rw [bR,fh];show sizes us < sizes us+1;omega,us,_,rfl,rfl,λy hy=>h1 y (by simp [hy]),?_,?_⟩
   ·rcases h2 with h | ⟨h,k⟩
    ·exact .inl h
    ·right
     rw [Cb] at h;have nx:x∉us.flatMap Tr.aG:=λz=>by
      have:=(Cq.mp h).2.2 x z x (by simp [Tr.aG]);exact this rfl
     refine⟨(Cq.mp h).1,λy hy=>?_⟩;have ky:=k y (by simp [hy]);have kx:=k x (by simp [Tr.aG]);have nyx:x≠y:=λz=>nx (z▸hy);unfold putP;rw [kx];show pI (kvs++[_]) _=false;unfold pI at ky ⊢;rw [List.any_append,ky];simp [nyx]
   ·have:(putP kvs (.inr x) (.bl true)).length<=kvs.length+1:=by
     unfold putP
     split <;> simp
    omega
  | node c d=>
   have hsz:(Tr.node c d).size=c.size+d.size+1:=rfl;have e1:se (us.map Tr.pv) [c.pv,d.pv]=.ret (us.map Tr.pv++[c.pv,d.pv]):=re (a9 (by simp;omega));have e2:(([c.pv,d.pv].length:Int)==2)=true:=rfl;simp only [Tr.pv,FT,e2,bb,ga,if_true,ay,e1,cr];have e3:sizes [c,d]=c.size+d.size:=by simp [sizes]
   refine⟨sizes (us++[c,d]),by rw [bR,bR,fh,e3];omega,us++[c,d],kvs,rfl,by simp,λy hy=>h1 y (by simpa [Tr.aG,Cb] using hy),?_,by rw [bR,e3];omega⟩;refine h2.imp id λ⟨h,k⟩=>⟨by simpa [Tr.aG,Cb] using h,λy hy=>k y (by simpa [Tr.aG,Cb] using hy)⟩
def Y1 (t:Tr) (ds:List Int) (j:Nat):Bool:=match en t 0 j with
 | .word _=>ds.getD j 0==0
 | .pair a b=>decide (ds.getD a 0 < ds.getD j 0)&&decide (ds.getD b 0 < ds.getD j 0)&&decide (1<=ds.getD j 0)&&decide (ds.getD j 0<=99)
def JL (t:Tr) (ds:List Int):List Int:=(splits t).map (ds.getD · 0)
def Rr (t:Tr) (ds:List Int):Bool:=decide (ds.length=t.size)&&(decide (JL t ds).Nodup&&(Av t.size).all (Y1 t ds))
def int_at (h:j < ds.length):cn (dC ds) (j:Int)=bd (.int (ds.getD j 0)):=bC (by
 unfold dC;rw [Ag,Ad h,Ap,Ad h];rfl)
theorem Ub (t:Tr) (ds:List Int) (h:ds.length=t.size):gr ((t.nd 0).map Ent.pv) (dC ds)=(Av t.size).map λj=>PV.tup [(en t 0 j).pv,.int (ds.getD j 0)]:=by
 refine Bg λj=>?_;by_cases hj:j < t.size
 ·have hl:j < (gr ((t.nd 0).map Ent.pv) (dC ds)).length:=by rw [lg];simp [t.br,h];exact hj
  obtain⟨x,y,hx,hy,e⟩:=mL (Ad hl);rw [Ag,e7 t 0 j hj] at hx;have uH:=Option.some.inj hx;have Pj:j < ds.length:=by omega
  unfold dC at hy;rw [Ag,Ad Pj] at hy;have Rz:=Option.some.inj hy;rw [Ad hl,e,<- uH,<- Rz,Ag,Bv hj];show _=bd (PV.tup [_,.int (ds.getD j 0)]);rw [Ap,Ad Pj];rfl
 ·rw [Ax (by rw [lg];simp [t.br,h];omega),Ax (by simp;omega)]
theorem split_le (t:Tr) (ds:List Int) (h:ds.length=t.size) (hz:t.size<=900):dW (.tup ((t.nd 0).map Ent.pv)) (.tup (dC ds))=.ret (dC (JL t ds)):=by
 unfold dW;have c:((t.nd 0).map Ent.pv).length<=sizeLine:=a9 (by rw [Af,t.br];omega);simp only [im,ay,qE,re c,Ub t ds h];rw [Gp (g:=λx=>match x with | .tup [.str _,_]=>bv | .tup [_,y]=>bd y | _=>bv) λx hx=>?_]
 ·congr 1;unfold JL splits dC;generalize Av t.size=l
  induction l with
  | nil=>rfl
  | cons j l ih=>
   rw [Aw,BD,Ce,ih];cases e:en t 0 j with
   | word w=>rfl
   | pair a b=>rfl
 ·obtain⟨j,hj,rfl⟩:=Au.mp hx;cases en t 0 j with
  | word w=>simp [Ent.pv]
  | pair a b=>simp [Ent.pv]
end My
variable {x:PL.PV}{e:My.Ent}{es:List My.Ent}{bs:List Int}
namespace My
open PySem PySem.Spec PyProof.Rows L2 PL FL
section
variable {α β:Type}
theorem Na {c:α->PV}{f:PV->W PV}{g:α->PV}:∀{l:List α},(∀x∈l,(f (c x)).le (.ret (g x)))->(mapW (l.map c) f).le (.ret (l.map g))
 | [],_=>W.le.refl _
 | x::r,h=>W.le.ret (h x (.head _)) (W.le.ret (Na λy hy=>h y (.tail _ hy)) (W.le.refl _))
theorem Tf {c:α->PV}{g:α->Option PV}:∀{l:List α},(∀x∈l,(f (c x)).le (.ret (g x)))->(kf (l.map c) f).le (.ret (l.filterMap g))
 | [],_=>W.le.refl _
 | x::r,h=>W.le.ret (h x (.head _)) (W.le.ret (Tf λy hy=>h y (.tail _ hy)) (W.le.of_eq (by rw [BD];cases g x <;> rfl)))
def fC {c:α->PV}{f:PV->W PV}{Q:List PV->Prop} (g:α->PV) {l:List α} (h:∀x∈l,(f (c x)).le (.ret (g x))) (q:Q (l.map g)):(mapW (l.map c) f).run Q:=Na h Q q
def v9 {c:α->PV}{Q:List PV->Prop} (g:α->Option PV) {l:List α} (h:∀x∈l,(f (c x)).le (.ret (g x))) (q:Q (l.filterMap g)):(kf (l.map c) f).run Q:=Tf h Q q
theorem Jd {p:α->Bool}{g:α->β}:∀l:List α,l.filterMap (λx=>if p x=true then bd (g x) else bv)=(l.filter p).map g
 | []=>rfl
 | x::l=>by
  rw [BD,Ce,Jd l];cases p x <;> rfl
end
def Oi (c:α->PV) (l:List α) (k:Nat):d6 k (l.map c)=(l.zipIdx k).map λp=>PV.tup [.int ((p.2:Nat):Int),c p.1]:=by
 induction l generalizing k with
 | nil=>rfl
 | cons a l ih=>rw [Aw,d6,ih,List.zipIdx_cons,Aw]
def vp:V->PV
 | .int i=>.int i
 | .str x=>.str x
 | .bl b=>.bl b
 | _=>.aU
def Xv (t:Tr):List PV:=(ah (t.nd 0) 0 (Al t.size V.aU)).map vp
@[simp] theorem Js (t:Tr):(Xv t).length=t.size:=by unfold Xv;rw [Af,Hv,Ba]
def Jt (t:Tr) (h:j < t.size):(Xv t)[j]?=bd (vp (j3 t 0 j .aU)):=by unfold Xv;rw [Ag,WM t h];rfl
def cv (t:Tr):((t.nd 0).map Ent.pv).length=t.size:=by rw [Af,t.br]
theorem zy (t:Tr) (hz:t.size<=900):(ft t.pv).le (.ret (.tup (Xv t))):=λQ q=>by
 unfold ft;have c:((t.nd 0).map Ent.pv).length<=sizeLine:=a9 (by rw [cv];omega);simp only [im,cr];refine W.le.use (m9 t hz) ?_;simp only [ay,ga];refine Gb (λ_=>.aU) (λx hx=>rfl) ?_;simp only [re c,ga];have e0:((t.nd 0).map Ent.pv).map (λ_=>PV.aU)=(ah ((t.nd 0).take 0) 0 (Al t.size V.aU)).map vp:=by
  rw [List.take_zero,ah,List.map_replicate,DJ,cv];rfl
 rw [e0];refine jU (λi s=>s=(ah ((t.nd 0).take i) 0 (Al t.size V.aU)).map vp) rfl (λi x s hx hs=>?_) (λs hs=>?_)
 ·subst hs;have hi:i < t.size:=by have:=(Ak.mp hx).1;rw [cI,cv] at this;exact this
  obtain⟨y,hy,rfl⟩:=gE hx;have e:=e7 t 0 i hi;rw [Ag,e] at hy;have hy:=Option.some.inj hy;subst hy;have et:(t.nd 0).take (i+1)=(t.nd 0).take i++[en t 0 i]:=by rw [E8,e];rfl
  have ea:ah ((t.nd 0).take (i+1)) 0 (Al t.size V.aU)=O4 (ah ((t.nd 0).take i) 0 (Al t.size V.aU)) (0+i) (en t 0 i):=by
   rw [et,xq,Cw,t.br];congr 1;omega
  have hal:(ah ((t.nd 0).take i) 0 (Al t.size V.aU)).length=t.size:=by rw [Hv,Ba]
  rw [ea];generalize hA:ah ((t.nd 0).take i) 0 (Al t.size V.aU)=A at hal ⊢;unfold dq;cases Ĭ:en t 0 i with
  | word w=>simp [Ent.pv,dN,O4]
  | pair a b=>
   obtain⟨ha,hb⟩:=dE t hi Ĭ;have s1:gh (A.map vp) (.int (a:Int)) (.int ((0+i:Nat):Int))=.ret ((A.map vp).set a (.int ((0+i:Nat):Int))):=jK (by rw [Af];omega);have s2:gh ((A.map vp).set a (.int ((0+i:Nat):Int))) (.int (b:Int)) (.int ((0+i:Nat):Int))=.ret (((A.map vp).set a (.int ((0+i:Nat):Int))).set b (.int ((0+i:Nat):Int))):=jK (by rw [BS,Af];omega);simp only [Ent.pv,mB,ga,fK,jV,bb,cr,Am,if_false,ay,dN,im,s1,s2];show _=FJ vp ((A.set a _).set b _);rw [EE,EE];rfl
 ·subst hs;simp only [cI,Af];rw [List.take_length];exact q
def vT (e:Ent) (j:Nat):PV:=match e with | .word x=>.str x | .pair _ _=>.int (j:Int)
def stB (t:Tr) (ds:List Int) (b:Int) (j:Nat):Bool:=decide (ds.getD j 0<=b)&&(match j3 t 0 j .aU with | .int a=>decide (b < ds.getD a.toNat 0) | _=>true)
def yb (t:Tr) (ds:List Int) (b:Int) (n j:Nat):List (Nat×Nat):=((Av j).filter (stB t ds b)).map λk=>(k,n)
def aF (t:Tr) (ds bs:List Int):Nat->List (Nat×Nat)
 | 0=>[]
 | i+1=>aF t ds bs i++yb t ds (bs.getD i 0) i t.size
def Lx (l:List (Nat×Nat)):List PV:=l.map λp=>.tup [.int (p.1:Int),.int (p.2:Int)]
def vv (t:Tr) (ds:List Int) (b:Int) (n j:Nat):(yb t ds b n j).length<=j:=by
 unfold yb;rw [Af];refine Bk (Bb _ _) ?_;rw [BQ];exact An _
theorem jJ (t:Tr) (ds bs:List Int):∀i,(aF t ds bs i).length<=i*t.size
 | 0=>A5 _
 | i+1=>by
  rw [aF,Ae];have h1:=jJ t ds bs i;have h2:=vv t ds (bs.getD i 0) i t.size;rw [Fu];omega
def L4 (t:Tr) (ds:List Int) (b:Int) (n j:Nat):yb t ds b n (j+1)=yb t ds b n j++(if stB t ds b j then [(j,n)] else []):=by
 unfold yb;rw [List.range_succ,List.filter_append,A3];congr 1;by_cases c:stB t ds b j <;> simp [c]
def rG (p:Nat×Nat):List Key:=[.inl (p.1:Int),.inl (p.2:Int)]
theorem yM {p q:Nat×Nat} (h:rG p=rG q):p=q:=by
 obtain⟨a,b⟩:=p;obtain⟨c,d⟩:=q;simp [rG] at h;obtain⟨h1,h2⟩:=h;exact Prod.ext (by show a=c;omega) (by show b=d;omega)
def mn:Nat->List (Nat×Nat)->List (List Key×PV)
 | _,[]=>[]
 | k,p::l=>(rG p,.int (k:Int))::mn (k+1) l
theorem ly:∀(k:Nat) (l:List (Nat×Nat)),(mn k l).map (·.1)=l.map rG
 | _,[]=>rfl
 | k,p::l=>by rw [mn,Aw,Aw,ly (k+1) l]
def yB (k:Nat) (l:List (Nat×Nat)):(mn k l).length=l.length:=by have:=congrArg BU (ly k l);simpa using this
theorem rg:∀(k:Nat) (l:List (Nat×Nat)) (p:Nat×Nat),p∈l->lQ (mn k l) (rG p)=bd (.int ((k+l.idxOf p:Nat):Int))
 | k,q::l,p,h=>by
  rw [List.idxOf_cons];by_cases c:q=p
  ·subst c;simp [mn,lQ]
  ·have hp:p∈l:=(Ay.mp h).elim (λz=>absurd z.symm c) id;have ih:=rg (k+1) l p hp;have c2:rG q≠rG p:=λz=>c (yM z);have c3:(q==p)=false:=by simpa using c
   have e:lQ (mn k (q::l)) (rG p)=lQ (mn (k+1) l) (rG p):=by simp [mn,lQ,c2]
   rw [e,ih,c3];congr 2;show ((k+1+l.idxOf p:Nat):Int)=((k+(l.idxOf p+1):Nat):Int);omega
def pR (e:Ent) (j:Nat) (d b:Int):List Nat:=if d < b then [j] else match e with | .word _=>[] | .pair x y=>[x,y]
def Sr (l:List (Nat×Nat)) (j n:Nat):List Nat:=(l.filter λp=>decide (p.2=n)&&!decide (p.1=j)).map λp=>l.idxOf p
def Jl (e:Ent) (l:List (Nat×Nat)) (j n:Nat) (d b:Int):PV:=.tup [vT e j,.int (n:Int),.tup (ar ((pR e j d b).map λx=>l.idxOf (x,n-1))),.tup (ar (Sr l j n))]
def IB {f:α->β} (hf:∀x y,f x=f y->x=y) {l:List α} (h:l.Nodup):(l.map f).Nodup:=List.Pairwise.map f (λa b n z=>n (hf a b z)) h
def JI (t:Tr) (ds:List Int) (b:Int) (n j:Nat):(yb t ds b n j).Nodup:=by
 exact IB (λx y h=>(Prod.mk.inj h).1) (List.Pairwise.filter _ List.nodup_range)
theorem fg:∀{i:Nat}{p:Nat×Nat},p∈aF t ds bs i->p.2 < i/\p.1 < t.size
 | 0,_,h=>by simp [aF] at h
 | i+1,p,h=>by
  rw [aF] at h;rcases AX.mp h with h | h
  ·have:=fg h;omega
  ·obtain⟨k,hk,rfl⟩:=Au.mp h;have:=AI.mp (AL.mp hk).1;exact⟨Dn _,this⟩
theorem jI (t:Tr) (ds bs:List Int):∀i,(aF t ds bs i).Nodup
 | 0=>E9
 | i+1=>by
  rw [aF];refine Cq.mpr ⟨jI t ds bs i,JI _ _ _ _ _,λa ha b hb z=>?_⟩;subst z;have h1:=(fg ha).1;obtain⟨k,_,rfl⟩:=Au.mp hb;exact A6 _ h1
def gj (h:l[k]?=bd v):IP l (.int (k:Int))=.ret v:=by
 rw [a6,bC h];rfl
def zc (ds:List Int) (h:(d6 0 (dC ds))[i]?=bd x):i < ds.length/\x=.tup [.int (i:Int),.int (ds.getD i 0)]:=by
 have hi:i < ds.length:=by have:=(Ak.mp h).1;rw [cI,gX] at this;exact this
 obtain⟨y,hy,rfl⟩:=gE h;unfold dC at hy;rw [Ag,Ad hi] at hy;have hy:=Option.some.inj hy;subst hy;refine⟨hi,?_⟩;rw [Az,Ap,Ad hi];rfl
theorem xZ (t:Tr) (ds bs:List Int) (hd:ds.length=t.size) (hz:t.size<=100) (hb:bs.length*t.size<=900) (hb2:bs.length<=900):(gN t.pv (.tup (dC ds)) (.cl (dC bs))).le (.ret (Lx (aF t ds bs bs.length))):=λQ q=>by
 unfold gN;have c1:(dC bs).length<=sizeLine:=a9 (by rw [gX];omega);have c2:(dC ds).length<=sizeLine:=a9 (by rw [gX];omega);simp only [im,cr];refine W.le.use (zy t ∅) ?_;simp only [bI,ga,re c1];refine jU (λi s=>s=Lx (aF t ds bs i)) rfl (λi x s hx hs=>?_) (λs hs=>?_)
 ·subst hs;obtain⟨hi,rfl⟩:=zc bs hx;simp only [mB,ga,cr,ay,re c2];have hl:=jJ t ds bs i;have hm:i*t.size+t.size<=900:=by
   have:(i+1)*t.size<=bs.length*t.size:=Nat.mul_le_mul_right _ hi;rw [Fu] at this;omega
  refine jU (λj s=>s=Lx (aF t ds bs i++yb t ds (bs.getD i 0) i j)) (by simp [yb]) (λj x s hx hs=>?_) (λs hs=>?_)
  ·subst hs;obtain⟨hj,rfl⟩:=zc ds hx;have Kk:=vv t ds (bs.getD i 0) i j;simp only [mB,ga,cr];rw [L4];have IZ:j < t.size:=by omega
   have ā:stB t ds (bs.getD i 0) j=true->(hX (Lx (aF t ds bs i++yb t ds (bs.getD i 0) i j)) (PV.tup [.int (j:Int),.int (i:Int)])).run λs=>s=Lx (aF t ds bs i++(yb t ds (bs.getD i 0) i j++if stB t ds (bs.getD i 0) j=true then [(j,i)] else [])):=λc=>by
    rw [fy (by unfold Lx;rw [Af,Ae];omega),if_pos c];unfold Lx;rw [<- A9,A3 (l₂:=[(j,i)])];rfl
   have no:stB t ds (bs.getD i 0) j=false->Lx (aF t ds bs i++yb t ds (bs.getD i 0) i j)=Lx (aF t ds bs i++(yb t ds (bs.getD i 0) i j++if stB t ds (bs.getD i 0) j=true then [(j,i)] else [])):=λc=>by rw [c];simp
   generalize eb:bs.getD i 0=b at ā no ⊢;generalize ed:ds.getD j 0=d at *;simp only [im,cr,Od,ga,bp,ay,gj (Jt t IZ)];by_cases c:d<=b
   ·simp only [c,decide_true,if_true,cr,ga];rcases mj t 0 j .aU [] IZ with⟨_,e,_⟩ | ⟨a,_,ha,e,_⟩
    ·have sb:stB t ds b j=true:=by unfold stB;rw [e,ed];simp [c]
     rw [e];simp only [vp,oM,ga,bp,PV.lT,if_true];exact ā sb
    ·rw [Az] at e;have sb:stB t ds b j=decide (b < ds.getD a 0):=by unfold stB;rw [e,ed];simp [c]
     rw [e];have i2:cn (dC ds) (a:Int)=bd (.int (ds.getD a 0)):=int_at ∅;simp only [vp,oM,ga,bp,PV.lT,Am,if_false,a6,i2,sB,za,im];by_cases c2:b < ds.getD a 0
     ·rw [decide_eq_true c2] at sb ⊢;exact ā sb
     ·rw [decide_eq_false c2] at sb ⊢;exact no sb
   ·have sb:stB t ds b j=false:=by unfold stB;rw [ed];simp [c]
    simp only [c,decide_false,Am,if_false,ga];exact no sb
  ·subst hs;rw [cI,gX,hd];rfl
 ·subst hs;rw [cI,gX];exact q
def QZ {l:List (Nat×Nat)} (h:l≠[]) (k:Nat):mn k l≠[]:=by cases l with | nil=>exact absurd rfl h | cons a l=>simp [mn]
def F1 (k:Nat) (l:List (Nat×Nat)):((mn k l).map λkv=>PV.tup (kv.1.map kP))=l.map λp=>PV.tup [.int (p.1:Int),.int (p.2:Int)]:=by
 have:=congrArg (FJ λx:List Key=>PV.tup (x.map kP)) (ly k l);rw [AN,AN] at this;exact this
theorem P6 {l:List (Nat×Nat)} (h1:es[j]?=bd e) (h2:j < ds.length) (h3:n < bs.length) (hl:l.length<=1000) (h0:l≠[])
  (hb:∀x∈pR e j (ds.getD j 0) (bs.getD n 0),1<=n/\(x,n-1)∈l) :
  (jh (.tup (es.map Ent.pv)) (.tup (dC ds)) (.cl (dC bs)) (Pm (mn 0 l)) (.tup [.int (j:Int),.int (n:Int)])).le (.ret (Jl e l j n (ds.getD j 0) (bs.getD n 0))):=λQ q=>by
 unfold jh;have i0:cn [PV.int (j:Int),PV.int (n:Int)] 0=bd (.int j):=rfl;have i1:cn [PV.int (j:Int),PV.int (n:Int)] 1=bd (.int n):=rfl;have i2:cn (dC ds) (j:Int)=bd (.int (ds.getD j 0)):=int_at h2;have i3:cn (dC bs) (n:Int)=bd (.int (bs.getD n 0)):=int_at h3;have i4:cn (es.map Ent.pv) (j:Int)=bd e.pv:=bC (by rw [Ag,h1];rfl);simp only [im,cr,ay,bI,a6,i0,i1,i2,i3,i4,sB,ga,za,bb];generalize hdj:ds.getD j 0=d at *;generalize hbn:bs.getD n 0=b at *;have below:∀{R:PV->Prop},R (.tup (ar (pR e j d b)))->(if decide (d < b)=true then bm (PV.tup [PV.int (j:Int)]) else dq e.pv).run R:=λ{R} r=>by
  unfold pR at r;unfold dq;by_cases c:d < b
  ·rw [if_pos c] at r;simpa [c] using r
  ·cases e with
   | word w=>simpa [c,Ent.pv] using r
   | pair a b=>simpa [c,Ent.pv] using r
 refine below ?_;refine fC (λx=>.int ((l.idxOf (x,n-1):Nat):Int)) (λk hk=>?_) ?_
 ·obtain⟨g1,g2⟩:=hb k hk;intro R r;have en1:(n:Int)-1=((n-1:Nat):Int):=by omega
  simp only [dgB,im,cr,oK,ga,en1];rw [show PV.tup [.int (k:Int),.int ((n-1:Nat):Int)]=.tup ((rG (k,n-1)).map kP) from rfl];refine Jn (rg 0 l (k,n-1) g2) ?_;rw [Az];exact r
 simp only [cr,sf,ga];refine J7 (QZ h0 0) (by rw [yB];exact hl) ?_;rw [F1];refine v9 (λp=>if (decide (p.2=n)&&!decide (p.1=j))=true then bd (.int ((l.idxOf p:Nat):Int)) else bv) (λp hp=>?_) ?_
 ·intro R r;obtain⟨u,v⟩:=p;have j0:cn [PV.int (u:Int),PV.int (v:Int)] 0=bd (.int u):=rfl;have j1:cn [PV.int (u:Int),PV.int (v:Int)] 1=bd (.int v):=rfl;simp only [dgB,im,cr,ay,a6,j0,j1,sB,ga,c8,wN,bp];have get:∀{R:PV->Prop},R (.int ((l.idxOf (u,v):Nat):Int))->(dgW (Pm (mn 0 l)) (PV.tup [.int (u:Int),.int (v:Int)])).run R:=λ{R} r=>by
   refine Jn (rg 0 l (u,v) hp) ?_;rw [Az];exact r
  by_cases c1:v=n
  ·subst c1;by_cases c2:u=j
   ·subst c2;simp only [beq_self_eq_true,Bq,if_true,ga,Am,if_false];simpa using r
   ·have c3:((u:Int)==(j:Int))=false:=by simp;omega
    simp only [beq_self_eq_true,c3,Dg,if_true,ga,cr];refine get ?_;simpa [c2] using r
  ·have c3:((v:Int)==(n:Int))=false:=by simp;omega
   simp only [c3,Am,if_false,ga];simpa [c1] using r
 rw [Jd];have nm:∀{R:PV->Prop},R (vT e j)->(eG (.tup (es.map Ent.pv)) (.int (j:Int))).run R:=λ{R} r=>by
  unfold eG;simp only [im,cr,ay,a6,i4,sB,ga];cases e with
  | word w=>simpa [Ent.pv,vT] using r
  | pair a b=>simpa [Ent.pv,vT] using r
 refine nm ?_;have e1:(l.filter λp=>decide (p.2=n)&&!decide (p.1=j)).map (λp=>PV.int ((l.idxOf p:Nat):Int))=ar (Sr l j n):=by
  unfold ar Sr;rw [AN];rfl
 have e2:(pR e j d b).map (λx=>PV.int ((l.idxOf (x,n-1):Nat):Int))=ar ((pR e j d b).map λx=>l.idxOf (x,n-1)):=by
  unfold ar;rw [AN];rfl
 rw [e1,e2];exact q
def Xq (t:Tr) (ds bs:List Int):List PV:=(aF t ds bs bs.length).map λp=>Jl (en t 0 p.1) (aF t ds bs bs.length) p.1 p.2 (ds.getD p.1 0) (bs.getD p.2 0)
def okD (t:Tr) (ds bs:List Int):Prop:=∀p∈aF t ds bs bs.length,∀x∈pR (en t 0 p.1) p.1 (ds.getD p.1 0) (bs.getD p.2 0),1<=p.2/\(x,p.2-1)∈aF t ds bs bs.length
theorem rh:∀(k:Nat) (l:List (Nat×Nat)),(l.zipIdx k).map (λp=>PV.tup [PV.tup [.int (p.1.1:Int),.int (p.1.2:Int)],.int ((p.2:Nat):Int)])=(mn k l).map Iq
 | _,[]=>rfl
 | k,p::l=>by rw [List.zipIdx_cons,Aw,rh (k+1) l];rfl
def aH (t:Tr) (ds:List Int):List Int:=0::sortI (JL t ds)
def Ig (t:Tr) (ds:List Int):(JL t ds).length<=t.size:=by
 unfold JL splits;rw [Af];have:=Bb (λj=>tJ (en t 0 j)) (Av t.size);rw [BQ] at this;exact this
def uv {x:Int}{l:List Int}:x∈sortI l↔x∈l:=(CS l _).mem_iff
def n8 (l:List Int):(sortI l).length=l.length:=(CS l _).length_eq
theorem OH (t:Tr) (ds:List Int) (hd:ds.length=t.size) (hz:t.size<=25) (h0:aF t ds (aH t ds) (aH t ds).length≠[]) (ok:okD t ds (aH t ds)):(lB t.pv (.tup (dC ds))).le (.ret (.tup (Xq t ds (aH t ds)))):=λQ q=>by
 unfold lB;simp only [im,cr];refine W.le.use (m9 t ∅) ?_;have hs:=Ig t ds;have hl:(aH t ds).length<=t.size+1:=by unfold aH;rw [Ao,n8];omega
 have e2:vB (dC (JL t ds))=.ret (dC (sortI (JL t ds))):=by
  unfold vB dC;rw [lH];show W.fM _ _=_;rw [re ∅]
 have e3:xg [PV.int 0] (dC (sortI (JL t ds)))=.ret (dC (aH t ds)):=by
  rw [oS (by rw [gX,n8];simp;omega)];rfl
 simp only [split_le t ds hd ∅,ga,e2,e3];have hb:(aH t ds).length*t.size<=900:=by
  have:(aH t ds).length*t.size<=26*25:=Nat.mul_le_mul ∅ hz;omega
 refine W.le.use (xZ t ds (aH t ds) hd ∅ hb ∅) ?_;generalize hL:aF t ds (aH t ds) (aH t ds).length=L at *;have hLl:L.length<=900:=by rw [<- hL];exact Bk (jJ _ _ _ _) hb
 have hLm:∀p∈L,p.2 < (aH t ds).length/\p.1 < t.size:=λp hp=>fg (hL▸hp);have c:(Lx L).length<=sizeLine:=a9 (by unfold Lx;rw [Af];omega);simp only [bI,ga,re c,im];unfold Lx;rw [Oi];refine fC (λp:(Nat×Nat)×Nat=>PV.tup [PV.tup [.int (p.1.1:Int),.int (p.1.2:Int)],.int ((p.2:Nat):Int)]) (λp _ R r=>by simpa using r) ?_;rw [rh];refine KW ?_ (by rw [yB];omega) ?_
 ·rw [ly];exact IB (λ_ _ h=>yM h) (hL▸jI t ds _ _)
 refine fC (λp:Nat×Nat=>Jl (en t 0 p.1) L p.1 p.2 (ds.getD p.1 0) ((aH t ds).getD p.2 0)) (λp hp=>?_) ?_
 ·obtain⟨g1,g2⟩:=hLm p hp;refine P6 (e7 t 0 p.1 g2) ∅ g1 ∅ h0 λx hx=>?_;have:=ok p (by rw [hL];exact hp) x hx;rw [hL] at this;exact this
 ·have:Xq t ds (aH t ds)=L.map λp:Nat×Nat=>Jl (en t 0 p.1) L p.1 p.2 (ds.getD p.1 0) ((aH t ds).getD p.2 0):=by unfold Xq;rw [hL]
  rw [<- this];exact q
end My
variable {l:List Int}
namespace My
open PySem PySem.Spec PyProof.Rows L2 PL FL
theorem hE:∀(t:Tr) (o x:Nat) (p:V),x < t.size->(x=t.size-1/\j3 t o x p=p)\/∃a u v,x < a/\a < t.size/\j3 t o x p=.int ((o+a:Nat):Int)/\en t o a=.pair u v/\(u=o+x\/v=o+x)
 | .leaf _,o,x,p,h=>.inl ⟨by have:x < 1:=h;show x=0;omega,rfl⟩
 | .node l r,o,x,p,h=>by
  have es:(Tr.node l r).size=l.size+r.size+1:=rfl;have top:en (.node l r) o (l.size+r.size)=.pair (o+l.size-1) (o+l.size+r.size-1):=by rw [en,if_neg ∅,if_neg ∅]
  by_cases c1:x < l.size
  ·rw [show j3 (.node l r) o x p=j3 l o x (.int (o+l.size+r.size:Nat)) by rw [j3,if_pos c1]];rcases hE l o x (.int (o+l.size+r.size:Nat)) c1 with⟨h1,h2⟩ | ⟨a,u,v,h1,h2,h3,h4,h5⟩
   ·exact .inr ⟨l.size+r.size,_,_,by omega,by omega,by rw [h2,A7],top,.inl ∅⟩
   ·exact .inr ⟨a,u,v,h1,by omega,h3,by rw [en,if_pos h2];exact h4,h5⟩
  ·by_cases c2:x < l.size+r.size
   ·rw [show j3 (.node l r) o x p=j3 r (o+l.size) (x-l.size) (.int (o+l.size+r.size:Nat)) by rw [j3,if_neg c1,if_pos c2]];rcases hE r (o+l.size) (x-l.size) (.int (o+l.size+r.size:Nat)) ∅ with⟨h1,h2⟩ | ⟨a,u,v,h1,h2,h3,h4,h5⟩
    ·exact .inr ⟨l.size+r.size,_,_,by omega,by omega,by rw [h2,A7],top,.inr ∅⟩
    ·refine .inr ⟨l.size+a,u,v,by omega,by omega,by rw [h3,A7],?_,by omega⟩;rw [en,if_neg ∅,if_pos ∅,B4];exact h4
   ·exact .inl ⟨by omega,by rw [j3,if_neg c1,if_neg c2]⟩
theorem kZ:∀(t:Tr) (o j:Nat) (p:V) (a b:Nat),j < t.size->en t o j=.pair a b->o<=a/\o<=b/\a < o+j/\b < o+j/\a < b/\j3 t o (a-o) p=.int ((o+j:Nat):Int)/\j3 t o (b-o) p=.int ((o+j:Nat):Int)
 | .leaf _,o,j,p,a,b,h,e=>by rw [en] at e;cases e
 | .node l r,o,j,p,a,b,h,e=>by
  have es:(Tr.node l r).size=l.size+r.size+1:=rfl;have lp:=l.size_pos;have rp:=r.size_pos;by_cases c1:j < l.size
  ·rw [en,if_pos c1] at e;obtain⟨h1,h2,h3,h4,h5,h6,h7⟩:=kZ l o j (.int (o+l.size+r.size:Nat)) a b c1 e;refine⟨h1,h2,h3,h4,h5,?_,?_⟩
   ·rw [j3,if_pos ∅];exact h6
   ·rw [j3,if_pos ∅];exact h7
  ·by_cases c2:j < l.size+r.size
   ·rw [en,if_neg c1,if_pos c2] at e;obtain⟨h1,h2,h3,h4,h5,h6,h7⟩:=kZ r (o+l.size) (j-l.size) (.int (o+l.size+r.size:Nat)) a b ∅ e;refine⟨by omega,by omega,by omega,by omega,h5,?_,?_⟩
    ·rw [j3,if_neg ∅,if_pos ∅,E6,h6,show o+l.size+(j-l.size)=o+j by omega]
    ·rw [j3,if_neg ∅,if_pos ∅,E6,h7,show o+l.size+(j-l.size)=o+j by omega]
   ·rw [en,if_neg c1,if_neg c2] at e;injection e with e1 e2;subst e1;subst e2;have hj:j=l.size+r.size:=by omega
    subst hj;have â:∀(t:Tr) (o:Nat) (p:V),j3 t o (t.size-1) p=p:=λt o p=>by
     have tp:=t.size_pos;rcases hE t o (t.size-1) p ∅ with⟨_,h⟩ | ⟨a,_,_,h1,h2,_⟩
     ·exact h
     ·omega
    refine⟨by omega,by omega,by omega,by omega,by omega,?_,?_⟩
    ·rw [j3,if_pos ∅,show o+l.size-1-o=l.size-1 by omega,â,A7]
    ·rw [j3,if_neg ∅,if_pos ∅,show o+l.size+r.size-1-o-l.size=r.size-1 by omega,â,A7]
structure DD (t:Tr) (ds:List Int):Prop where
 len:ds.length=t.size
 leaf:∀j w,j < t.size->en t 0 j=.word w->ds.getD j 0=0
 pair:∀j a b,j < t.size->en t 0 j=.pair a b->ds.getD a 0 < ds.getD j 0/\ds.getD b 0 < ds.getD j 0/\1<=ds.getD j 0
 nd:(JL t ds).Nodup
def DD.of (h:Rr t ds=true):DD t ds:=by
 unfold Rr at h;rw [AO,AO,decide_eq_true_iff,decide_eq_true_iff] at h;obtain⟨h1,h2,h3⟩:=h;have h4:∀j,j < t.size->Y1 t ds j=true:=λj hj=>Cy.mp h3 j (AI.mpr hj);refine⟨h1,λj w hj e=>?_,λj a b hj e=>?_,h2⟩
 ·have:=h4 j hj;unfold Y1 at this;rw [e] at this;exact eq_of_beq this
 ·have:=h4 j hj;unfold Y1 at this;rw [e] at this;rw [AO,AO,AO,decide_eq_true_iff,decide_eq_true_iff,decide_eq_true_iff,decide_eq_true_iff] at this;exact⟨this.1.1.1,this.1.1.2,this.1.2⟩
def DD.mem (D:DD t ds) (hj:j < t.size):ds.getD j 0∈aH t ds:=by
 cases e:en t 0 j with
 | word w=>rw [D.leaf j w hj e];exact .head _
 | pair a b=>
  refine AV _ (uv.mpr ?_);exact Au.mpr ⟨j,AL.mpr ⟨AI.mpr hj,by rw [e];rfl⟩,rfl⟩
theorem L6 (l:List Int):(sortI l).Pairwise (·<=·):=(Es (le:=λa b=>decide (a<=b)) (λa b c=>by simp;omega) (λa b=>by simp;omega) l).imp (by simp)
theorem DD.inc (D:DD t ds):(aH t ds).Pairwise (· < ·):=by
 unfold aH;refine D6.mpr ⟨λx hx=>?_,?_⟩
 ·have hx:=uv.mp hx;unfold JL splits at hx;obtain⟨j,hj,rfl⟩:=Au.mp hx;obtain⟨h1,h2⟩:=AL.mp hj;cases e:en t 0 j with
  | word w=>rw [e] at h2;cases h2
  | pair a b=>have:=(D.pair j a b (AI.mp h1) e).2.2;omega
 ·have nd:(sortI (JL t ds)).Nodup:=(CS _ _).nodup_iff.mpr D.nd;exact (List.Pairwise.and (L6 _) nd).imp λ⟨h1,h2⟩=>Int.lt_iff_le_and_ne.mpr ⟨h1,h2⟩
theorem rK (h:l.Pairwise (· < ·)) (hn:n < l.length) {x:Int} (hx:x∈l) (lt:x < l.getD n 0):1<=n/\x<=l.getD (n-1) 0:=by
 obtain⟨i,hi,rfl⟩:=DM hx;have gd:∀{k} (hk:k < l.length),l.getD k 0=l[k]:=λ{k} hk=>by rw [Ap,Ad hk];rfl
 rw [gd hn] at lt;have c:i < n:=by
  rcases Dc i n with c | c
  ·exact c
  ·rcases D5 c with c | c
   ·subst c;omega
   ·have:=BV.mp h _ _ hn hi c;omega
 refine⟨by omega,?_⟩;rw [gd ∅];rcases D5 (show i<=n-1 by omega) with c2 | c2
 ·subst c2;exact CN _
 ·have:=BV.mp h _ _ hi ∅ c2;omega
theorem wy (h:l.Pairwise (· < ·)) (hn:n < l.length) (hi:i < n):l.getD i 0 < l.getD n 0:=by
 have gd:∀{k} (hk:k < l.length),l.getD k 0=l[k]:=λ{k} hk=>by rw [Ap,Ad hk];rfl
 rw [gd hn,gd ∅];exact BV.mp h _ _ ∅ hn hi
theorem bW {t:Tr}{ds bs:List Int}:∀{m:Nat}{j n:Nat},(j,n)∈aF t ds bs m↔n < m/\j < t.size/\stB t ds (bs.getD n 0) j=true
 | 0,j,n=>by simp [aF]
 | m+1,j,n=>by
  rw [aF,AX,bW];unfold yb;rw [Au]
  constructor
  ·rintro (⟨h1,h2,h3⟩ | ⟨k,hk,e⟩)
   ·exact⟨by omega,h2,h3⟩
   ·obtain⟨h1,h2⟩:=AL.mp hk;injection e with e1 e2;subst e1;subst e2;exact⟨by omega,AI.mp h1,h2⟩
  ·rintro⟨h1,h2,h3⟩;by_cases c:n=m
   ·subst c;exact .inr ⟨j,AL.mpr ⟨AI.mpr h2,h3⟩,rfl⟩
   ·exact .inl ⟨by omega,h2,h3⟩
theorem eN {b:Int} (hj:j < t.size):stB t ds b j=true↔ds.getD j 0<=b/\∀a,j3 t 0 j .aU=.int ((a:Nat):Int)->b < ds.getD a 0:=by
 unfold stB;rw [AO,decide_eq_true_iff];rcases hE t 0 j .aU hj with⟨_,e⟩ | ⟨a,u,v,_,ha,e,_,_⟩
 ·rw [e];exact⟨λh=>⟨h.1,λa z=>by cases z⟩,λh=>⟨h.1,rfl⟩⟩
 ·rw [Az] at e;rw [e];refine⟨λh=>⟨h.1,λa' z=>?_⟩,λh=>⟨h.1,?_⟩⟩
  ·injection z with z;have:a=a':=by omega
   subst this;simpa using h.2
  ·simpa using h.2 a rfl
theorem DD.ok (D:DD t ds):okD t ds (aH t ds):=by
 rintro⟨j,n⟩ hp x hx;obtain⟨hn,hj,hs⟩:=bW.mp hp;obtain⟨zL,qo⟩:=(eN hj).mp hs;have inc:=D.inc;show 1<=n/\(x,n-1)∈_;unfold pR at hx;by_cases c:ds.getD j 0 < (aH t ds).getD n 0
 ·rw [if_pos c] at hx;have:x=j:=by simpa using hx
  subst this;obtain⟨g1,g2⟩:=rK inc hn (D.mem hj) c;have lt:=wy inc hn (show n-1 < n by omega);exact⟨g1,bW.mpr ⟨by omega,hj,(eN hj).mpr ⟨g2,λa e=>by have:=qo a e;omega⟩⟩⟩
 ·rw [if_neg c] at hx;cases e:en t 0 j with
  | word w=>rw [e] at hx;cases hx
  | pair a b=>
   rw [e] at hx;obtain⟨p1,p2,p3⟩:=D.pair j a b hj e;obtain⟨_,_,a1,a2,_,a3,a4⟩:=kZ t 0 j .aU a b hj e;rw [Az,DS] at *;have hx:x=a\/x=b:=by simpa using hx
   have key:x < t.size/\ds.getD x 0 < ds.getD j 0/\j3 t 0 x .aU=.int ((j:Nat):Int):=by
    rcases hx with rfl | rfl
    ·exact⟨by omega,p1,a3⟩
    ·exact⟨by omega,p2,a4⟩
   obtain⟨k1,k2,k3⟩:=key;obtain⟨g1,g2⟩:=rK inc hn (D.mem k1) ∅;have lt:=wy inc hn (show n-1 < n by omega);refine⟨g1,bW.mpr ⟨by omega,k1,(eN k1).mpr ⟨g2,λa' e'=>?_⟩⟩⟩;rw [k3] at e';injection e' with e';have:j=a':=by omega
   subst this;omega
theorem wU:∀(t:Tr) (o:Nat),∃w,en t o 0=.word w
 | .leaf w,o=>⟨w,rfl⟩
 | .node l r,o=>by rw [en,if_pos (show 0 < l.size from l.size_pos)];exact wU l o
theorem DD.ne (D:DD t ds):aF t ds (aH t ds) (aH t ds).length≠[]:=by
 intro z;have:(0,0)∈aF t ds (aH t ds) (aH t ds).length:=by
  obtain⟨w,e⟩:=wU t 0;refine bW.mpr ⟨by simp [aH],t.size_pos,(eN t.size_pos).mpr ⟨?_,λa ea=>?_⟩⟩
  ·rw [D.leaf 0 w t.size_pos e];exact CN _
  ·rcases hE t 0 0 .aU t.size_pos with⟨_,e⟩ | ⟨a',u,v,_,ha,e,ep,_⟩
   ·rw [e] at ea;cases ea
   ·rw [e,Az] at ea;injection ea with ea;have:a'=a:=by omega
    subst this;have:=(D.pair a' u v ha ep).2.2;show (0:Int) < _;omega
 rw [z] at this;cases this
def OG (D:DD t ds) (hz:t.size<=25):(lB t.pv (.tup (dC ds))).le (.ret (.tup (Xq t ds (aH t ds)))):=OH t ds D.len hz D.ne D.ok
def Uj (t:Tr):List PV:=(Av t.size).map λj=>.tup (ar (up t 0 j []))
@[simp] theorem PF (t:Tr):(Uj t).length=t.size:=by unfold Uj;simp
def HQ (t:Tr) (h:j < t.size):(Uj t)[j]?=bd (.tup (ar (up t 0 j []))):=by unfold Uj;simp [h]
theorem Ui (t:Tr):∀(k j:Nat),j+k+1=t.size->(up t 0 j []).length<=k+1:=λk=>by
 induction k using CW with
 | ind k ih=>
  intro j hj;rcases mj t 0 j .aU [] ∅ with⟨q1,q2,q3⟩ | ⟨a,q1,q2,q3,q4⟩
  ·rw [q3];show 1<=k+1;omega
  ·rw [q4,Ao];have:=ih (t.size-a-1) ∅ a ∅;omega
theorem XY (t:Tr) (h:j < t.size):(up t 0 j []).length<=t.size:=by
 have:=Ui t (t.size-j-1) j ∅;omega
def zS (t:Tr) (i:Nat):List PV:=(Av t.size).map λj=>if j+i < t.size then .tup [] else .tup (ar (up t 0 j []))
def pV (t:Tr) (i:Nat):(zS t i).length=t.size:=by unfold zS;simp
def HP (t:Tr) (i:Nat) (h:j < t.size) (c:¬j+i < t.size):(zS t i)[j]?=bd (.tup (ar (up t 0 j []))):=by unfold zS;simp [h,c]
theorem Py (t:Tr) (i j:Nat) (h:j+i+1=t.size):(zS t i).set j (.tup (ar (up t 0 j [])))=zS t (i+1):=by
 apply Bg;intro k;by_cases hk:k < t.size
 ·by_cases e:j=k
  ·subst e;rw [Bt (by rw [pV];exact hk),HP t (i+1) hk ∅]
  ·rw [A8 e];unfold zS;simp only [Ag,Bv hk,Ck];by_cases c:k+i < t.size
   ·rw [if_pos c,if_pos ∅]
   ·rw [if_neg c,if_neg ∅]
 ·rw [Ax (by rw [BS,pV];omega),Ax (by rw [pV];omega)]
def XZ (t:Tr):zS t 0=Al t.size (.tup []):=by
 apply Bg;intro k;unfold zS;by_cases hk:k < t.size
 ·simp [hk]
 ·simp [hk]
theorem PB (t:Tr):zS t t.size=Uj t:=by
 apply B9;intro j _;rw [if_neg ∅]
theorem Ng (t:Tr) (hz:t.size<=900):(gQ t.pv).le (.ret (Uj t)):=λQ q=>by
 unfold gQ;simp only [im,cr];refine W.le.use (zy t hz) ?_;simp only [ay,ga];refine Gb (λ_=>.tup []) (λx hx=>rfl) ?_;have e0:(Xv t).map (λ_=>PV.tup [])=zS t 0:=by rw [DJ,Js,XZ]
 have en:(((t.size:Nat):Int)-1 - -1).toNat=t.size:=by omega
 rw [e0];simp only [ck,Js,im,oK,ga,iU,Jf,en];refine⟨⟨trivial,cu ∅ ∅⟩,?_⟩;show (dN _ _ _).run _;refine jU (λi s=>s=zS t i) rfl (λi x s hx hs=>?_) (λs hs=>?_)
 ·subst hs;obtain⟨hi,rfl⟩:=oQ hx;obtain⟨j,hj⟩:∃j:Nat,j=t.size-1-i:=⟨_,rfl⟩;have ej:(((t.size:Nat):Int)-1-(i:Int))=(j:Int):=by omega
  rw [ej];have IZ:j < t.size:=by omega
  have fin:∀l:List PV,l.length<=900->.int (j:Int)::l=ar (up t 0 j [])->(am (addW (.tup [.int (j:Int)]) (.tup l)) λx=>gh (zS t i) (.int (j:Int)) x).run λs=>s=zS t (i+1):=λl hl he=>by
   rw [R3,re (a9 (by simp;omega))];show (gh _ _ (.tup (.int (j:Int)::l))).run _;rw [he,jK (by rw [pV];exact IZ),Py t i j ∅];rfl
  simp only [im,cr,gj (Jt t IZ),ga];rcases mj t 0 j .aU [] IZ with⟨_,e,e2⟩ | ⟨a,ha1,ha,e,e2⟩
  ·rw [e];simp only [vp,oM,PV.lT,bp,ga,if_true];have:=fin [] (by simp) (by rw [e2,Az];rfl);simpa using this
  ·rw [Az] at e;rw [e];have i2:IP (zS t i) (.int (a:Int))=.ret (.tup (ar (up t 0 a []))):=gj (HP t i ha ∅);simp only [vp,oM,PV.lT,bp,ga,Am,if_false,i2,im];have ua:=XY t ha;have:=fin (ar (up t 0 a [])) (by rw [bE];omega) (by rw [e2];simp);simpa using this
 ·subst hs;have el:(lY (((t.size:Nat):Int)-1) t.size).length=t.size:=by unfold lY;simp
  rw [el,PB];exact q
def Xu (t:Tr) (j:Nat):List Nat:=(Av t.size).filter λk=>!decide (k∈up t 0 j [])&&!decide (j∈up t 0 k [])
theorem O1 (t:Tr) (hz:t.size<=900) (hj:j < t.size):(eQ (.cl (Uj t)) (.int (j:Int))).le (.ret (.tup (ar (Xu t j)))):=λQ q=>by
 unfold eQ;simp only [im,cr,iw,PF,fJ,re (cu (i:=0) (j:=(t.size:Int)) ∅ ∅),ga,AZ,oD];refine rC (λk=>!decide (k∈up t 0 j [])&&!decide (j∈up t 0 k [])) (λk hk=>?_) q;have hk:=AI.mp hk;simp only [im,bI,gj (HQ t hj),gj (HQ t hk),ay,Gx,if_true];by_cases c1:k∈up t 0 j []
 ·simp [c1]
 ·by_cases c2:j∈up t 0 k []
  ·simp [c1,c2]
  ·simp [c1,c2]
def GB:Ent->List Nat
 | .word _=>[]
 | .pair a b=>[a,b]
def uJ (e:Ent):dq e.pv=.ret (.tup (ar (GB e))):=by
 unfold dq;cases e with
 | word w=>simp [Ent.pv,GB]
 | pair a b=>simp [Ent.pv,GB]
def Q1 (h:es[j]?=bd e):eG (.tup (es.map Ent.pv)) (.int (j:Int))=.ret (vT e j):=by
 have i1:IP (es.map Ent.pv) (.int (j:Int))=.ret e.pv:=gj (by rw [Ag,h];rfl);unfold eG;cases e with
 | word w=>simp only [im,ay,i1];rfl
 | pair a b=>simp only [im,ay,i1];rfl
def grS (t:Tr) (j:Nat):PV:=.tup [vT (en t 0 j) j,.int 0,.tup (ar (GB (en t 0 j))),.tup (ar (Xu t j))]
def grL (t:Tr):List PV:=(Av t.size).map (grS t)
theorem Ko (t:Tr) (hz:t.size<=900):(kQ t.pv).le (.ret (.tup (grL t))):=λQ q=>by
 unfold kQ;simp only [im,cr];refine W.le.use (m9 t hz) ?_;refine W.le.use (Ng t hz) ?_;simp only [ck,cv,ga,fJ,re (cu (i:=0) (j:=(t.size:Int)) ∅ ∅),AZ,oD];unfold ar;refine fC (grS t) (λj hj R r=>?_) q;have hj:=AI.mp hj;have i1:IP ((t.nd 0).map Ent.pv) (.int (j:Int))=.ret (en t 0 j).pv:=gj (by rw [Ag,e7 t 0 j hj];rfl);simp only [Q1 (e7 t 0 j hj),im,ay,i1,uJ,cr,ga];exact W.le.use (O1 t hz hj) r
end My
variable {F:List (List Bool)}
namespace My
open PySem PySem.Spec PyProof.Rows L2 PL FL
structure Sy where
 nm:PV
 lv:Nat
 un:List Nat
 be:List Nat
def Sy.pv (s:Sy):PV:=.tup [s.nm,.int (s.lv:Int),.tup (ar s.un),.tup (ar s.be)]
def iY (g:List Sy):PV:=.tup (g.map Sy.pv)
def sy (g:List Sy) (i:Nat):Sy:=g.getD i ⟨.aU,0,[],[]⟩
def LZ {g:List Sy} (h:i < g.length):g[i]?=bd (sy g i):=by
 unfold sy;rw [Ap,Ad h];rfl
def Kt {g:List Sy} (h:i < g.length):IP (g.map Sy.pv) (.int (i:Int))=.ret (sy g i).pv:=gj (by rw [Ag,LZ h];rfl)
def Gu (w:Str):PV->Bool
 | .str s=>s==w
 | _=>false
def hm (g:List Sy) (i:Nat) (w:Str):Bool:=(sy g i).un.isEmpty&&Gu w (sy g i).nm
inductive Pa (g:List Sy):Nat->Nat->Prop
 | refl (i:Nat):Pa g i i
 | step {i u j:Nat}:u∈(sy g i).un->Pa g u j->Pa g i j
structure WG (g:List Sy) (ws:List Str):Prop where
 pos:0 < g.length
 len:g.length<=300
 dn:∀i,i < g.length->∀u∈(sy g i).un,u < i
 pw:∀i,i < g.length->(sy g i).un.length<=2
 be:∀i,i < g.length->∀u∈(sy g i).be,u < g.length
 Ss:∀i,i < g.length->(sy g i).be.length<=30
 nm:∀i,i < g.length->(∃s,(sy g i).nm=.str s)\/∃n,(sy g i).nm=.int n
 ade:∀w∈ws,∃i,i < g.length/\Pa g (g.length-1) i/\hm g i w=true
def mQ {g:List Sy} (h:i < g.length):cS (iY g) (.int (i:Int))=.ret (.tup (ar (sy g i).un)):=by
 unfold cS iY;simp only [im,ay,Kt h];rfl
def Ld {g:List Sy} (h:i < g.length):fX (iY g) (.int (i:Int))=.ret (.tup (ar (sy g i).be)):=by
 unfold fX iY;simp only [im,ay,Kt h];rfl
theorem eq_nil (l:List Nat) (h:l.length<=1000):of2 dU (.tup (ar l)) (.tup [])=.ret (.bl l.isEmpty):=by
 have fk:f7 (ar l)=true:=gZ.mpr λx hx=>by
  obtain⟨n,_,rfl⟩:=Au.mp hx;simp
 have fd:eK (ar l)<=1:=g8 λx hx=>by
  obtain⟨n,_,rfl⟩:=Au.mp hx;simp
 rw [sh,re ⟨by simp [fk],by simp,by simp;omega⟩];cases l with
 | nil=>simp
 | cons a l=>simp [gw]
def TV (h:(∃s,x=.str s)\/∃n,x=.int n) (w:Str):of2 dU x (.str w)=.ret (.bl (Gu w x)):=by
 rcases h with⟨s,rfl⟩ | ⟨n,rfl⟩
 ·rw [sh,re ⟨by simp,by simp,by simp⟩,N4];rfl
 ·rw [sh,re ⟨by simp,by simp,by simp⟩];simp [iR,Gu]
theorem RE {g:List Sy} (G:WG g ws) (h:i < g.length) (w:Str):jq (iY g) (.int (i:Int)) (.str w)=.ret (.bl (hm g i w)):=by
 unfold jq;have l2:=G.pw i h;have i0:cn [(sy g i).nm,PV.int ((sy g i).lv:Int),.tup (ar (sy g i).un),.tup (ar (sy g i).be)] 0=bd (sy g i).nm:=rfl;simp only [im,mQ h,eq_nil _ (show (sy g i).un.length<=1000 by omega)];unfold iY hm;cases e:(sy g i).un.isEmpty with
 | false=>simp
 | true=>simp only [gA,ay,im,Kt h,Sy.pv,a6,i0,sB,TV (G.nm i h) w,Fi]
abbrev Dd:=Str×Nat×Nat
def d3 (d:Dd):PV:=.tup [.str d.1,.int (d.2.1:Int),.int (d.2.2:Int)]
def d2 (d:Dd):PV:=.tup [.str d.1,.tup [.int (d.2.1:Int),.int (d.2.2:Int)]]
abbrev dbl (i:Nat):Dd:=("doubled",i,i)
abbrev ovr (i o:Nat):List Dd:=[("over",i,o),("over",o,i)]
def spl:List Nat->List Dd
 | [a,b]=>[("split",a,b),("split",b,a)]
 | _=>[]
def zP (g:List Sy) (i:Nat):List Dd:=dbl i::(spl (sy g i).un++(sy g i).be.flatMap (ovr i))
theorem rZ (i:Nat):∀l:List Nat,(l.flatMap (ovr i)).length=2*l.length
 | []=>rfl
 | a::l=>by rw [List.flatMap_cons,Ae,rZ i l];simp;omega
def vA (l:List Nat):(spl l).length<=2:=by unfold spl;split <;> simp
theorem Sj {g:List Sy} (G:WG g ws) (h:i < g.length):(zP g i).length<=63:=by
 unfold zP;rw [Ao,Ae,rZ];have:=vA (sy g i).un;have:=G.Ss i h;omega
theorem OE {g:List Sy} (G:WG g ws) (h:i < g.length) {d:Dd} (hd:d∈zP g i):d.2.1 < g.length/\d.2.2 < g.length:=by
 rcases Ay.mp hd with rfl | hd
 ·exact⟨h,h⟩
 rcases AX.mp hd with hd | hd
 ·have hu:=G.dn i h;revert hu hd;generalize (sy g i).un=l;intro hd hu
  match l with
  | [a,b]=>
   have h1:=hu a (by simp);have h2:=hu b (by simp);simp [spl] at hd;rcases hd with rfl | rfl
   ·exact⟨by show a < _;omega,by show b < _;omega⟩
   ·exact⟨by show b < _;omega,by show a < _;omega⟩
  | []=>simp [spl] at hd
  | [_]=>simp [spl] at hd
  | _::_::_::_=>simp [spl] at hd
 ·obtain⟨o,ho,hd⟩:=Cv.mp hd;have:=G.be i h o ho;simp at hd;rcases hd with rfl | rfl
  ·exact⟨h,this⟩
  ·exact⟨this,h⟩
theorem J5 {g:List Sy} (G:WG g ws) (h:i < g.length):(eT (iY g) (.int (i:Int))).le (.ret ((zP g i).map d3)):=λQ q=>by
 unfold eT iY;have l1:=vA (sy g i).un;have l3:=G.Ss i h;have i1:∀a b:Nat,cn [PV.int (a:Int),PV.int (b:Int)] 1=bd (.int (b:Int)):=λ_ _=>rfl;simp only [im,cr,ay,Kt h,ga,Sy.pv,Wh,ck,bE,c8,bp];have fin:∀s:List PV,s=(dbl i::spl (sy g i).un).map d3->(dN (ar (sy g i).be) s λjc Qh=>am (se Qh [.tup [.str "over",.int (i:Int),jc],.tup [.str "over",jc,.int (i:Int)]]) λnC=>bm nC).run Q:=λs hs=>by
  refine jU (λk s=>s=(dbl i::(spl (sy g i).un++((sy g i).be.take k).flatMap (ovr i))).map d3) (by rw [hs];simp) (λk x s hx hs=>?_) (λs hs=>?_)
  ·subst hs;unfold ar at hx;rw [Ag] at hx;cases eo:(sy g i).be[k]? with
   | none=>rw [eo] at hx;cases hx
   | some o=>
   rw [eo] at hx;have ex:=Option.some.inj hx;subst ex;have et:(sy g i).be.take (k+1)=(sy g i).be.take k++[o]:=by rw [E8,eo];rfl
   unfold se;rw [re (a9 (by simp only [Af,Ao,Ae,rZ];simp;omega))];rw [et,Cb];simp [d3]
  ·subst hs;rw [bE,List.take_length];exact q
 have hu:=G.pw i h;revert fin hu;generalize (sy g i).un=l;intro fin hu
 match l,hu with
 | [],_=>
  exact fin _ rfl
 | [a],_=>
  exact fin _ rfl
 | [a,b],_=>
  refine⟨a9 (by simp),?_⟩;exact fin _ rfl
def sZ (F:List (List Bool)):List PV:=F.map λr=>.cl (r.map PV.bl)
def fa (F:List (List Bool)) (j i:Nat):Bool:=(F.getD j []).getD i false
structure FW (g:List Sy) (F:List (List Bool)) (n:Nat):Prop where
 len:n<=F.length
 row:∀j,j < n->(F.getD j []).length=g.length
theorem vn {g:List Sy} (fw:FW g F n) (hj:j < n) (hi:i < g.length):(bf (am (bf (bm (sZ F)) (bm (.int (j:Int)))) ax) (bm (.int (i:Int))))=.ret (.bl (fa F j i)):=by
 have Pj:=AA hj fw.len;have e1:F[j]?=bd (F.getD j []):=by rw [Ap,Ad Pj];rfl
 have i1:IP (sZ F) (.int (j:Int))=.ret (.cl ((F.getD j []).map PV.bl)):=gj (by unfold sZ;rw [Ag,e1];rfl);have hl:=fw.row j hj;have e2:(F.getD j [])[i]?=bd (fa F j i):=by unfold fa;generalize F.getD j []=r at hl;rw [Ap,Ad ∅];rfl
 have i2:IP ((F.getD j []).map PV.bl) (.int (i:Int))=.ret (.bl (fa F j i)):=gj (by rw [Ag,e2];rfl);simp only [im,i1,bI,i2]
def lD (g:List Sy) (F:List (List Bool)) (e:Ent) (i:Nat):List Dd:=match e with
 | .word w=>if hm g i w=true then [("found",i,i)] else []
 | .pair a b=>(zP g i).filter λd=>fa F a d.2.1&&fa F b d.2.2
def ph (n:Nat):Ent->Prop
 | .word _=>True
 | .pair a b=>a < n/\b < n
theorem kS {g:List Sy} (G:WG g ws) (he:es[j]?=bd e) (hi:i < g.length) (fw:FW g F n) (hn:ph n e) :
  (cx (iY g) (.cl (es.map Ent.pv)) (.cl (sZ F)) (.int (j:Int)) (.int (i:Int))).le (.ret ((lD g F e i).map d3)):=λQ q=>by
 unfold cx;have ie:IP (es.map Ent.pv) (.int (j:Int))=.ret e.pv:=gj (by rw [Ag,he];rfl);simp only [im,cr,bI,ie,ga];cases e with
 | word w=>
  have l2:=G.pw i hi;have i0:cn [(sy g i).nm,PV.int ((sy g i).lv:Int),.tup (ar (sy g i).un),.tup (ar (sy g i).be)] 0=bd (sy g i).nm:=rfl;have i2:cn [(sy g i).nm,PV.int ((sy g i).lv:Int),.tup (ar (sy g i).un),.tup (ar (sy g i).be)] 2=bd (.tup (ar (sy g i).un)):=rfl;have fin:∀b:Bool,hm g i w=b->(yg [PV.tup [.str "found",.int (i:Int),.int (i:Int)]] (.int (if b then 1 else 0))).run Q:=λb hb=>by
   have q:Q ((if hm g i w=true then [(("found",i,i):Dd)] else []).map d3):=q;rw [hb] at q;cases b with
   | true=>
    exact⟨⟨by decide,by decide,a9 (by simp)⟩,q⟩
   | false=>
    exact⟨⟨by decide,by decide,a9 (by simp)⟩,q⟩
  simp only [Ent.pv,gz,iy,bb,ga,if_true,iY,ay,im,Kt hi,Sy.pv,a6,i0,i2,sB,cr,eq_nil _ (show (sy g i).un.length<=1000 by omega),TV (G.nm i hi) w];cases c:(sy g i).un.isEmpty with
  | false=>
   simp only [Ji,ga,nI];exact fin false (by unfold hm;rw [c];rfl)
  | true=>
   simp only [gA,ga,nI];exact fin _ (by unfold hm;rw [c];rfl)
 | pair a b=>
  obtain⟨ha,hb⟩:=hn;have j0:cn [PV.int (a:Int),PV.int (b:Int)] 0=bd (.int a):=rfl;have j1:cn [PV.int (a:Int),PV.int (b:Int)] 1=bd (.int b):=rfl;simp only [Ent.pv,fK,jV,bb,ga,Am,if_false,ay,a6,j0,j1,sB,im,cr];refine W.le.use (J5 G hi) ?_;refine v9 (λd:Dd=>if (fa F a d.2.1&&fa F b d.2.2)=true then bd (d3 d) else bv) (λd hd R r=>?_) ?_
  ·obtain⟨h1,h2⟩:=OE G hi hd;have k1:cn [PV.str d.1,PV.int (d.2.1:Int),PV.int (d.2.2:Int)] 1=bd (.int (d.2.1:Int)):=rfl;have k2:cn [PV.str d.1,PV.int (d.2.1:Int),PV.int (d.2.2:Int)] 2=bd (.int (d.2.2:Int)):=rfl;have t1:=vn fw ha h1;have t2:=vn fw hb h2;simp only [im,a6] at t1 t2;simp only [d3,ay,im,a6,k1,k2,sB,t1,t2,bb];cases c1:fa F a d.2.1 with
   | false=>simpa [c1] using r
   | true=>
    cases c2:fa F b d.2.2 with
    | false=>simpa [c1,c2] using r
    | true=>simpa [c1,c2,d3] using r
  ·rw [Jd];exact q
def iK (g:List Sy) (f:Nat->Bool):Nat->List Bool
 | 0=>[]
 | k+1=>iK g f k++[(sy g k).un.any (λl=>(iK g f k).getD l false)||f k]
@[simp] theorem iJ (g:List Sy) (f:Nat->Bool):∀k,(iK g f k).length=k
 | 0=>rfl
 | k+1=>by rw [iK,Ae,iJ g f k];rfl
def jx {l m:List α}{d:α} (h:i < l.length):(l++m).getD i d=l.getD i d:=by
 rw [Ap,AD h,<- Ap]
def lJ {l m:List α}{d:α} (h:l.length<=i):(l++m).getD i d=m.getD (i-l.length) d:=by
 rw [Ap,AE h,<- Ap]
theorem vE (g:List Sy) (f:Nat->Bool):∀{k:Nat},i < k->(iK g f k).getD i false=(iK g f (i+1)).getD i false
 | 0,h=>by omega
 | k+1,h=>by
  by_cases c:i=k
  ·subst c;rfl
  ·rw [iK,jx (by rw [iJ];omega)];exact vE g f ∅
theorem Yt (g:List Sy) (f:Nat->Bool) (dn:∀i,i < g.length->∀u∈(sy g i).un,u < i) (h:i < g.length):(iK g f g.length).getD i false=((sy g i).un.any (λl=>(iK g f g.length).getD l false)||f i):=by
 rw [vE g f h,iK,lJ (by rw [iJ];exact An _),iJ,Cp];show (_||_)=_;congr 1;rw [CC,BL,BL];have key:∀l∈(sy g i).un,(iK g f i).getD l false=(iK g f g.length).getD l false:=λl hl=>by
  have:=dn i h l hl;rw [vE g f this,vE g f (show l < g.length by omega)]
 exact⟨λ⟨l,h1,h2⟩=>⟨l,h1,by rw [<- key l h1];exact h2⟩,λ⟨l,h1,h2⟩=>⟨l,h1,by rw [key l h1];exact h2⟩⟩
def zN (es:List Ent) (j:Nat):Ent:=es.getD j (.word "")
def tab (g:List Sy) (es:List Ent):Nat->List (List Bool)
 | 0=>[]
 | j+1=>tab g es j++[iK g (λi=>!(lD g (tab g es j) (zN es j) i).isEmpty) g.length]
@[simp] theorem cg (g:List Sy) (es:List Ent):∀j,(tab g es j).length=j
 | 0=>rfl
 | j+1=>by rw [tab,Ae,cg g es j];rfl
theorem mU (g:List Sy) (es:List Ent):∀{k:Nat},i < k->(tab g es k).getD i []=iK g (λx=>!(lD g (tab g es i) (zN es i) x).isEmpty) g.length
 | 0,h=>by omega
 | k+1,h=>by
  by_cases c:i=k
  ·subst c;rw [tab,lJ (by rw [cg];exact An _),cg,Cp];rfl
  ·rw [tab,jx (by rw [cg];omega)];exact mU g es ∅
def zY (g:List Sy) (es:List Ent) (n:Nat):FW g (tab g es n) n:=⟨by rw [cg];exact An _,λj hj=>by rw [mU g es hj,iJ]⟩
def yL {g:List Sy}{F':List (List Bool)} (h:ph n e) (hf:∀j,j < n->F.getD j []=F'.getD j []):lD g F e i=lD g F' e i:=by
 cases e with
 | word w=>rfl
 | pair a b=>
  dsimp only [lD,fa];rw [hf a h.1,hf b h.2]
theorem PX (g:List Sy) (es:List Ent) (h:j<=k):∀x,x < j->(tab g es j).getD x []=(tab g es k).getD x []:=λx hx=>by rw [mU g es hx,mU g es (show x < k by omega)]
theorem Z6 {g:List Sy} (G:WG g ws) (hj:j < n) (hi:i < g.length) (he:ph j (zN es j)):fa (tab g es n) j i=((sy g i).un.any (λl=>fa (tab g es n) j l)||!(lD g (tab g es n) (zN es j) i).isEmpty):=by
 have e1:∀x,fa (tab g es n) j x=(iK g (λx=>!(lD g (tab g es j) (zN es j) x).isEmpty) g.length).getD x false:=λx=>by unfold fa;rw [mU g es hj]
 have e2:(λl=>fa (tab g es n) j l)=λl=>(iK g (λx=>!(lD g (tab g es j) (zN es j) x).isEmpty) g.length).getD l false:=funext e1;rw [e2,e1,Yt g _ G.dn hi,yL (F':=tab g es n) he (PX g es ∅)]
def vk (b:Bool):qK (.bl b)=.ret (.bl b):=re (by rw [PV.dat] <;> simp)
def any_map' (f:Nat->Bool) (l:List Nat):O2 (l.map λx=>.bl (f x))=.ret (.bl (l.any f)):=by
 have:(l.map λx=>PV.bl (f x))=(l.map f).map PV.bl:=by rw [AN];rfl
 rw [this,SA,List.any_map];rfl
def i6 (F:List (List Bool)):List (List PV):=F.map λr=>r.map PV.bl
def LU (F:List (List Bool)):(i6 F).map PV.cl=sZ F:=by unfold i6 sZ;rw [AN];rfl
theorem Rb {g:List Sy} (G:WG g ws) (hz:es.length<=900) (hes:∀j,j < es.length->ph j (zN es j)):(gV (iY g) (.cl (es.map Ent.pv))).le (.ret (sZ (tab g es es.length))):=λQ q=>by
 have gl:=G.len;unfold gV;simp only [im,cr,iw,Af,fJ,re (cu (i:=0) (j:=(es.length:Int)) ∅ ∅),ga,AZ];refine nG (λj s=>s.2=i6 (tab g es j)) rfl (λj s hj hs=>?_) (λs hs=>?_)
 ·obtain⟨s1,s2⟩:=s;replace hs:s2=i6 (tab g es j):=hs;subst hs;have e1:qf dF [iY g]=.ret (.int (g.length:Int)):=by unfold iY;rw [ck,Af]
  have e2:yg [PV.bl false] (.int (g.length:Int))=.ret ((Al g.length false).map PV.bl):=by
   rw [N8,re ⟨by omega,by omega,a9 (by simp;omega)⟩,AZ];congr 1;simp
  have adu:es[j]?=bd (zN es j):=by unfold zN;rw [Ap,Ad hj];rfl
  simp only [im,e1,e2,cr,ga];refine⟨by show (i6 (tab g es j)).length < sizeLine;unfold i6;rw [Af,cg];have:=a9 (n:=901) ∅;omega,?_⟩;intro b9 _;simp only [fJ,re (cu (i:=0) (j:=(g.length:Int)) ∅ ∅),ga,AZ,cr]
  let f:Nat->Bool:=λx=>!(lD g (tab g es j) (zN es j) x).isEmpty
  refine nG (λi s=>s.2=i6 (tab g es j++[iK g f i++Al (g.length-i) false])) (by show _++_=_;simp [i6,iK]) (λi s hi hs=>?_) (λs hs=>?_)
  ·obtain⟨s1,s2⟩:=s;replace hs:s2=_:=hs;subst hs;generalize hF:tab g es j++[iK g f i++Al (g.length-i) false]=F;have fw:FW g F (j+1):=by
    subst hF;refine⟨by simp,λx hx=>?_⟩;by_cases c:x=j
    ·subst c;rw [lJ (by rw [cg];exact An _),cg,Cp];show (iK g f i++_).length=_;rw [Ae,iJ,Ba];omega
    ·rw [jx (by rw [cg];omega)];exact (zY g es j).row x ∅
   have ff:∀l,l < i->fa F j l=(iK g f i).getD l false:=λl hl=>by
    subst hF;unfold fa;rw [lJ (by rw [cg];exact An _),cg,Cp];show (iK g f i++_).getD l false=_;rw [jx (by rw [iJ];exact hl)]
   have fd:lD g F (zN es j) i=lD g (tab g es j) (zN es j) i:=yL (hes j hj) λx hx=>by
    subst hF;rw [jx (by rw [cg];exact hx)]
   have un:IP (g.map Sy.pv) (.int (i:Int))=.ret (sy g i).pv:=Kt hi;have i2:cn [(sy g i).nm,PV.int ((sy g i).lv:Int),.tup (ar (sy g i).un),.tup (ar (sy g i).be)] 2=bd (.tup (ar (sy g i).un)):=rfl;simp only [LU,iY,ay,im,un,Sy.pv,a6,i2,sB,cr,ga,bI];refine ux (λl=>.bl (fa F j l)) (λl hl=>?_) ?_
   ·have:=G.dn i hi l hl;have:=vn fw (show j < j+1 by omega) (show l < g.length by omega);simpa using this
   ·rw [any_map'];have eA:(sy g i).un.any (fa F j)=(sy g i).un.any λl=>(iK g f i).getD l false:=by
     rw [CC,BL,BL];exact⟨λ⟨l,h1,h2⟩=>⟨l,h1,by rw [<- ff l (G.dn i hi l h1)];exact h2⟩,λ⟨l,h1,h2⟩=>⟨l,h1,by rw [ff l (G.dn i hi l h1)];exact h2⟩⟩
    have fin:(am (Rp (i6 F) (.int (j:Int))) λZk=>am (gh Zk.2 (.int (i:Int)) (.bl ((sy g i).un.any (fa F j)||f i))) λVA=>bm ((s1,(i6 F).set Zk.1 VA):List db×List (List PV))).run λs=>s.2=i6 (tab g es j++[iK g f (i+1)++Al (g.length-(i+1)) false]):=by
     have Pj:j < (i6 F).length:=by unfold i6;rw [Af];have:=fw.len;omega
     have e3:(i6 F)[j]?=bd ((iK g f i++Al (g.length-i) false).map PV.bl):=by
      subst hF;unfold i6;rw [Ag,AE (by rw [cg];exact An _),cg,Cp];rfl
     have e4:Rp (i6 F) (.int (j:Int))=.ret (j,(iK g f i++Al (g.length-i) false).map PV.bl):=by
      show W.MY ((nu (i6 F).length (j:Int)).bind λj=>(i6 F)[j]?.map λl=>(j,l))=_;rw [IQ Pj];show W.MY ((i6 F)[j]?.map _)=_;rw [e3];rfl
     rw [e4];simp only [im];rw [jK (by rw [Af,Ae,iJ,Ba];omega)];subst hF;unfold i6;rw [eA];apply Bg;intro x;have er:g.length-i=(g.length-(i+1))+1:=by omega
     by_cases c:x=j
     ·subst c;congr 1;rw [iK,er,Bu,<- EE,EY _ _ (by rw [iJ];exact An _),iJ,Cp];simp
     ·rw [A8 (BE c),Ag,Ag];by_cases c2:x < j
      ·rw [AD (by rw [cg];exact c2),AD (by rw [cg];exact c2)]
      ·rw [Ax (by rw [Ae,cg];simp;omega),Ax (by rw [Ae,cg];simp;omega)]
    simp only [ga,vk];cases cA:(sy g i).un.any (fa F j) with
    | true=>
     rw [cA] at fin;simp only [N9,ga,vk];simpa using fin
    | false=>
     rw [cA] at fin;simp only [Oa,cr];refine W.le.use (kS G (F:=F) adu hi fw (by have:=hes j hj;revert this;cases zN es j with | word w=>exact id | pair a b=>exact λz=>⟨C9 z.1,C9 z.2⟩)) ?_;have e5:(!((lD g F (zN es j) i).map d3).isEmpty)=f i:=by rw [fd,Eu]
     simp only [ga,e5,vk];simpa using fin
  ·rw [hs,tab,Cp];simp [f]
 ·show Q (s.2.map PV.cl);rw [hs,LU];exact q
end My
variable {u i0:Nat}{g:List My.Sy}{d:My.Dd}
namespace My
open PySem PySem.Spec PyProof.Rows L2 PL FL
def Ch (g:List Sy):List Nat->Prop
 | []=>False
 | [i]=>i < g.length
 | i::k::r=>i < g.length/\k∈(sy g i).un/\Ch g (k::r)
theorem Ch.snoc (hu:u∈(sy g i).un) (hg:u < g.length):∀{p:List Nat},Ch g (p++[i])->Ch g (p++[i]++[u])
 | [],h=>⟨h,hu,hg⟩
 | [a],h=>⟨h.1,h.2.1,h.2.2,hu,hg⟩
 | a::b::p,h=>⟨h.1,h.2.1,Ch.snoc hu hg (p:=b::p) h.2.2⟩
theorem Ch.last:∀{p:List Nat},Ch g (p++[i])->i < g.length
 | [],h=>h
 | [a],h=>h.2.2
 | a::b::p,h=>Ch.last (p:=b::p) h.2.2
theorem Ch.lt:∀{p:List Nat},Ch g p->∀x∈p,x < g.length
 | [i],h,x,hx=>by rw [AR.mp hx];exact h
 | i::k::r,h,x,hx=>by
  rcases Ay.mp hx with rfl | hx
  ·exact h.1
  ·exact Ch.lt (p:=k::r) h.2.2 x hx
def Ch.cons {g:List Sy}{a i:Nat}{r:List Nat} (h:Ch g (i::r)) (ha:a < g.length) (hi:i∈(sy g a).un):Ch g (a::i::r):=⟨ha,hi,h⟩
theorem Ch.len (G:WG g ws):∀{p:List Nat}{i:Nat},Ch g (i::p)->p.length<=i
 | [],i,_=>A5 _
 | k::r,i,h=>by
  have h1:=G.dn i h.1 k h.2.1;have h2:=Ch.len G (p:=r) (i:=k) h.2.2;rw [Ao];omega
def ZV (h:i < g.length):cn (g.map Sy.pv) (i:Int)=bd (sy g i).pv:=bC (by rw [Ag,LZ h];rfl)
def L0 (s:Sy):cn [s.nm,PV.int (s.lv:Int),.tup (ar s.un),.tup (ar s.be)] 2=bd (.tup (ar s.un)):=(rfl)
def jR (q:List Nat) (l:Nat):cn (ar (q++[l])) (-1)=bd (.int (l:Int)):=by rw [ng];exact OZ _ _
structure PI (g:List Sy) (F:List (List Bool)) (j i0:Nat) (q:List Nat) (l:Nat):Prop where
 ch:Ch g (q++[l])
 hd:(q++[l]).head?=bd i0
 f:fa F j l=true
 m:q.length+l<=i0
theorem PI.next (G:WG g ws) {l:Nat}{q:List Nat} (P:PI g F j i0 q l) (hu:u∈(sy g l).un) (hf:fa F j u=true):PI g F j i0 (q++[l]) u:=by
 have hl:=P.ch.last;have:=G.dn l hl u hu;have:=P.m;refine⟨P.ch.snoc hu ∅,?_,hf,by rw [Ae];simp;omega⟩;rw [List.head?_append,P.hd];rfl
section
variable {g:List Sy}{ws:List Str}{F:List (List Bool)}{es:List Ent}{j n:Nat}{e:Ent}
theorem MX (G:WG g ws) (fw:FW g F n) (hj:j < n) {l:Nat} (hl:l < g.length) {Q:List PV->Prop} (q:Q (ar ((sy g l).un.filter λu=>fa F j u))) :
  (kf (ar (sy g l).un) λp8=>zK (am (bf (am (bf (bm (sZ F)) (bm (.int (j:Int)))) ax) (bm p8)) cG) (bm p8)).run Q:=by
 refine rC (λu=>fa F j u) (λu hu=>?_) q;have:=G.dn l hl u hu;rw [vn fw hj (show u < g.length by omega)];cases fa F j u <;> simp
theorem uy (G:WG g ws) (he:es[j]?=bd e) (fw:FW g F n) (hj:j < n) (hn:ph n e) (hc:∀i,i < g.length->fa F j i=((sy g i).un.any (λl=>fa F j l)||!(lD g F e i).isEmpty)) (h0:i0 < g.length) (f0:fa F j i0=true)
  (q:∀p l,Ch g (p++[l])->(p++[l]).head?=bd i0->lD g F e l≠[]->Q (.tup (ar (p++[l])))) :
  (eI (iY g) (.cl (es.map Ent.pv)) (.cl (sZ F)) (.int (j:Int)) (.int (i0:Int))).run Q:=by
 have gl:=G.len;have e1:qf dF [iY g]=.ret (.int (g.length:Int)):=by unfold iY;rw [ck,Af]
 unfold eI;simp only [im,cr,e1,ga,fJ,re (cu (i:=0) (j:=(g.length:Int)) ∅ ∅),AZ];refine nG (λ_ s=>∃p l,s=ar (p++[l])/\PI g F j i0 p l) ⟨[],i0,rfl,h0,rfl,f0,by simp⟩ (λk s hk hs=>?_) (λs hs=>?_)
 ·obtain⟨p,l,rfl,P⟩:=hs;have hl:=P.ch.last;have pw:=G.pw l hl;have pm:=P.m;have step:∀x∈ar ((sy g l).un.filter λu=>fa F j u),(hX (ar (p++[l])) x).run λs=>∃p l,s=ar (p++[l])/\PI g F j i0 p l:=λx hx=>by
   obtain⟨u,hu,rfl⟩:=Au.mp hx;obtain⟨ē,Ē⟩:=AL.mp hu;rw [fy (by rw [bE,Ae];simp;omega)];exact⟨p++[l],u,by simp,P.next G ē Ē⟩
  simp only [iU,a6,jR,sB,im,cr,ga];simp only [iY,ay,bI,ZV hl,sB,im,ga,Sy.pv,L0];have on:=@MX g ws F j n G fw hj l hl;refine on ?_;refine W.le.use (kS G he hl fw hn) ?_;have stop:∃p' l',ar (p++[l])=ar (p'++[l'])/\PI g F j i0 p' l':=⟨p,l,rfl,P⟩;have go:∀b:Bool,(dB (sY (am (am (bm (.cl (ar ((sy g l).un.filter λu=>fa F j u)))) yH) λJ6=>bm (!J6.isEmpty)) (am (bm (.bl b)) cG)) (am (am (bm (.cl (ar ((sy g l).un.filter λu=>fa F j u)))) λvc=>bF vc) λqF=>am (hX (ar (p++[l])) qF) λgs=>bm gs) (bm (ar (p++[l])))).run λs=>∃p l,s=ar (p++[l])/\PI g F j i0 p l:=λb=>by
   generalize hon:ar ((sy g l).un.filter λu=>fa F j u)=on at step;have onl:on.length<=1000:=by
    rw [<- hon,bE];have:=Bb (λu=>fa F j u) (sy g l).un;omega
   cases on with
   | nil=>simpa using stop
   | cons x r=>
    cases b with
    | false=>simpa using stop
    | true=>
     refine pick_run (by simp) onl λy hy=>?_;simpa using step y hy
  cases cd:((lD g F e l).map d3).isEmpty with
  | true=>
   simp only [ga,N9];simpa using go true
  | false=>
   simp only [ga,Oa,cr,df 3 ⋯ ⋯];refine bJ λd _ _=>?_;simp only [c8,ga];simpa using go (d==0)
 ·obtain⟨p,l,rfl,P⟩:=hs;refine gH (λm s=>∃p,s=ar (p++[m])/\PI g F j i0 p m) ⟨p,rfl,P⟩ ?_;rintro l s ⟨p,rfl,P⟩;have hl:=P.ch.last;have pw:=G.pw l hl;have pm:=P.m;simp only [iU,a6,jR,sB,im,cr,ga];refine W.le.use (kS G he hl fw hn) ?_;cases cd:((lD g F e l).map d3).isEmpty with
  | false=>
   refine q p l P.ch P.hd λz=>?_;rw [z] at cd;cases cd
  | true=>
   have on:=@MX g ws F j n G fw hj l hl;simp only [im,a6] at on;simp only [iY,ay,bI,ZV hl,sB,im,ga,Sy.pv,L0];refine on ?_;have ģ:=hc l hl;rw [P.f] at ģ;have lz:(lD g F e l).isEmpty=true:=by rw [Eu] at cd;exact cd
   rw [lz] at ģ;have ha:(sy g l).un.any (λu=>fa F j u)=true:=by simpa using ģ.symm
   obtain⟨u,hu,hfu⟩:=BL.mp ha;have mem:=AL.mpr ⟨hu,hfu⟩;refine pick_run (λz=>?_) (by rw [bE];have:=Bb (λu=>fa F j u) (sy g l).un;omega) λx hx=>?_
   ·have:=congrArg BU z;rw [bE] at this;rw [Et.mp this] at mem;cases mem
   ·obtain⟨v,hv,rfl⟩:=Au.mp hx;obtain⟨hv1,đ⟩:=AL.mp hv;rw [fy (by rw [bE,Ae];simp;omega)];exact⟨v,G.dn l hl v hv1,p++[l],by simp,P.next G hv1 đ⟩
end
def ht:Tr->Nat->Nat
 | .leaf _,_=>0
 | .node l r,j=>if j < l.size then ht l j else if j < l.size+r.size then ht r (j-l.size) else (Tr.node l r).depth
theorem NA:∀(t:Tr) (j:Nat),ht t j<=t.depth
 | .leaf _,_=>An _
 | .node l r,j=>by
  have e:(Tr.node l r).depth=max l.depth r.depth+1:=rfl;have h1:=NA l j;have h2:=NA r (j-l.size);rw [ht]
  split
  ·omega
  ·split <;> omega
theorem IX (t:Tr):ht t (t.size-1)=t.depth:=by
 cases t with
 | leaf _=>rfl
 | node l r=>
  have es:(Tr.node l r).size=l.size+r.size+1:=rfl;rw [ht,if_neg ∅,if_neg ∅]
theorem NC:∀(t:Tr) (o j a b:Nat),j < t.size->en t o j=.pair a b->ht t (a-o) < ht t j/\ht t (b-o) < ht t j
 | .leaf _,o,j,a,b,h,e=>by rw [en] at e;cases e
 | .node l r,o,j,a,b,h,e=>by
  have es:(Tr.node l r).size=l.size+r.size+1:=rfl;have lp:=l.size_pos;have rp:=r.size_pos;by_cases c1:j < l.size
  ·rw [en,if_pos c1] at e;obtain⟨h1,h2,h3,h4,_⟩:=kZ l o j .aU a b c1 e;have:=NC l o j a b c1 e;have q1:∀x,x < l.size->ht (.node l r) x=ht l x:=λx hx=>by rw [ht,if_pos hx]
   rw [q1 (a-o) ∅,q1 (b-o) ∅,q1 j c1];exact this
  ·by_cases c2:j < l.size+r.size
   ·rw [en,if_neg c1,if_pos c2] at e;obtain⟨h1,h2,h3,h4,_⟩:=kZ r (o+l.size) (j-l.size) .aU a b ∅ e;have:=NC r (o+l.size) (j-l.size) a b ∅ e;have q1:∀x,¬x < l.size->x < l.size+r.size->ht (.node l r) x=ht r (x-l.size):=λx h1 h2=>by rw [ht,if_neg h1,if_pos h2]
    rw [q1 (a-o) ∅ ∅,q1 (b-o) ∅ ∅,q1 j c1 c2,E6,E6];exact this
   ·rw [en,if_neg c1,if_neg c2] at e;injection e with e1 e2;subst e1;subst e2;have er:(Tr.node l r).depth=max l.depth r.depth+1:=rfl;have ej:ht (.node l r) j=(Tr.node l r).depth:=by rw [ht,if_neg c1,if_neg c2]
    have e3:ht (.node l r) (o+l.size-1-o)=l.depth:=by rw [ht,if_pos ∅,show o+l.size-1-o=l.size-1 by omega,IX]
    have e4:ht (.node l r) (o+l.size+r.size-1-o)=r.depth:=by rw [ht,if_neg ∅,if_pos ∅,show o+l.size+r.size-1-o-l.size=r.size-1 by omega,IX]
    omega
theorem iC:∀(t:Tr) (o j:Nat) (w:Str),j < t.size->en t o j=.word w->w∈t.aG
 | .leaf x,o,j,w,h,e=>by
  rw [en] at e;injection e with e;subst e;simp [Tr.aG]
 | .node l r,o,j,w,h,e=>by
  have es:(Tr.node l r).size=l.size+r.size+1:=rfl;by_cases c1:j < l.size
  ·rw [en,if_pos c1] at e;exact BK _ (iC l o j w c1 e)
  ·by_cases c2:j < l.size+r.size
   ·rw [en,if_neg c1,if_pos c2] at e;exact AQ _ (iC r _ (j-l.size) w ∅ e)
   ·rw [en,if_neg c1,if_neg c2] at e;cases e
inductive LD (g:List Sy) (t:Tr):Nat->List Nat->PV->Prop
 | leaf {j:Nat}{p:List Nat}{i:Nat}{w:Str}:en t 0 j=.word w->Ch g (p++[i])->hm g i w=true->LD g t j (p++[i]) (.tup [.tup (ar (p++[i])),.str "found"])
 | node {j:Nat}{p:List Nat}{i a b:Nat}{nm:Str}{x y:Nat}{p1 p2:List Nat}{wa wb:PV}:en t 0 j=.pair a b->Ch g (p++[i])->(nm,x,y)∈zP g i->LD g t a (x::p1) wa->LD g t b (y::p2) wb->LD g t j (p++[i]) (.tup [.tup (ar (p++[i])),.str nm,wa,wb])
def Wy (h:d∈zP g i):(d.1==("found":Str))=false:=by
 have k1:(("doubled":Str)==("found":Str))=false:=by decide +kernel
 have k2:(("split":Str)==("found":Str))=false:=by decide +kernel
 have k3:(("over":Str)==("found":Str))=false:=by decide +kernel
 rcases Ay.mp h with rfl | h
 ·exact k1
 rcases AX.mp h with h | h
 ·revert h;generalize (sy g i).un=l;intro h;unfold spl at h
  split at h
  ·simp at h;rcases h with rfl | rfl <;> exact k2
  ·cases h
 ·obtain⟨o,_,h⟩:=Cv.mp h;simp at h;rcases h with rfl | rfl <;> exact k3
def F3 (t:Tr) (h:j < t.size):zN (t.nd 0) j=en t 0 j:=by unfold zN;rw [Ap,e7 t 0 j h];rfl
def uQ (t:Tr) (h:j < t.size):ph j (en t 0 j):=by
 cases e:en t 0 j with
 | word w=>trivial
 | pair a b=>exact dE t h e
section
abbrev gK (g:List Sy) (t:Tr):List (List Bool):=tab g (t.nd 0) t.size
def RT (G:WG g ws) (hj:j < t.size) (hi:i < g.length):fa (gK g t) j i=((sy g i).un.any (λl=>fa (gK g t) j l)||!(lD g (gK g t) (en t 0 j) i).isEmpty):=by
 have:=Z6 G (es:=t.nd 0) (n:=t.size) hj hi (by rw [F3 t hj];exact uQ t hj);rw [F3 t hj] at this;exact this
def qi {m:Nat} (h:ph m e) (hm:m<=n):ph n e:=by
 cases e with
 | word w=>trivial
 | pair a b=>exact⟨AA h.1 hm,AA h.2 hm⟩
theorem rB (G:WG g ws):∀(n j:Nat),ht t j < n->j < t.size->∀(p:List Nat) (i:Nat),Ch g (p++[i])->lD g (gK g t) (en t 0 j) i≠[]->∀{Q:PV->Prop},(∀w,LD g t j (p++[i]) w->Q w)->
  (cT n (iY g) (.cl ((t.nd 0).map Ent.pv)) (.cl (sZ (gK g t))) (.int (j:Int)) (.tup (ar (p++[i])))).run Q
 | 0,j,h,_,_,_,_,_,_,_=>by omega
 | n+1,j,h,hj,p,i,hc,hd,Q,q=>by
  have hi:=hc.last;have fw:=zY g (t.nd 0) t.size;have ej:=e7 t 0 j hj;unfold cT;simp only [im,cr,iU,ay,a6,jR,sB,ga];refine W.le.use (kS G ej hi fw (qi (uQ t hj) ∅)) ?_;have ll:(lD g (gK g t) (en t 0 j) i).length<=63:=by
   cases e:en t 0 j with
   | word w=>unfold lD;simp only;split <;> simp
   | pair a b=>unfold lD;exact Bk (Bb _ _) (Sj G hi)
  refine pick_run (λz=>hd (Ff.mp z)) (by rw [Af];omega) λx hx=>?_;obtain⟨d,RI,rfl⟩:=Au.mp hx;have e1:∀s:Str,of2 dU (.str s) (.str "found")=.ret (.bl (s==("found":Str))):=λs=>by rw [sh,re ⟨by simp,by simp,by simp⟩,N4]
  simp only [d3,Wi,ga,e1,im,bp];cases e:en t 0 j with
  | word w=>
   rw [e] at RI hd;have RI:d∈(if hm g i w=true then [(("found",i,i):Dd)] else []):=RI;have hh:hm g i w=true:=by
    cases c:hm g i w with
    | true=>rfl
    | false=>rw [c] at RI;cases RI
   rw [if_pos hh] at RI;have:=AR.mp RI;subst this;simp only [beq_self_eq_true,if_true,ga];exact q _ (.leaf e hc hh)
  | pair a b=>
   rw [e] at RI hd;obtain⟨ZO,Î⟩:=AL.mp RI;rw [AO] at Î;obtain⟨l1,l2⟩:=OE G hi ZO;obtain⟨a1,b1⟩:=dE t hj e;obtain⟨t1,t2⟩:=NC t 0 j a b hj e;rw [DS] at t1 t2;have ha:a < t.size:=by omega
   have hb:b < t.size:=by omega
   have j0:cn [PV.int (a:Int),PV.int (b:Int)] 0=bd (.int a):=rfl;have j1:cn [PV.int (a:Int),PV.int (b:Int)] 1=bd (.int b):=rfl;simp only [Wy ZO,Am,if_false,bI,im,cr,a6,F4 t hj,e,Ent.pv,sB,ga,ay,j0,j1];have TK:∀(k:Nat),k < t.size->∀i,i < g.length->fa (gK g t) k i=((sy g i).un.any (λl=>fa (gK g t) k l)||!(lD g (gK g t) (en t 0 k) i).isEmpty):=λk hk i hi=>RT G hk hi;refine uy G (e7 t 0 a ha) fw ha (qi (uQ t ha) ∅) (TK a ha) l1 Î.1 λp1 m1 c1 h1 k1=>?_;refine rB G n a ∅ ha p1 m1 c1 k1 λwa Wa=>?_;refine uy G (e7 t 0 b hb) fw hb (qi (uQ t hb) ∅) (TK b hb) l2 Î.2 λp2 m2 c2 h2 k2=>?_;refine rB G n b ∅ hb p2 m2 c2 k2 λwb Wb=>?_;obtain⟨r1,e1⟩:∃r,p1++[m1]=d.2.1::r:=by
    cases hx:p1++[m1] with
    | nil=>rw [hx] at h1;cases h1
    | cons y r=>rw [hx] at h1;cases h1;exact⟨r,rfl⟩
   obtain⟨r2,e2⟩:∃r,p2++[m2]=d.2.2::r:=by
    cases hx:p2++[m2] with
    | nil=>rw [hx] at h2;cases h2
    | cons y r=>rw [hx] at h2;cases h2;exact⟨r,rfl⟩
   rw [e1] at Wa;rw [e2] at Wb;exact q _ (.node e hc ZO Wa Wb)
theorem Pa.fa (G:WG g ws) (hj:j < t.size) (r:Pa g i k):i < g.length->My.fa (gK g t) j k=true->My.fa (gK g t) j i=true:=by
 induction r with
 | refl i=>intro _ h;exact h
 | @step i u k hu _ ih=>
  intro hi h;have:=G.dn i hi u hu;have h1:=ih ∅ h;rw [RT G hj hi,EW];exact .inl (BL.mpr ⟨u,hu,h1⟩)
theorem Uo (G:WG g ws) (hw:∀w∈t.aG,w∈ws):∀j,j < t.size->fa (gK g t) j (g.length-1)=true/\∃i,i < g.length/\lD g (gK g t) (en t 0 j) i≠[]:=λj=>by
 have gp:=G.pos
 induction j using CW with
 | ind j ih=>
  intro hj;cases e:en t 0 j with
  | word w=>
   obtain⟨i,hi,r,hh⟩:=G.ade w (hw w (iC t 0 j w hj e));have ne:lD g (gK g t) (.word w) i≠[]:=by
    show (if hm g i w=true then _ else _)≠[];rw [if_pos hh];simp
   refine⟨r.fa G hj ∅ ?_,i,hi,ne⟩;rw [RT G hj hi,e,EW];refine .inr ?_;cases c:lD g (gK g t) (.word w) i with
   | nil=>exact absurd c ne
   | cons _ _=>rfl
  | pair a b=>
   obtain⟨ha,hb⟩:=dE t hj e;have h1:=(ih a ha ∅).1;have h2:=(ih b hb ∅).1;have mem:dbl (g.length-1)∈lD g (gK g t) (.pair a b) (g.length-1):=AL.mpr ⟨.head _,by show (My.fa _ _ _&&My.fa _ _ _)=true;rw [h1,h2];rfl⟩;have ne:lD g (gK g t) (.pair a b) (g.length-1)≠[]:=λz=>by rw [z] at mem;cases mem
   refine⟨?_,g.length-1,by omega,ne⟩;rw [RT G hj ∅,e,EW];refine .inr ?_;cases c:lD g (gK g t) (.pair a b) (g.length-1) with
   | nil=>exact absurd c ne
   | cons _ _=>rfl
theorem whole_run (G:WG g ws) (hw:∀w∈t.aG,w∈ws) (hd:t.depth < 12) (hz:t.size<=900) (q:∀i w,LD g t (t.size-1) [i] w->Q w):(cH (iY g) t.pv).run Q:=by
 have tp:=t.size_pos;have gl:=G.len;have nl:=t.br 0;have fw:=zY g (t.nd 0) t.size;have e1:qf dF [iY g]=.ret (.int (g.length:Int)):=by unfold iY;rw [ck,Af]
 have hr:t.size-1 < t.size:=by omega
 unfold cH;simp only [im,cr];refine W.le.use (gD 12 t hd hz) ?_;refine W.le.use (Rb G (es:=t.nd 0) ∅ λj hj=>by rw [nl] at hj;rw [F3 t hj];exact uQ t hj) ?_;rw [nl];have el:((t.size:Int)-1)=((t.size-1:Nat):Int):=by omega
 simp only [iw,cv,ga,oK,el,e1,fJ,re (cu (i:=0) (j:=(g.length:Int)) ∅ ∅),AZ,oD];have ej:=e7 t 0 (t.size-1) hr;unfold ar;refine v9 (λi:Nat=>if (!(lD g (gK g t) (en t 0 (t.size-1)) i).isEmpty)=true then bd (PV.int (i:Int)) else bv) (λi hi R r=>?_) ?_
 ·have hi:=AI.mp hi;simp only [cr];refine W.le.use (kS G ej hi fw (qi (uQ t hr) ∅)) ?_;rw [Eu];cases c:(lD g (gK g t) (en t 0 (t.size-1)) i).isEmpty with
  | false=>simpa [c] using r
  | true=>simpa [c] using r
 ·rw [Jd];obtain⟨_,i,hi,ne⟩:=Uo G hw (t.size-1) hr;refine pick_run (λz=>?_) ?_ λx hx=>?_
  ·have mem:i∈(Av g.length).filter λi=>!(lD g (gK g t) (en t 0 (t.size-1)) i).isEmpty:=AL.mpr ⟨AI.mpr hi,by cases c:lD g (gK g t) (en t 0 (t.size-1)) i with | nil=>exact absurd c ne | cons _ _=>rfl⟩;rw [Ff.mp z] at mem;cases mem
  ·rw [Af];have:=Bb (λi=>!(lD g (gK g t) (en t 0 (t.size-1)) i).isEmpty) (Av g.length);rw [BQ] at this;omega
  ·obtain⟨k,hk,rfl⟩:=Au.mp hx;obtain⟨Ğ,ú⟩:=AL.mp hk;have Ğ:=AI.mp Ğ;refine rB G 12 (t.size-1) (by have:=NA t (t.size-1);omega) hr [] k Ğ (λz=>?_) λw h=>q k w h;rw [z] at ú;cases ú
end
end My
variable {P:Nat->List Nat}{w:BZ}{p:List Nat}
namespace My
open PySem PySem.Spec PyProof.Rows L2 PL FL
def T9 (g:List Sy) (t:Tr) (V:Nat->PV) (P:Nat->List Nat) (j:Nat):Prop:=
 ∃q i,P j=q++[i]/\Ch g (q++[i])/\((∃w,en t 0 j=.word w/\hm g i w=true/\V j=.tup [.tup (ar (P j)),.str "found"])\/
  ∃a b nm x y r1 r2,en t 0 j=.pair a b/\(nm,x,y)∈zP g i/\P a=x::r1/\P b=y::r2/\V j=.tup [.tup (ar (P j)),.str nm,V a,V b])
def T9.congr {V V':Nat->PV}{P':Nat->List Nat} (h:T9 g t V P j) (h0:V' j=V j/\P' j=P j) (h1:∀a b,en t 0 j=.pair a b->(V' a=V a/\P' a=P a)/\V' b=V b/\P' b=P b):T9 g t V' P' j:=by
 obtain⟨q,i,e,c,h⟩:=h;refine⟨q,i,by rw [h0.2];exact e,c,?_⟩;rcases h with⟨w,e1,e2,e3⟩ | ⟨a,b,nm,x,y,r1,r2,e1,e2,e3,e4,e5⟩
 ·exact .inl ⟨w,e1,e2,by rw [h0.1,h0.2];exact e3⟩
 ·obtain⟨⟨k1,k2⟩,k3,k4⟩:=h1 a b e1;exact .inr ⟨a,b,nm,x,y,r1,r2,e1,e2,by rw [k2];exact e3,by rw [k4];exact e4,by rw [h0.1,h0.2,k1,k3];exact e5⟩
theorem vg:∀(s:Tr) (o:Nat),(∀k,k < s.size->en t 0 (o+k)=en s o k)->∀p w,LD g t (o+s.size-1) p w->∃(V:Nat->PV) (P:Nat->List Nat),V (o+s.size-1)=w/\P (o+s.size-1)=p/\∀k,o<=k->k < o+s.size->T9 g t V P k
 | .leaf x,o,hs,p,w,h=>by
  have e0:en t 0 o=.word x:=hs 0 (by show 0 < 1;decide);have ei:o+(Tr.leaf x).size-1=o:=by show o+1-1=o;omega
  rw [ei] at h ⊢;cases h with
  | leaf e c hh=>exact⟨λ_=>_,λ_=>_,rfl,rfl,λk k1 k2=>by
    have:k=o:=by have:k < o+1:=k2;omega
    subst this;exact⟨_,_,rfl,c,.inl ⟨_,e,hh,rfl⟩⟩⟩
  | node e _ _ _ _=>rw [e0] at e;cases e
 | .node l r,o,hs,p,w,h=>by
  have es:(Tr.node l r).size=l.size+r.size+1:=rfl;have lp:=l.size_pos;have rp:=r.size_pos;have er:en t 0 (o+(l.size+r.size))=.pair (o+l.size-1) (o+l.size+r.size-1):=by rw [hs _ ∅,en,if_neg ∅,if_neg ∅]
  have ei:o+(Tr.node l r).size-1=o+(l.size+r.size):=by omega
  rw [ei] at h ⊢;have hl:∀k,k < l.size->en t 0 (o+k)=en l o k:=λk hk=>by rw [hs k ∅,en,if_pos hk]
  have hr:∀k,k < r.size->en t 0 (o+l.size+k)=en r (o+l.size) k:=λk hk=>by rw [A7,hs _ ∅,en,if_neg ∅,if_pos ∅,B4]
  cases h with
  | leaf e _ _=>rw [er] at e;cases e
  | @node _ q i a b nm x y p1 p2 wa wb e c hd h1 h2=>
  rw [er] at e;injection e with ea eb;subst ea;subst eb;obtain⟨V1,P1,a1,a2,a3⟩:=vg l o hl _ _ h1;obtain⟨V2,P2,b1,b2,b3⟩:=vg r (o+l.size) hr _ _ h2
  let V:Nat->PV:=λk=>if k < o+l.size then V1 k else if k < o+l.size+r.size then V2 k else .tup [.tup (ar (q++[i])),.str nm,wa,wb]
  let P:Nat->List Nat:=λk=>if k < o+l.size then P1 k else if k < o+l.size+r.size then P2 k else q++[i]
  have v1:∀k,k < o+l.size->V k=V1 k/\P k=P1 k:=λk hk=>⟨if_pos hk,if_pos hk⟩;have v2:∀k,o+l.size<=k->k < o+l.size+r.size->V k=V2 k/\P k=P2 k:=λk h1 h2=>⟨(if_neg ∅).trans (if_pos h2),(if_neg ∅).trans (if_pos h2)⟩;have v3:V (o+(l.size+r.size))=.tup [.tup (ar (q++[i])),.str nm,wa,wb]/\P (o+(l.size+r.size))=q++[i]:=⟨(if_neg ∅).trans (if_neg ∅),(if_neg ∅).trans (if_neg ∅)⟩;refine⟨V,P,v3.1,v3.2,λk k1 k2=>?_⟩;by_cases c1:k < o+l.size
  ·refine (a3 k k1 c1).congr (v1 k c1) λa b ek=>?_;have:=hl (k-o) ∅;rw [show o+(k-o)=k by omega,ek] at this;obtain⟨m1,m2,m3,m4,_⟩:=kZ l o (k-o) .aU a b ∅ this.symm;exact⟨v1 a ∅,v1 b ∅⟩
  ·by_cases c2:k < o+l.size+r.size
   ·refine (b3 k ∅ c2).congr (v2 k ∅ c2) λa b ek=>?_;have:=hr (k-(o+l.size)) ∅;rw [show o+l.size+(k-(o+l.size))=k by omega,ek] at this;obtain⟨m1,m2,m3,m4,_⟩:=kZ r (o+l.size) (k-(o+l.size)) .aU a b ∅ this.symm;exact⟨v2 a ∅ ∅,v2 b ∅ ∅⟩
   ·have:k=o+(l.size+r.size):=by omega
    subst this;refine⟨q,i,v3.2,c,.inr ⟨_,_,nm,x,y,p1,p2,er,hd,?_,?_,?_⟩⟩
    ·rw [(v1 (o+l.size-1) ∅).2];exact a2
    ·rw [(v2 (o+l.size+r.size-1) ∅ ∅).2];exact b2
    ·rw [v3.1,v3.2,(v1 (o+l.size-1) ∅).1,(v2 (o+l.size+r.size-1) ∅ ∅).1,a1,b1]
def OJ (l:List PV) (h:a<=l.length):kl l (bd (a:Int)) bv=l.drop a:=by
 unfold kl;rw [HT.yc,HT.Qg,Nat.min_eq_left h,Cd (by simp)]
theorem P7 (h:i < g.length):jn (iY g) (.int (i:Int))=.ret (.bl true):=by
 unfold jn iY;have c1:(0:Int)<=(i:Int):=by omega
 have c2:(i:Int) < (g.length:Int):=by omega
 simp only [im,LM,gA,Od,ck,Af,za,c1,c2,decide_true,uO]
theorem yt:∀{p:List Nat},Ch g p->(mapW (gr (ar p) (ar (p.drop 1))) λIr=>am (pw Ir) λPe=>am (am (cS (iY g) Pe.1) ax) λl=>am (rM false Pe.2 l) blW).le (.ret ((Al (p.length-1) true).map PV.bl))
 | [i],h=>λQ q=>by
  have e:gr (ar [i]) (ar ([i].drop 1))=[]:=by show gr [PV.int (i:Int)] []=[];rw [gr];simp
  rw [e];exact q
 | i::k::r,h=>λQ q=>by
  show (am (am (pw _) _) λy=>am (mapW _ _) λm=>bm (y::m)).run Q;simp only [mB,im,mQ h.1,ay,Gx,h.2.1,decide_true,Am,if_false,Z9,cr];exact W.le.use (yt (p:=k::r) h.2.2) q
def Ch.ne (h:Ch g p):1<=p.length:=by
 cases p with
 | nil=>exact h.elim
 | cons a p=>simp
theorem Ip (G:WG g ws) (h:Ch g p):(jo (iY g) (.tup (ar p))).le (.ret (.bl true)):=λQ q=>by
 have hn:=h.ne;have hl:p.length<=301:=by
  cases p with
  | nil=>simp
  | cons a p=>have:=h.len G;have:=h.lt a (.head _);have:=G.len;rw [Ao];omega
 unfold jo;have c0:((p.length:Int)==0)=false:=beq_eq_false_iff_ne.mpr ∅;simp only [im,cr,fK,wQ,bb,ga,Bq,Am,if_false,ck,bE,c8,bp,c0,ay];refine ux (λ_=>.bl true) (λk hk=>P7 (h.lt k hk)) ?_;have e1:p.map (λ_=>PV.bl true)=(p.map λ_=>true).map PV.bl:=by rw [AN];rfl
 have e2:(p.map λ_=>true).all id=true:=by simp
 rw [e1,nX,e2];have e3:kl (ar p) (bd 1) bv=ar (p.drop 1):=by
  have:=OJ (ar p) (a:=1) (by rw [bE];exact hn);rw [show ((1:Nat):Int)=1 from rfl] at this;rw [this];unfold ar;rw [List.map_drop]
 simp only [ga,bb,Bq,Am,if_false,lL,mC,e3,ay,cr];refine⟨a9 (by rw [bE];omega),?_⟩;show (mapW _ _).run _;refine W.le.use (yt h) ?_;rw [nX];have e4:(Al (p.length-1) true).all id=true:=by simp
 rw [e4];exact q
def KA (G:WG g ws) {V:Nat->PV} (h:T9 g t V P j):(fW (iY g) (en t 0 j).pv (V j)).le (.ret (.bl true)):=λQ q=>by
 obtain⟨p,i,e,c,h⟩:=h;unfold fW;rcases h with⟨w,e1,e2,e3⟩ | ⟨a,b,nm,x,y,r1,r2,e1,e2,e3,e4,e5⟩
 ·have j0:cn [PV.tup (ar (P j)),.str "found"] 0=bd (.tup (ar (P j))):=rfl;have j1:cn [PV.tup (ar (P j)),.str "found"] 1=bd (.str "found"):=rfl;rw [e1,e3];simp only [Ent.pv,im,gz,iy,bb,if_true,FT,Ao,Bf];show (Lf (.bl true) _).run Q;simp only [gA,ay,im,a6,j0,j1,sB,cr];rw [e];refine W.le.use (Ip G c) ?_;simp only [gA,gz,iy];exact q
 ·have j0:cn [PV.tup (ar (P j)),.str nm,V a,V b] 0=bd (.tup (ar (P j))):=rfl;have j1:cn [PV.tup (ar (P j)),.str nm,V a,V b] 1=bd (.str nm):=rfl;rw [e1,e5];simp only [Ent.pv,im,fK,jV,bb,Am,if_false,FT,Ao,Bf];show (Lf (.bl true) _).run Q;simp only [gA,ay,im,a6,j0,j1,sB,cr];rw [e];refine W.le.use (Ip G c) ?_;exact q
def pb (t:Tr) (k m:Nat):Bool:=match j3 t 0 k .aU with
 | .int a=>decide ((m:Int)<=a)
 | _=>true
def ya (t:Tr) (V:Nat->PV) (m:Nat):List PV:=(Av t.size).map λk=>if pb t k m=true then V k else .aU
@[simp] theorem H9 (t:Tr) (V:Nat->PV) (m:Nat):(ya t V m).length=t.size:=by unfold ya;simp
def pX (t:Tr) (V:Nat->PV) (m:Nat) (h:k < t.size):(ya t V m)[k]?=bd (if pb t k m=true then V k else .aU):=by unfold ya;simp [h]
def yp (h:k < t.size):(k=t.size-1/\∀m,pb t k m=true)\/∃a u v,k < a/\a < t.size/\en t 0 a=.pair u v/\(u=k\/v=k)/\∀m,pb t k m=decide (m<=a):=by
 rcases hE t 0 k .aU h with⟨h1,h2⟩ | ⟨a,u,v,h1,h2,h3,h4,h5⟩
 ·exact .inl ⟨h1,λm=>by unfold pb;rw [h2]⟩
 ·rw [Az] at h3 h5;refine .inr ⟨a,u,v,h1,h2,h4,h5,λm=>?_⟩;unfold pb;rw [h3];rw [CC];simp
theorem JH (t:Tr) (V:Nat->PV):((Av t.size).map λ_=>PV.aU).set (t.size-1) (V (t.size-1))=ya t V t.size:=by
 apply Bg;intro k;by_cases hk:k < t.size
 ·rw [pX t V _ hk];rcases yp hk with⟨h1,h2⟩ | ⟨a,u,v,h1,h2,h3,h4,h5⟩
  ·rw [h2,if_pos rfl,<- h1,Bt (by simp;exact hk)]
  ·rw [h5,decide_eq_false ∅,A8 ∅];simp [hk]
 ·rw [Ax (by simp;omega),Ax (by simp;omega)]
theorem L1 {V:Nat->PV} (e:en t 0 j=.word w):ya t V (j+1)=ya t V j:=by
 unfold ya;refine B9 λk hk=>?_;have hk:=AI.mp hk;rcases yp hk with⟨h1,h2⟩ | ⟨a,u,v,h1,h2,h3,h4,h5⟩
 ·rw [h2,h2]
 ·have:a≠j:=λz=>by subst z;rw [h3] at e;cases e
  rw [h5,h5];have:decide (j+1<=a)=decide (j<=a):=by rw [CC];simp;omega
  rw [this]
theorem L3 {V:Nat->PV} (hj:j < t.size) (e:en t 0 j=.pair a b):((ya t V (j+1)).set a (V a)).set b (V b)=ya t V j:=by
 obtain⟨h1,h2,h3,h4,h5,h6,h7⟩:=kZ t 0 j .aU a b hj e;rw [Az,DS] at *;have pk:∀k,j3 t 0 k .aU=.int ((j:Nat):Int)->pb t k j=true:=λk hk=>by unfold pb;rw [hk];simp
 apply Bg;intro k;by_cases hk:k < t.size
 ·rw [pX t V j hk];by_cases cb:b=k
  ·subst cb;rw [Bt (by simp;exact hk),pk b h7,if_pos rfl]
  ·rw [A8 cb];by_cases ca:a=k
   ·subst ca;rw [Bt (by simp;exact hk),pk a h6,if_pos rfl]
   ·rw [A8 ca,pX t V _ hk];rcases yp hk with⟨k1,k2⟩ | ⟨a',u,v,k1,k2,k3,k4,k5⟩
    ·rw [k2,k2]
    ·have:a'≠j:=λz=>by
      subst z;rw [k3] at e;injection e with e1 e2;rcases k4 with rfl | rfl
      ·exact ca e1.symm
      ·exact cb e2.symm
     rw [k5,k5];have:decide (j+1<=a')=decide (j<=a'):=by rw [CC];simp;omega
     rw [this]
 ·rw [Ax (by simp;omega),Ax (by simp;omega)]
def P8 (t:Tr) (V:Nat->PV):ya t V 0=(Av t.size).map V:=by
 refine B9 λk hk=>?_;rcases yp (AI.mp hk) with⟨h1,h2⟩ | ⟨a,u,v,h1,h2,h3,h4,h5⟩
 ·rw [h2,if_pos rfl]
 ·rw [h5,decide_eq_true (A5 _),if_pos rfl]
theorem Pw (G:WG g ws) (hz:t.size<=900) {V:Nat->PV} (h:∀k,k < t.size->T9 g t V P k):(cV (iY g) (.tup ((t.nd 0).map Ent.pv)) (V (t.size-1))).le (.ret (.cl ((Av t.size).map V))):=λQ q=>by
 have tp:=t.size_pos;unfold cV;simp only [im,cr,ay];refine Gb (λ_=>.aU) (λx hx=>rfl) ?_;have e0:((t.nd 0).map Ent.pv).map (λ_=>PV.aU)=(Av t.size).map λ_=>PV.aU:=by rw [DJ,DJ,cv,BQ]
 have ei:nu t.size (-1)=bd (t.size-1):=by
  unfold nu;rw [if_neg ∅,if_pos ∅];congr 1;omega
 have es:∀v,gh ((Av t.size).map λ_=>PV.aU) (.int (-1)) v=.ret (((Av t.size).map λ_=>PV.aU).set (t.size-1) v):=λv=>by
  show (match nu ((Av t.size).map λ_=>PV.aU).length (-1) with | some j=>_ | none=>_)=_;rw [Af,BQ,ei]
 have Ĭ:(((t.size:Nat):Int)-1 - -1).toNat=t.size:=by omega
 rw [e0];simp only [iU,ga,es,JH,ck,cv,oK,Jf,Ĭ];refine⟨⟨trivial,cu ∅ ∅⟩,?_⟩;refine Jb (λi s=>i<=t.size/\s=ya t V (t.size-i)) ⟨A5 _,rfl⟩ (λi x s hx hs=>?_) (λs hs=>?_)
 ·obtain⟨_,rfl⟩:=hs;obtain⟨hi,rfl⟩:=oQ hx;obtain⟨j,hj⟩:∃j:Nat,j=t.size-1-i:=⟨_,rfl⟩;have ej:(((t.size:Nat):Int)-1-(i:Int))=(j:Int):=by omega
  have IZ:j < t.size:=by omega
  rw [ej,show t.size-i=j+1 by omega,show t.size-(i+1)=j by omega];have at1:cn (ya t V (j+1)) (j:Int)=bd (V j):=bC (by
   rw [pX t V _ IZ];rcases yp IZ with⟨_,h2⟩ | ⟨a,u,v,h1,h2,h3,h4,h5⟩
   ·rw [h2,if_pos rfl]
   ·rw [h5,decide_eq_true ∅,if_pos rfl])
  simp only [a6,F4 t IZ,sB,ga,at1,cr];refine W.le.use (KA G (h j IZ)) ?_;simp only [bb,ga,Bq,Am,if_false,cr,uJ,ay,lL];obtain⟨p,ii,e,c,hh⟩:=h j IZ;rcases hh with⟨w,e1,e2,e3⟩ | ⟨a,b,nm,x,y,r1,r2,e1,e2,e3,e4,e5⟩
  ·have ec:kl [PV.tup (ar (P j)),.str "found"] (bd 2) bv=[]:=rfl;rw [e1,e3];simp only [mC,ec,ga,ay,GB,kO];have ez:qE [] []=.ret []:=by unfold qE;rw [re (a9 (by simp))];congr 1
   rw [ez];exact⟨by omega,L1 e1⟩
  ·have ec:kl [PV.tup (ar (P j)),.str nm,V a,V b] (bd 2) bv=[V a,V b]:=rfl;rw [e1,e5];obtain⟨ha,hb⟩:=dE t IZ e1;simp only [mC,ec,ga,ay,GB,fj,kO];have ez:qE [PV.int (a:Int),PV.int (b:Int)] [V a,V b]=.ret [.tup [.int (a:Int),V a],.tup [.int (b:Int),V b]]:=by
    unfold qE;rw [re (a9 (by simp))];congr 1
   have s1:gh (ya t V (j+1)) (.int (a:Int)) (V a)=.ret ((ya t V (j+1)).set a (V a)):=jK (by rw [H9];omega);have s2:gh ((ya t V (j+1)).set a (V a)) (.int (b:Int)) (V b)=.ret (((ya t V (j+1)).set a (V a)).set b (V b)):=jK (by rw [BS,H9];omega);rw [ez];simp only [ga,dN,mB,im,s1,s2,cr];exact⟨by omega,L3 IZ e1⟩
 ·obtain⟨_,rfl⟩:=hs;have el:(lY (((t.size:Nat):Int)-1) t.size).length=t.size:=by unfold lY;simp
  rw [el,Cp,P8];exact q
def dl (g:List Sy) (i:Nat):List Dd:=dbl i::(spl (sy g i).un++((sy g i).be.map (λo=>(("over",i,o):Dd))++(sy g i).be.map (λo=>(("over",o,i):Dd))))
def Wz (h:d∈zP g i):d∈dl g i:=by
 rcases Ay.mp h with rfl | h
 ·exact .head _
 refine AV _ ?_;rcases AX.mp h with h | h
 ·exact BK _ h
 ·obtain⟨o,ho,h⟩:=Cv.mp h;refine AQ _ ?_;simp at h;rcases h with rfl | rfl
  ·exact BK _ (Au.mpr ⟨o,ho,rfl⟩)
  ·exact AQ _ (Au.mpr ⟨o,ho,rfl⟩)
theorem Ww (G:WG g ws) (h:i < g.length):(dl g i).length<=63:=by
 unfold dl;simp only [Ao,Ae,Af];have:=vA (sy g i).un;have:=G.Ss i h;omega
theorem Sg (d:Dd):oC (d2 d)=true:=rfl
def GX (d:Dd):PV.kd (d2 d)=true:=by simp [d2]
def RS (d:Dd):PV.iT (d2 d)<=2:=by simp [d2]
def Kg (p:Nat×Nat):PV:=.tup [.int (p.1:Int),.int (p.2:Int)]
def L5 (G:WG g ws) (h:i < g.length):fU (iY g) (.int (i:Int))=.ret ((spl (sy g i).un).map λd=>Kg (d.2.1,d.2.2)):=by
 unfold fU;simp only [im,mQ h];have hu:=G.pw i h;revert hu;generalize (sy g i).un=l;intro hu
 match l,hu with
 | [],_=>simp only [ck,fj,kO,Ao,Bf,c8,im,bp];rfl
 | [a],_=>simp only [ck,fj,kO,Ao,Bf,c8,im,bp];rfl
 | [a,b],_=>
  have i0:cn [PV.int (a:Int),PV.int (b:Int)] 0=bd (.int (a:Int)):=rfl;have i1:cn [PV.int (a:Int),PV.int (b:Int)] 1=bd (.int (b:Int)):=rfl;simp only [ck,fj,kO,Ao,Bf,c8,im,bp,ay,a6,i0,i1,sB];rfl
theorem QJ (G:WG g ws) (h:i < g.length):gP (iY g) (.int (i:Int))=.ret ((sy g i).be.map (λo=>Kg (i,o))++(sy g i).be.map (λo=>Kg (o,i))):=by
 unfold gP;have l3:=G.Ss i h;simp only [im,Ld h,ay];rw [qh (g:=λo=>Kg (i,o)) λk hk=>rfl];rw [qh (g:=λo=>Kg (o,i)) λk hk=>rfl];simp only [im];rw [oS (by simp;omega)]
theorem KY (G:WG g ws) (h:i < g.length) {Q:List PV->Prop} (q:∀m:List PV,m.Perm ((dl g i).map d2)->Q m):(fo (iY g) (Ent.pair a b).pv (.int (i:Int))).run Q:=by
 have l63:=Ww G h;unfold fo;simp only [Ent.pv,im,cr,fK,jV,bb,ga,Am,if_false,L5 G h,QJ G h];refine fC (λd:Dd=>.tup [.str "split",Kg (d.2.1,d.2.2)]) (λd _ R r=>r) ?_;have em:(sy g i).be.map (λo=>Kg (i,o))++(sy g i).be.map (λo=>Kg (o,i))=((sy g i).be.map (λo=>((i,o):Nat×Nat))++(sy g i).be.map (λo=>(o,i))).map Kg:=by
  rw [A3,AN,AN];rfl
 rw [em];refine fC (λp:Nat×Nat=>.tup [.str "over",Kg p]) (λp _ R r=>r) ?_;simp only [ga,wO,im];have es:(spl (sy g i).un).map (λd=>PV.tup [.str "split",Kg (d.2.1,d.2.2)])=(spl (sy g i).un).map d2:=by
  refine B9 λd hd=>?_;have:d.1=("split":Str):=by
   revert hd;generalize (sy g i).un=l;intro hd;unfold spl at hd
   split at hd
   ·simp at hd;rcases hd with rfl | rfl <;> rfl
   ·cases hd
  unfold d2 Kg;rw [this]
 have eo:((sy g i).be.map (λo=>((i,o):Nat×Nat))++(sy g i).be.map (λo=>(o,i))).map (λp=>PV.tup [.str "over",Kg p])=((sy g i).be.map (λo=>(("over",i,o):Dd))++(sy g i).be.map (λo=>(("over",o,i):Dd))).map d2:=by
  simp only [A3,AN];rfl
 rw [es,eo];have ll:(dl g i).length=1+(spl (sy g i).un).length+((sy g i).be.map (λo=>(("over",i,o):Dd))++(sy g i).be.map (λo=>(("over",o,i):Dd))).length:=by
  unfold dl;simp only [Ao,Ae];omega
 rw [oS (by simp only [Af,Ao,Bf];omega)];simp only [ga];rw [oS (by simp only [Af,Ae,Ao,Bf] at *;omega)];have e:([PV.tup [.str "doubled",.tup [.int (i:Int),.int (i:Int)]]]++(spl (sy g i).un).map d2)++((sy g i).be.map (λo=>(("over",i,o):Dd))++(sy g i).be.map (λo=>(("over",o,i):Dd))).map d2=(dl g i).map d2:=by
  unfold dl;simp only [Aw,A3,A9];rfl
 simp only [ga];rw [e];refine⟨⟨by rw [Af];omega,Cy.mpr λx hx=>?_⟩,λm hm=>q m hm⟩;obtain⟨d,_,rfl⟩:=Au.mp hx;exact Sg d
def Nw {l:List Dd} (hp:m.Perm (l.map d2)) (hd:d∈l):rM false (d2 d) m=.ret true:=by
 have h1:tK (d2 d) m:=⟨GX d,gZ.mpr λx hx=>by
  obtain⟨k,_,rfl⟩:=Au.mp (hp.mem_iff.mp hx);exact GX k,Bk (g8 (n:=2) λx hx=>by
  obtain⟨k,_,rfl⟩:=Au.mp (hp.mem_iff.mp hx);exact RS k) ⋯⟩
 have h2:oG (d2 d) m=true:=BL.mpr ⟨d2 d,hp.mem_iff.mpr (Au.mpr ⟨d,hd,rfl⟩),y8 _ (GX d)⟩;unfold rM;rw [re h1,h2];rfl
theorem Se (G:WG g ws) {V:Nat->PV} (hj:j < t.size) (H:∀k,k < t.size->T9 g t V P k):(jr (iY g) (en t 0 j).pv (V j)).le (.ret (.bl true)):=λQ q=>by
 obtain⟨p,i,e,c,h⟩:=H j hj;have hi:=c.last;unfold jr nj fm;rcases h with⟨w,e1,e2,e3⟩ | ⟨a,b,nm,x,y,r1,r2,e1,e2,e3,e4,e5⟩
 ·have j0:cn [PV.tup (ar (P j)),.str "found"] 0=bd (.tup (ar (P j))):=rfl;have j1:cn [PV.tup (ar (P j)),.str "found"] 1=bd (.str "found"):=rfl;have ec:kl [PV.tup (ar (P j)),.str "found"] (bd 2) bv=[]:=rfl;have em:∀f,mapW [] f=.ret []:=λ_=>rfl;rw [e1,e3];simp only [im,cr,ay,a6,j0,j1,sB,ga,lL,mC,ec,em,sf,iU];rw [e];simp only [jR,sB,ga];unfold fo;simp only [Ent.pv,im,cr,gz,iy,bb,ga,if_true,RE G hi,e2];have h1:tK (.tup [.str "found",.tup []]) [PV.tup [.str "found",.tup []]]:=⟨by simp,by simp,by simp⟩;refine⟨h1,?_⟩;exact q
 ·have j0:cn [PV.tup (ar (P j)),.str nm,V a,V b] 0=bd (.tup (ar (P j))):=rfl;have j1:cn [PV.tup (ar (P j)),.str nm,V a,V b] 1=bd (.str nm):=rfl;have ec:kl [PV.tup (ar (P j)),.str nm,V a,V b] (bd 2) bv=[V a,V b]:=rfl;obtain⟨ha,hb⟩:=dE t hj e1;have Û:∀k z r,k < t.size->P k=z::r->dr (V k)=.ret (.int (z:Int)):=λk z r hk hz=>by
   obtain⟨_,_,_,_,hh⟩:=H k hk;have:∃l,V k=.tup (.tup (ar (z::r))::l):=by
    rcases hh with⟨w,_,_,e3⟩ | ⟨a,b,nm,x,y,r1,r2,_,_,_,_,e5⟩
    ·exact⟨_,by rw [e3,hz]⟩
    ·exact⟨_,by rw [e5,hz]⟩
   obtain⟨l,el⟩:=this;have k0:cn (PV.tup (ar (z::r))::l) 0=bd (.tup (ar (z::r))):=bC (j:=0) rfl;have k1:cn (ar (z::r)) 0=bd (.int (z:Int)):=bC (j:=0) rfl;unfold dr;rw [el];simp only [im,ay,a6,k0,k1,sB]
  have c1:=Û a x r1 ∅ e3;have c2:=Û b y r2 ∅ e4;have em:mapW [V a,V b] (λp5=>dr p5)=.ret [.int (x:Int),.int (y:Int)]:=by
   show am (dr (V a)) (λu=>am (am (dr (V b)) λv=>[]\λm=>bm (v::m)) λm=>bm (u::m))=_;rw [c1,c2];rfl
  rw [e1,e5];simp only [im,cr,ay,a6,j0,j1,sB,ga,lL,mC,ec,em,sf,iU];rw [e];simp only [jR,sB,ga];refine KY G hi λm hm=>?_;have:=Nw (d:=(nm,x,y)) hm (Wz e2);have e6:d2 (nm,x,y)=.tup [.str nm,.tup [.int (x:Int),.int (y:Int)]]:=rfl;rw [e6] at this;rw [this];exact q
theorem Pq (t:Tr) (f:Nat->PV):gr ((t.nd 0).map Ent.pv) ((Av t.size).map f)=(Av t.size).map λj=>PV.tup [(en t 0 j).pv,f j]:=by
 refine Bg λj=>?_;have hz:(gr ((t.nd 0).map Ent.pv) ((Av t.size).map f)).length=t.size:=by rw [lg];simp [t.br]
 by_cases hj:j < t.size
 ·have hl:j < (gr ((t.nd 0).map Ent.pv) ((Av t.size).map f)).length:=by omega
  obtain⟨x,y,hx,hy,e⟩:=mL (Ad hl);rw [Ag,e7 t 0 j hj] at hx;have uH:=Option.some.inj hx;rw [Ag,Bv hj] at hy;have Rz:=Option.some.inj hy;rw [Ad hl,e,<- uH,<- Rz,Ag,Bv hj];rfl
 ·rw [Ax ∅,Ax (by simp;omega)]
def PN (hw:t.Ws) (hz:t.size<=900):(lA t.pv).le (.ret (.bl true)):=λQ q=>by
 exact NQ t hw true (.inl rfl) hz Q q
theorem yN (G:WG g ws) (hw:t.Ws) (hz:t.size<=900) {w:PV} (h:LD g t (t.size-1) p w):(jm (iY g) t.pv w).le (.ret (.bl ((p.length:Int)==1))):=λQ q=>by
 have tp:=t.size_pos;obtain⟨V,P,v1,v2,H⟩:=vg t 0 (λk hk=>by rw [Az]) p w (by rw [Az];exact h);rw [Az] at v1 v2;have H:∀k,k < t.size->T9 g t V P k:=λk hk=>H k (A5 _) ∅;subst v1;subst v2;unfold jm;simp only [im,cr];refine W.le.use (PN hw hz) ?_;simp only [bb,ga,Bq,Am,if_false,cr];refine W.le.use (m9 t hz) ?_;refine W.le.use (Pw G hz H) ?_;obtain⟨l,el⟩:∃l,V (t.size-1)=.tup (.tup (ar (P (t.size-1)))::l):=by
  obtain⟨_,_,_,_,hh⟩:=H (t.size-1) ∅;rcases hh with⟨w,_,_,e3⟩ | ⟨a,b,nm,x,y,r1,r2,_,_,_,_,e5⟩
  ·exact⟨_,e3⟩
  ·exact⟨_,e5⟩
 have k0:cn (PV.tup (ar (P (t.size-1)))::l) 0=bd (.tup (ar (P (t.size-1)))):=bC (j:=0) rfl;rw [el];simp only [oM,PV.lT,bp,ga,Am,if_false,ay,a6,k0,sB,ck,bE,wN,im];cases c:((P (t.size-1)).length:Int)==1 with
 | false=>
  rw [c] at q;simpa using q
 | true=>
  rw [c] at q;simp only [Bq,Am,if_false,bI,cr,ga];refine⟨a9 (by rw [cv];omega),?_⟩;show (mapW _ _).run _;rw [Pq];refine fC (λ_=>.bl true) (λj hj R r=>?_) ?_
  ·have hj:=AI.mp hj;simp only [mB,im];exact Se G hj H R r
  ·have e1:(Av t.size).map (λ_=>PV.bl true)=((Av t.size).map λ_=>true).map PV.bl:=by rw [AN];rfl
   have e2:((Av t.size).map λ_=>true).all id=true:=by simp
   rw [e1,nX,e2];exact q
theorem Dt.isD {d:Int} (D:Dt t ds [] d) (h:d<=99):Rr t ds=true:=by
 unfold Rr;rw [AO,AO,decide_eq_true_iff,decide_eq_true_iff];refine⟨D.len,?_,Cy.mpr λj hj=>?_⟩
 ·unfold JL;have hp:(splits t).Pairwise (· < ·):=by unfold splits;exact List.Pairwise.filter _ Df
  rw [List.nodup_iff_pairwise_ne,Ef];refine List.Pairwise.imp_of_mem (λ{x y} hx hy lt e=>?_) hp;obtain⟨x1,x2⟩:=AL.mp hx;obtain⟨y1,y2⟩:=AL.mp hy;have:=D.inj x y (AI.mp x1) (AI.mp y1) (by simp) (by simp) x2 y2 e;omega
 ·have hj':=AI.mp hj;unfold Y1;cases e:en t 0 j with
  | word w=>
   rw [D.zero j hj' (.inl (by rw [e];rfl))];rfl
  | pair a b=>
   obtain⟨_,_,h1,h2,h3,h4⟩:=D.up j hj' (by simp) a b e;show (decide (ds.getD a 0 < ds.getD j 0)&&decide (ds.getD b 0 < ds.getD j 0)&&decide (1<=ds.getD j 0)&&decide (ds.getD j 0<=99))=true;rw [decide_eq_true h1,decide_eq_true h2,decide_eq_true h3,decide_eq_true ∅];rfl
theorem sE:∀(t:Tr) (o:Nat),(t.nd o).countP tJ+1=t.aG.length
 | .leaf _,_=>rfl
 | .node l r,o=>by
  have h1:=sE l o;have h2:=sE r (o+l.size);rw [Tr.nd,List.countP_append,List.countP_append];show _+(List.countP tJ [Ent.pair _ _])+1=(l.aG++r.aG).length;simp [tJ];omega
theorem Vn (t:Tr):t.nd 0=(Av t.size).map (en t 0):=by
 refine Bg λj=>?_;by_cases h:j < t.size
 ·rw [e7 t 0 j h,Ag,Bv h];rfl
 ·rw [Ax (by rw [t.br];omega),Ax (by simp;omega)]
def FK (t:Tr):(splits t).length+1=t.aG.length:=by
 rw [<- sE t 0,Vn t,EU];unfold splits;rw [<- List.countP_eq_length_filter];rfl
def Pa.snoc (r:Pa g i j) (hu:u∈(sy g j).un):Pa g i u:=by
 induction r with
 | refl i=>exact .step hu (.refl _)
 | step h _ ih=>exact .step h (ih hu)
def gS (t:Tr):List Sy:=(Av t.size).map λj=>⟨vT (en t 0 j) j,0,GB (en t 0 j),Xu t j⟩
def lU (t:Tr) (h:j < t.size):sy (gS t) j=⟨vT (en t 0 j) j,0,GB (en t 0 j),Xu t j⟩:=by
 unfold sy gS;rw [Ap,Ag,Bv h];rfl
@[simp] theorem iQ (t:Tr):(gS t).length=t.size:=by unfold gS;simp
def ZW (t:Tr):iY (gS t)=.tup (grL t):=by
 unfold iY gS grL;rw [AN];congr 1
def Tc (e:Ent) (j:Nat):(∃s,vT e j=.str s)\/∃n,vT e j=.int n:=by
 cases e with
 | word w=>exact .inl ⟨w,rfl⟩
 | pair a b=>exact .inr ⟨_,rfl⟩
def VZ (e:Ent):(GB e).length<=2:=by cases e <;> simp [GB]
theorem qj:∀(s:Tr) (t:Tr) (o:Nat) (w:Str),(∀k,k < s.size->en t 0 (o+k)=en s o k)->o+s.size<=t.size->w∈s.aG->∃i,i < t.size/\Pa (gS t) (o+s.size-1) i/\en t 0 i=.word w
 | .leaf x,t,o,w,hs,hz,hw=>by
  have e0:en t 0 o=.word x:=hs 0 (by show 0 < 1;decide);have hz:o+1<=t.size:=hz;have:w=x:=by simpa [Tr.aG] using hw
  subst this;exact⟨o,by omega,.refl _,e0⟩
 | .node l r,t,o,w,hs,hz,hw=>by
  have es:(Tr.node l r).size=l.size+r.size+1:=rfl;have er:en t 0 (o+(l.size+r.size))=.pair (o+l.size-1) (o+l.size+r.size-1):=by rw [hs _ ∅,en,if_neg ∅,if_neg ∅]
  have ei:o+(Tr.node l r).size-1=o+(l.size+r.size):=by omega
  have hl:∀k,k < l.size->en t 0 (o+k)=en l o k:=λk hk=>by rw [hs k ∅,en,if_pos hk]
  have hr:∀k,k < r.size->en t 0 (o+l.size+k)=en r (o+l.size) k:=λk hk=>by rw [A7,hs _ ∅,en,if_neg ∅,if_pos ∅,B4]
  have un:(sy (gS t) (o+(l.size+r.size))).un=[o+l.size-1,o+l.size+r.size-1]:=by rw [lU t ∅,er];rfl
  rw [ei];rcases AX.mp (show w∈l.aG++r.aG from hw) with hw | hw
  ·obtain⟨i,h1,h2,h3⟩:=qj l t o w hl ∅ hw;exact⟨i,h1,.step (by rw [un];simp) h2,h3⟩
  ·obtain⟨i,h1,h2,h3⟩:=qj r t (o+l.size) w hr ∅ hw;exact⟨i,h1,.step (by rw [un];simp) h2,h3⟩
theorem ug (hz:t.size<=30):WG (gS t) t.aG:=by
 have tp:=t.size_pos;refine⟨by rw [iQ];omega,by rw [iQ];omega,λi hi u hu=>?_,λi hi=>?_,λi hi u hu=>?_,λi hi=>?_,λi hi=>?_,λw hw=>?_⟩
 ·rw [iQ] at hi;rw [lU t hi] at hu;cases e:en t 0 i with
  | word w=>rw [e] at hu;cases hu
  | pair a b=>
   rw [e] at hu;have:=dE t hi e;have hu:u=a\/u=b:=by simpa [GB] using hu
   omega
 ·rw [iQ] at hi;rw [lU t hi];exact VZ _
 ·rw [iQ] at hi ⊢;rw [lU t hi] at hu;exact AI.mp (AL.mp hu).1
 ·rw [iQ] at hi;rw [lU t hi];have:=Bb (λk=>!decide (k∈up t 0 i [])&&!decide (i∈up t 0 k [])) (Av t.size);rw [BQ] at this;show (Xu t i).length<=30;unfold Xu;omega
 ·rw [iQ] at hi;rw [lU t hi];exact Tc _ _
 ·obtain⟨i,h1,h2,h3⟩:=qj t t 0 w (λk hk=>by rw [Az]) ∅ hw;rw [Az] at h2;refine⟨i,by rw [iQ];exact h1,by rw [iQ];exact h2,?_⟩;unfold hm;rw [lU t h1,h3];simp [GB,vT,Gu]
def dS (t:Tr) (ds bs:List Int):List Sy:=(aF t ds bs bs.length).map λp=>⟨vT (en t 0 p.1) p.1,p.2,(pR (en t 0 p.1) p.1 (ds.getD p.1 0) (bs.getD p.2 0)).map λx=>(aF t ds bs bs.length).idxOf (x,p.2-1),Sr (aF t ds bs bs.length) p.1 p.2⟩
def aao (t:Tr) (ds bs:List Int):iY (dS t ds bs)=.tup (Xq t ds bs):=by
 unfold iY dS Xq;rw [AN];congr 1
@[simp] theorem Hi (t:Tr) (ds bs:List Int):(dS t ds bs).length=(aF t ds bs bs.length).length:=by unfold dS;rw [Af]
theorem oW (t:Tr) (ds bs:List Int):∀m,(aF t ds bs m).Pairwise λp q=>p.2<=q.2
 | 0=>.nil
 | m+1=>by
  rw [aF];have JJ:∀p∈yb t ds (bs.getD m 0) m t.size,p.2=m:=λp hp=>by
   obtain⟨k,_,rfl⟩:=Au.mp hp;rfl
  refine List.pairwise_append.mpr ⟨oW t ds bs m,?_,λa ha b hb=>?_⟩
  ·exact BV.mpr λi j hi hj _=>by rw [JJ _ (CO hi),JJ _ (CO hj)];exact An _
  ·have h1:=(fg ha).1;rw [JJ b hb];omega
theorem uB (t:Tr) (ds bs:List Int) (n:Nat):∀m,((aF t ds bs m).filter λp=>decide (p.2=n)).length<=t.size
 | 0=>A5 _
 | m+1=>by
  rw [aF,List.filter_append,Ae];have ih:=uB t ds bs n m;by_cases c:n=m
  ·subst c;have z:(aF t ds bs n).filter (λp=>decide (p.2=n))=[]:=by
    rw [EI];intro p hp;have:=(fg hp).1;simp;omega
   rw [z];have h1:=Bb (λp:Nat×Nat=>decide (p.2=n)) (yb t ds (bs.getD n 0) n t.size);have h2:=vv t ds (bs.getD n 0) n t.size;simp only [Bf];omega
  ·have z:(yb t ds (bs.getD m 0) m t.size).filter (λp=>decide (p.2=n))=[]:=by
    rw [EI];intro p hp;obtain⟨k,_,rfl⟩:=Au.mp hp;simp;omega
   rw [z];simpa using ih
section
theorem DD.above (D:DD t ds) (h:(j,n)∈aF t ds (aH t ds) (aH t ds).length) (hn:n+1 < (aH t ds).length):∃a,(a,n+1)∈aF t ds (aH t ds) (aH t ds).length/\j∈pR (en t 0 a) a (ds.getD a 0) ((aH t ds).getD (n+1) 0):=by
 obtain⟨hnl,hj,hs⟩:=bW.mp h;obtain⟨s1,s2⟩:=(eN hj).mp hs;have inc:=D.inc;have lt:=wy inc hn (show n < n+1 by omega);have Ù:(∀a,j3 t 0 j .aU=.int ((a:Nat):Int)->(aH t ds).getD (n+1) 0 < ds.getD a 0)->∃a,(a,n+1)∈aF t ds (aH t ds) (aH t ds).length/\j∈pR (en t 0 a) a (ds.getD a 0) ((aH t ds).getD (n+1) 0):=λhx=>
  ⟨j,bW.mpr ⟨hn,hj,(eN hj).mpr ⟨by omega,hx⟩⟩,by unfold pR;rw [if_pos ∅];exact .head _⟩
 rcases hE t 0 j .aU hj with⟨_,e⟩ | ⟨a,u,v,ja,ha,e,ep,Tw⟩
 ·exact Ù λa z=>by rw [e] at z;cases z
 ·rw [Az] at e Tw;by_cases c:(aH t ds).getD (n+1) 0 < ds.getD a 0
  ·refine Ù λa' z=>?_;rw [e] at z;injection z with z;have:a=a':=by omega
   subst this;exact c
  ·have sa:=s2 a e;have eq:ds.getD a 0=(aH t ds).getD (n+1) 0:=by
    rcases Int.lt_or_eq_of_le (show ds.getD a 0<=(aH t ds).getD (n+1) 0 by omega) with c2 | c2
    ·have:=(rK inc hn (D.mem ha) c2).2;rw [Nat.add_sub_cancel] at this;omega
    ·exact c2
   refine⟨a,bW.mpr ⟨hn,ha,(eN ha).mpr ⟨by omega,λa2 e2=>?_⟩⟩,?_⟩
   ·rcases hE t 0 a .aU ha with⟨_,e3⟩ | ⟨a3,u3,v3,_,h3,e3,ep3,Nz⟩
    ·rw [e3] at e2;cases e2
    ·rw [e3] at e2;injection e2 with e2;rw [Az] at e2 Nz;have:a3=a2:=by omega
     subst this;have:=D.pair a3 u3 v3 h3 ep3;rcases Nz with rfl | rfl <;> omega
   ·unfold pR;rw [if_neg ∅,ep];rcases Tw with rfl | rfl <;> simp
theorem DD.last (D:DD t ds) (h:(j,n)∈aF t ds (aH t ds) (aH t ds).length) (hn:n+1=(aH t ds).length):j=t.size-1:=by
 obtain⟨hnl,hj,hs⟩:=bW.mp h;obtain⟨s1,s2⟩:=(eN hj).mp hs;rcases hE t 0 j .aU hj with⟨e,_⟩ | ⟨a,u,v,ja,ha,e,ep,Tw⟩
 ·exact e
 ·exfalso;rw [Az] at e;have sa:=s2 a e;have inc:=D.inc;obtain⟨i,hi,ei⟩:=DM (D.mem ha);have gd:(aH t ds).getD i 0=ds.getD a 0:=by rw [Ap,Ad hi];exact ei
  rcases Dc i n with c | c
  ·have:=wy inc hnl c;omega
  ·have:i=n:=by omega
   subst this;omega
def Gz [BEq α] [LawfulBEq α] {l:List α} (nd:l.Nodup) {x:α} (h:l[i]?=bd x):l.idxOf x=i:=by
 obtain⟨hi,e⟩:=Ak.mp h;rw [<- e];exact nd.idxOf_getElem i hi
def sL [BEq α] [LawfulBEq α] {l:List α}{x:α} (h:x∈l):l[l.idxOf x]?=bd x:=by
 have:=BM h;rw [Ad this,List.getElem_idxOf this]
theorem LN (D:DD t ds) (hz:t.size<=15) (hb:(aH t ds).length<=16):WG (dS t ds (aH t ds)) t.aG:=by
 have nd:=jI t ds (aH t ds) (aH t ds).length;have ć:=oW t ds (aH t ds) (aH t ds).length;have lay:=λn=>uB t ds (aH t ds) n (aH t ds).length;have ok:=D.ok;have ne:=D.ne;have ll:=jJ t ds (aH t ds) (aH t ds).length;have above:=λj n=>D.above (j:=j) (n:=n);have last:=λj n=>D.last (j:=j) (n:=n);have à:=@bW t ds (aH t ds) (aH t ds).length;unfold okD at ok;have hS:∀i p,(aF t ds (aH t ds) (aH t ds).length)[i]?=bd p->sy (dS t ds (aH t ds)) i=⟨vT (en t 0 p.1) p.1,p.2,(pR (en t 0 p.1) p.1 (ds.getD p.1 0) ((aH t ds).getD p.2 0)).map λx=>(aF t ds (aH t ds) (aH t ds).length).idxOf (x,p.2-1),Sr (aF t ds (aH t ds) (aH t ds).length) p.1 p.2⟩:=λi p hp=>by
  unfold sy dS;rw [Ap,Ag,hp];rfl
 have hL:(dS t ds (aH t ds)).length=(aF t ds (aH t ds) (aH t ds).length).length:=Hi t ds _;have hmul:=Nat.mul_le_mul hb hz;generalize aF t ds (aH t ds) (aH t ds).length=L at *;have get:∀i,i < (dS t ds (aH t ds)).length->∃p,L[i]?=bd p/\p∈L:=λi hi=>by
  rw [hL] at hi;exact⟨L[i],Ad hi,CO hi⟩
 have pos:=Fg.mpr ne;have Ó:∀(i a:Nat) (p r:Nat×Nat),L[i]?=bd p->L[a]?=bd r->r.2 < p.2->a < i:=λi a p r h1 h2 lt=>by
  rcases Dc a i with c | c
  ·exact c
  ·exfalso;obtain⟨g1,e1⟩:=Ak.mp h1;obtain⟨g2,e2⟩:=Ak.mp h2;rcases D5 c with c | c
   ·subst c;rw [h1] at h2;cases h2;omega
   ·have:=BV.mp ć i a g1 g2 c;rw [e1,e2] at this;omega
 refine⟨by rw [hL];exact pos,by rw [hL];omega,λi hi u hu=>?_,λi hi=>?_,λi hi u hu=>?_,λi hi=>?_,λi hi=>?_,λw hw=>?_⟩
 ·obtain⟨p,hp,hm⟩:=get i hi;rw [hS i p hp] at hu;obtain⟨x,hx,rfl⟩:=Au.mp hu;obtain⟨n1,xm⟩:=ok p hm x hx;exact Ó i _ p (x,p.2-1) hp (sL xm) (by show p.2-1 < p.2;omega)
 ·obtain⟨p,hp,hm⟩:=get i hi;rw [hS i p hp];unfold pR
  split
  ·simp
  ·cases en t 0 p.1 <;> simp
 ·obtain⟨p,hp,hm⟩:=get i hi;rw [hS i p hp] at hu;unfold Sr at hu;obtain⟨x,hx,rfl⟩:=Au.mp hu;rw [hL];exact BM (AL.mp hx).1
 ·obtain⟨p,hp,hm⟩:=get i hi;rw [hS i p hp];unfold Sr;rw [Af];have h1:=lay p.2;have h2:(L.filter λq=>decide (q.2=p.2)&&!decide (q.1=p.1)).length<=(L.filter λq=>decide (q.2=p.2)).length:=by
   have e:L.filter (λq=>decide (q.2=p.2)&&!decide (q.1=p.1))=(L.filter λq=>decide (q.2=p.2)).filter λq=>!decide (q.1=p.1):=by
    rw [List.filter_filter];refine congrArg (λf=>L.filter f) (funext λq=>Bool.and_comm _ _)
   rw [e];exact Bb _ _
  omega
 ·obtain⟨p,hp,hm⟩:=get i hi;rw [hS i p hp];exact Tc _ _
 ·
  have ã:∀k i,i+k+1=L.length->Pa (dS t ds (aH t ds)) (L.length-1) i:=λk=>by
   induction k using CW with
   | ind k ih=>
    intro i hk;obtain⟨⟨j,n⟩,hp,hm⟩:=get i (by rw [hL];omega);have nl:=(à.mp hm).1;by_cases c:n+1 < (aH t ds).length
    ·obtain⟨a,ha,hb⟩:=above j n hm c;have ia:=sL ha;have lt:=Ó _ i (a,n+1) (j,n) ia hp (by show n < n+1;omega);have il:=BM ha;have r:=ih (L.length-L.idxOf (a,n+1)-1) ∅ (L.idxOf (a,n+1)) ∅;refine r.snoc ?_;rw [hS _ _ ia];refine Au.mpr ⟨j,hb,?_⟩;exact Gz nd hp
    ·have hj:=last j n hm ∅;have:i=L.length-1:=by
      obtain⟨⟨j2,n2⟩,wA,Xe⟩:=get (L.length-1) (by rw [hL];omega);have n2l:=(à.mp Xe).1;rcases Dc n2 n with c2 | c2
      ·have:=Ó i (L.length-1) _ _ hp wA c2;omega
      ·have en2:n2=n:=by omega
       have NI:=last j2 n2 Xe ∅;subst en2;rw [NI,<- hj] at wA;exact (Gz nd hp).symm.trans (Gz nd wA)
     rw [this];exact .refl _
  obtain⟨j,hj,_,ej⟩:=qj t t 0 w (λk hk=>by rw [Az]) ∅ hw;have b0:(aH t ds).getD 0 0=0:=rfl;have mem:(j,0)∈L:=à.mpr ⟨by simp [aH],hj,(eN hj).mpr ⟨by rw [D.leaf j w hj ej,b0];exact CN _,λa ea=>by
   rcases hE t 0 j .aU hj with⟨_,e⟩ | ⟨a',u,v,_,ha,e,ep,_⟩
   ·rw [e] at ea;cases ea
   ·rw [e,Az] at ea;injection ea with ea;have:a'=a:=by omega
    subst this;have:=(D.pair a' u v ha ep).2.2;rw [b0];omega⟩⟩
  have il:=BM mem;refine⟨L.idxOf (j,0),by rw [hL];exact il,by rw [hL];exact ã (L.length-L.idxOf (j,0)-1) _ ∅,?_⟩;unfold hm;rw [hS _ _ (sL mem)];unfold pR;rw [b0,D.leaf j w hj ej,if_neg ∅,ej];simp [vT,Gu]
end
end My
variable {f:PL.PV->FL.W PL.PV}
namespace My
open PySem PySem.Spec PyProof.Rows L2 PL FL
def GJ (q:∀t:Tr,pe t->Q t.pv):eS.run Q:=Kp q
theorem yG {S:PV->Prop}:∀{l:List PV},(∀x∈l,∀R:PV->Prop,(∀v,S v->R v)->(f x).run R)->∀{Q:List PV->Prop},(∀m,m.length=l.length->(∀v∈m,S v)->Q m)->(mapW l f).run Q
 | [],_,Q,q=>q [] rfl (λ_ h=>nomatch h)
 | x::l,h,Q,q=>by
  show (am (f x) λy=>am (mapW l f) λm=>bm (y::m)).run Q;simp only [cr];refine h x (.head _) _ λv hv=>?_;refine yG (λy hy=>h y (.tail _ hy)) λm hm hs=>?_;exact q (v::m) (by simp [hm]) λu hu=>by
   rcases Ay.mp hu with rfl | hu
   ·exact hv
   ·exact hs u hu
theorem HZ:∀{m:List PV}{ls:List Str},(∀v∈m,∃w∈ls,v=PV.str w)->∃ws:List Str,m=ws.map PV.str/\∀w∈ws,w∈ls
 | [],_,_=>⟨[],rfl,λ_ h=>nomatch h⟩
 | v::m,ls,h=>by
  obtain⟨w,hw,rfl⟩:=h v (.head _);obtain⟨ws,rfl,h2⟩:=HZ (m:=m) (ls:=ls) λu hu=>h u (.tail _ hu);exact⟨w::ws,rfl,λx hx=>by
   rcases Ay.mp hx with rfl | hx
   ·exact hw
   ·exact h2 x hx⟩
theorem JM (g:pe t) (q:∀s:Tr,(∀w∈s.aG,w∈t.aG)->s.aG.length<=10->Q s.pv):(eR t.pv).run Q:=by
 have hz:=g.size;have hdp:=g.depth;unfold eR;simp only [im,cr];refine W.le.use (gD 12 t ∅ ∅) ?_
 let f:PV->Option PV:=λx=>match x with | .str w=>bd (.str w) | _=>bv
 have el:(t.nd 0).map Ent.pv=(Av t.size).map λj=>(en t 0 j).pv:=by
  apply Bg;intro i;by_cases hi:i < t.size
  ·rw [Ag,e7 t 0 i hi,Ag,Bv hi];rfl
  ·rw [Ax (by rw [cv];omega),Ax (by simp;omega)]
 rw [el];refine v9 (λj=>match en t 0 j with | .word w=>bd (PV.str w) | .pair _ _=>bv) (λj hj R r=>?_) ?_
 ·cases e:en t 0 j with
  | word w=>rw [e] at r;simpa [Ent.pv] using r
  | pair a b=>rw [e] at r;simpa [Ent.pv] using r
 generalize hL:(Av t.size).filterMap (λj=>match en t 0 j with | .word w=>bd (PV.str w) | .pair _ _=>bv)=L;have Lm:∀v∈L,∃w∈t.aG,v=PV.str w:=λv hv=>by
  rw [<- hL] at hv;obtain⟨j,hj,e⟩:=C3.mp hv;have hj:=AI.mp hj;cases e2:en t 0 j with
  | word w=>
   rw [e2] at e;exact⟨w,iC t 0 j w hj e2,(Option.some.inj e).symm⟩
  | pair a b=>rw [e2] at e;cases e
 have Ll:L.length<=1000:=by
  rw [<- hL];have:=List.length_filterMap_le (λj=>match en t 0 j with | .word w=>bd (PV.str w) | .pair _ _=>bv) (Av t.size);rw [BQ] at this;omega
 have Ln:L≠[]:=λz=>by
  obtain⟨w,e⟩:=wU t 0;have:PV.str w∈L:=by
   rw [<- hL];exact C3.mpr ⟨0,AI.mpr t.size_pos,by rw [e]⟩
  rw [z] at this;cases this
 simp only [df 8 ⋯ ⋯];refine bJ λd d0 d1=>?_;obtain⟨n,hn,n0,n1⟩:∃n:Int,cn [PV.int 6,PV.int 10] (if (d==0)=true then 1 else 0)=bd (.int n)/\0 < n/\n<=10:=by
  by_cases h:d=0
  ·subst h;exact⟨10,rfl,by decide,by decide⟩
  ·have e:(d==0)=false:=by simpa using h
   rw [e];exact⟨6,rfl,by decide,by decide⟩
 simp only [c8,ga,nI,a6,hn,sB,df n n0 ∅];refine bJ λk k0 k1=>?_;obtain⟨m,hm⟩:∃m:Nat,1+k=(m:Int):=⟨(1+k).toNat,by omega⟩;simp only [iz,ga,hm,fJ,re (cu (i:=0) (j:=(m:Int)) ∅ ∅),AZ];refine yG (S:=λv=>∃w∈t.aG,v=PV.str w) (λx _ R r=>pick_run Ln Ll λv hv=>r v (Lm v hv)) λms hl hs=>?_;obtain⟨ws,rfl,hw⟩:=HZ hs;rw [jv,Af] at hl;refine xU (λz=>by rw [z] at hl;simp at hl;omega) ∅ λs hp=>q s (λw h=>hw w (hp.mem_iff.mp h)) (by rw [hp.length_eq];omega)
inductive WT where
 | lf (p:List Nat) (i:Nat)
 | nd (p:List Nat) (i:Nat) (nm:Str) (a b:WT)
namespace WT
def path:WT->List Nat
 | .lf p i=>p++[i]
 | .nd p i _ _ _=>p++[i]
def at':WT->Nat
 | .lf _ i=>i
 | .nd _ i _ _ _=>i
def deed:WT->Str
 | .lf _ _=>"found"
 | .nd _ _ nm _ _=>nm
def kids:WT->List WT
 | .lf _ _=>[]
 | .nd _ _ _ a b=>[a,b]
def pv:WT->PV
 | .lf p i=>.tup [.tup (ar (p++[i])),.str "found"]
 | .nd p i nm a b=>.tup [.tup (ar (p++[i])),.str nm,a.pv,b.pv]
def size:WT->Nat
 | .lf _ _=>1
 | .nd _ _ _ a b=>a.size+b.size+1
def depth:WT->Nat
 | .lf _ _=>0
 | .nd _ _ _ a b=>max a.depth b.depth+1
def post:WT->List WT
 | .lf p i=>[.lf p i]
 | .nd p i nm a b=>a.post++b.post++[.nd p i nm a b]
def plc (u:WT):PV:=.tup [.int (u.at':Int),.str u.deed]
def Ok (g:List Sy):WT->Tr->Prop
 | .lf p i,.leaf w=>Ch g (p++[i])/\hm g i w=true
 | .nd p i nm a b,.node l r=>Ch g (p++[i])/\(∃x y r1 r2,(nm,x,y)∈zP g i/\a.path=x::r1/\b.path=y::r2)/\a.Ok g l/\b.Ok g r
 | _,_=>False
def pv_eq (u:WT):u.pv=.tup (.tup (ar u.path)::.str u.deed::u.kids.map pv):=by cases u <;> rfl
def path_eq (u:WT):∃p,u.path=p++[u.at']:=by cases u <;> exact⟨_,rfl⟩
def size_pos (u:WT):0 < u.size:=by cases u <;> simp [size]
theorem post_len:∀u:WT,u.post.length=u.size
 | .lf _ _=>rfl
 | .nd _ _ _ a b=>by simp [post,size,post_len a,post_len b];omega
def posts (l:List WT):List WT:=l.flatMap post
def sizes (l:List WT):Nat:=(l.map size).sum
def posts_kids (u:WT):u.post=posts u.kids++[u]:=by cases u <;> simp [post,posts,kids]
def size_kids (u:WT):u.size=sizes u.kids+1:=by cases u <;> simp [size,sizes,kids]
def posts_len (l:List WT):(posts l).length=sizes l:=by
 induction l with
 | nil=>rfl
 | cons x l ih=>
  have e:posts (x::l)=x.post++posts l:=rfl;have e2:sizes (x::l)=x.size+sizes l:=rfl;rw [e,e2,Ae,ih,post_len]
theorem len_sizes (l:List WT):l.length<=sizes l:=by
 induction l with
 | nil=>exact An _
 | cons x l ih=>
  have e2:sizes (x::l)=x.size+sizes l:=rfl;have:=x.size_pos;rw [Ao,e2];omega
def posts_app (l m:List WT):posts (l++m)=posts l++posts m:=by simp [posts]
def sizes_app (l m:List WT):sizes (l++m)=sizes l+sizes m:=by simp [sizes]
def kids_len (u:WT):u.kids.length<=2:=by cases u <;> simp [kids]
def cut2 (u:WT):kl (.tup (ar u.path)::.str u.deed::u.kids.map pv) (bd 2) bv=u.kids.map pv:=by
 have:=OJ (.tup (ar u.path)::.str u.deed::u.kids.map pv) (a:=2) (by simp);rw [show ((2:Nat):Int)=2 from rfl] at this;rw [this];rfl
end WT
theorem wok_wt:∀(s:Tr) (o:Nat),(∀k,k < s.size->en t 0 (o+k)=en s o k)->∀p w,LD g t (o+s.size-1) p w->∃u:WT,u.pv=w/\u.path=p/\u.Ok g s
 | .leaf x,o,hs,p,w,h=>by
  have e0:en t 0 o=.word x:=hs 0 (by show 0 < 1;decide);have ei:o+(Tr.leaf x).size-1=o:=by show o+1-1=o;omega
  rw [ei] at h;cases h with
  | @leaf _ q i w e c hh=>
   rw [e0] at e;cases e;exact⟨.lf q i,rfl,rfl,c,hh⟩
  | node e _ _ _ _=>rw [e0] at e;cases e
 | .node l r,o,hs,p,w,h=>by
  have es:(Tr.node l r).size=l.size+r.size+1:=rfl;have er:en t 0 (o+(l.size+r.size))=.pair (o+l.size-1) (o+l.size+r.size-1):=by rw [hs _ ∅,en,if_neg ∅,if_neg ∅]
  have ei:o+(Tr.node l r).size-1=o+(l.size+r.size):=by omega
  rw [ei] at h;have hl:∀k,k < l.size->en t 0 (o+k)=en l o k:=λk hk=>by rw [hs k ∅,en,if_pos hk]
  have hr:∀k,k < r.size->en t 0 (o+l.size+k)=en r (o+l.size) k:=λk hk=>by rw [A7,hs _ ∅,en,if_neg ∅,if_pos ∅,B4]
  cases h with
  | leaf e _ _=>rw [er] at e;cases e
  | @node _ q i a b nm x y p1 p2 wa wb e c hd h1 h2=>
  rw [er] at e;injection e with ea eb;subst ea;subst eb;obtain⟨u1,a1,a2,a3⟩:=wok_wt l o hl _ _ h1;obtain⟨u2,b1,b2,b3⟩:=wok_wt r (o+l.size) hr _ _ h2;exact⟨.nd q i nm u1 u2,by rw [WT.pv,a1,b1],rfl,c,⟨x,y,p1,p2,hd,a2,b2⟩,a3,b3⟩
def wok_root {w:PV} (h:LD g t (t.size-1) p w):∃u:WT,u.pv=w/\u.path=p/\u.Ok g t:=
 wok_wt t 0 (λk _=>by rw [Az]) p w (by rw [Az];exact h)
def WT.Ok.size:∀{u:WT}{s:Tr},u.Ok g s->u.size=s.size
 | .lf _ _,.leaf _,_=>rfl
 | .nd _ _ _ a b,.node l r,h=>by
  show a.size+b.size+1=l.size+r.size+1;rw [h.2.2.1.size,h.2.2.2.size]
def WT.Ok.depth:∀{u:WT}{s:Tr},u.Ok g s->u.depth=s.depth
 | .lf _ _,.leaf _,_=>rfl
 | .nd _ _ _ a b,.node l r,h=>by
  show max a.depth b.depth+1=max l.depth r.depth+1;rw [h.2.2.1.depth,h.2.2.2.depth]
def WT.done_ev (u:WT):fm u.pv=.ret (.int (u.at':Int)):=by
 obtain⟨p,e⟩:=u.path_eq;have k0:∀(x:PV) (l:List PV),cn (x::l) 0=bd x:=λ_ _=>bC (j:=0) rfl;rw [u.pv_eq,e];unfold fm;simp only [im,ay,a6,k0,sB,iU,jR]
theorem within_le (t:WT) (hz:t.size<=900):(m_ways_within t.pv).le (.ret (t.post.map WT.pv)):=λQ q=>by
 refine gH (λn s=>∃ts bs:List WT,n=WT.sizes ts/\s=(bs.map WT.pv,ts.map WT.pv)/\WT.posts ts++bs.reverse=t.post) ⟨[t],[],rfl,rfl,by simp [WT.posts]⟩ ?_;rintro n s ⟨ts,bs,rfl,rfl,hp⟩;have hs:=congrArg BU hp;rw [Ae,WT.posts_len,Ca,t.post_len] at hs;by_cases he:ts=[]
 ·subst he;have ę:bs.reverse=t.post:=hp;simp;rw [<- List.map_reverse,ę];exact q
 ·obtain⟨us,u,rfl⟩:=vC he;have Kk:=WT.len_sizes us;have hk:=u.kids_len;have hsu:=u.size_kids;have e0:WT.sizes [u]=u.size:=by simp [WT.sizes]
  rw [WT.sizes_app,e0] at hs;have ea:hX (bs.map WT.pv) u.pv=.ret (bs.map WT.pv++[u.pv]):=fy (by rw [Af];omega);have ex:se (us.map WT.pv) (u.kids.map WT.pv)=.ret (us.map WT.pv++u.kids.map WT.pv):=re (a9 (by simp;omega));have ne:(us.map WT.pv++[u.pv]).isEmpty=false:=by simp
  simp only [im,ga,A3,Aw,EG,ne,Dg,if_true,cr,GY,ea];rw [u.pv_eq];simp only [lL,im,mC,u.cut2,ay,ga,ex];refine⟨_,?_,us++u.kids,bs++[u],rfl,?_,?_⟩
  ·rw [WT.sizes_app,WT.sizes_app,e0];omega
  ·rw [<- u.pv_eq];simp
  ·rw [<- hp,WT.posts_app,WT.posts_app,DL];have e1:WT.posts [u]=WT.posts u.kids++[u]:=by rw [<- WT.posts_kids];simp [WT.posts]
   rw [e1];simp
theorem mapW_map' {c:α->PV}{k:α->PV}:∀{l:List α},(∀x∈l,f (c x)=.ret (k x))->mapW (l.map c) f=.ret (l.map k)
 | [],_=>rfl
 | x::r,h=>by
  show am (f (c x)) (λy=>am (mapW (r.map c) f) λm=>bm (y::m))=_;rw [h x (.head _),mapW_map' λy hy=>h y (.tail _ hy)];rfl
def places_le (t:WT) (hz:t.size<=900):(m_places t.pv).le (.ret (.tup (t.post.map WT.plc))):=λQ q=>by
 have k1:∀(x y:PV) (l:List PV),cn (x::y::l) 1=bd y:=λ_ _ _=>bC (j:=1) rfl;unfold m_places;simp only [im,cr];refine W.le.use (within_le t hz) ?_;rw [mapW_map' (c:=WT.pv) (k:=WT.plc) λx _=>by
  simp only [im,WT.done_ev];rw [x.pv_eq];simp only [im,ay,a6,k1,sB];rfl]
 exact q
inductive Sm:Nat->PV->Prop
 | str {n:Nat}{s:Str}:Sm (n+1) (.str s)
 | int {n:Nat}{i:Int}:Sm (n+1) (.int i)
 | tup {n:Nat}{l:List PV}:(∀x∈l,Sm n x)->l.length<=900->Sm (n+1) (.tup l)
theorem zip_self:∀l:List PV,gr l l=l.map λx=>PV.tup [x,x]
 | []=>by rw [gr];rfl;simp
 | x::l=>by rw [gr,zip_self l];rfl
theorem same_self:∀{n:Nat}{x:PV},Sm n x->(m__law_same n x x).le (.ret (.bl true))
 | _,_,@Sm.str n s=>λQ q=>by
  unfold m__law_same;have e:of2 dU (.str s) (.str s)=.ret (.bl true):=by rw [sh,re ⟨by simp,by simp,by simp⟩,N4];simp
  simp only [im,cr,gz,Jg,bb,ga,Am,if_false,iy,if_true,Wq,beq_self_eq_true,gA,e];exact q
 | _,_,@Sm.int n i=>λQ q=>by
  unfold m__law_same;simp only [im,cr,Jh,RY,RZ,bb,ga,Am,if_false,oM,PV.lT,bp,R0,R1,Wk,Dg,gA,c8,beq_self_eq_true];exact q
 | _,_,@Sm.tup n l h hl=>λQ q=>by
  unfold m__law_same;simp only [im,cr,fK,wQ,bb,ga,if_true,Bq,Am,if_false,ck,wN,beq_self_eq_true,bp,ay];refine⟨a9 ∅,?_⟩;show (mapW (gr l l) _).run _;rw [zip_self];refine fC (λ_=>.bl true) (λx hx R r=>?_) ?_
  ·exact same_self (h x hx) R r
  ·have e:l.map (λ_=>PV.bl true)=(l.map λ_=>true).map PV.bl:=by rw [AN];rfl
   rw [e,nX];have e2:(l.map λ_=>true).all id=true:=by simp
   rw [e2];exact q
end My
variable {u:My.WT}
namespace My
open PySem PySem.Spec PyProof.Rows L2 PL FL
namespace WT
def pre:WT->List Nat
 | .lf p _=>p
 | .nd p _ _ _ _=>p
def path_pre (u:WT):u.path=u.pre++[u.at']:=by cases u <;> rfl
end WT
def twoN (g:List Sy) (i:Nat):Bool:=decide ((sy g i).un.length=2)
def losN (g:List Sy) (p:List Nat):Nat:=(p.filter (twoN g)).length
def lost (g:List Sy) (l:List WT):Nat:=(l.map λx=>losN g x.pre).sum
def cnt (nm:Str) (l:List WT):Nat:=l.countP λx=>x.deed==nm
def Kn (g:List Sy) (x:WT):Prop:=(x.deed="split"\/x.deed="doubled"\/x.deed="over"\/x.deed="found")/\(∀i∈x.pre,i < g.length)/\x.pre.length<=300
def dds_kn (h:d∈zP g i):d.1="split"\/d.1="doubled"\/d.1="over":=by
 rcases Ay.mp h with rfl | h
 ·exact .inr (.inl rfl)
 rcases AX.mp h with h | h
 ·revert h;generalize (sy g i).un=l;intro h;unfold spl at h
  split at h
  ·simp at h;rcases h with rfl | rfl <;> exact .inl rfl
  ·cases h
 ·obtain⟨o,_,h⟩:=Cv.mp h;simp at h;rcases h with rfl | rfl <;> exact .inr (.inr rfl)
theorem ch_pre (G:WG g ws) (c:Ch g (p++[i])):(∀i∈p,i < g.length)/\p.length<=300:=by
 refine⟨λj hj=>c.lt j (BK _ hj),?_⟩;have gl:=G.len;cases p with
 | nil=>simp
 | cons a p=>
  have h1:=Ch.len G (p:=p++[i]) (i:=a) c;have h2:=c.lt a (by simp);simp at h1 ⊢;omega
theorem ok_kn (G:WG g ws):∀{u:WT}{s:Tr},u.Ok g s->∀x∈u.post,Kn g x
 | .lf p i,.leaf w,h,x,hx=>by
  have:=AR.mp hx;subst this;exact⟨.inr (.inr (.inr rfl)),ch_pre G h.1⟩
 | .nd p i nm a b,.node l r,h,x,hx=>by
  rcases AX.mp hx with hx | hx
  ·rcases AX.mp hx with hx | hx
   ·exact ok_kn G h.2.2.1 x hx
   ·exact ok_kn G h.2.2.2 x hx
  ·have:=AR.mp hx;subst this;obtain⟨_,_,_,_,hd,_⟩:=h.2.1;refine⟨?_,ch_pre G h.1⟩;rcases dds_kn hd with e | e | e
   ·exact .inl e
   ·exact .inr (.inl e)
   ·exact .inr (.inr (.inl e))
theorem cut_last (l:List PV) (x:PV):kl (l++[x]) bv (bd (-1))=l:=by
 have e:HT.d7 (l++[x]).length (l++[x]).length (bd (-1))=l.length:=by
  simp [HT.d7];try omega
 unfold kl;rw [HT.yc,e];simp
def path_cut (u:WT):kl (ar u.path) bv (bd (-1))=ar u.pre:=by
 rw [u.path_pre,ng];exact cut_last _ _
theorem loston_le (h:∀i∈u.pre,i < g.length):m_lost_on (iY g) (.tup (ar u.path))=.ret (.int (losN g u.pre)):=by
 unfold m_lost_on;simp only [im,iU,lL,mC,path_cut,ay];rw [Gn (p:=twoN g) λk hk=>by
  simp only [mQ (h k hk),im,ck,bE,c8,bp];have e:((((sy g k).un.length:Nat):Int)==2)=twoN g k:=by
   unfold twoN;rw [CC];simp;omega
  rw [e];cases twoN g k <;> rfl]
 simp only [im,sg,bE];rfl
def cnt_ev (l:List WT) (nm:Str):Sn (l.map λx=>PV.str x.deed) (.str nm)=.ret (.int (cnt nm l)):=by
 unfold Sn;rw [re ⟨by simp,gZ.mpr λx hx=>by obtain⟨y,_,rfl⟩:=Au.mp hx;simp,g8 λx hx=>by obtain⟨y,_,rfl⟩:=Au.mp hx;simp⟩];congr 2;unfold WA cnt;rw [EU];congr 1
def dueP (g:List Sy) (l:List WT):PV:=.tup [.int (cnt "split" l),.int (cnt "doubled" l),.int (cnt "over" l),.int (lost g l)]
theorem sum_cast (l:List Nat):(l.map λ(n:Nat)=>(n:Int)).sum=((l.sum:Nat):Int):=by
 induction l with
 | nil=>rfl
 | cons a l ih=>rw [Aw,List.sum_cons,List.sum_cons,ih];omega
theorem counted_le (u:WT) (hz:u.size<=300) (hk:∀x∈u.post,Kn g x):(m_counted (iY g) u.pv).le (.ret (dueP g u.post)):=λQ q=>by
 have k0:∀(x:PV) (l:List PV),cn (x::l) 0=bd x:=λ_ _=>bC (j:=0) rfl;have k1:∀(x y:PV) (l:List PV),cn (x::y::l) 1=bd y:=λ_ _ _=>bC (j:=1) rfl;unfold m_counted;simp only [im,cr];refine W.le.use (within_le u ∅) ?_;simp only [bI,ga];rw [mapW_map' (c:=WT.pv) (k:=λx=>.str x.deed) λx _=>by
  rw [x.pv_eq];simp only [im,ay,a6,k1,sB]]
 rw [mapW_map' (c:=WT.pv) (k:=λx=>.int (losN g x.pre:Nat)) λx hx=>by
  rw [x.pv_eq];simp only [im,ay,a6,k0,sB,loston_le (hk x hx).2.1]]
 have e1:u.post.map (λx=>PV.int (losN g x.pre:Nat))=((u.post.map λx=>losN g x.pre).map λ(n:Nat)=>(n:Int)).map PV.int:=by simp
 rw [e1];unfold sumLW;simp only [ga,cr,lH,sum_cast];rw [mapW_map' (c:=PV.str) (k:=λnm=>.int (cnt nm u.post)) λnm _=>by
  simp only [im,wO,cnt_ev]]
 simp only [ga];rw [oS (by simp)];exact q
end My
variable {x:Nat}{g':List My.Sy}{f:Nat->Nat}{r:List Nat}{ω:BZ->BZ}
namespace My
open PySem PySem.Spec PyProof.Rows L2 PL FL
structure Hm (g' g:List Sy) (f:Nat->Nat) (ω:Str->Str):Prop where
 lt:∀i,i < g'.length->f i < g.length
 un:∀i,i < g'.length->(∃u,(sy g' i).un=[u]/\f u=f i)\/(sy g (f i)).un=(sy g' i).un.map f\/(sy g (f i)).un=((sy g' i).un.map f).reverse
 dn:∀i,i < g.length->∀u∈(sy g i).un,u < i
 be:∀i,i < g'.length->∀o∈(sy g' i).be,f o∈(sy g (f i)).be
 hom:∀i,i < g'.length->∀w,hm g' i w=true->hm g (f i) (ω w)=true
def pf (f:Nat->Nat):List Nat->Nat->List Nat
 | [],_=>[]
 | x::r,i=>if f x=f (r.headD i) then pf f r i else f x::pf f r i
def Hh (f:Nat->Nat):Nat->List Nat->List Nat
 | x,[]=>[f x]
 | x,y::r=>if f x=f y then Hh f y r else f x::Hh f y r
theorem T5 (f:Nat->Nat):∀(r:List Nat) (x i:Nat),Hh f x (r++[i])=pf f (x::r) i++[f i]
 | [],x,i=>by
  show (if f x=f i then [f i] else f x::[f i])=(if f x=f i then [] else [f x])++[f i]
  split <;> rfl
 | y::r,x,i=>by
  show (if f x=f y then Hh f y (r++[i]) else f x::Hh f y (r++[i]))=(if f x=f y then pf f (y::r) i else f x::pf f (y::r) i)++[f i];rw [T5 f r y i]
  split <;> rfl
theorem vJ (f:Nat->Nat):∀(p:List Nat) (i:Nat),∃r,pf f p i++[f i]=f (p.headD i)::r
 | [],i=>⟨[],rfl⟩
 | x::r,i=>by
  show ∃r',(if f x=f (r.headD i) then pf f r i else f x::pf f r i)++[f i]=f x::r'
  split
  ·next h=>rw [h];exact vJ f r i
  ·exact⟨_,rfl⟩
def So:∀{r:List Nat}{x i:Nat},Ch g (x::(r++[i]))->x < g.length/\r.headD i∈(sy g x).un/\Ch g (r++[i])
 | [],_,_,h=>h
 | _::_,_,_,h=>h
theorem Hm.step {g' g:List Sy}{f:Nat->Nat}{ω:Str->Str} (M:Hm g' g f ω) {x n:Nat} (hx:x < g'.length) (hn:n∈(sy g' x).un):(f x=f n/\twoN g' x=false)\/(f x≠f n/\f n∈(sy g (f x)).un/\twoN g' x=twoN g (f x)):=by
 have key:(sy g' x).un.map f ⊆ (sy g (f x)).un->(sy g (f x)).un.length=(sy g' x).un.length->(f x=f n/\twoN g' x=false)\/(f x≠f n/\f n∈(sy g (f x)).un/\twoN g' x=twoN g (f x)):=λe1 e2=>by
  have h:f n∈(sy g (f x)).un:=e1 (Au.mpr ⟨n,hn,rfl⟩);have:=M.dn _ (M.lt x hx) _ h;exact .inr ⟨by omega,h,by unfold twoN;rw [e2]⟩
 rcases M.un x hx with⟨u,e1,e2⟩ | e | e
 ·rw [e1] at hn;rw [AR.mp hn,e2];exact .inl ⟨rfl,by unfold twoN;rw [e1];rfl⟩
 ·exact key (by rw [e];exact λ_ h=>h) (by rw [e,Af])
 ·exact key (by rw [e];exact λ_ h=>List.mem_reverse.mpr h) (by rw [e,Ca,Af])
def Hm.ch (M:Hm g' g f ω):∀{p:List Nat}{i:Nat},Ch g' (p++[i])->Ch g (pf f p i++[f i])/\losN g (pf f p i)=losN g' p
 | [],i,h=>⟨M.lt i h,rfl⟩
 | x::r,i,h=>by
  obtain⟨hx,hn,hr⟩:=So h;obtain⟨c,lo⟩:=M.ch hr;rcases M.step hx hn with⟨e,tw⟩ | ⟨e,m,tw⟩
  ·have ep:pf f (x::r) i=pf f r i:=if_pos e;rw [ep];refine⟨c,?_⟩;rw [lo];unfold losN;rw [Ce,tw];rfl
  ·have ep:pf f (x::r) i=f x::pf f r i:=if_neg e;obtain⟨r',er⟩:=vJ f r i;rw [ep];refine⟨?_,?_⟩
   ·show Ch g (f x::(pf f r i++[f i]));rw [er] at c ⊢;exact c.cons (M.lt x hx) m
   ·unfold losN at lo ⊢;rw [Ce,Ce,tw]
    split <;> simp [lo]
theorem Hm.zP (M:Hm g' g f ω) {nm:Str} (hi:i < g'.length) (h:(nm,x,y)∈zP g' i):(nm,f x,f y)∈zP g (f i):=by
 unfold My.zP at h ⊢;rcases Ay.mp h with h | h
 ·cases h;exact .head _
 refine AV _ ?_;rcases AX.mp h with h | h
 ·refine BK _ ?_;have hu:=M.un i hi;revert h hu;generalize (sy g' i).un=l;generalize (sy g (f i)).un=m;intro h hu
  match l,h,hu with
  | [a,b],h,hu=>
   simp [spl] at h;rcases hu with⟨u,e,_⟩ | e | e
   ·cases e
   ·rw [e];rcases h with⟨rfl,rfl,rfl⟩ | ⟨rfl,rfl,rfl⟩ <;> simp [spl]
   ·rw [e];rcases h with⟨rfl,rfl,rfl⟩ | ⟨rfl,rfl,rfl⟩ <;> simp [spl]
  | [],h,_=>simp [spl] at h
  | [_],h,_=>simp [spl] at h
  | _::_::_::_,h,_=>simp [spl] at h
 ·obtain⟨o,ho,h⟩:=Cv.mp h;refine AQ _ (Cv.mpr ⟨f o,M.be i hi o ho,?_⟩);simp at h;rcases h with⟨rfl,rfl,rfl⟩ | ⟨rfl,rfl,rfl⟩ <;> simp
def wm (f:Nat->Nat):WT->WT
 | .lf p i=>.lf (pf f p i) (f i)
 | .nd p i nm a b=>.nd (pf f p i) (f i) nm (wm f a) (wm f b)
def HL (f:Nat->Nat) (h:u.path=x::r):∃r',(wm f u).path=f x::r':=by
 have key:∀(p:List Nat) (i:Nat),p++[i]=x::r->∃r',pf f p i++[f i]=f x::r':=λp i e=>by
  obtain⟨r',e'⟩:=vJ f p i;have:p.headD i=x:=by
   cases p with
   | nil=>cases e;rfl
   | cons a p=>cases e;rfl
  rw [this] at e';exact⟨r',e'⟩
 cases u with
 | lf p i=>exact key p i h
 | nd p i nm a b=>exact key p i h
def cm (ω:Str->Str):Tr->Tr
 | .leaf w=>.leaf (ω w)
 | .node l r=>.node (cm ω l) (cm ω r)
theorem OK:∀t:Tr,cm id t=t
 | .leaf _=>rfl
 | .node l r=>by rw [cm,OK l,OK r]
def Hm.ok (M:Hm g' g f ω):∀{u:WT}{s:Tr},u.Ok g' s->(wm f u).Ok g (cm ω s)
 | .lf p i,.leaf w,h=>⟨(M.ch h.1).1,M.hom i h.1.last w h.2⟩
 | .nd p i nm a b,.node l r,h=>by
  obtain⟨c,⟨x,y,r1,r2,hd,h1,h2⟩,ha,hb⟩:=h;obtain⟨q1,e1⟩:=HL f h1;obtain⟨q2,e2⟩:=HL f h2;exact⟨(M.ch c).1,⟨f x,f y,q1,q2,M.zP c.last hd,e1,e2⟩,M.ok ha,M.ok hb⟩
theorem mO (f:Nat->Nat):∀u:WT,(wm f u).post=u.post.map (wm f)
 | .lf _ _=>rfl
 | .nd p i nm a b=>by
  show (wm f a).post++(wm f b).post++[_]=(a.post++b.post++[_]).map (wm f);rw [mO f a,mO f b];simp [wm]
def HM (f:Nat->Nat) (u:WT):(wm f u).deed=u.deed:=by cases u <;> rfl
def XW (f:Nat->Nat) (u:WT):(wm f u).at'=f u.at':=by cases u <;> rfl
theorem Iw:∀{u:WT}{s:Tr},u.Ok g s->∀x∈u.post,Ch g x.path
 | .lf p i,.leaf w,h,x,hx=>by rw [AR.mp hx];exact h.1
 | .nd p i nm a b,.node l r,h,x,hx=>by
  rcases AX.mp (show x∈a.post++b.post++[_] from hx) with hx | hx
  ·rcases AX.mp hx with hx | hx
   ·exact Iw h.2.2.1 x hx
   ·exact Iw h.2.2.2 x hx
  ·rw [AR.mp hx];exact h.1
def Hm.due (M:Hm g' g f ω) {s:Tr} (h:u.Ok g' s):dueP g (wm f u).post=dueP g' u.post:=by
 have hc:∀nm,cnt nm (wm f u).post=cnt nm u.post:=λnm=>by
  unfold cnt;rw [mO,EU];congr 1;funext x;simp only [Function.comp,HM]
 have hl:lost g (wm f u).post=lost g' u.post:=by
  unfold lost;rw [mO,AN];congr 1;refine B9 λx hx=>?_;have c:=Iw h x hx;cases x with
  | lf p i=>exact (M.ch c).2
  | nd p i nm a b=>exact (M.ch c).2
 unfold dueP;rw [hc,hc,hc,hl]
theorem wt_wok:∀(s:Tr) (o:Nat),(∀k,k < s.size->en t 0 (o+k)=en s o k)->∀u:WT,u.Ok g s->LD g t (o+s.size-1) u.path u.pv
 | .leaf x,o,hs,.lf p i,h=>by
  have e0:en t 0 o=.word x:=hs 0 (by show 0 < 1;decide);exact .leaf e0 h.1 h.2
 | .node l r,o,hs,.nd p i nm a b,h=>by
  have es:(Tr.node l r).size=l.size+r.size+1:=rfl;have er:en t 0 (o+(l.size+r.size))=.pair (o+l.size-1) (o+l.size+r.size-1):=by rw [hs _ ∅,en,if_neg ∅,if_neg ∅]
  have hl:∀k,k < l.size->en t 0 (o+k)=en l o k:=λk hk=>by rw [hs k ∅,en,if_pos hk]
  have hr:∀k,k < r.size->en t 0 (o+l.size+k)=en r (o+l.size) k:=λk hk=>by rw [A7,hs _ ∅,en,if_neg ∅,if_pos ∅,B4]
  obtain⟨x,y,r1,r2,hd,q1,q2⟩:=h.2.1;have w1:=wt_wok l o hl a h.2.2.1;have w2:=wt_wok r (o+l.size) hr b h.2.2.2;rw [q1] at w1;rw [q2] at w2;exact .node er h.1 hd w1 w2
def ok_root (h:u.Ok g t):LD g t (t.size-1) u.path u.pv:=by
 have:=wt_wok (g:=g) (t:=t) t 0 (λk _=>by rw [Az]) u h
 rwa [Az] at this
end My
variable {H:List Nat}
namespace My
open PySem PySem.Spec PyProof.Rows L2 PL FL
section
theorem DD.up (D:DD t ds):∀(k j:Nat),j+k+1=t.size->∀x∈up t 0 j [],ds.getD j 0<=ds.getD x 0:=λk=>by
 induction k using CW with
 | ind k ih=>
  intro j hk x hx;rcases mj t 0 j .aU [] ∅ with⟨_,_,e⟩ | ⟨a,ja,at',ea,e⟩
  ·rw [e,Az] at hx;rw [AR.mp hx];exact CN _
  ·rw [e,Az] at hx;rcases Ay.mp hx with rfl | hx
   ·exact CN _
   ·have h1:=ih (t.size-a-1) ∅ a ∅ x hx;rcases hE t 0 j .aU ∅ with⟨_,e3⟩ | ⟨a3,u3,v3,_,h3,e3,ep3,Nz⟩
    ·rw [e3] at ea;cases ea
    ·rw [e3] at ea;injection ea with ea;rw [Az] at ea Nz;have:a3=a:=by omega
     subst this;have:=D.pair a3 u3 v3 h3 ep3;rcases Nz with rfl | rfl <;> omega
theorem DD.apart (D:DD t ds) {b:Int} (hj:j < t.size) (hk:k < t.size) (sj:stB t ds b j=true) (sk:stB t ds b k=true) (ne:k≠j):k∉My.up t 0 j []:=λhx=>by
 obtain⟨_,s2⟩:=(eN hj).mp sj;obtain⟨k1,_⟩:=(eN hk).mp sk;rcases mj t 0 j .aU [] hj with⟨_,_,e⟩ | ⟨a,ja,at',ea,e⟩
 ·rw [e,Az] at hx;exact ne (AR.mp hx)
 ·rw [e,Az] at hx;rcases Ay.mp hx with h | hx
  ·exact ne h
  ·have h1:=D.up (t.size-a-1) a ∅ k hx;have h2:=s2 a (by rw [ea,Az]);omega
def LA (L:List (Nat×Nat)) (i:Nat):Nat:=(L.map (·.1)).getD i 0
def GD {L:List (Nat×Nat)}{p:Nat×Nat} (h:L[i]?=bd p):LA L i=p.1:=by
 unfold LA;rw [Ap,Ag,h];rfl
theorem NH (D:DD t ds) (hz:t.size<=15):Hm (dS t ds (aH t ds)) (gS t) (LA (aF t ds (aH t ds) (aH t ds).length)) id:=by
 have ok:=D.ok;have à:=@bW t ds (aH t ds) (aH t ds).length;have apart:=λb j k=>D.apart (b:=b) (j:=j) (k:=k);unfold okD at ok;have hS:∀i p,(aF t ds (aH t ds) (aH t ds).length)[i]?=bd p->sy (dS t ds (aH t ds)) i=⟨vT (en t 0 p.1) p.1,p.2,(pR (en t 0 p.1) p.1 (ds.getD p.1 0) ((aH t ds).getD p.2 0)).map λx=>(aF t ds (aH t ds) (aH t ds).length).idxOf (x,p.2-1),Sr (aF t ds (aH t ds) (aH t ds).length) p.1 p.2⟩:=λi p hp=>by
  unfold sy dS;rw [Ap,Ag,hp];rfl
 have hL:(dS t ds (aH t ds)).length=(aF t ds (aH t ds) (aH t ds).length).length:=Hi t ds _;generalize aF t ds (aH t ds) (aH t ds).length=L at *;have get:∀i,i < (dS t ds (aH t ds)).length->∃p,L[i]?=bd p/\p∈L:=λi hi=>by
  rw [hL] at hi;exact⟨L[i],Ad hi,CO hi⟩
 refine⟨λi hi=>?_,λi hi=>?_,(ug (show t.size<=30 by omega)).dn,λi hi o ho=>?_,λi hi w hw=>?_⟩ <;> obtain⟨⟨j,n⟩,hp,hmL⟩:=get i hi <;> obtain⟨nl,hj,sj⟩:=à.mp hmL <;> rw [GD hp]
 ·rw [iQ];exact hj
 ·have okp:=ok _ hmL;rw [hS i _ hp,lU t hj];have fx:∀x,x∈pR (en t 0 j) j (ds.getD j 0) ((aH t ds).getD n 0)->LA L (L.idxOf (x,n-1))=x:=λx hx=>GD (sL (okp x hx).2);revert fx;show (∀x,x∈pR (en t 0 j) j (ds.getD j 0) ((aH t ds).getD n 0)->LA L (L.idxOf (x,n-1))=x)->(∃u,(pR (en t 0 j) j (ds.getD j 0) ((aH t ds).getD n 0)).map (λx=>L.idxOf (x,n-1))=[u]/\LA L u=j)\/GB (en t 0 j)=((pR (en t 0 j) j (ds.getD j 0) ((aH t ds).getD n 0)).map λx=>L.idxOf (x,n-1)).map (LA L)\/GB (en t 0 j)=(((pR (en t 0 j) j (ds.getD j 0) ((aH t ds).getD n 0)).map λx=>L.idxOf (x,n-1)).map (LA L)).reverse;unfold pR
  split
  ·exact λfx=>.inl ⟨_,rfl,fx j (.head _)⟩
  ·cases en t 0 j with
   | word w=>exact λ_=>.inr (.inl rfl)
   | pair x y=>
    intro fx
    right;left
    show [x,y]=[LA L (L.idxOf (x,n-1)),LA L (L.idxOf (y,n-1))];rw [fx x (by simp),fx y (by simp)]
 ·rw [hS i _ hp] at ho;obtain⟨⟨k,m⟩,hx,rfl⟩:=Au.mp (show o∈Sr L j n from ho);obtain⟨xL,h2⟩:=AL.mp hx;simp at h2;obtain⟨rfl,kj⟩:=h2;obtain⟨_,hk,sk⟩:=à.mp xL;rw [GD (sL xL),lU t hj];refine AL.mpr ⟨AI.mpr hk,?_⟩;have a1:=apart _ _ _ hj hk sj sk kj;have a2:=apart _ _ _ hk hj sk sj (BE kj);simp [a1,a2]
 ·unfold hm at hw ⊢;rw [hS i _ hp] at hw;rw [lU t hj];revert hw;show ((((pR (en t 0 j) j (ds.getD j 0) ((aH t ds).getD n 0)).map λx=>L.idxOf (x,n-1)).isEmpty&&Gu w (vT (en t 0 j) j))=true)->((GB (en t 0 j)).isEmpty&&Gu w (vT (en t 0 j) j))=true;unfold pR
  split
  ·intro h;cases h
  ·cases en t 0 j with
   | word x=>exact id
   | pair x y=>intro h;cases h
end
theorem wV:∀(t:Tr) (o j k:Nat) (w:Str),t.aG.Nodup->j < t.size->k < t.size->en t o j=.word w->en t o k=.word w->j=k
 | .leaf _,o,j,k,w,_,hj,hk,_,_=>by
  have:j < 1:=hj;have:k < 1:=hk;omega
 | .node l r,o,j,k,w,nd,hj,hk,e1,e2=>by
  have es:(Tr.node l r).size=l.size+r.size+1:=rfl;obtain⟨n1,n2,n3⟩:=Cq.mp (show (l.aG++r.aG).Nodup from nd);have key:∀j,j < (Tr.node l r).size->en (.node l r) o j=.word w->(j < l.size/\en l o j=.word w)\/(¬j < l.size/\j < l.size+r.size/\en r (o+l.size) (j-l.size)=.word w):=λj hj e=>by
   rw [en] at e;by_cases c:j < l.size
   ·rw [if_pos c] at e;exact .inl ⟨c,e⟩
   ·rw [if_neg c] at e;by_cases c2:j < l.size+r.size
    ·rw [if_pos c2] at e;exact .inr ⟨c,c2,e⟩
    ·rw [if_neg c2] at e;cases e
  rcases key j hj e1 with⟨a1,a2⟩ | ⟨a1,a2,a3⟩ <;> rcases key k hk e2 with⟨b1,b2⟩ | ⟨b1,b2,b3⟩
  ·exact wV l o j k w n1 a1 b1 a2 b2
  ·exact absurd rfl (n3 w (iC l o j w a1 a2) w (iC r _ _ w ∅ b3))
  ·exact absurd rfl (n3 w (iC l o k w b1 b2) w (iC r _ _ w ∅ a3))
  ·have:=wV r _ (j-l.size) (k-l.size) w n2 ∅ ∅ a3 b3;omega
theorem Nx (nd:t.aG.Nodup) (hj:j < t.size) (e:en t 0 j=.word w):Ry ((t.nd 0).map Ent.pv) (.str w)=.ret (.int (j:Int)):=by
 have gt:∀k (h:k < ((t.nd 0).map Ent.pv).length),((t.nd 0).map Ent.pv)[k]=(en t 0 k).pv:=λk h=>by
  have:=Ad h;rw [Ag,e7 t 0 k (by rw [cv] at h;exact h)] at this;exact (Option.some.inj this).symm
 have fq:∀k,iR (en t 0 k).pv (.str w)=true->en t 0 k=.word w:=λk h=>by
  cases c:en t 0 k with
  | word x=>rw [c] at h;simp [Ent.pv] at h;rw [h]
  | pair a b=>rw [c] at h;simp [Ent.pv,iR] at h
 have hl:j < ((t.nd 0).map Ent.pv).length:=by rw [cv];exact hj
 have ok:tK (.str w) ((t.nd 0).map Ent.pv):=⟨by simp,gZ.mpr λx hx=>by
  obtain⟨q,_,rfl⟩:=Au.mp hx;cases q <;> simp [Ent.pv],Bk (g8 (n:=2) λx hx=>by
  obtain⟨q,_,rfl⟩:=Au.mp hx;cases q <;> simp [Ent.pv]) ⋯⟩
 have pj:iR ((t.nd 0).map Ent.pv)[j] (.str w)=true:=by rw [gt j hl,e];simp [Ent.pv]
 have hs:oG (.str w) ((t.nd 0).map Ent.pv)=true:=BL.mpr ⟨_,CO hl,pj⟩;unfold Ry;rw [re ⟨ok,hs⟩];have:tL (.str w) ((t.nd 0).map Ent.pv)=j:=by
  unfold tL;refine (List.findIdx_eq hl).mpr ⟨pj,λk hk=>?_⟩;cases c:iR ((t.nd 0).map Ent.pv)[k] (.str w) with
  | false=>rfl
  | true=>
   rw [gt k ∅] at c;have:=wV t 0 k j w nd (by rw [cv] at hl;omega) hj (fq k c) e;omega
 rw [this]
theorem Ki (g:pe t):(dX t.pv (iY (dS t ds bs))).le (.ret (ar ((aF t ds bs bs.length).map (·.1)))):=λQ q=>by
 have hz:=g.size;have hd:=g.depth;unfold dX iY dS;simp only [im,cr];refine W.le.use (gD 12 t ∅ ∅) ?_;simp only [ay,ga];rw [AN];refine fC (λp=>.int (p.1:Int)) (λp hp R r=>?_) ?_
 ·have hj:=(fg hp).2;have k0:∀(x:PV) (l:List PV),cn (x::l) 0=bd x:=λ_ _=>bC (j:=0) rfl;simp only [Function.comp,Sy.pv,ay,im,a6,k0,sB,wO];cases e:en t 0 p.1 with
  | word w=>
   simp only [vT,gz,iy,im,bb,if_true,Nx g.nd hj e];exact r
  | pair a b=>
   simp only [vT,Jh,im];exact r
 ·have e:((aF t ds bs bs.length).map λp=>PV.int (p.1:Int))=ar ((aF t ds bs bs.length).map (·.1)):=by unfold ar;rw [AN];rfl
  rw [e];exact q
def M8 (h:k < H.length):IP (ar H) (.int (k:Int))=.ret (.int ((H.getD k 0:Nat):Int)):=gj (by
 unfold ar;rw [Ag,Ap,Ad h];rfl)
theorem yr (hf:∀i,f i=H.getD i 0) (h:∀i∈x::r,i < H.length) (hl:r.length<=400):(bc (.cl (ar H)) (.tup (ar (x::r)))).le (.ret (.tup (ar (Hh f x r)))):=λQ q=>by
 have ix:∀{k},k < H.length->IP (ar H) (.int (k:Int))=.ret (.int (f k:Int)):=λhk=>by rw [M8 hk,hf]
 unfold bc;simp only [im,ay,fj,KC,cr,bI];have e0:([]:List PV).isEmpty=true:=rfl;have ea:hX [] (.int (f x:Int))=.ret ([]++[.int (f x:Int)]):=fy (by simp);simp only [e0,ga,if_true,cr,ix (h x (.head _)),im,ea];refine nF (λrest s=>∃A y l,rest=ar l/\s=ar (A++[f y])/\A++Hh f y l=Hh f x r/\A.length+l.length<=400/\∀z∈l,z < H.length) ⟨[],x,r,rfl,rfl,rfl,by simpa using hl,λz hz=>h z (.tail _ hz)⟩ (λw rest s hI=>?_) (λs hI=>?_)
 ·obtain⟨A,y,l,e1,rfl,e2,e3,e4⟩:=hI;cases l with
  | nil=>cases e1
  | cons z l=>
   rw [fj] at e1;cases e1;rw [Ao] at e3;have ne:(ar (A++[f y])).isEmpty=false:=by rw [ng];simp
   have ap:hX (ar (A++[f y])) (.int (f z:Int))=.ret (ar (A++[f y])++[.int (f z:Int)]):=fy (by rw [bE];simp;omega);simp only [ne,ga,Am,if_false,cr,iU,a6,jR,sB,im];have ez:=ix (e4 z (.head _));rw [a6] at ez;simp only [ez,ga,wN,bp,ap,cr,im];by_cases c:f y=f z
   ·have c':((f y:Int)==(f z:Int))=true:=by rw [c];simp
    simp only [c',Bq,Am,if_false,ga];refine⟨A,z,l,rfl,by rw [c],?_,by omega,λv hv=>e4 v (.tail _ hv)⟩;rw [<- e2,Hh,if_pos c]
   ·have c':((f y:Int)==(f z:Int))=false:=beq_eq_false_iff_ne.mpr ∅;simp only [c',Dg,if_true,cr,ga,ez,ap];refine⟨A++[f y],z,l,rfl,by rw [ng (A++[f y])];rfl,?_,by simp;omega,λv hv=>e4 v (.tail _ hv)⟩;rw [<- e2,Hh,if_neg c];simp
 ·obtain⟨A,y,l,e1,rfl,e2,e3,e4⟩:=hI;cases l with
  | cons z l=>rw [fj] at e1;cases e1
  | nil=>
   simp only [sf,ga];rw [<- e2] at q;exact q
theorem yq (hf:∀i,f i=H.getD i 0) (G:WG g ws) (hl:H.length=g.length) (c:Ch g (p++[i])):(bc (.cl (ar H)) (.tup (ar (p++[i])))).le (.ret (.tup (ar (pf f p i++[f i])))):=by
 have lt:=c.lt;have gl:=G.len;cases p with
 | nil=>exact yr hf (x:=i) (r:=[]) (λk hk=>by rw [hl];exact lt k hk) (by simp)
 | cons x r=>
  have:=Ch.len G (show Ch g (x::(r++[i])) from c);have h0:=lt x (.head _);rw [<- T5];exact yr hf (x:=x) (r:=r++[i]) (λk hk=>by rw [hl];exact lt k hk) ∅
theorem Ht (hf:∀i,f i=H.getD i 0) (G:WG g ws) (hl:H.length=g.length):∀(n:Nat) {u:WT}{s:Tr},u.Ok g s->u.depth < n->(aX n (.cl (ar H)) u.pv).le (.ret (wm f u).pv)
 | 0,_,_,_,h=>absurd h (Nat.not_lt_zero _)
 | n+1,.lf p i,.leaf w,h,hd=>λQ q=>by
  have i0:∀(a:PV) (l:List PV),cn (a::l) 0=bd a:=λ_ _=>bC (j:=0) rfl;have i1:∀(a b:PV) (l:List PV),cn (a::b::l) 1=bd b:=λ_ _ _=>bC (j:=1) rfl;unfold aX;simp only [WT.pv,im,ay,a6,i0,i1,sB,cr];refine W.le.use (yq hf G hl h.1) ?_;simp only [ck,Ao,Bf,c8,bp,ga];exact q
 | n+1,.nd p i nm a b,.node l r,h,hd=>λQ q=>by
  have i0:∀(a:PV) (l:List PV),cn (a::l) 0=bd a:=λ_ _=>bC (j:=0) rfl;have i1:∀(a b:PV) (l:List PV),cn (a::b::l) 1=bd b:=λ_ _ _=>bC (j:=1) rfl;have i2:∀(a b c d:PV),cn [a,b,c,d] 2=bd c:=λ_ _ _ _=>rfl;have i3:∀(a b c d:PV),cn [a,b,c,d] 3=bd d:=λ_ _ _ _=>rfl;have RJ:max a.depth b.depth+1 < n+1:=hd;unfold aX;simp only [WT.pv,im,ay,a6,i0,i1,i2,i3,sB,cr];refine W.le.use (yq hf G hl h.1) ?_;simp only [ck,Ao,Bf,c8,bp,ga];rw [if_neg (show ¬((((0+1+1+1+1:Nat):Int)==2)=true) by decide)];simp only [cr,ga];refine W.le.use (Ht hf G hl n h.2.2.1 ∅) ?_;refine W.le.use (Ht hf G hl n h.2.2.2 ∅) ?_;exact q
def Ug (f:Nat->Nat) (h:u.path=[i]):(wm f u).path=[f i]:=by
 have key:∀(p:List Nat) (j:Nat),p++[j]=[i]->pf f p j++[f j]=[f i]:=λp j e=>by
  cases p with
  | nil=>cases e;rfl
  | cons a p=>simp at e
 cases u with
 | lf p j=>exact key p j h
 | nd p j nm a b=>exact key p j h
theorem law22_ok:∀ns:List Int,ns.length<=63->(nh (.cl (ns.map PV.int))).run (·=.bl true):=λns hn=>by
 unfold nh;simp only [im,cr,iw,Af,Wl,Wm,ga];obtain⟨k,hk,k1⟩:∃k:Nat,(if (if (6:Int) < (ns.length:Int) then (6:Int) else (ns.length:Int)) > 1 then (if (6:Int) < (ns.length:Int) then (6:Int) else (ns.length:Int)) else 1)=(k:Int)/\k<=6:=by
  refine⟨(if (if (6:Int) < (ns.length:Int) then (6:Int) else (ns.length:Int)) > 1 then (if (6:Int) < (ns.length:Int) then (6:Int) else (ns.length:Int)) else 1).toNat,?_,?_⟩ <;> split <;> split <;> omega
 rw [hk];simp only [fJ,re (cu (i:=0) (j:=(k:Int)) ∅ ∅),ga,AZ];refine y6 (λ_ _=>True) trivial (λi _ hi _=>?_) (λ_ _=>rfl);simp only [cr];refine Qw ∅ λl hl=>⟨hl,?_⟩;simp only [cr];refine GJ λt g=>?_;have hz:=g.size;have hdp:=g.depth;refine W.le.use (gD 12 t ∅ ∅) ?_;simp only [ga];refine KZ t ∅ λds d D ag9=>?_;have RC:(splits t).length<=7:=by have:=FK t;have:=g.few;omega
 have Į:=DD.of (D.isD ∅);have hb:(aH t ds).length<=16:=by unfold aH;rw [Ao,n8];have:=Ig t ds;omega
 refine W.le.use (OG Į ∅) ?_;rw [<- aao];refine W.le.use (Ko t ∅) ?_;rw [<- ZW];have G':=LN Į hz hb;have G:=ug (show t.size<=30 by omega);have M:=NH Į hz;refine W.le.use (Ki g) ?_;have Ħ:((aF t ds (aH t ds) (aH t ds).length).map (·.1)).length=(dS t ds (aH t ds)).length:=by rw [Af,Hi]
 have hf:∀i,LA (aF t ds (aH t ds) (aH t ds).length) i=((aF t ds (aH t ds) (aH t ds).length).map (·.1)).getD i 0:=λi=>rfl;generalize (aF t ds (aH t ds) (aH t ds).length).map (·.1)=H at Ħ hf ⊢;generalize LA (aF t ds (aH t ds) (aH t ds).length)=f at M hf;generalize dS t ds (aH t ds)=g' at *;generalize gS t=g0 at *;refine JM g λu hu hul=>?_;have uz:u.size<=300:=by have:=u.size_eq;omega
 have ud:u.depth < 12:=by have:=u.nP;omega
 have uw:u.Ws:=λw hw=>g.ws w (hu w hw);simp only [fJ,re (cu (i:=0) (j:=(3:Int)) ∅ ∅),ga,cr];refine y6 (n:=3) (λ_ _=>True) trivial (λj _ hj _=>?_) (λ_ _=>trivial);simp only [cr];refine whole_run G' hu ud ∅ λi0 w0 W0=>?_;obtain⟨v,rfl,vp,ok⟩:=wok_root W0;have vz:=ok.size;have vd:=ok.depth;refine W.le.use (Ht hf G' Ħ 12 ok ∅) ?_;have í:=M.ok ok;rw [OK] at í;have vz2:=í.size;have W2:=ok_root í;rw [Ug f vp] at W2;have e1:((([i0]:List Nat).length:Int)==1)=true:=rfl;have e2:((([f i0]:List Nat).length:Int)==1)=true:=rfl;refine W.le.use (yN G' uw ∅ W0) ?_;simp only [e1,uN,beq_self_eq_true,Bq,bp,ga,Am,if_false,cr];refine W.le.use (yN G uw ∅ W2) ?_;simp only [e2,uN,beq_self_eq_true,Bq,bp,ga,Am,if_false,cr];refine W.le.use (counted_le (wm f v) ∅ (ok_kn G í)) ?_;refine W.le.use (counted_le v ∅ (ok_kn G' ok)) ?_;rw [M.due ok];have sm:(m__law_same 4 (dueP g' v.post) (dueP g' v.post)).le (.ret (.bl true)):=same_self (.tup (λx hx=>by
  simp at hx;rcases hx with rfl | rfl | rfl | rfl <;> exact .int) (by simp))
 refine W.le.use sm ?_;simp only [bb,ga,Bq,Am,if_false,cr];refine W.le.use (places_le v ∅) ?_;simp only [ay,ga];refine fC (λx=>(wm f x).plc) (λx hx R r=>?_) ?_
 ·obtain⟨p,ep⟩:=x.path_eq;have c:=Iw ok x hx;rw [ep] at c;have r:R (.tup [.int ((wm f x).at':Int),.str (wm f x).deed]):=r;rw [XW,HM,hf] at r;simp only [WT.plc,mB,im,bI,M8 (show x.at' < H.length by rw [Ħ];exact c.last)];exact r
 ·have em:v.post.map (λx=>(wm f x).plc)=(wm f v).post.map WT.plc:=by rw [mO,AN];rfl
  rw [em];simp only [sf,ga];refine W.le.use (places_le (wm f v) ∅) ?_;have pl:=(wm f v).post_len;have sm2:(m__law_same 4 (.tup ((wm f v).post.map WT.plc)) (.tup ((wm f v).post.map WT.plc))).le (.ret (.bl true)):=same_self (.tup (λx hx=>by
   obtain⟨y,_,rfl⟩:=Au.mp hx;exact .tup (λz hz=>by
    simp at hz;rcases hz with rfl | rfl
    ·exact .int
    ·exact .str) (by simp)) (by rw [Af];omega))
  refine W.le.use sm2 ?_;simp only [bb,ga,Bq,Am,if_false]
end My
variable {kG ui HW xV LY HY HX LX uj:PySem.Tok}{qz:BO}
namespace My
section
open PySem PySem.Spec PyProof.Rows L2 PL FL
def top (i:Nat):t0:=PySem.Challenge.pw_treewithin_k22_whole_slices_left_out.main.body.getD i (.Pass ⟨0,0,0,0⟩)
def sc_is_whole:aq ["thing"] ["thing"] (ag (top 1)):=fe
def sc_is_row:aq ["thing","many"] ["thing","many"] (ag (top 2)):=fe
abbrev N_is_word:List Str:=["thing"]
def sc_is_word:aq N_is_word ["thing"] (ag (top 6)):=fe
abbrev lsc_is_word_0:nn:=ko [("sign",lo),("LETTERS",gi)]
def lc_is_word_0:aA (ag (top 6)) N_is_word lsc_is_word_0 ["sign"] [bv]:=lcs
def sc_is_grown:aq ["thing","is_leaf","often","seen","waiting","part"] ["thing","is_leaf","often"] (ag (top 7)):=fe
def sc_is_tree:aq ["thing"] ["thing"] (ag (top 8)):=fe
def sc_parts_of:aq ["tree","backward","waiting","part"] ["tree"] (ag (top 9)):=fe
def sc_nodes:aq ["tree","told","loose","part","other","one"] ["tree"] (ag (top 10)):=fe
def sc_halves:aq ["node"] ["node"] (ag (top 11)):=fe
abbrev N_ahead_of:List Str:=["tree","told","node","ahead","number","half"]
def sc_ahead_of:aq N_ahead_of ["tree"] (ag (top 12)):=fe
abbrev lsc_ahead_of_0:nn:=ko [("node",lo)]
def lc_ahead_of_0:aA (ag (top 12)) N_ahead_of lsc_ahead_of_0 ["node"] [bv]:=lcs
def sc_under_at:aq ["stays","stay"] ["stays","stay"] (ag (top 17)):=fe
def sc_beside_at:aq ["stays","stay"] ["stays","stay"] (ag (top 18)):=fe
def sc_is_home:aq ["stays","stay","word"] ["stays","stay","word"] (ag (top 19)):=fe
def sc_name_of:aq ["houses","house"] ["houses","house"] (ag (top 20)):=fe
abbrev N_lines_up:List Str:=["great","ahead","house","lines","above"]
def sc_lines_up:aq N_lines_up ["great"] (ag (top 21)):=fe
abbrev lsc_lines_up_0:nn:=ko [("house",lo)]
def lc_lines_up_0:aA (ag (top 21)) N_lines_up lsc_lines_up_0 ["house"] [bv]:=lcs
abbrev N_apart_from:List Str:=["lines","house"]
def sc_apart_from:aq N_apart_from ["lines","house"] (ag (top 22)):=fe
abbrev lsc_apart_from_0:nn:=ko [("far",lo),("house",fr),("lines",fr)]
def lc_apart_from_0:aA (ag (top 22)) N_apart_from lsc_apart_from_0 ["far","house","lines"] [bv,bd 1,bd 0]:=lcs
abbrev N_ground:List Str:=["great","houses","lines"]
def sc_ground:aq N_ground ["great"] (ag (top 23)):=fe
abbrev lsc_ground_0:nn:=ko [("house",lo),("name_of",gi),("halves",gi),("apart_from",gi),("houses",fr),("lines",fr)]
def lc_ground_0:aA (ag (top 23)) N_ground lsc_ground_0 ["house","houses","lines"] [bv,bd 1,bd 2]:=lcs
def sc_comes_in:aq ["way"] ["way"] (ag (top 30)):=fe
def sc_done_at:aq ["way"] ["way"] (ag (top 31)):=fe
abbrev N_ins_of:List Str:=["way"]
def sc_ins_of:aq N_ins_of ["way"] (ag (top 32)):=fe
abbrev lsc_ins_of_0:nn:=ko [("half",lo),("comes_in",gi)]
def lc_ins_of_0:aA (ag (top 32)) N_ins_of lsc_ins_of_0 ["half"] [bv]:=lcs
def sc_split_ins:aq ["ground","stay","under"] ["ground","stay"] (ag (top 33)):=fe
abbrev N_over_ins:List Str:=["ground","stay","beside"]
def sc_over_ins:aq N_over_ins ["ground","stay"] (ag (top 34)):=fe
abbrev lsc_over_ins_0:nn:=ko [("far",lo),("stay",fr)]
abbrev lsc_over_ins_1:nn:=ko [("far",lo),("stay",fr)]
def lc_over_ins_0:aA (ag (top 34)) N_over_ins lsc_over_ins_0 ["far","stay"] [bv,bd 1]:=lcs
def lc_over_ins_1:aA (ag (top 34)) N_over_ins lsc_over_ins_1 ["far","stay"] [bv,bd 1]:=lcs
abbrev N_deeds_at:List Str:=["ground","node","stay","split","over"]
def sc_deeds_at:aq N_deeds_at ["ground","node","stay"] (ag (top 35)):=fe
abbrev lsc_deeds_at_0:nn:=ko [("ins",lo),("SPLIT",gi)]
abbrev lsc_deeds_at_1:nn:=ko [("ins",lo),("OVER",gi)]
def lc_deeds_at_0:aA (ag (top 35)) N_deeds_at lsc_deeds_at_0 ["ins"] [bv]:=lcs
def lc_deeds_at_1:aA (ag (top 35)) N_deeds_at lsc_deeds_at_1 ["ins"] [bv]:=lcs
def sc_is_stay:aq ["ground","thing"] ["ground","thing"] (ag (top 36)):=fe
abbrev N_is_path:List Str:=["ground","thing"]
def sc_is_path:aq N_is_path ["ground","thing"] (ag (top 37)):=fe
abbrev lsc_is_path_0:nn:=ko [("stay",lo),("is_stay",gi),("ground",fr)]
abbrev lsc_is_path_1:nn:=ko [("stay",lo),("below",lo),("under_at",gi),("ground",fr)]
def lc_is_path_0:aA (ag (top 37)) N_is_path lsc_is_path_0 ["stay","ground"] [bv,bd 0]:=lcs
def lc_is_path_1:aA (ag (top 37)) N_is_path lsc_is_path_1 ["stay","below","ground"] [bv,bv,bd 0]:=lcs
def sc_is_formed:aq ["ground","node","thing","many"] ["ground","node","thing"] (ag (top 38)):=fe
abbrev N_ways_of_nodes:List Str:=["ground","told","thing","node","ways","number","way","half","part"]
def sc_ways_of_nodes:aq N_ways_of_nodes ["ground","told","thing"] (ag (top 39)):=fe
abbrev lsc_ways_of_nodes_0:nn:=ko [("node",lo)]
def lc_ways_of_nodes_0:aA (ag (top 39)) N_ways_of_nodes lsc_ways_of_nodes_0 ["node"] [bv]:=lcs
def sc_is_done:aq ["ground","node","way"] ["ground","node","way"] (ag (top 40)):=fe
abbrev N_is_way:List Str:=["ground","small","thing","told","ways"]
def sc_is_way:aq N_is_way ["ground","small","thing"] (ag (top 41)):=fe
abbrev lsc_is_way_0:nn:=ko [("node",lo),("way",lo),("is_done",gi),("ground",fr)]
def lc_is_way_0:aA (ag (top 41)) N_is_way lsc_is_way_0 ["node","way","ground"] [bv,bv,bd 0]:=lcs
def sc_ways_within:aq ["way","backward","waiting","part"] ["way"] (ag (top 42)):=fe
abbrev N_places:List Str:=["way"]
def sc_places:aq N_places ["way"] (ag (top 43)):=fe
abbrev lsc_places_0:nn:=ko [("part",lo),("done_at",gi)]
def lc_places_0:aA (ag (top 43)) N_places lsc_places_0 ["part"] [bv]:=lcs
abbrev N_lost_on:List Str:=["ground","path"]
def sc_lost_on:aq N_lost_on ["ground","path"] (ag (top 45)):=fe
abbrev lsc_lost_on_0:nn:=ko [("stay",lo),("len",gi),("under_at",gi),("ground",fr)]
def lc_lost_on_0:aA (ag (top 45)) N_lost_on lsc_lost_on_0 ["stay","ground"] [bv,bd 0]:=lcs
abbrev N_counted:List Str:=["ground","way","parts","done","lost"]
def sc_counted:aq N_counted ["ground","way"] (ag (top 46)):=fe
abbrev lsc_counted_0:nn:=ko [("part",lo)]
abbrev lsc_counted_1:nn:=ko [("part",lo),("lost_on",gi),("ground",fr)]
abbrev lsc_counted_2:nn:=ko [("deed",lo),("done",fr)]
def lc_counted_0:aA (ag (top 46)) N_counted lsc_counted_0 ["part"] [bv]:=lcs
def lc_counted_1:aA (ag (top 46)) N_counted lsc_counted_1 ["part","ground"] [bv,bd 0]:=lcs
def lc_counted_2:aA (ag (top 46)) N_counted lsc_counted_2 ["deed","done"] [bv,bd 3]:=lcs
abbrev N_split_dates:List Str:=["houses","dates"]
def sc_split_dates:aq N_split_dates ["houses","dates"] (ag (top 48)):=fe
abbrev lsc_split_dates_0:nn:=ko [("house",lo),("date",lo),("isinstance",gi),("str",gi)]
def lc_split_dates_0:aA (ag (top 48)) N_split_dates lsc_split_dates_0 ["house","date"] [bv,bv]:=lcs
def sc_standing:aq ["great","dates","begins","ahead","pairs","number","begin","house","date"] ["great","dates","begins"] (ag (top 49)):=fe
abbrev N_stay_of:List Str:=["houses","dates","begins","numbers","pair","house","layer","goes_on","below","under","beside"]
def sc_stay_of:aq N_stay_of ["houses","dates","begins","numbers","pair"] (ag (top 50)):=fe
abbrev lsc_stay_of_0:nn:=ko [("each",lo),("layer",fr),("numbers",fr)]
abbrev lsc_stay_of_1:nn:=ko [("far",lo),("house",fr),("layer",fr),("numbers",fr)]
def lc_stay_of_0:aA (ag (top 50)) N_stay_of lsc_stay_of_0 ["each","layer","numbers"] [bv,bd 6,bd 3]:=lcs
def lc_stay_of_1:aA (ag (top 50)) N_stay_of lsc_stay_of_1 ["far","house","layer","numbers"] [bv,bd 5,bd 6,bd 3]:=lcs
abbrev N_dated:List Str:=["great","dates","houses","begins","pairs","numbers"]
def sc_dated:aq N_dated ["great","dates"] (ag (top 51)):=fe
abbrev lsc_dated_0:nn:=ko [("number",lo),("pair",lo)]
abbrev lsc_dated_1:nn:=ko [("pair",lo),("stay_of",gi),("begins",fr),("dates",fr),("houses",fr),("numbers",fr)]
def lc_dated_0:aA (ag (top 51)) N_dated lsc_dated_0 ["number","pair"] [bv,bv]:=lcs
def lc_dated_1:aA (ag (top 51)) N_dated lsc_dated_1 ["pair","begins","dates","houses","numbers"] [bv,bd 3,bd 1,bd 2,bd 5]:=lcs
def sc__law_pot:aq ["_law_script","_law_k","_law_cell","_law_digits"] ["_law_script","_law_k"] (ag (top 53)):=fe
def sc__law_take:aq ["_law_pot_here","_law_many","_law_digit","_law_mixed"] ["_law_pot_here","_law_many"] (ag (top 54)):=fe
def sc__law_pick:aq ["_law_pot_here","_law_some"] ["_law_pot_here","_law_some"] (ag (top 55)):=fe
def sc__law_words:aq ["_law_pot_here","_law_many","_law_letters","_law_first","_law_turn","_law_stem","_law_ends","_law_found","_law_k","_law_letter"] ["_law_pot_here","_law_many"] (ag (top 56)):=fe
def sc__law_tree:aq ["_law_pot_here","_law_words_here","_law_some","_law_way_here","_law_at","_law_pair"] ["_law_pot_here","_law_words_here"] (ag (top 57)):=fe
def sc__law_great:aq ["_law_pot_here"] ["_law_pot_here"] (ag (top 58)):=fe
def sc__law_nodes:aq ["_law_tree_here","_law_rows","_law_many","_law_row"] ["_law_tree_here"] (ag (top 59)):=fe
abbrev N__law_dates:List Str:=["_law_pot_here","_law_rows","_law_dates_here","_law_house","_law_left","_law_date","_law_ready"]
def sc__law_dates:aq N__law_dates ["_law_pot_here","_law_rows"] (ag (top 60)):=fe
abbrev lsc__law_dates_0:nn:=ko [("_law_house",lo),("_law_row",lo),("isinstance",gi),("str",gi)]
abbrev lsc__law_dates_1:nn:=ko [("_law_house",lo),("_law_left",fr),("_law_rows",fr)]
def lc__law_dates_0:aA (ag (top 60)) N__law_dates lsc__law_dates_0 ["_law_house","_law_row"] [bv,bv]:=lcs
def lc__law_dates_1:aA (ag (top 60)) N__law_dates lsc__law_dates_1 ["_law_house","_law_left","_law_rows"] [bv,bd 4,bd 1]:=lcs
abbrev N__law_small:List Str:=["_law_pot_here","_law_great_here","_law_words_here","_law_many"]
def sc__law_small:aq N__law_small ["_law_pot_here","_law_great_here"] (ag (top 61)):=fe
abbrev lsc__law_small_0:nn:=ko [("_law_row",lo),("isinstance",gi),("str",gi)]
abbrev lsc__law_small_1:nn:=ko [("_law_k",lo),("_law_pick",gi),("_law_pot_here",fr),("_law_words_here",fr)]
def lc__law_small_0:aA (ag (top 61)) N__law_small lsc__law_small_0 ["_law_row"] [bv]:=lcs
def lc__law_small_1:aA (ag (top 61)) N__law_small lsc__law_small_1 ["_law_k","_law_pot_here","_law_words_here"] [bv,bd 0,bd 2]:=lcs
def sc__law_deeds:aq ["_law_stays","_law_stay","_law_name","_law_level","_law_under","_law_beside","_law_found","_law_other"] ["_law_stays","_law_stay"] (ag (top 62)):=fe
abbrev N__law_done:List Str:=["_law_stays","_law_rows","_law_can_here","_law_node","_law_stay","_law_row"]
def sc__law_done:aq N__law_done ["_law_stays","_law_rows","_law_can_here","_law_node","_law_stay"] (ag (top 63)):=fe
abbrev lsc__law_done_0:nn:=ko [("_law_one",lo),("_law_can_here",fr),("_law_row",fr)]
def lc__law_done_0:aA (ag (top 63)) N__law_done lsc__law_done_0 ["_law_one","_law_can_here","_law_row"] [bv,bd 2,bd 5]:=lcs
abbrev N__law_can:List Str:=["_law_stays","_law_rows","_law_found","_law_node","_law_stay","_law_on"]
def sc__law_can:aq N__law_can ["_law_stays","_law_rows"] (ag (top 64)):=fe
abbrev lsc__law_can_0:nn:=ko [("_law_low",lo),("_law_found",fr),("_law_node",fr)]
def lc__law_can_0:aA (ag (top 64)) N__law_can lsc__law_can_0 ["_law_low","_law_found","_law_node"] [bv,bd 2,bd 3]:=lcs
abbrev N__law_path:List Str:=["_law_pot_here","_law_stays","_law_rows","_law_can_here","_law_node","_law_stay","_law_path_here","_law_turn","_law_on","_law_ends"]
def sc__law_path:aq N__law_path ["_law_pot_here","_law_stays","_law_rows","_law_can_here","_law_node","_law_stay"] (ag (top 65)):=fe
abbrev lsc__law_path_0:nn:=ko [("_law_low",lo),("_law_can_here",fr),("_law_node",fr)]
abbrev lsc__law_path_1:nn:=ko [("_law_low",lo),("_law_can_here",fr),("_law_node",fr)]
def lc__law_path_0:aA (ag (top 65)) N__law_path lsc__law_path_0 ["_law_low","_law_can_here","_law_node"] [bv,bd 3,bd 4]:=lcs
def lc__law_path_1:aA (ag (top 65)) N__law_path lsc__law_path_1 ["_law_low","_law_can_here","_law_node"] [bv,bd 3,bd 4]:=lcs
def sc__law_way:aq ["_law_pot_here","_law_stays","_law_rows","_law_can_here","_law_node","_law_path_here","_law_deed","_law_one","_law_other","_law_row","_law_first"] ["_law_pot_here","_law_stays","_law_rows","_law_can_here","_law_node","_law_path_here"] (ag (top 66)):=fe
abbrev N__law_whole_way:List Str:=["_law_pot_here","_law_stays","_law_small_here","_law_rows","_law_can_here","_law_last","_law_some"]
def sc__law_whole_way:aq N__law_whole_way ["_law_pot_here","_law_stays","_law_small_here"] (ag (top 67)):=fe
abbrev lsc__law_whole_way_0:nn:=ko [("_law_stay",lo),("_law_done",gi),("_law_can_here",fr),("_law_last",fr),("_law_rows",fr),("_law_stays",fr)]
def lc__law_whole_way_0:aA (ag (top 67)) N__law_whole_way lsc__law_whole_way_0 ["_law_stay","_law_can_here","_law_last","_law_rows","_law_stays"] [bv,bd 4,bd 5,bd 3,bd 1]:=lcs
abbrev N__law_same:List Str:=["_law_found","_law_due"]
def sc__law_same:aq N__law_same ["_law_found","_law_due"] (ag (top 68)):=fe
abbrev lsc__law_same_0:nn:=ko [("_law_one",lo),("_law_other",lo),("_law_same",gi)]
def lc__law_same_0:aA (ag (top 68)) N__law_same lsc__law_same_0 ["_law_one","_law_other"] [bv,bv]:=lcs
abbrev mf:List Str:=["_law_great_here","_law_stays","_law_rows"]
def kH:aq mf ["_law_great_here","_law_stays"] (ag (top 69)):=fe
abbrev nr:nn:=ko [("_law_stay",lo),("isinstance",gi),("str",gi),("_law_rows",fr)]
def jt:aA (ag (top 69)) mf nr ["_law_stay","_law_rows"] [bv,bd 2]:=lcs
def cR:aq ["_law_houses_here","_law_path_here","_law_found","_law_stay"] ["_law_houses_here","_law_path_here"] (ag (top 70)):=fe
def ig:aq ["_law_houses_here","_law_way_here","_law_path_here"] ["_law_houses_here","_law_way_here"] (ag (top 71)):=fe
abbrev N_law:List Str:=["_law_script","_law_k","_law_pot_here","_law_great_here","_law_stays","_law_bare","_law_houses_here","_law_small_here","_law_turn","_law_way_here","_law_other","_law_due"]
def sc_law:aq N_law ["_law_script"] (ag (top 72)):=fe
abbrev lsc_law_0:nn:=ko [("_law_stay",lo),("_law_deed",lo),("_law_houses_here",fr)]
def lc_law_0:aA (ag (top 72)) N_law lsc_law_0 ["_law_stay","_law_deed","_law_houses_here"] [bv,bv,bd 6]:=lcs
structure NB (v:EV):Prop where
 isinstance:v.mg "isinstance"=bv
 bool:v.mg "bool"=bv
 int:v.mg "int"=bv
 len:v.mg "len"=bv
 tuple:v.mg "tuple"=bv
 str:v.mg "str"=bv
 all:v.mg "all"=bv
 list:v.mg "list"=bv
 reversed:v.mg "reversed"=bv
 enumerate:v.mg "enumerate"=bv
 range:v.mg "range"=bv
 sorted:v.mg "sorted"=bv
 zip:v.mg "zip"=bv
 sum:v.mg "sum"=bv
 dict:v.mg "dict"=bv
 abs:v.mg "abs"=bv
 any:v.mg "any"=bv
 min:v.mg "min"=bv
 max:v.mg "max"=bv
variable {v:EV}
abbrev d_is_whole:DF:=⟨"is_whole",top 1,["thing"],1,λK=>eM K [.v] (cp 1 gR)⟩
def k_is_whole (D:DI v d_is_whole) (q:NB v):D.O:=
 lP (m:=gR) D sc_is_whole λaP _ _ _ _ _ _ hr=>
 (SF.bN (lX (cP rfl .int rfl q.isinstance (ae 0) rfl q.int boot_int) (lW (TX (cP rfl .bool rfl q.isinstance (ae 0) rfl q.bool boot_bool)))) λ_=>rfl)
abbrev d_is_row:DF:=⟨"is_row",top 2,["thing","many"],1,λK=>eM K [.v,.v] (cp 2 fV)⟩
def k_is_row (D:DI v d_is_row) (q:NB v):D.O:=
 ox (m:=fV) D sc_is_row λaP jg _ _ _ _ _ _ hr=>
 (SF.bN (lX (cP rfl .tup rfl q.isinstance (ae 0) rfl q.tuple boot_tuple) (lW (iE (eJ rfl (aO hr)) (cW rfl rfl q.len (ae 0)) (ae 1)))) λ_=>rfl)
abbrev d_is_word:DF:=⟨"is_word",top 6,["thing"],1,λK=>eM K [.v] (cp 1 jk)⟩
def k_is_word (D:DI v d_is_word) (q:NB v) (cK:v.mg "LONGEST_WORD"=bd (.int 8 kG)) (gF:v.mg "LETTERS"=bd (.str "abcdefghijklmnopqrstuvwxyz" ui)):D.O:=
 lP (m:=jk) D sc_is_word λaP _ _ _ _ _ _ hr=>
 (SF.yO (pT.t (mS (ic (bM rfl (cP rfl .str rfl q.isinstance (ae 0) rfl q.str r9) (λ_=>rfl))) (jG (ic (PY IL IL ao (cW rfl rfl q.len (ae 0)) (wW cK rfl))))))
 (SF.bN k6 λ_=>rfl)
 (SF.bN (zi rfl rfl rfl q.all (bX (eg rfl lc_is_word_0 (VT (ae 0)) (λ_ _ _ _ _=>(di 0 lc_is_word_0.nd)) (λ_ _ _ _ _ p2=>(iE (VO rfl) (ae 0) (sA gF rfl))) rfl))) λ_=>rfl))
abbrev d_is_grown (g9:db):DF:=⟨"is_grown",top 7,["thing","is_leaf","often"],2,λK=>eM K [.v,.f g9,.v] (cp 2 gT)⟩
theorem k_is_grown {g9:db} (D:DI v (d_is_grown g9)) (GK:WZ v.P v.w v.K v.mg v.base g9 d_is_word.k d_is_word.ps (d_is_word.sp v.K)) (rS:d_is_row.C v):D.O:=
 ox (m:=gT) D sc_is_grown λaP FY _ _ _ _ _ _ hr=>
 (SF.acp (i:=3) sc_is_grown.nd rfl (CB rfl)
 (sl 4 sc_is_grown.nd (aZ (n:=1) (af (ae 0) ak) rfl) λcF=>
 (SF.qG (hd:=(λ(s4:List (Key×PV)×List PV)=>([bd (.val aP),bd (.adr g9),bd (.val FY),bd (.od s4.1),bd (.ol bv s4.2),bv]:bA))) (s0:=([],cF)) (inj:=id) AJ (.refl _) (λs4=>(LV rfl (bO 4) (λ_=>rfl))) (λ_=>trivial) (λs4=>
 (SF.qX 4 5 rfl ⋯ rfl rfl (.inl rfl) sc_is_grown.nd rfl (CB rfl) λt7=>
 (SF.VV (bM rfl (eC rS hr (af (ae 5) (af ao ak))) (λ_=>rfl))
 (SF.extend 4 rfl rfl rfl (.inl rfl) (av (ae 5)) λdh=>
 (SF.eY rfl (.keep (.keep (.keep (.keep (.keep (.drop (.refl _)))))))))
 (SF.VV (pT.t (mS (ic (bM rfl (Sd 1 GK hr (by first | exact Di rfl | omega) rfl (af (ae 5) ak) rfl) (λ_=>rfl))) (jG (pT.t (kE (X1 3 rfl (aO hr) (ae 5)) (ib (ic (bM rfl (ae 2) (λ_=>rfl)))))))))
 (SF.ret (k:=λkq=>(Lp.out kq)) k6 λ_=>rfl)
 (SF.putD 3 rfl (aO hr) rfl (.inl rfl) k6 (ae 5) λIh=>
 (SF.eY rfl (.keep (.keep (.keep (.keep (.keep (.drop (.refl _))))))))))))) λs4=>
 (SF.bN k6 λ_=>rfl))))
abbrev d_is_tree:DF:=⟨"is_tree",top 8,["thing"],3,λK=>eM K [.v] (cp 1 lA)⟩
def k_is_tree (D:DI v d_is_tree) {sd:db} (Lg:v.mg "is_word"=bd (.ref sd)) (GR:(d_is_grown sd).C v):D.O:=
 lP (m:=lA) D sc_is_tree λaP _ _ _ _ _ _ hr=>
 (SF.bN (eC GR hr (af (ae 0) (ad8 rfl Lg (af k6 ak)))) λ_=>rfl)
abbrev d_parts_of:DF:=⟨"parts_of",top 9,["tree"],1,λK=>fP K [.v] (cp 1 jP)⟩
def k_parts_of (D:DI v d_parts_of) (q:NB v):D.O:=
 Q6 (m:=jP) D sc_parts_of λiZ _ _ _ _ _ _ hr=>
 (sl 1 sc_parts_of.nd (aZ (n:=0) ak rfl) λeE=>
 (sl 2 sc_parts_of.nd (aZ (n:=1) (af (ae 0) ak) rfl) λcF=>
 (SF.xP (hd:=(λ(s4:List PV×List PV)=>([bd (.val iZ),bd (.ol bv s4.1),bd (.ol bv s4.2),bv]:bA))) (s0:=(eE,cF)) AJ (.refl _) (λs4=>(LV rfl (bO 2) (λ_=>rfl))) (λs4=>
 (SF.qX 2 3 rfl ⋯ rfl rfl (.inl rfl) sc_parts_of.nd rfl (CB rfl) λt7=>
 (SF.append 1 rfl rfl rfl (.inl rfl) (ae 3) λfv=>
 (SF.VV (ic (bM rfl (cP rfl .str rfl q.isinstance (ae 3) rfl q.str r9) (λ_=>rfl)))
 (SF.extend 2 rfl rfl rfl (.inl rfl) (av (ae 3)) λdh=>
 (SF.eY rfl (.keep (.keep (.keep (.drop (.refl _)))))))
 (SF.eY rfl (.keep (.keep (.keep (.drop (.refl _)))))))))) λs4=>
 (SF.i9 (Th rfl rfl rfl q.list rfl q.reversed (qT 1)) λ_=>rfl))))
abbrev d_nodes:DF:=⟨"nodes",top 10,["tree"],2,λK=>eM K [.v] (cp 1 ir)⟩
def k_nodes (D:DI v d_nodes) (q:NB v) (GN:d_parts_of.C v):D.O:=
 lP (m:=ir) D sc_nodes λiZ _ _ _ _ _ _ hr=>
 (sl 1 sc_nodes.nd (aZ (n:=0) ak rfl) λjH=>
 (sl 2 sc_nodes.nd (aZ (n:=0) ak rfl) λvW=>
 (SF.tT (hd:=(λ(s4:List PV×List PV)=>([bd (.val iZ),bd (.ol bv s4.1),bd (.ol bv s4.2),bv,bv,bv]:bA))) (s0:=(jH,vW)) AJ rfl (bx rfl (rN (lC GN hr (af (ae 0) ak)))) (.refl _) (di 3 sc_nodes.nd) (λs4 vL=>
 (SF.ifS (out1:=λ(UC:List PV×List PV)=>.nx ([bd (.val iZ),bd (.ol bv UC.1),bd (.ol bv UC.2),bd (.val vL),bv,bv]:bA)) (bM rfl (cP rfl .str rfl q.isinstance (ae 3) rfl q.str r9) (λ_=>rfl))
 (SF.append 1 rfl rfl rfl (.inl rfl) (ae 3) λHV=>
 (SF.nil rfl (.refl _)))
 (SF.qX 2 4 rfl ⋯ rfl rfl (.inl rfl) sc_nodes.nd rfl (CB rfl) λt20=>
 (SF.qX 2 5 rfl ⋯ rfl rfl (.inl rfl) sc_nodes.nd rfl (CB rfl) λt22=>
 (SF.append 1 rfl rfl rfl (.inl rfl) (aV (n:=2) (af (ae 5) (af (ae 4) ak)) rfl) λHU=>
 (SF.nil rfl (.keep (.keep (.keep (.keep (.drop (.drop (.refl _)))))))))))
 λUC=>(SF.append 2 rfl rfl rfl (.inl rfl) (nK (mE rfl rfl q.len (bO 1)) ao) λyI=>
 (SF.eY rfl (.keep (.keep (.keep (.drop (.refl _))))))))) λs4=>
 (SF.bN (dg rfl rfl q.tuple (bO 1)) λ_=>rfl))))
abbrev d_halves:DF:=⟨"halves",top 11,["node"],1,λK=>eM K [.v] (cp 1 dq)⟩
def k_halves (D:DI v d_halves) (q:NB v):D.O:=
 lP (m:=dq) D sc_halves λcf _ _ _ _ _ _ hr=>
 (SF.bN (G8 (bM rfl (cP rfl .str rfl q.isinstance (ae 0) rfl q.str r9) (λ_=>rfl)) (aV (n:=0) ak rfl) (ae 0)) λ_=>rfl)
abbrev d_ahead_of:DF:=⟨"ahead_of",top 12,["tree"],3,λK=>eM K [.v] (cp 1 ft)⟩
def k_ahead_of (D:DI v d_ahead_of) (q:NB v) (jS:d_nodes.C v) (gY:d_halves.C v):D.O:=
 lP (m:=ft) D sc_ahead_of λiZ _ _ _ _ _ _ hr=>
 (sv 1 sc_ahead_of.nd (eC jS hr (af (ae 0) ak)) λjH=>
 (SF.mW (i:=3) rfl sc_ahead_of.nd rfl rfl lc_ahead_of_0 (bx rfl (bu (ae 1))) (λ_ _ _ _ _=>(di 0 lc_ahead_of_0.nd)) (λ_ _ _ _ _ p5=>su) rfl λxo=>
 (SF.RQ (hd:=(λ(s7:List PV)=>([bd (.val iZ),bd (.val jH),bv,bd (.ol bv s7),bv,bv]:bA))) (s0:=xo) AJ rfl (nv rfl rfl q.enumerate (bu (ae 1))) (.refl _) (λ_=>(NV rfl (fi rfl (aQ (di 4 sc_ahead_of.nd) (aQ (di 2 sc_ahead_of.nd) dz))))) (λs7 t9=>
 (SF.tT (hd:=(λ(pz:List PV)=>([bd (.val iZ),bd (.val jH),bd (.val t9.2),bd (.ol bv pz),bd (.val t9.1),bv]:bA))) (s0:=s7) AJ rfl (bx rfl (bu (eC gY hr (af (ae 2) ak)))) (.refl _) (di 5 sc_ahead_of.nd) (λpz I0=>
 (SF.FR 3 rfl rfl (.inl rfl) (ae 4) (ae 5) λzA=>
 (SF.eY rfl (.keep (.keep (.keep (.keep (.keep (.drop (.refl _)))))))))) λpz=>
 (SF.eY rfl (.keep (.keep (.drop (.keep (.drop (.refl _))))))))) λs7=>
 (SF.bN (dg rfl rfl q.tuple (bO 3)) λ_=>rfl))))
abbrev d_under_at:DF:=⟨"under_at",top 17,["stays","stay"],1,λK=>eM K [.v,.v] (cp 2 cS)⟩
def k_under_at (D:DI v d_under_at) (nQ:v.mg "UNDER"=bd (.int 2 HW)):D.O:=
 ox (m:=cS) D sc_under_at λaJ a8 _ _ _ _ _ _ hr=>
 (SF.bN (aD rfl (av (aD rfl (av (ae 0)) (ae 1))) (wW nQ rfl)) λ_=>rfl)
abbrev d_beside_at:DF:=⟨"beside_at",top 18,["stays","stay"],1,λK=>eM K [.v,.v] (cp 2 fX)⟩
def k_beside_at (D:DI v d_beside_at) (k8:v.mg "BESIDE"=bd (.int 3 xV)):D.O:=
 ox (m:=fX) D sc_beside_at λaJ a8 _ _ _ _ _ _ hr=>
 (SF.bN (aD rfl (av (aD rfl (av (ae 0)) (ae 1))) (wW k8 rfl)) λ_=>rfl)
abbrev d_is_home:DF:=⟨"is_home",top 19,["stays","stay","word"],2,λK=>eM K [.v,.v,.v] (cp 3 jq)⟩
def k_is_home (D:DI v d_is_home) (sG:v.mg "NAME"=bd (.int 0 LY)) (eD:d_under_at.C v):D.O:=
 M9 (m:=jq) D sc_is_home λaJ a8 SV _ _ _ _ _ _ hr=>
 (SF.bN (lX (iE (eJ rfl (aO hr)) (eC eD hr (af (ae 0) (af (ae 1) ak))) (aV (n:=0) ak rfl)) (lW (iE (eJ rfl (aO hr)) (aD rfl (av (aD rfl (av (ae 0)) (ae 1))) (wW sG rfl)) (ae 2)))) λ_=>rfl)
abbrev d_name_of:DF:=⟨"name_of",top 20,["houses","house"],1,λK=>eM K [.v,.v] (cp 2 eG)⟩
def k_name_of (D:DI v d_name_of) (q:NB v):D.O:=
 ox (m:=eG) D sc_name_of λfH kW _ _ _ _ _ _ hr=>
 (SF.bN (G8 (bM rfl (cP rfl .str rfl q.isinstance (aD rfl (av (ae 0)) (ae 1)) rfl q.str r9) (λ_=>rfl)) (aD rfl (av (ae 0)) (ae 1)) (ae 1)) λ_=>rfl)
abbrev d_lines_up:DF:=⟨"lines_up",top 21,["great"],4,λK=>fP K [.v] (cp 1 gQ)⟩
def k_lines_up (D:DI v d_lines_up) (q:NB v) (my:d_ahead_of.C v):D.O:=
 Q6 (m:=gQ) D sc_lines_up λdM _ _ _ _ _ _ hr=>
 (sv 1 sc_lines_up.nd (eC my hr (af (ae 0) ak)) λd8=>
 (SF.mW (i:=3) rfl sc_lines_up.nd rfl rfl lc_lines_up_0 (bx rfl (bu (ae 1))) (λ_ _ _ _ _=>(di 0 lc_lines_up_0.nd)) (λ_ _ _ _ _ p5=>(aV (n:=0) ak rfl)) rfl λlE=>
 (SF.tT (hd:=(λ(s9:List PV)=>([bd (.val dM),bd (.val d8),bv,bd (.ol bv s9),bv]:bA))) (s0:=lE) AJ rfl (IT rfl q.range (nK (cW rfl rfl q.len (ae 1)) ao) (jy ao) (jy ao)) (.refl _) (di 2 sc_lines_up.nd) (λs9 kU=>
 (sv 4 sc_lines_up.nd (G8 (dc wq (aD rfl (av (ae 1)) (ae 2)) su) (aV (n:=0) ak rfl) (aD rfl (bO 3) (aD rfl (av (ae 1)) (ae 2)))) λzB=>
 (SF.FR 3 rfl rfl (.inl rfl) (cJ rfl (aV (n:=1) (af (ae 2) ak) rfl) (ae 4)) (ae 2) λyK=>
 (SF.eY rfl (.keep (.keep (.drop (.keep (.drop (.refl _)))))))))) λs9=>
 (SF.Mi 3 rfl rfl))))
abbrev d_apart_from:DF:=⟨"apart_from",top 22,["lines","house"],1,λK=>eM K [.v,.v] (cp 2 eQ)⟩
def k_apart_from (D:DI v d_apart_from) (q:NB v):D.O:=
 ox (m:=eQ) D sc_apart_from λvY kW _ _ _ _ _ _ hr=>
 (SF.bN (dg rfl rfl q.tuple (eO (uC rfl lc_apart_from_0 (fF rfl q.range (cW rfl rfl q.len (ae 0))) (λ_ _ _ _ _=>(di 0 lc_apart_from_0.nd)) (λ_ _ _ _ _ p3=>(pT.t (kE (vo rfl (aO hr) (ae 0) (av (aD rfl (av (ae 2)) (ae 1)))) (ib (vo rfl (aO hr) (ae 1) (av (aD rfl (av (ae 2)) (ae 0)))))))) (λ_ _ _ _ _ p3=>(ae 0)) rfl))) λ_=>rfl)
abbrev d_ground:DF:=⟨"ground",top 23,["great"],5,λK=>eM K [.v] (cp 1 kQ)⟩
def k_ground (D:DI v d_ground) (q:NB v) (jS:d_nodes.C v) (GP:d_lines_up.C v) (oH:d_name_of.C v) (gY:d_halves.C v) (wD:d_apart_from.C v):D.O:=
 lP (m:=kQ) D sc_ground λdM _ _ _ _ _ _ hr=>
 (sv 1 sc_ground.nd (eC jS hr (af (ae 0) ak)) λfZ=>
 (sl 2 sc_ground.nd (lC GP hr (af (ae 0) ak)) λlE=>
 SF.cO 2 rfl (SF.bN (dg rfl rfl q.tuple (eO (eg rfl lc_ground_0 (fF rfl q.range (cW rfl rfl q.len (ae 1))) (λ_ _ _ _ _=>(di 0 lc_ground_0.nd)) (λ_ _ _ _ _ p7=>(aV (n:=4) (af (eC oH hr (af (ae 1) (af (ae 0) ak))) (af ao (af (eC gY hr (af (aD rfl (av (ae 1)) (ae 0)) ak)) (af (eC wD hr (af (ae 2) (af (ae 0) ak))) ak)))) rfl)) rfl))) λ_=>rfl)))
abbrev d_comes_in:DF:=⟨"comes_in",top 30,["way"],1,λK=>eM K [.v] (cp 1 dr)⟩
def k_comes_in (D:DI v d_comes_in):D.O:=
 lP (m:=dr) D sc_comes_in λgJ _ _ _ _ _ _ hr=>
 (SF.bN (aD rfl (av (aD rfl (av (ae 0)) ao)) ao) λ_=>rfl)
abbrev d_done_at:DF:=⟨"done_at",top 31,["way"],1,λK=>eM K [.v] (cp 1 fm)⟩
def k_done_at (D:DI v d_done_at):D.O:=
 lP (m:=fm) D sc_done_at λgJ _ _ _ _ _ _ hr=>
 (SF.bN (aD rfl (av (aD rfl (av (ae 0)) ao)) (jy ao)) λ_=>rfl)
abbrev d_ins_of:DF:=⟨"ins_of",top 32,["way"],2,λK=>eM K [.v] (cp 1 nj)⟩
def k_ins_of (D:DI v d_ins_of) (q:NB v) (GU:d_comes_in.C v):D.O:=
 lP (m:=nj) D sc_ins_of λgJ _ _ _ _ _ _ hr=>
 (SF.bN (dg rfl rfl q.tuple (eO (eg rfl lc_ins_of_0 (bx rfl (bu (zf rfl (ae 0) (q8 ao) q9))) (λ_ _ _ _ _=>(di 0 lc_ins_of_0.nd)) (λ_ _ _ _ _ p5=>(eC GU hr (af (ae 0) ak))) rfl))) λ_=>rfl)
abbrev d_split_ins:DF:=⟨"split_ins",top 33,["ground","stay"],2,λK=>fP K [.v,.v] (cp 2 fU)⟩
def k_split_ins (D:DI v d_split_ins) (q:NB v) (eD:d_under_at.C v):D.O:=
 F7 (m:=fU) D sc_split_ins λaM a8 _ _ _ _ _ _ hr=>
 (sv 2 sc_split_ins.nd (eC eD hr (af (ae 0) (af (ae 1) ak))) λmR=>
 (SF.i9 (Zd (dc (eJ rfl (aO hr)) (cW rfl rfl q.len (ae 2)) ao) (aZ (n:=2) (af (ae 2) (af (aV (n:=2) (af (aD rfl (av (ae 2)) ao) (af (aD rfl (av (ae 2)) ao) ak)) rfl) ak)) rfl) (aZ (n:=0) ak rfl)) λ_=>rfl))
abbrev d_over_ins:DF:=⟨"over_ins",top 34,["ground","stay"],2,λK=>fP K [.v,.v] (cp 2 gP)⟩
def k_over_ins (D:DI v d_over_ins) (yV:d_beside_at.C v):D.O:=
 F7 (m:=gP) D sc_over_ins λaM a8 _ _ _ _ _ _ hr=>
 (sv 2 sc_over_ins.nd (eC yV hr (af (ae 0) (af (ae 1) ak))) λsH=>
 (SF.i9 (uD rfl (bX (eg rfl lc_over_ins_0 (bx rfl (bu (ae 2))) (λ_ _ _ _ _=>(di 0 lc_over_ins_0.nd)) (λ_ _ _ _ _ p5=>(aV (n:=2) (af (ae 1) (af (ae 0) ak)) rfl)) rfl)) (bX (eg rfl lc_over_ins_1 (bx rfl (bu (ae 2))) (λ_ _ _ _ _=>(di 0 lc_over_ins_1.nd)) (λ_ _ _ _ _ p9=>(aV (n:=2) (af (ae 0) (af (ae 1) ak)) rfl)) rfl))) λ_=>rfl))
abbrev d_deeds_at:DF:=⟨"deeds_at",top 35,["ground","node","stay"],3,λK=>fP K [.v,.v,.v] (cp 3 fo)⟩
def k_deeds_at (D:DI v d_deeds_at) (q:NB v) (nS:v.mg "FOUND"=bd (.str "found" HY)) (nR:v.mg "SPLIT"=bd (.str "split" HX)) (sF:v.mg "OVER"=bd (.str "over" LX)) (jA:v.mg "DOUBLED"=bd (.str "doubled" uj)) (Kx:d_is_home.C v) (yR:d_split_ins.C v) (GO:d_over_ins.C v):D.O:=
 Za (m:=fo) D sc_deeds_at λaM cf a8 _ _ _ _ _ _ hr=>
 (SF.yO (bM rfl (cP rfl .str rfl q.isinstance (ae 1) rfl q.str r9) (λ_=>rfl))
 (SF.i9 (Zd (bM rfl (eC Kx hr (af (ae 0) (af (ae 2) (af (ae 1) ak)))) (λ_=>rfl)) (aZ (n:=1) (af (aV (n:=2) (af (sA nS rfl) (af (aV (n:=0) ak rfl) ak)) rfl) ak) rfl) (aZ (n:=0) ak rfl)) λ_=>rfl)
 (SF.mW (i:=3) rfl sc_deeds_at.nd rfl rfl lc_deeds_at_0 (bx rfl (rN (lC yR hr (af (ae 0) (af (ae 2) ak))))) (λ_ _ _ _ _=>(di 0 lc_deeds_at_0.nd)) (λ_ _ _ _ _ Ir=>(aV (n:=2) (af (sA nR rfl) (af (ae 0) ak)) rfl)) rfl λIc=>
 SF.cO 3 rfl (SF.mW (i:=4) rfl sc_deeds_at.nd rfl rfl lc_deeds_at_1 (bx rfl (rN (lC GO hr (af (ae 0) (af (ae 2) ak))))) (λ_ _ _ _ _=>(di 0 lc_deeds_at_1.nd)) (λ_ _ _ _ _ p18=>(aV (n:=2) (af (sA sF rfl) (af (ae 0) ak)) rfl)) rfl λIu=>
 SF.cO 4 rfl (SF.i9 (Rf rfl (aO hr) rfl q.sorted (bX (uD rfl (bX (uD rfl (bX (aZ (n:=1) (af (aV (n:=2) (af (sA jA rfl) (af (aV (n:=2) (af (ae 2) (af (ae 2) ak)) rfl) ak)) rfl) ak) rfl)) (qS (ae 3)))) (qS (ae 4))))) λ_=>rfl))))
abbrev d_is_stay:DF:=⟨"is_stay",top 36,["ground","thing"],2,λK=>eM K [.v,.v] (cp 2 jn)⟩
def k_is_stay (D:DI v d_is_stay) (q:NB v) (GQ:d_is_whole.C v):D.O:=
 ox (m:=jn) D sc_is_stay λaM aP _ _ _ _ _ _ hr=>
 (SF.bN (lX (eC GQ hr (af (ae 1) ak)) (lW (Sa IL IK ao (ae 1) (cW rfl rfl q.len (ae 0))))) λ_=>rfl)
abbrev d_is_path:DF:=⟨"is_path",top 37,["ground","thing"],3,λK=>eM K [.v,.v] (cp 2 jo)⟩
def k_is_path (D:DI v d_is_path) (q:NB v) (Kv:d_is_stay.C v) (eD:d_under_at.C v):D.O:=
 ox (m:=jo) D sc_is_path λaM aP _ _ _ _ _ _ hr=>
 (SF.yO (pT.t (mS (ic (bM rfl (cP rfl .tup rfl q.isinstance (ae 1) rfl q.tuple boot_tuple) (λ_=>rfl))) (jG (dc (eJ rfl (aO hr)) (cW rfl rfl q.len (ae 1)) ao))))
 (SF.bN k6 λ_=>rfl)
 (SF.yO (ic (bM rfl (zi rfl rfl rfl q.all (bX (eg rfl lc_is_path_0 (bx rfl (bu (ae 1))) (λ_ _ _ _ _=>(di 0 lc_is_path_0.nd)) (λ_ _ _ _ _ p2=>(eC Kv hr (af (ae 1) (af (ae 0) ak)))) rfl))) (λ_=>rfl)))
 (SF.bN k6 λ_=>rfl)
 (SF.bN (zi rfl rfl rfl q.all (bX (rE rfl lc_is_path_1 (rH rfl rfl q.zip (bu (ae 1)) (bu (zf rfl (ae 1) (q8 ao) q9))) (λ_ _ _ _ _=>(NV rfl (fi rfl (aQ (di 0 lc_is_path_1.nd) (aQ (di 1 lc_is_path_1.nd) dz))))) (λ_ _ _ _ _ Pe=>(TY rfl (aO hr) (ae 1) (av (eC eD hr (af (ae 2) (af (ae 0) ak)))))) (Gq rfl rfl ⋯) ⋯))) λ_=>rfl)))
abbrev d_is_formed:DF:=⟨"is_formed",top 38,["ground","node","thing"],4,λK=>eM K [.v,.v,.v] (cp 3 fW)⟩
def k_is_formed (D:DI v d_is_formed) (q:NB v) (Kw:d_is_path.C v) (rS:d_is_row.C v):D.O:=
 M9 (m:=fW) D sc_is_formed λaM cf aP _ _ _ _ _ _ hr=>
 (sv 3 sc_is_formed.nd (G8 (bM rfl (cP rfl .str rfl q.isinstance (ae 1) rfl q.str r9) (λ_=>rfl)) ao ao) λNc=>
 (SF.bN (lX (eC rS hr (af (ae 2) (af (ae 3) ak))) (lX (eC Kw hr (af (ae 0) (af (aD rfl (av (ae 2)) ao) ak))) (lW (cP rfl .str rfl q.isinstance (aD rfl (av (ae 2)) ao) rfl q.str r9)))) λ_=>rfl))
abbrev d_ways_of_nodes:DF:=⟨"ways_of_nodes",top 39,["ground","told","thing"],5,λK=>eM K [.v,.v,.v] (cp 3 cV)⟩
def k_ways_of_nodes (D:DI v d_ways_of_nodes) (q:NB v) (yU:d_is_formed.C v) (gY:d_halves.C v):D.O:=
 M9 (m:=cV) D sc_ways_of_nodes λaM uh aP _ _ _ _ _ _ hr=>
 (SF.mW (i:=4) rfl sc_ways_of_nodes.nd rfl rfl lc_ways_of_nodes_0 (bx rfl (bu (ae 1))) (λ_ _ _ _ _=>(di 0 lc_ways_of_nodes_0.nd)) (λ_ _ _ _ _ p3=>su) rfl λLO=>
 (SF.FR 4 rfl rfl (.inl rfl) (ae 2) (jy ao) λmi=>
 (SF.NX (hd:=(λ(Qi:List PV)=>([bd (.val aM),bd (.val uh),bd (.val aP),bv,bd (.ol bv Qi),bv,bv,bv,bv]:bA))) (s0:=mi) (inj:=id) AJ rfl (IT rfl q.range (nK (cW rfl rfl q.len (ae 1)) ao) (jy ao) (jy ao)) (.refl _) (di 5 sc_ways_of_nodes.nd) (λ_=>trivial) (λQi lx=>
 (sv 3 sc_ways_of_nodes.nd (aD rfl (av (ae 1)) (ae 5)) λqg=>
 (sv 6 sc_ways_of_nodes.nd (aD rfl (bO 4) (ae 5)) λvh=>
 (SF.yO (ic (bM rfl (eC yU hr (af (ae 0) (af (ae 3) (af (ae 6) ak)))) (λ_=>rfl)))
 (SF.ret (k:=λxN=>(Lp.out xN)) su λ_=>rfl)
 (SF.RQ (hd:=(λ(UA:List PV)=>([bd (.val aM),bd (.val uh),bd (.val aP),bd (.val qg),bd (.ol bv UA),bd (.val lx),bd (.val vh),bv,bv]:bA))) (s0:=Qi) AJ rfl (rH rfl rfl q.zip (bu (eC gY hr (af (ae 3) ak))) (bu (zf rfl (ae 6) (q8 ao) q9))) (.refl _) (λ_=>(NV rfl (fi rfl (aQ (di 7 sc_ways_of_nodes.nd) (aQ (di 8 sc_ways_of_nodes.nd) dz))))) (λUA Ą=>
 (SF.FR 4 rfl rfl (.inl rfl) (ae 8) (ae 7) λHN=>
 (SF.eY rfl (.keep (.keep (.keep (.keep (.keep (.keep (.keep (.drop (.drop (.refl _))))))))))))) λUA=>
 (SF.eY rfl (.keep (.keep (.keep (.drop (.keep (.drop (.drop (.refl _)))))))))))))) λQi=>
 (SF.cO 4 rfl (SF.bN (ae 4) λ_=>rfl)))))
abbrev d_is_done:DF:=⟨"is_done",top 40,["ground","node","way"],4,λK=>eM K [.v,.v,.v] (cp 3 jr)⟩
def k_is_done (D:DI v d_is_done) (NT:d_ins_of.C v) (GS:d_deeds_at.C v) (oI:d_done_at.C v):D.O:=
 M9 (m:=jr) D sc_is_done λaM cf gJ _ _ _ _ _ _ hr=>
 (SF.bN (TY rfl (aO hr) (aV (n:=2) (af (aD rfl (av (ae 2)) ao) (af (eC NT hr (af (ae 2) ak)) ak)) rfl) (eO (lC GS hr (af (ae 0) (af (ae 1) (af (eC oI hr (af (ae 2) ak)) ak)))))) λ_=>rfl)
abbrev d_is_way:DF:=⟨"is_way",top 41,["ground","small","thing"],6,λK=>eM K [.v,.v,.v] (cp 3 jm)⟩
def k_is_way (D:DI v d_is_way) (q:NB v) (Ku:d_is_tree.C v) (jS:d_nodes.C v) (pK:d_ways_of_nodes.C v) (Ky:d_is_done.C v):D.O:=
 M9 (m:=jm) D sc_is_way λaM FO aP _ _ _ _ _ _ hr=>
 (SF.yO (ic (bM rfl (eC Ku hr (af (ae 1) ak)) (λ_=>rfl)))
 (SF.bN k6 λ_=>rfl)
 (sv 3 sc_is_way.nd (eC jS hr (af (ae 1) ak)) λzX=>
 (sv 4 sc_is_way.nd (eC pK hr (af (ae 0) (af (ae 3) (af (ae 2) ak)))) λmi=>
 (SF.yO (pT.t (mS (dc wq (ae 4) su) (jG (dc (IJ rfl (aO hr)) (cW rfl rfl q.len (aD rfl (av (ae 2)) ao)) ao))))
 (SF.bN k6 λ_=>rfl)
 (SF.bN (zi rfl rfl rfl q.all (bX (rE rfl lc_is_way_0 (rH rfl rfl q.zip (bu (ae 3)) (bu (ae 4))) (λ_ _ _ _ _=>(NV rfl (fi rfl (aQ (di 0 lc_is_way_0.nd) (aQ (di 1 lc_is_way_0.nd) dz))))) (λ_ _ _ _ _ Pe=>(eC Ky hr (af (ae 2) (af (ae 0) (af (ae 1) ak))))) (Gq rfl rfl ⋯) ⋯))) λ_=>rfl)))))
abbrev d_ways_within:DF:=⟨"ways_within",top 42,["way"],1,λK=>fP K [.v] (cp 1 m_ways_within)⟩
def k_ways_within (D:DI v d_ways_within) (q:NB v):D.O:=
 Q6 (m:=m_ways_within) D sc_ways_within λgJ _ _ _ _ _ _ hr=>
 (sl 1 sc_ways_within.nd (aZ (n:=0) ak rfl) λeE=>
 (sl 2 sc_ways_within.nd (aZ (n:=1) (af (ae 0) ak) rfl) λcF=>
 (SF.xP (hd:=(λ(s4:List PV×List PV)=>([bd (.val gJ),bd (.ol bv s4.1),bd (.ol bv s4.2),bv]:bA))) (s0:=(eE,cF)) AJ (.refl _) (λs4=>(LV rfl (bO 2) (λ_=>rfl))) (λs4=>
 (SF.qX 2 3 rfl ⋯ rfl rfl (.inl rfl) sc_ways_within.nd rfl (CB rfl) λt7=>
 (SF.append 1 rfl rfl rfl (.inl rfl) (ae 3) λfv=>
 (SF.extend 2 rfl rfl rfl (.inl rfl) (av (zf rfl (ae 3) (q8 ao) q9)) λdh=>
 (SF.eY rfl (.keep (.keep (.keep (.drop (.refl _)))))))))) λs4=>
 (SF.i9 (Th rfl rfl rfl q.list rfl q.reversed (qT 1)) λ_=>rfl))))
abbrev d_places:DF:=⟨"places",top 43,["way"],2,λK=>eM K [.v] (cp 1 m_places)⟩
def k_places (D:DI v d_places) (q:NB v) (iP:d_ways_within.C v) (oI:d_done_at.C v):D.O:=
 lP (m:=m_places) D sc_places λgJ _ _ _ _ _ _ hr=>
 (SF.bN (dg rfl rfl q.tuple (eO (eg rfl lc_places_0 (bx rfl (rN (lC iP hr (af (ae 0) ak)))) (λ_ _ _ _ _=>(di 0 lc_places_0.nd)) (λ_ _ _ _ _ p3=>(aV (n:=2) (af (eC oI hr (af (ae 0) ak)) (af (aD rfl (av (ae 0)) ao) ak)) rfl)) rfl))) λ_=>rfl)
abbrev d_lost_on:DF:=⟨"lost_on",top 45,["ground","path"],2,λK=>eM K [.v,.v] (cp 2 m_lost_on)⟩
def k_lost_on (D:DI v d_lost_on) (q:NB v) (eD:d_under_at.C v):D.O:=
 ox (m:=m_lost_on) D sc_lost_on λaM S9 _ _ _ _ _ _ hr=>
 (SF.bN (mE rfl rfl q.len (eO (uC rfl lc_lost_on_0 (bx rfl (bu (zf rfl (ae 1) q9 (q8 (jy ao))))) (λ_ _ _ _ _=>(di 0 lc_lost_on_0.nd)) (λ_ _ _ _ _ p5=>(dc (eJ rfl (aO hr)) (cW rfl rfl q.len (eC eD hr (af (ae 1) (af (ae 0) ak)))) ao)) (λ_ _ _ _ _ p5=>(ae 0)) rfl))) λ_=>rfl)
abbrev d_counted:DF:=⟨"counted",top 46,["ground","way"],3,λK=>eM K [.v,.v] (cp 2 m_counted)⟩
def k_counted (D:DI v d_counted) (q:NB v) (nT:v.mg "DEEDS"=bd (.ref qz)) (wj:TupK v.K qz ["split","doubled","over"]) (iP:d_ways_within.C v) (Ks:d_lost_on.C v):D.O:=
 ox (m:=m_counted) D sc_counted λaM gJ _ _ _ _ _ _ hr=>
 (sl 2 sc_counted.nd (lC iP hr (af (ae 1) ak)) λvK=>
 SF.cO 2 rfl (sl 3 sc_counted.nd (eg rfl lc_counted_0 (bx rfl (bu (ae 2))) (λ_ _ _ _ _=>(di 0 lc_counted_0.nd)) (λ_ _ _ _ _ p5=>(aD rfl (av (ae 0)) ao)) rfl) λOC=>
 SF.cO 3 rfl (sv 4 sc_counted.nd (Wt rfl rfl rfl q.sum (bX (eg rfl lc_counted_1 (bx rfl (bu (ae 2))) (λ_ _ _ _ _=>(di 0 lc_counted_1.nd)) (λ_ _ _ _ _ p8=>(eC Ks hr (af (ae 1) (af (aD rfl (av (ae 0)) ao) ak)))) rfl))) λNd=>
 (SF.bN (dg rfl rfl q.tuple (eO (uD rfl (bX (eg rfl lc_counted_2 (it_mt rfl nT wj) (λ_ _ _ _ _=>(di 0 lc_counted_2.nd)) (λ_ _ _ _ _ ì=>(R9 rfl (aO hr) (qS (ae 1)) (ae 0))) rfl)) (bX (aZ (n:=1) (af (ae 4) ak) rfl))))) λ_=>rfl))))
abbrev d_split_dates:DF:=⟨"split_dates",top 48,["houses","dates"],1,λK=>fP K [.v,.v] (cp 2 dW)⟩
def k_split_dates (D:DI v d_split_dates) (q:NB v):D.O:=
 F7 (m:=dW) D sc_split_dates λfH dP _ _ _ _ _ _ hr=>
 (SF.i9 (Tn rfl lc_split_dates_0 (rH rfl rfl q.zip (bu (ae 0)) (bu (ae 1))) (λ_ _ _ _ _=>(NV rfl (fi rfl (aQ (di 0 lc_split_dates_0.nd) (aQ (di 1 lc_split_dates_0.nd) dz))))) (λ_ _ _ _ _ t5=>(ic (bM rfl (cP rfl .str rfl q.isinstance (ae 0) rfl q.str r9) (λ_=>rfl)))) (λ_ _ _ _ _ t5=>(ae 1)) (Gq rfl rfl ⋯) ⋯) λ_=>rfl)
abbrev d_standing:DF:=⟨"standing",top 49,["great","dates","begins"],4,λK=>fP K [.v,.v,.v] (cp 3 gN)⟩
def k_standing (D:DI v d_standing) (q:NB v) (my:d_ahead_of.C v):D.O:=
 Za (m:=gN) D sc_standing λdM dP jY _ _ _ _ _ _ hr=>
 (sv 3 sc_standing.nd (eC my hr (af (ae 0) ak)) λd8=>
 (sl 4 sc_standing.nd (aZ (n:=0) ak rfl) λvN=>
 (SF.RQ (hd:=(λ(s5:List PV)=>([bd (.val dM),bd (.val dP),bd (.val jY),bd (.val d8),bd (.ol bv s5),bv,bv,bv,bv]:bA))) (s0:=vN) AJ rfl (nv rfl rfl q.enumerate (bu (ae 2))) (.refl _) (λ_=>(NV rfl (fi rfl (aQ (di 5 sc_standing.nd) (aQ (di 6 sc_standing.nd) dz))))) (λs5 t7=>
 (SF.RQ (hd:=(λ(s9:List PV)=>([bd (.val dM),bd (.val dP),bd (.val jY),bd (.val d8),bd (.ol bv s9),bd (.val t7.1),bd (.val t7.2),bv,bv]:bA))) (s0:=s5) AJ rfl (nv rfl rfl q.enumerate (bu (ae 1))) (.refl _) (λ_=>(NV rfl (fi rfl (aQ (di 7 sc_standing.nd) (aQ (di 8 sc_standing.nd) dz))))) (λs9 Yh=>
 (SF.VV (pT.t (kE (dc IL (ae 8) (ae 6)) (ib (pT.t (mS (dc wq (aD rfl (av (ae 3)) (ae 7)) su) (jG (dc IK (ae 6) (aD rfl (av (ae 1)) (aD rfl (av (ae 3)) (ae 7))))))))))
 (SF.append 4 rfl rfl rfl (.inl rfl) (aV (n:=2) (af (ae 7) (af (ae 5) ak)) rfl) λyw=>
 (SF.eY rfl (.keep (.keep (.keep (.keep (.keep (.keep (.keep (.drop (.drop (.refl _))))))))))))
 (SF.eY rfl (.keep (.keep (.keep (.keep (.keep (.keep (.keep (.drop (.drop (.refl _))))))))))))) λs9=>
 (SF.eY rfl (.keep (.keep (.keep (.keep (.keep (.drop (.drop (.refl _))))))))))) λs5=>
 (SF.Mi 4 rfl rfl))))
abbrev d_stay_of:DF:=⟨"stay_of",top 50,["houses","dates","begins","numbers","pair"],2,λK=>eM K [.v,.v,.v,.v,.v] (cp 5 jh)⟩
def k_stay_of (D:DI v d_stay_of) (q:NB v) (gY:d_halves.C v) (oH:d_name_of.C v):D.O:=
 Y8 (m:=jh) D sc_stay_of λfH dP jY m7 MV _ _ _ _ _ _ hr=>
 (sv 5 sc_stay_of.nd (aD rfl (av (ae 4)) ao) λlI=>
 (sv 6 sc_stay_of.nd (aD rfl (av (ae 4)) ao) λnt=>
 (sv 7 sc_stay_of.nd (iE IK (aD rfl (av (ae 1)) (ae 5)) (aD rfl (av (ae 2)) (ae 6))) λuK=>
 (sv 8 sc_stay_of.nd (G8 (bM rfl (ae 7) (λ_=>rfl)) (aV (n:=1) (af (ae 5) ak) rfl) (eC gY hr (af (aD rfl (av (ae 0)) (ae 5)) ak))) λbelow_4=>
 (sv 9 sc_stay_of.nd (dg rfl rfl q.tuple (eO (eg rfl lc_stay_of_0 (bx rfl (bu (ae 8))) (λ_ _ _ _ _=>(di 0 lc_stay_of_0.nd)) (λ_ _ _ _ _ p9=>(Oy (aO hr) (ae 2) (aV (n:=2) (af (ae 0) (af (nK (ae 1) ao) ak)) rfl) (λ_ _=>rfl))) rfl))) λHS=>
 (sv 10 sc_stay_of.nd (dg rfl rfl q.tuple (eO (uC rfl lc_stay_of_1 (Rq (ae 3)) (λ_ _ _ _ _=>(di 0 lc_stay_of_1.nd)) (λ_ _ _ _ _ YU=>(pT.t (kE (dc (eJ rfl (aO hr)) (aD rfl (av (ae 0)) ao) (ae 2)) (ib (dc (IJ rfl (aO hr)) (aD rfl (av (ae 0)) ao) (ae 1)))))) (λ_ _ _ _ _ YU=>(Oy (aO hr) (ae 3) (ae 0) (λ_ _=>rfl))) rfl))) λuY=>
 (SF.bN (aV (n:=4) (af (eC oH hr (af (ae 0) (af (ae 5) ak))) (af (ae 6) (af (ae 9) (af (ae 10) ak)))) rfl) λ_=>rfl)))))))
abbrev d_dated:DF:=⟨"dated",top 51,["great","dates"],5,λK=>eM K [.v,.v] (cp 2 lB)⟩
def k_dated (D:DI v d_dated) (q:NB v) (jS:d_nodes.C v) (tQ:d_split_dates.C v) (GL:d_standing.C v) (Kr:d_stay_of.C v):D.O:=
 ox (m:=lB) D sc_dated λdM dP _ _ _ _ _ _ hr=>
 (sv 2 sc_dated.nd (eC jS hr (af (ae 0) ak)) λfZ=>
 (sl 3 sc_dated.nd (uD rfl (bX (aZ (n:=1) (af ao ak) rfl)) (bX (Rg rfl rfl q.sorted (bX (lC tQ hr (af (ae 2) (af (ae 1) ak))))))) λsI=>
 SF.cO 3 rfl (sl 4 sc_dated.nd (lC GL hr (af (ae 0) (af (ae 1) (af (ae 3) ak)))) λvM=>
 SF.cO 4 rfl (sv 5 sc_dated.nd (ad1 (Sl rfl rfl (aO hr) rfl q.dict (bX (rE rfl lc_dated_0 (nv rfl rfl q.enumerate (bu (ae 4))) (λ_ _ _ _ _=>(NV rfl (fi rfl (aQ (di 0 lc_dated_0.nd) (aQ (di 1 lc_dated_0.nd) dz))))) (λ_ _ _ _ _ ą=>(aV (n:=2) (af (ae 1) (af (ae 0) ak)) rfl)) (Gq rfl rfl ⋯) ⋯)))) λrf=>
 (SF.bN (dg rfl rfl q.tuple (eO (eg rfl lc_dated_1 (bx rfl (bu (ae 4))) (λ_ _ _ _ _=>(di 0 lc_dated_1.nd)) (λ_ _ _ _ _ p21=>(eC Kr hr (af (ae 3) (af (ae 2) (af (ae 1) (af (ae 4) (af (ae 0) ak))))))) rfl))) λ_=>rfl)))))
abbrev d__law_pot:DF:=⟨"_law_pot",top 53,["_law_script","_law_k"],1,λK=>fP K [.v,.v] (cp 2 gU)⟩
def k__law_pot (D:DI v d__law_pot) (q:NB v):D.O:=
 F7 (m:=gU) D sc__law_pot λfB k_ _ _ _ _ _ _ hr=>
 (sv 2 sc__law_pot.nd ao λOP=>
 (SF.ifS (out1:=λ(s3:PV)=>.nx ([bd (.val fB),bd (.val k_),bd (.val s3),bv]:bA)) (dc IK (ae 1) (cW rfl rfl q.len (ae 0)))
 (sv 2 sc__law_pot.nd (aak rfl q.abs (aD rfl (av (ae 0)) (ae 1))) λOO=>
 (SF.nil rfl (.refl _)))
 (SF.nil rfl (.refl _))
 λs3=>(sv 3 sc__law_pot.nd (o7 (nM (ae 2) (o7 (Om ao ao) (Om ao ao))) (qt rfl q.int (iE Zj (ae 2) (Om ao ao)))) λnN=>
 (SF.i9 (aZ (n:=3) (af (ae 3) (af (nM (cJ rfl (cJ rfl (ae 2) (o7 ao (ae 1))) ao) ao) (af ao ak))) rfl) λ_=>rfl))))
abbrev d__law_take:DF:=⟨"_law_take",top 54,["_law_pot_here","_law_many"],1,λK=>eM K [.p (hZ gM),.v] (cp 1 bz)⟩
def k__law_take (D:DI v d__law_take):D.O:=
 UX (n:=1) (fnO (n:=1) (m:=fY) D.fn sc__law_take rfl λad dw l hl=>match l,hl with | [jg],_=>λ_ _ _ _ _ _ hr=>show SF _ _ _ [bd (.ol (bd ad) dw),bd (.val jg),bv,bv] _ (fY dw jg) _ from
 (SF.yO (dc Tu (aD rfl (bO 0) ao) ao)
 (sv 2 sc__law_take.nd (nM (aD rfl (bO 0) ao) (ae 1)) λJm=>
 (SF.FR 0 rfl rfl (.inl rfl) (TZ (aD rfl (bO 0) ao) (ae 1)) ao λml=>
 (SF.Yv 0 (k:=λx5=>(x5,ml)) rfl (ae 2) λ_=>rfl)))
 (SF.ad6 0 rfl rfl rfl (.inl rfl) ao ao VU Zl λgL=>
 (sv 3 sc__law_take.nd (nM (cJ rfl (cJ rfl (o7 (aD rfl (bO 0) ao) ao) (o7 ao (aD rfl (bO 0) ao))) ao) ao) λrq=>
 (SF.FR 0 rfl rfl (.inl rfl) (nM (o7 (ae 3) (cJ rfl (cJ rfl (nM (ae 3) ao) (o7 ao (aD rfl (bO 0) ao))) ao)) ao) ao λik=>
 (SF.Yv 0 (k:=λkq=>(kq,ik)) rfl (nM (TZ (aD rfl (bO 0) ao) ao) (ae 1)) λ_=>rfl)))))) PU
abbrev d__law_pick:DF:=⟨"_law_pick",top 55,["_law_pot_here","_law_some"],2,λK=>eM K [.p (hZ gM),.v] (cp 1 bF)⟩
def k__law_pick (D:DI v d__law_pick) (q:NB v) (aN:d__law_take.C v):D.O:=
 lP (m:=bF) D sc__law_pick λMa _ _ _ _ _ _ hr=>
 (SF.bN (aD rfl (av (ae 1)) (eC aN hr (bU 0 (af (cW rfl rfl q.len (ae 1)) ak)))) λ_=>rfl)
abbrev d__law_words:DF:=⟨"_law_words",top 56,["_law_pot_here","_law_many"],2,λK=>fP K [.p (hZ gM),.v] (cp 1 dA)⟩
def k__law_words (D:DI v d__law_words) (q:NB v) (aN:d__law_take.C v):D.O:=
 Q6 (m:=dA) D sc__law_words λjg _ _ _ _ _ _ hr=>
 (sv 2 sc__law_words.nd iD λoz=>
 (sv 3 sc__law_words.nd (eC aN hr (bU 0 (af ao ak))) λqr=>
 (sv 4 sc__law_words.nd (aD rfl (eO (aZ (n:=6) (af ao (af ao (af ao (af ao (af ao (af ao ak)))))) rfl)) (eC aN hr (bU 0 (af ao ak)))) λzW=>
 (sv 5 sc__law_words.nd (aD rfl (eO (aZ (n:=2) (af iD (af iD ak)) rfl)) (eC aN hr (bU 0 (af ao ak)))) λvq=>
 (sl 6 sc__law_words.nd (aZ (n:=4) (af iD (af iD (af iD (af iD ak)))) rfl) λwR=>
 SF.cO 6 rfl (sl 7 sc__law_words.nd (aZ (n:=0) ak rfl) λrV=>
 (SF.tT (hd:=(λ(UB:List PV)=>([bd (.kn (hZ gM)),bd (.val jg),bd (.val oz),bd (.val qr),bd (.val zW),bd (.val vq),bd (.val (.cl wR)),bd (.ol bv UB),bv,bv]:bA))) (s0:=rV) AJ rfl (fF rfl q.range (ae 1)) (.refl _) (di 8 sc__law_words.nd) (λUB VM=>
 (sv 9 sc__law_words.nd (aah (ae 2) (nM (cJ rfl (ae 3) (o7 (ae 4) (ae 8))) ao) (λ_ _=>rfl)) λuA=>
 (SF.append 7 rfl rfl rfl (.inl rfl) (cJ rfl (cJ rfl (ae 5) (ae 9)) (aD rfl (av (ae 6)) (nM (cJ rfl (ae 3) (ae 8)) ao))) λyY=>
 (SF.eY rfl (.keep (.keep (.keep (.keep (.keep (.keep (.keep (.keep (.drop (.drop (.refl _))))))))))))))) λUB=>
 (SF.Mi 7 rfl rfl))))))))
abbrev d__law_tree:DF:=⟨"_law_tree",top 57,["_law_pot_here","_law_words_here"],2,λK=>eM K [.p (hZ gM),.v] (cp 1 fD)⟩
def k__law_tree (D:DI v d__law_tree) (q:NB v) (aN:d__law_take.C v):D.O:=
 lP (m:=fD) D sc__law_tree λeF _ _ _ _ _ _ hr=>
 (sl 2 sc__law_tree.nd (Vw rfl rfl q.list (av (ae 1))) λqM=>
 (sv 3 sc__law_tree.nd (eC aN hr (bU 0 (af ao ak))) λgI=>
 (SF.xP (hd:=(λ(s4:List PV)=>([bd (.kn (hZ gM)),bd (.val eF),bd (.ol bv s4),bd (.val gI),bv,bv]:bA))) (s0:=qM) AJ (.refl _) (λs4=>(dc Tu (mE rfl rfl q.len (bO 2)) ao)) (λs4=>
 (sv 4 sc__law_tree.nd (aD rfl (eO (aZ (n:=4) (af (eC aN hr (bU 0 (af (nK (mE rfl rfl q.len (bO 2)) ao) ak))) (af (nK (mE rfl rfl q.len (bO 2)) ao) (af ao (af ao ak)))) rfl)) (ae 3)) λmH=>
 (sv 5 sc__law_tree.nd (aV (n:=2) (af (aD rfl (bO 2) (ae 4)) (af (aD rfl (bO 2) (cJ rfl (ae 4) ao)) ak)) rfl) λqc=>
 (SF.ifS (out1:=λ(W5:PV)=>.nx ([bd (.kn (hZ gM)),bd (.val eF),bd (.ol bv s4),bd (.val gI),bd (.val mH),bd (.val W5)]:bA)) (pT.t (kE (dc (eJ rfl (aO hr)) (ae 3) ao) (ib (dc (eJ rfl (aO hr)) (eC aN hr (bU 0 (af ao ak))) ao))))
 (sv 5 sc__law_tree.nd (aV (n:=2) (af (aD rfl (bO 2) (cJ rfl (ae 4) ao)) (af (aD rfl (bO 2) (ae 4)) ak)) rfl) λqb=>
 (SF.nil rfl (.refl _)))
 (SF.nil rfl (.refl _))
 λW5=>(SF.Yl 2 rfl rfl (.inl rfl) (aZ (n:=1) (af (ae 5) ak) rfl) (ae 4) (cJ rfl (ae 4) ao) λpY=>
 (SF.eY rfl (.keep (.keep (.keep (.keep (.drop (.drop (.refl _))))))))))))) λs4=>
 (SF.bN (aD rfl (bO 2) ao) λ_=>rfl))))
abbrev d__law_great:DF:=⟨"_law_great",top 58,["_law_pot_here"],3,λK=>eM K [.p (hZ gM)] (cp 0 eS)⟩
def k__law_great (D:DI v d__law_great) (q:NB v) (kX:d__law_tree.C v) (wF:d__law_words.C v) (aN:d__law_take.C v):D.O:=
 acF (m:=eS) D sc__law_great λ_ _ _ _ _ _ hr=>
 (SF.bN (eC kX hr (bU 0 (af (uR (lC wF hr (bU 0 (af (cJ rfl ao (eC aN hr (bU 0 (af (aD rfl (eO (aZ (n:=2) (af ao (af ao ak)) rfl)) (qt rfl q.int (iE (eJ rfl (aO hr)) (eC aN hr (bU 0 (af ao ak))) ao))) ak)))) ak)))) ak))) λ_=>rfl)
abbrev d__law_nodes:DF:=⟨"_law_nodes",top 59,["_law_tree_here"],12,λK=>fP K [.v] (cp 1 (a7 12))⟩
theorem k__law_nodes (D:DI v d__law_nodes) (q:NB v):∀n,gm v.P v.w v.K v.mg v.base lO (n+0) D.f D.fd ["_law_tree_here"] (fP v.K [.v] (cp 1 (a7 n)))
 | 0=>Jc (Qa λl Q hl=>match l,hl with | [cQ],_=>λh=>h.elim)
 | n+1=>have bB:=D.cN (k__law_nodes D q n)
  fnL (k:=n+0) (n:=1) (m:=a7 (n+1)) D.fn sc__law_nodes rfl (gn de) λl hl=>match l,hl with | [cQ],_=>λ_ _ _ _ _ _ hr=>show SF _ _ _ [bd (.val cQ),bv,bv,bv] _ (a7 (n+1) cQ) _ from
 (SF.yO (bM rfl (cP rfl .str rfl q.isinstance (ae 0) rfl q.str r9) (λ_=>rfl))
 (SF.i9 (aZ (n:=1) (af (ae 0) ak) rfl) λ_=>rfl)
 (sl 1 sc__law_nodes.nd (lC bB hr (af (aD rfl (av (ae 0)) ao) ak)) λvF=>
 (sv 2 sc__law_nodes.nd (mE rfl rfl q.len (bO 1)) λrA=>
 (SF.tT (hd:=(λ(s6:List PV)=>([bd (.val cQ),bd (.ol bv s6),bd (.val rA),bv]:bA))) (s0:=vF) AJ rfl (bx rfl (rN (lC bB hr (af (aD rfl (av (ae 0)) ao) ak)))) (.refl _) (di 3 sc__law_nodes.nd) (λs6 yd=>
 (SF.append 1 rfl rfl rfl (.inl rfl) (G8 (bM rfl (cP rfl .str rfl q.isinstance (ae 3) rfl q.str r9) (λ_=>rfl)) (ae 3) (aV (n:=2) (af (cJ rfl (aD rfl (av (ae 3)) ao) (ae 2)) (af (cJ rfl (aD rfl (av (ae 3)) ao) (ae 2)) ak)) rfl)) λMh=>
 (SF.eY rfl (.keep (.keep (.keep (.drop (.refl _)))))))) λs6=>
 (SF.i9 (uD rfl (qT 1) (bX (aZ (n:=1) (af (aV (n:=2) (af (nK (ae 2) ao) (af (nK (mE rfl rfl q.len (bO 1)) ao) ak)) rfl) ak) rfl))) λ_=>rfl)))))
abbrev d__law_dates:DF:=⟨"_law_dates",top 60,["_law_pot_here","_law_rows"],3,λK=>eM K [.p (hZ gM),.v] (cp 1 eU)⟩
def k__law_dates (D:DI v d__law_dates) (q:NB v) (bH:d__law_pick.C v) (aN:d__law_take.C v):D.O:=
 lP (m:=eU) D sc__law_dates λbS _ _ _ _ _ _ hr=>
 (sl 2 sc__law_dates.nd (Nj (aZ (n:=1) (af ao ak) rfl) (cW rfl rfl q.len (ae 1))) λjW=>
 (sl 4 sc__law_dates.nd (Tn rfl lc__law_dates_0 (nv rfl rfl q.enumerate (bu (ae 1))) (λ_ _ _ _ _=>(NV rfl (fi rfl (aQ (di 0 lc__law_dates_0.nd) (aQ (di 1 lc__law_dates_0.nd) dz))))) (λ_ _ _ _ _ t9=>(ic (bM rfl (cP rfl .str rfl q.isinstance (ae 1) rfl q.str r9) (λ_=>rfl)))) (λ_ _ _ _ _ t9=>(ae 0)) (Gq rfl rfl ⋯) ⋯) λGm=>
 (sv 5 sc__law_dates.nd ao λxc=>
 (SF.xP (hd:=(λ(pz:List PV×List PV×PV)=>([bd (.kn (hZ gM)),bd (.val bS),bd (.ol bv pz.1),bv,bd (.ol bv pz.2.1),bd (.val pz.2.2),bv]:bA))) (s0:=(jW,Gm,xc)) AJ (.refl _) (λpz=>(LW rfl (aO hr) (qT 4))) (λpz=>
 (SF.as (WK 4 rfl (WJ (i:=6) rfl sc__law_dates.nd rfl rfl lc__law_dates_1 (bx rfl (bu (ae 4))) (λ_ _ _ _ _=>(di 0 lc__law_dates_1.nd)) (λ_ _ _ _ _ YT=>(pT.t (kE (vo rfl (aO hr) (aD rfl (av (aD rfl (av (ae 2)) (ae 0))) ao) (av (ae 1))) (ib (vo rfl (aO hr) (aD rfl (av (aD rfl (av (ae 2)) (ae 0))) ao) (av (ae 1))))))) (λ_ _ _ _ _ YT=>(ae 0)) rfl)) λyh=>
 SF.cO 6 rfl (sv 3 sc__law_dates.nd (eC bH hr (bU 0 (af (ae 6) ak))) λrO=>
 (sv 5 sc__law_dates.nd (cJ rfl (cJ rfl (ae 5) ao) (eC aN hr (bU 0 (af (aD rfl (eO (aZ (n:=3) (af ao (af ao (af ao ak))) rfl)) (eC aN hr (bU 0 (af ao ak)))) ak)))) λxb=>
 (SF.FR 2 rfl rfl (.inl rfl) (ae 5) (ae 3) λlZ=>
 (SF.remove 4 rfl rfl rfl (.inr (.inl rfl)) (ae 3) λIC=>
 (SF.eY rfl (.keep (.keep (.keep (.drop (.keep (.keep (.drop (.refl _))))))))))))))) λpz=>
 (SF.bN (dg rfl rfl q.tuple (bO 2)) λ_=>rfl)))))
abbrev d__law_small:DF:=⟨"_law_small",top 61,["_law_pot_here","_law_great_here"],13,λK=>eM K [.p (hZ gM),.v] (cp 1 eR)⟩
def k__law_small (D:DI v d__law_small) (q:NB v) (bB:d__law_nodes.C v) (aN:d__law_take.C v) (kX:d__law_tree.C v) (bH:d__law_pick.C v):D.O:=
 lP (m:=eR) D sc__law_small λf6 _ _ _ _ _ _ hr=>
 (sl 2 sc__law_small.nd (uC rfl lc__law_small_0 (bx rfl (rN (lC bB hr (af (ae 1) ak)))) (λ_ _ _ _ _=>(di 0 lc__law_small_0.nd)) (λ_ _ _ _ _ p4=>(bM rfl (cP rfl .str rfl q.isinstance (ae 0) rfl q.str r9) (λ_=>rfl))) (λ_ _ _ _ _ p4=>(ae 0)) rfl) λmN=>
 SF.cO 2 rfl (sv 3 sc__law_small.nd (cJ rfl ao (eC aN hr (bU 0 (af (aD rfl (eO (aZ (n:=2) (af ao (af ao ak)) rfl)) (qt rfl q.int (iE (eJ rfl (aO hr)) (eC aN hr (bU 0 (af ao ak))) ao))) ak)))) λNb=>
 (SF.bN (eC kX hr (bU 0 (af (uR (eg rfl lc__law_small_1 (fF rfl q.range (ae 3)) (λ_ _ _ _ _=>(di 0 lc__law_small_1.nd)) (λ_ _ _ _ _ ì=>(eC bH hr (bU 1 (af (ae 2) ak)))) rfl)) ak))) λ_=>rfl)))
abbrev d__law_deeds:DF:=⟨"_law_deeds",top 62,["_law_stays","_law_stay"],1,λK=>fP K [.v,.v] (cp 2 eT)⟩
def k__law_deeds (D:DI v d__law_deeds) (q:NB v):D.O:=
 F7 (m:=eT) D sc__law_deeds λaJ a8 _ _ _ _ _ _ hr=>
 (SF.Yn (aD rfl (av (ae 0)) (ae 1)) (g_4 rfl (fi rfl (aQ (di 2 sc__law_deeds.nd) (aQ (di 3 sc__law_deeds.nd) (aQ (di 4 sc__law_deeds.nd) (aQ (di 5 sc__law_deeds.nd) dz)))))) λt3=>
 (sl 6 sc__law_deeds.nd (aZ (n:=1) (af (aV (n:=3) (af iD (af (ae 1) (af (ae 1) ak))) rfl) ak) rfl) λwK=>
 (SF.ifS (out1:=λ(Yr:List PV)=>.nx ([bd (.val aJ),bd (.val a8),bd (.val t3.1),bd (.val t3.2.1),bd (.val t3.2.2.1),bd (.val t3.2.2.2),bd (.ol bv Yr),bv]:bA)) (dc (eJ rfl (aO hr)) (cW rfl rfl q.len (ae 4)) ao)
 (SF.extend 6 rfl rfl rfl (.inl rfl) (eO (aZ (n:=2) (af (aV (n:=3) (af iD (af (aD rfl (av (ae 4)) ao) (af (aD rfl (av (ae 4)) ao) ak))) rfl) (af (aV (n:=3) (af iD (af (aD rfl (av (ae 4)) ao) (af (aD rfl (av (ae 4)) ao) ak))) rfl) ak)) rfl)) λyZ=>
 (SF.nil rfl (.refl _)))
 (SF.nil rfl (.refl _))
 λYr=>(SF.tT (hd:=(λ(Qh:List PV)=>([bd (.val aJ),bd (.val a8),bd (.val t3.1),bd (.val t3.2.1),bd (.val t3.2.2.1),bd (.val t3.2.2.2),bd (.ol bv Qh),bv]:bA))) (s0:=Yr) AJ rfl (bx rfl (bu (ae 5))) (.refl _) (di 7 sc__law_deeds.nd) (λQh jc=>
 (SF.extend 6 rfl rfl rfl (.inl rfl) (eO (aZ (n:=2) (af (aV (n:=3) (af iD (af (ae 1) (af (ae 7) ak))) rfl) (af (aV (n:=3) (af iD (af (ae 7) (af (ae 1) ak))) rfl) ak)) rfl)) λnC=>
 (SF.eY rfl (.keep (.keep (.keep (.keep (.keep (.keep (.keep (.drop (.refl _)))))))))))) λQh=>
 (SF.Mi 6 rfl rfl)))))
abbrev d__law_done:DF:=⟨"_law_done",top 63,["_law_stays","_law_rows","_law_can_here","_law_node","_law_stay"],2,λK=>fP K [.v,.v,.v,.v,.v] (cp 5 cx)⟩
def k__law_done (D:DI v d__law_done) (q:NB v) (wI:d__law_deeds.C v):D.O:=
 acG (m:=cx) D sc__law_done λaJ bS aY cf a8 _ _ _ _ _ _ hr=>
 (sv 5 sc__law_done.nd (aD rfl (av (ae 1)) (ae 3)) λye=>
 (SF.yO (bM rfl (cP rfl .str rfl q.isinstance (ae 5) rfl q.str r9) (λ_=>rfl))
 (SF.i9 (Nj (aZ (n:=1) (af (aV (n:=3) (af iD (af (ae 4) (af (ae 4) ak))) rfl) ak) rfl) (qt rfl q.int (lX (iE (eJ rfl (aO hr)) (aD rfl (av (aD rfl (av (ae 0)) (ae 4))) ao) (aV (n:=0) ak rfl)) (lW (iE (eJ rfl (aO hr)) (aD rfl (av (aD rfl (av (ae 0)) (ae 4))) ao) (ae 5)))))) λ_=>rfl)
 (SF.i9 (uC rfl lc__law_done_0 (bx rfl (rN (lC wI hr (af (ae 0) (af (ae 4) ak))))) (λ_ _ _ _ _=>(di 0 lc__law_done_0.nd)) (λ_ _ _ _ _ Ir=>(pT.t (kE (bM rfl (aD rfl (av (aD rfl (av (ae 1)) (aD rfl (av (ae 2)) ao))) (aD rfl (av (ae 0)) ao)) (λ_=>rfl)) (ib (bM rfl (aD rfl (av (aD rfl (av (ae 1)) (aD rfl (av (ae 2)) ao))) (aD rfl (av (ae 0)) ao)) (λ_=>rfl)))))) (λ_ _ _ _ _ Ir=>(ae 0)) rfl) λ_=>rfl)))
abbrev d__law_can:DF:=⟨"_law_can",top 64,["_law_stays","_law_rows"],3,λK=>fP K [.v,.v] (cp 2 gV)⟩
def k__law_can (D:DI v d__law_can) (q:NB v) (cB:d__law_done.C v):D.O:=
 F7 (m:=gV) D sc__law_can λaJ bS _ _ _ _ _ _ hr=>
 (SF.Yo (i:=2) sc__law_can.nd rfl (Cs rfl)
 (SF.tT (hd:=(λ(s3:(List db×List (List PV)))=>([bd (.val aJ),bd (.val bS),bd (.qd s3.1 s3.2),bv,bv,bv]:bA))) (s0:=(([]:List db),([]:List (List PV)))) AJ rfl (fF rfl q.range (cW rfl rfl q.len (ae 1))) (.refl _) (di 3 sc__law_can.nd) (λs3 rj=>
 (SF.O0 2 rfl rfl rfl (.inr (.inl rfl)) (Nj (aZ (n:=1) (af k6 ak) rfl) (cW rfl rfl q.len (ae 0))) λb9 rX=>
 (SF.tT (hd:=(λ(Lw:(List db×List (List PV)))=>([bd (.val aJ),bd (.val bS),bd (.qd Lw.1 Lw.2),bd (.val rj),bv,bv]:bA))) (s0:=(b9,rX)) AJ rfl (fF rfl q.range (cW rfl rfl q.len (ae 0))) (.refl _) (di 4 sc__law_can.nd) (λLw pW=>
 (sv 5 sc__law_can.nd (Jk 2 rfl (T3 2 rfl (aaj rfl rfl rfl q.any (bX (eg rfl lc__law_can_0 (bx rfl (bu (aD rfl (av (aD rfl (av (ae 0)) (ae 4))) ao))) (λ_ _ _ _ _=>(di 0 lc__law_can_0.nd)) (λ_ _ _ _ _ ë=>(aD rfl (av (aD rfl (av (ae 1)) (ae 2))) (ae 0))) rfl))))) λTb=>
 (SF.Yp 2 rfl rfl rfl (.inr (.inl rfl)) (Jk 2 rfl (T3 2 rfl (aac (ae 5) (lW (aad rfl (aO hr) (bX (lC cB hr (af (ae 0) (af (ae 1) (af (ae 2) (af (ae 3) (af (ae 4) ak)))))))))))) (ae 3) (ae 4) (λ_ _=>rfl) λyX=>
 (SF.eY rfl (.keep (.keep (.keep (.keep (.drop (.drop (.refl _))))))))))) λLw=>
 (SF.eY rfl (.keep (.keep (.keep (.drop (.refl _))))))))) λs3=>
 (SF.ZX 2 rfl (SF.Mi 2 rfl rfl))))
abbrev d__law_path:DF:=⟨"_law_path",top 65,["_law_pot_here","_law_stays","_law_rows","_law_can_here","_law_node","_law_stay"],3,λK=>eM K [.p (hZ gM),.v,.v,.v,.v,.v] (cp 5 eI)⟩
def k__law_path (D:DI v d__law_path) (q:NB v) (aN:d__law_take.C v) (cB:d__law_done.C v) (bH:d__law_pick.C v):D.O:=
 Y8 (m:=eI) D sc__law_path λaJ bS aY cf a8 _ _ _ _ _ _ hr=>
 (sl 6 sc__law_path.nd (aZ (n:=1) (af (ae 5) ak) rfl) λdm=>
 (SF.tT (hd:=(λ(s4:List PV)=>([bd (.kn (hZ gM)),bd (.val aJ),bd (.val bS),bd (.val aY),bd (.val cf),bd (.val a8),bd (.ol bv s4),bv,bv,bv]:bA))) (s0:=dm) AJ rfl (fF rfl q.range (cW rfl rfl q.len (ae 1))) (.refl _) (di 7 sc__law_path.nd) (λs4 Ul=>
 (SF.Md (i:=8) rfl sc__law_path.nd rfl rfl lc__law_path_0 (bx rfl (bu (aD rfl (av (aD rfl (av (ae 1)) (aD rfl (bO 6) (jy ao)))) ao))) (λ_ _ _ _ _=>(di 0 lc__law_path_0.nd)) (λ_ _ _ _ _ p8=>(bM rfl (aD rfl (av (aD rfl (av (ae 1)) (ae 2))) (ae 0)) (λ_=>rfl))) (λ_ _ _ _ _ p8=>(ae 0)) rfl λVh=>
 SF.cO 8 rfl (sv 9 sc__law_path.nd (aac (aai rfl (aO hr) (bX (lC cB hr (af (ae 1) (af (ae 2) (af (ae 3) (af (ae 4) (af (aD rfl (bO 6) (jy ao)) ak)))))))) (lW (iE (eJ rfl (aO hr)) (eC aN hr (bU 0 (af ao ak))) ao))) λOj=>
 (SF.VV (pT.t (kE (LW rfl (aO hr) (qS (ae 8))) (ib (bM rfl (ae 9) (λ_=>rfl)))))
 (SF.append 6 rfl rfl rfl (.inl rfl) (eC bH hr (bU 0 (af (ae 8) ak))) λgs=>
 (SF.eY rfl (.keep (.keep (.keep (.keep (.keep (.keep (.keep (.drop (.drop (.drop (.refl _)))))))))))))
 (SF.eY rfl (.keep (.keep (.keep (.keep (.keep (.keep (.keep (.drop (.drop (.drop (.refl _)))))))))))))))) λs4=>
 (SF.xP (hd:=(λ(Mf:List PV)=>([bd (.kn (hZ gM)),bd (.val aJ),bd (.val bS),bd (.val aY),bd (.val cf),bd (.val a8),bd (.ol bv Mf),bv,bv,bv]:bA))) (s0:=s4) AJ (.refl _) (λMf=>(SX rfl (aO hr) (bX (lC cB hr (af (ae 1) (af (ae 2) (af (ae 3) (af (ae 4) (af (aD rfl (bO 6) (jy ao)) ak))))))))) (λMf=>
 (SF.append 6 rfl rfl rfl (.inl rfl) (eC bH hr (bU 0 (af (uR (uC rfl lc__law_path_1 (bx rfl (bu (aD rfl (av (aD rfl (av (ae 1)) (aD rfl (bO 6) (jy ao)))) ao))) (λ_ _ _ _ _=>(di 0 lc__law_path_1.nd)) (λ_ _ _ _ _ ê=>(bM rfl (aD rfl (av (aD rfl (av (ae 1)) (ae 2))) (ae 0)) (λ_=>rfl))) (λ_ _ _ _ _ ê=>(ae 0)) rfl)) ak))) λmZ=>
 (SF.eY rfl (.refl _)))) λMf=>
 (SF.bN (dg rfl rfl q.tuple (bO 6)) λ_=>rfl))))
abbrev d__law_way:DF:=⟨"_law_way",top 66,["_law_pot_here","_law_stays","_law_rows","_law_can_here","_law_node","_law_path_here"],15,λK=>eM K [.p (hZ gM),.v,.v,.v,.v,.v] (cp 5 (cT 12))⟩
theorem k__law_way (D:DI v d__law_way) (bH:d__law_pick.C v) (cB:d__law_done.C v) (kY:d__law_path.C v):∀n,gm v.P v.w v.K v.mg v.base lO (n+3) D.f D.fd ["_law_pot_here","_law_stays","_law_rows","_law_can_here","_law_node","_law_path_here"] (eM v.K [.p (hZ gM),.v,.v,.v,.v,.v] (cp 5 (cT n)))
 | 0=>Jc (FN λl Q hl=>match l,hl with | [aJ,bS,aY,cf,bZ],_=>λh=>h.elim)
 | n+1=>have jT:=D.cN (k__law_way D bH cB kY n)
  fnV (k:=n+3) (n:=5) (m:=cT (n+1)) D.fn sc__law_way rfl (aE (n:=5)) λl hl=>match l,hl with | [aJ,bS,aY,cf,bZ],_=>λ_ _ _ _ _ _ hr=>show SF _ _ _ [bd (.kn (hZ gM)),bd (.val aJ),bd (.val bS),bd (.val aY),bd (.val cf),bd (.val bZ),bv,bv,bv,bv,bv] _ (cT (n+1) aJ bS aY cf bZ) _ from
 (SF.Yn (eC bH hr (bU 0 (af (uR (lC cB hr (af (ae 1) (af (ae 2) (af (ae 3) (af (ae 4) (af (aD rfl (av (ae 5)) (jy ao)) ak))))))) ak))) (g_3 rfl (fi rfl (aQ (di 6 sc__law_way.nd) (aQ (di 7 sc__law_way.nd) (aQ (di 8 sc__law_way.nd) dz))))) λt8=>
 (SF.yO (dc (eJ rfl (aO hr)) (ae 6) iD)
 (SF.bN (aV (n:=2) (af (ae 5) (af (ae 6) ak)) rfl) λ_=>rfl)
 (sv 9 sc__law_way.nd (aD rfl (av (ae 2)) (ae 4)) λqR=>
 (sv 10 sc__law_way.nd (eC jT hr (bU 0 (af (ae 1) (af (ae 2) (af (ae 3) (af (aD rfl (av (ae 9)) ao) (af (eC kY hr (bU 0 (af (ae 1) (af (ae 2) (af (ae 3) (af (aD rfl (av (ae 9)) ao) (af (ae 7) ak))))))) ak))))))) λy7=>
 (SF.bN (aV (n:=4) (af (ae 5) (af (ae 6) (af (ae 10) (af (eC jT hr (bU 0 (af (ae 1) (af (ae 2) (af (ae 3) (af (aD rfl (av (ae 9)) ao) (af (eC kY hr (bU 0 (af (ae 1) (af (ae 2) (af (ae 3) (af (aD rfl (av (ae 9)) ao) (af (ae 8) ak))))))) ak))))))) ak)))) rfl) λ_=>rfl)))))
abbrev d__law_whole_way:DF:=⟨"_law_whole_way",top 67,["_law_pot_here","_law_stays","_law_small_here"],16,λK=>eM K [.p (hZ gM),.v,.v] (cp 2 cH)⟩
def k__law_whole_way (D:DI v d__law_whole_way) (q:NB v) (bB:d__law_nodes.C v) (GW:d__law_can.C v) (cB:d__law_done.C v) (jT:d__law_way.C v) (bH:d__law_pick.C v):D.O:=
 ox (m:=cH) D sc__law_whole_way λaJ oX _ _ _ _ _ _ hr=>
 (sl 3 sc__law_whole_way.nd (lC bB hr (af (ae 2) ak)) λkJ=>
 SF.cO 3 rfl (sl 4 sc__law_whole_way.nd (lC GW hr (af (ae 1) (af (ae 3) ak))) λmG=>
 SF.cO 4 rfl (sv 5 sc__law_whole_way.nd (nK (cW rfl rfl q.len (ae 3)) ao) λGr=>
 (SF.Md (i:=6) rfl sc__law_whole_way.nd rfl rfl lc__law_whole_way_0 (fF rfl q.range (cW rfl rfl q.len (ae 1))) (λ_ _ _ _ _=>(di 0 lc__law_whole_way_0.nd)) (λ_ _ _ _ _ W6=>(LW rfl (aO hr) (bX (lC cB hr (af (ae 4) (af (ae 3) (af (ae 1) (af (ae 2) (af (ae 0) ak))))))))) (λ_ _ _ _ _ W6=>(ae 0)) rfl λL9=>
 SF.cO 6 rfl (SF.bN (eC jT hr (bU 0 (af (ae 1) (af (ae 3) (af (ae 4) (af (ae 5) (af (aV (n:=1) (af (eC bH hr (bU 0 (af (ae 6) ak))) ak) rfl) ak))))))) λ_=>rfl)))))
abbrev d__law_same:DF:=⟨"_law_same",top 68,["_law_found","_law_due"],4,λK=>eM K [.v,.v] (cp 2 (m__law_same 4))⟩
theorem k__law_same (D:DI v d__law_same) (q:NB v):∀n,gm v.P v.w v.K v.mg v.base lO (n+0) D.f D.fd ["_law_found","_law_due"] (eM v.K [.v,.v] (cp 2 (m__law_same n)))
 | 0=>Jc (FN λl Q hl=>match l,hl with | [gk,pO],_=>λh=>h.elim)
 | n+1=>have iu:=D.cN (k__law_same D q n)
  fnV (k:=n+0) (n:=2) (m:=m__law_same (n+1)) D.fn sc__law_same rfl (gn (gn de)) λl hl=>match l,hl with | [gk,pO],_=>λ_ _ _ _ _ _ hr=>show SF _ _ _ [bd (.val gk),bd (.val pO)] _ (m__law_same (n+1) gk pO) _ from
 (SF.yO (bM rfl (cP rfl .tup rfl q.isinstance (ae 1) rfl q.tuple boot_tuple) (λ_=>rfl))
 (SF.yO (pT.t (mS (ic (bM rfl (cP rfl .tup rfl q.isinstance (ae 0) rfl q.tuple boot_tuple) (λ_=>rfl))) (jG (dc (IJ rfl (aO hr)) (cW rfl rfl q.len (ae 0)) (cW rfl rfl q.len (ae 1))))))
 (SF.bN k6 λ_=>rfl)
 (SF.bN (zi rfl rfl rfl q.all (bX (rE rfl lc__law_same_0 (rH rfl rfl q.zip (bu (ae 0)) (bu (ae 1))) (λ_ _ _ _ _=>(NV rfl (fi rfl (aQ (di 0 lc__law_same_0.nd) (aQ (di 1 lc__law_same_0.nd) dz))))) (λ_ _ _ _ _ t5=>(eC iu hr (af (ae 0) (af (ae 1) ak)))) (Gq rfl rfl ⋯) ⋯))) λ_=>rfl))
 (SF.yO (pT.t (mS (bM rfl (cP rfl .str rfl q.isinstance (ae 1) rfl q.str r9) (λ_=>rfl)) (jG (dc wq (ae 1) su))))
 (SF.bN (lX (iE (eJ rfl (aO hr)) (cP rfl .str rfl q.isinstance (ae 0) rfl q.str r9) (cP rfl .str rfl q.isinstance (ae 1) rfl q.str r9)) (lW (iE (eJ rfl (aO hr)) (ae 0) (ae 1)))) λ_=>rfl)
 (SF.bN (lX (cP rfl .int rfl q.isinstance (ae 0) rfl q.int boot_int) (lX (TX (cP rfl .bool rfl q.isinstance (ae 0) rfl q.bool boot_bool)) (lW (iE (eJ rfl (aO hr)) (ae 0) (ae 1))))) λ_=>rfl)))
abbrev iV:DF:=⟨"_law_houses",top 69,["_law_great_here","_law_stays"],13,λK=>fP K [.v,.v] (cp 2 dX)⟩
def tF (D:DI v iV) (q:NB v) (bB:d__law_nodes.C v):D.O:=
 F7 (m:=dX) D kH λf6 aJ _ _ _ _ _ _ hr=>
 (sl 2 kH.nd (lC bB hr (af (ae 0) ak)) λkJ=>
 SF.cO 2 rfl (SF.i9 (eg rfl jt (bx rfl (bu (ae 1))) (λ_ _ _ _ _=>(di 0 jt.nd)) (λ_ _ _ _ _ p4=>(G8 (bM rfl (cP rfl .str rfl q.isinstance (aD rfl (av (ae 0)) ao) rfl q.str r9) (λ_=>rfl)) (R7 rfl (aO hr) (qS (ae 1)) (aD rfl (av (ae 0)) ao)) (aD rfl (av (ae 0)) ao))) rfl) λ_=>rfl))
abbrev c9:DF:=⟨"_law_path_of_houses",top 70,["_law_houses_here","_law_path_here"],1,λK=>eM K [.v,.v] (cp 2 bc)⟩
def kg (D:DI v c9) (q:NB v):D.O:=
 ox (m:=bc) D cR λbj bZ _ _ _ _ _ _ hr=>
 (sl 2 cR.nd (aZ (n:=0) ak rfl) λwL=>
 (SF.tT (hd:=(λ(s2:List PV)=>([bd (.val bj),bd (.val bZ),bd (.ol bv s2),bv]:bA))) (s0:=wL) AJ rfl (bx rfl (bu (ae 1))) (.refl _) (di 3 cR.nd) (λs2 Fl=>
 (SF.VV (pT.t (mS (SX rfl (aO hr) (qT 2)) (jG (dc (IJ rfl (aO hr)) (aD rfl (bO 2) (jy ao)) (aD rfl (av (ae 0)) (ae 3))))))
 (SF.append 2 rfl rfl rfl (.inl rfl) (aD rfl (av (ae 0)) (ae 3)) λJa=>
 (SF.eY rfl (.keep (.keep (.keep (.drop (.refl _)))))))
 (SF.eY rfl (.keep (.keep (.keep (.drop (.refl _)))))))) λs2=>
 (SF.bN (dg rfl rfl q.tuple (bO 2)) λ_=>rfl)))
abbrev fu:DF:=⟨"_law_by_houses",top 71,["_law_houses_here","_law_way_here"],13,λK=>eM K [.v,.v] (cp 2 (aX 12))⟩
theorem ju (D:DI v fu) (q:NB v) (fc:c9.C v):∀n,gm v.P v.w v.K v.mg v.base lO (n+1) D.f D.fd ["_law_houses_here","_law_way_here"] (eM v.K [.v,.v] (cp 2 (aX n)))
 | 0=>Jc (FN λl Q hl=>match l,hl with | [bj,c6],_=>λh=>h.elim)
 | n+1=>have dD:=D.cN (ju D q fc n)
  fnV (k:=n+1) (n:=2) (m:=aX (n+1)) D.fn ig rfl (gn (gn de)) λl hl=>match l,hl with | [bj,c6],_=>λ_ _ _ _ _ _ hr=>show SF _ _ _ [bd (.val bj),bd (.val c6),bv] _ (aX (n+1) bj c6) _ from
 (sv 2 ig.nd (eC fc hr (af (ae 0) (af (aD rfl (av (ae 1)) ao) ak))) λdm=>
 (SF.yO (dc (eJ rfl (aO hr)) (cW rfl rfl q.len (ae 1)) ao)
 (SF.bN (aV (n:=2) (af (ae 2) (af (aD rfl (av (ae 1)) ao) ak)) rfl) λ_=>rfl)
 (SF.bN (aV (n:=4) (af (ae 2) (af (aD rfl (av (ae 1)) ao) (af (eC dD hr (af (ae 0) (af (aD rfl (av (ae 1)) ao) ak))) (af (eC dD hr (af (ae 0) (af (aD rfl (av (ae 1)) ao) ak))) ak)))) rfl) λ_=>rfl)))
abbrev d_law:DF:=⟨"law",top 72,["_law_script"],17,λK=>eM K [.v] (cp 1 nh)⟩
def k_law (D:DI v d_law) (q:NB v) (GV:d__law_pot.C v) (wH:d__law_great.C v) (RL:d_dated.C v) (wJ:d__law_dates.C v) (bB:d__law_nodes.C v) (NU:d_ground.C v) (tR:iV.C v) (wG:d__law_small.C v) (oJ:d__law_whole_way.C v) (dD:fu.C v) (yT:d_is_way.C v) (iu:d__law_same.C v) (uL:d_counted.C v) (yS:d_places.C v):D.O:=
 lP (m:=nh) D sc_law λfB _ _ _ _ _ _ hr=>
 (SF.NX (hd:=(λ(s6:Unit)=>([bd (.val fB),bv,bv,bv,bv,bv,bv,bv,bv,bv,bv,bv]:bA))) (s0:=()) (inj:=id) AJ rfl (fF rfl q.range (aaf rfl rfl q.max ao (aae rfl rfl q.min (cW rfl rfl q.len (ae 0)) ao))) (.refl _) (di 1 sc_law.nd) (λ_=>trivial) (λs6 ċ=>
 (sl 2 sc_law.nd (lC GV hr (af (ae 0) (af (ae 1) ak))) λqW=>SF.kn 2 rfl
 (sv 3 sc_law.nd (eC wH hr (bU 2 ak)) λcE=>
 (sv 4 sc_law.nd (eC RL hr (af (ae 3) (af (eC wJ hr (bU 2 (af (uR (lC bB hr (af (ae 3) ak))) ak))) ak))) λi7=>
 (sv 5 sc_law.nd (eC NU hr (af (ae 3) ak)) λqx=>
 (sl 6 sc_law.nd (lC tR hr (af (ae 3) (af (ae 4) ak))) λeV=>
 SF.cO 6 rfl (sv 7 sc_law.nd (eC wG hr (bU 2 (af (ae 3) ak))) λdR=>
 (SF.NX (hd:=(λ(é:Unit)=>([bd (.val fB),bd (.val ċ),bd (.kn (hZ gM)),bd (.val cE),bd (.val i7),bd (.val qx),bd (.val (.cl eV)),bd (.val dR),bv,bv,bv,bv]:bA))) (s0:=()) (inj:=Lp.out) AJ rfl (fF rfl q.range ao) (.refl _) (di 8 sc_law.nd) (λ_=>trivial) (λé PJ=>
 (sv 9 sc_law.nd (eC oJ hr (bU 2 (af (ae 4) (af (ae 7) ak)))) λfN=>
 (sv 10 sc_law.nd (eC dD hr (af (ae 6) (af (ae 9) ak))) λm5=>
 (SF.yO (pT.t (mS (dc uF (eC yT hr (af (ae 4) (af (ae 7) (af (ae 9) ak)))) k6) (jG (dc uF (eC yT hr (af (ae 5) (af (ae 7) (af (ae 10) ak)))) k6))))
 (SF.ret (k:=λXI=>(Lp.out XI)) k6 λ_=>rfl)
 (SF.yO (ic (bM rfl (eC iu hr (af (eC uL hr (af (ae 5) (af (ae 10) ak))) (af (eC uL hr (af (ae 4) (af (ae 9) ak))) ak))) (λ_=>rfl)))
 (SF.ret (k:=λx46=>(Lp.out x46)) k6 λ_=>rfl)
 (sv 11 sc_law.nd (dg rfl rfl q.tuple (eO (rE rfl lc_law_0 (bx rfl (bu (eC yS hr (af (ae 9) ak)))) (λ_ _ _ _ _=>(NV rfl (fi rfl (aQ (di 0 lc_law_0.nd) (aQ (di 1 lc_law_0.nd) dz))))) (λ_ _ _ _ _ ă=>(aV (n:=2) (af (aD rfl (av (ae 2)) (ae 0)) (af (ae 1) ak)) rfl)) (Gq rfl rfl ⋯) ⋯))) λOB=>
 (SF.VV (ic (bM rfl (eC iu hr (af (eC yS hr (af (ae 10) ak)) (af (ae 11) ak))) (λ_=>rfl)))
 (SF.ret (k:=λx57=>(Lp.out x57)) k6 λ_=>rfl)
 (SF.eY rfl (.keep (.keep (.keep (.keep (.keep (.keep (.keep (.keep (.drop (.drop (.drop (.drop (.refl _))))))))))))))))))))) λé=>
 (SF.eY rfl (.keep (.drop (.drop (.drop (.drop (.drop (.drop (.drop (.refl _)))))))))))))))))) λs6=>
 (SF.bN k6 λ_=>rfl))
end
open PySem PySem.Spec PyProof.Rows L2 PL FL
def all_d {K:Ab} (X:K.In h) (G:h.Ns ev mg) (G6:DX K "is_whole" (top 1)) (Ou:DX K "is_row" (top 2)) (KJ:DX K "is_word" (top 6)) (G7:DX K "is_grown" (top 7)) (KL:DX K "is_tree" (top 8)) (G3:DX K "parts_of" (top 9)) (R6:DX K "nodes" (top 10)) (Ow:DX K "halves" (top 11)) (Hc:DX K "ahead_of" (top 12)) (G0:DX K "under_at" (top 17)) (zh:DX K "beside_at" (top 18)) (KP:DX K "is_home" (top 19)) (KH:DX K "name_of" (top 20)) (G5:DX K "lines_up" (top 21)) (wX:DX K "apart_from" (top 22)) (Ox:DX K "ground" (top 23)) (Hb:DX K "comes_in" (top 30)) (KR:DX K "done_at" (top 31)) (Ov:DX K "ins_of" (top 32)) (zd:DX K "split_ins" (top 33)) (G4:DX K "over_ins" (top 34)) (G9:DX K "deeds_at" (top 35)) (KN:DX K "is_stay" (top 36)) (KO:DX K "is_path" (top 37)) (zg:DX K "is_formed" (top 38)) (pN:DX K "ways_of_nodes" (top 39)) (KQ:DX K "is_done" (top 40)) (Ot:DX K "is_way" (top 41)) (tU:DX K "ways_within" (top 42)) (Oo:DX K "places" (top 43)) (KI:DX K "lost_on" (top 45)) (KS:DX K "counted" (top 46)) (tV:DX K "split_dates" (top 48)) (G1:DX K "standing" (top 49)) (KG:DX K "stay_of" (top 50)) (R8:DX K "dated" (top 51)) (He:DX K "_law_pot" (top 53)) (zk:DX K "_law_take" (top 54)) (zm:DX K "_law_pick" (top 55)) (wY:DX K "_law_words" (top 56)) (zj:DX K "_law_tree" (top 57)) (w5:DX K "_law_great" (top 58)) (w4:DX K "_law_nodes" (top 59)) (w9:DX K "_law_dates" (top 60)) (wZ:DX K "_law_small" (top 61)) (w6:DX K "_law_deeds" (top 62)) (zq:DX K "_law_done" (top 63)) (Hf:DX K "_law_can" (top 64)) (zp:DX K "_law_path" (top 65)) (Hd:DX K "_law_way" (top 66)) (oO:DX K "_law_whole_way" (top 67)) (zl:DX K "_law_same" (top 68)) (tW:DX K "_law_houses" (top 69)) (ki:DX K "_law_path_of_houses" (top 70)) (oP:DX K "_law_by_houses" (top 71)) (cK:AG K ev "LONGEST_WORD"=bd (bd (.int 8 kG))) (gF:AG K ev "LETTERS"=bd (bd (.str "abcdefghijklmnopqrstuvwxyz" ui))) (nQ:AG K ev "UNDER"=bd (bd (.int 2 HW))) (k8:AG K ev "BESIDE"=bd (bd (.int 3 xV))) (sG:AG K ev "NAME"=bd (bd (.int 0 LY))) (nS:AG K ev "FOUND"=bd (bd (.str "found" HY))) (nR:AG K ev "SPLIT"=bd (bd (.str "split" HX))) (sF:AG K ev "OVER"=bd (bd (.str "over" LX))) (jA:AG K ev "DOUBLED"=bd (bd (.str "doubled" uj))) (nT:AG K ev "DEEDS"=bd (bd (.ref qz))) (wj:TupK K qz ["split","doubled","over"]) (u9:AG K ev "isinstance"=bd bv) (Ue:AG K ev "bool"=bd bv) (XE:AG K ev "int"=bd bv) (XD:AG K ev "len"=bd bv) (Pr:AG K ev "tuple"=bd bv) (XA:AG K ev "str"=bd bv) (XG:AG K ev "all"=bd bv) (Uc:AG K ev "list"=bd bv) (zQ:AG K ev "reversed"=bd bv) (xJ:AG K ev "enumerate"=bd bv) (Pt:AG K ev "range"=bd bv) (LI:AG K ev "sorted"=bd bv) (Xy:AG K ev "zip"=bd bv) (Xz:AG K ev "sum"=bd bv) (Ud:AG K ev "dict"=bd bv) (XH:AG K ev "abs"=bd bv) (XF:AG K ev "any"=bd bv) (XB:AG K ev "min"=bd bv) (XC:AG K ev "max"=bd bv):aaG K mg d_law:=by
 constructor
 rintro v rfl rfl D;have q:NB v:=⟨AH X G u9,AH X G Ue,AH X G XE,AH X G XD,AH X G Pr,AH X G XA,AH X G XG,AH X G Uc,AH X G zQ,AH X G xJ,AH X G Pt,AH X G LI,AH X G Xy,AH X G Xz,AH X G Ud,AH X G XH,AH X G XF,AH X G XB,AH X G XC⟩;replace cK:=BF X G cK;replace gF:=BF X G gF;replace nQ:=BF X G nQ;replace k8:=BF X G k8;replace sG:=BF X G sG;replace nS:=BF X G nS;replace nR:=BF X G nR;replace sF:=BF X G sF;replace jA:=BF X G jA;replace nT:=BF X G nT;obtain⟨gG⟩:=KJ.mk2 (d:=d_is_word) X G;refine G6.go (d:=d_is_whole) X G (λD=>k_is_whole D q) λHC=>?_;refine Ou.go (d:=d_is_row) X G (λD=>k_is_row D q) λzE=>?_;have Lu:=gG.cA (k_is_word gG q cK gF);have Xw:=gG.c (k_is_word gG q cK gF);obtain⟨sQ⟩:=G7.mk2 (d:=(d_is_grown gG.f)) X G;have HD:=sQ.c (k_is_grown sQ Lu zE);refine KL.go (d:=d_is_tree) X G (λD=>k_is_tree D gG.at' HD) λLj=>?_;refine G3.go (d:=d_parts_of) X G (λD=>k_parts_of D q) λHz=>?_;refine R6.go (d:=d_nodes) X G (λD=>k_nodes D q Hz) λqA=>?_;refine Ow.go (d:=d_halves) X G (λD=>k_halves D q) λnY=>?_;refine Hc.go (d:=d_ahead_of) X G (λD=>k_ahead_of D q qA nY) λsM=>?_;refine G0.go (d:=d_under_at) X G (λD=>k_under_at D nQ) λj7=>?_;refine zh.go (d:=d_beside_at) X G (λD=>k_beside_at D k8) λzG=>?_;refine KP.go (d:=d_is_home) X G (λD=>k_is_home D sG j7) λLq=>?_;refine KH.go (d:=d_name_of) X G (λD=>k_name_of D q) λuZ=>?_;refine G5.go (d:=d_lines_up) X G (λD=>k_lines_up D q sM) λHB=>?_;refine wX.go (d:=d_apart_from) X G (λD=>k_apart_from D q) λxu=>?_;refine Ox.go (d:=d_ground) X G (λD=>k_ground D q qA HB uZ nY xu) λO9=>?_;refine Hb.go (d:=d_comes_in) X G (λD=>k_comes_in D) λHF=>?_;refine KR.go (d:=d_done_at) X G (λD=>k_done_at D) λu0=>?_;refine Ov.go (d:=d_ins_of) X G (λD=>k_ins_of D q HF) λO8=>?_;refine zd.go (d:=d_split_ins) X G (λD=>k_split_ins D q j7) λzD=>?_;refine G4.go (d:=d_over_ins) X G (λD=>k_over_ins D zG) λHA=>?_;refine G9.go (d:=d_deeds_at) X G (λD=>k_deeds_at D q nS nR sF jA Lq zD HA) λHE=>?_;refine KN.go (d:=d_is_stay) X G (λD=>k_is_stay D q HC) λLk=>?_;refine KO.go (d:=d_is_path) X G (λD=>k_is_path D q Lk j7) λLo=>?_;refine zg.go (d:=d_is_formed) X G (λD=>k_is_formed D q Lo zE) λzF=>?_;refine pN.go (d:=d_ways_of_nodes) X G (λD=>k_ways_of_nodes D q zF nY) λpS=>?_;refine KQ.go (d:=d_is_done) X G (λD=>k_is_done D O8 HE u0) λLr=>?_;refine Ot.go (d:=d_is_way) X G (λD=>k_is_way D q Lj qA pS Lr) λO7=>?_;refine tU.go (d:=d_ways_within) X G (λD=>k_ways_within D q) λme=>?_;refine Oo.go (d:=d_places) X G (λD=>k_places D q me u0) λO6=>?_;refine KI.go (d:=d_lost_on) X G (λD=>k_lost_on D q j7) λLi=>?_;refine KS.go (d:=d_counted) X G (λD=>k_counted D q nT wj me Li) λLs=>?_;refine tV.go (d:=d_split_dates) X G (λD=>k_split_dates D q) λt6=>?_;refine G1.go (d:=d_standing) X G (λD=>k_standing D q sM) λHy=>?_;refine KG.go (d:=d_stay_of) X G (λD=>k_stay_of D q nY uZ) λLh=>?_;refine R8.go (d:=d_dated) X G (λD=>k_dated D q qA t6 Hy Lh) λSG=>?_;refine He.go (d:=d__law_pot) X G (λD=>k__law_pot D q) λHH=>?_;refine zk.go (d:=d__law_take) X G (λD=>k__law_take D) λdu=>?_;refine zm.go (d:=d__law_pick) X G (λD=>k__law_pick D q du) λf9=>?_;refine wY.go (d:=d__law_words) X G (λD=>k__law_words D q du) λxv=>?_;refine zj.go (d:=d__law_tree) X G (λD=>k__law_tree D q du) λpd=>?_;refine w5.go (d:=d__law_great) X G (λD=>k__law_great D q pd xv du) λxx=>?_;refine w4.go (d:=d__law_nodes) X G (λD=>k__law_nodes D q 12) λgC=>?_;refine w9.go (d:=d__law_dates) X G (λD=>k__law_dates D q f9 du) λxA=>?_;refine wZ.go (d:=d__law_small) X G (λD=>k__law_small D q gC du pd f9) λxw=>?_;refine w6.go (d:=d__law_deeds) X G (λD=>k__law_deeds D q) λxy=>?_;refine zq.go (d:=d__law_done) X G (λD=>k__law_done D q xy) λiG=>?_;refine Hf.go (d:=d__law_can) X G (λD=>k__law_can D q iG) λHI=>?_;refine zp.go (d:=d__law_path) X G (λD=>k__law_path D q du iG f9) λzI=>?_;refine Hd.go (d:=d__law_way) X G (λD=>k__law_way D f9 iG zI 12) λHG=>?_;refine oO.go (d:=d__law_whole_way) X G (λD=>k__law_whole_way D q gC HI iG HG f9) λoU=>?_;refine zl.go (d:=d__law_same) X G (λD=>k__law_same D q 4) λzH=>?_;refine tW.go (d:=iV) X G (λD=>tF D q gC) λub=>?_;refine ki.go (d:=c9) X G (λD=>kg D q) λkm=>?_;refine oP.go (d:=fu) X G (λD=>ju D q km 12) λoV=>?_;exact k_law D q HH xx SG xA gC O9 ub xw oU oV O7 zH Ls O6
def walk {l:EO}{q:tt}{d:DefRec}{K:Params->Ab} (hn:l.most=bd 63) (ZN:d.params.defaults=[])
  (hY:∀(w:wE) (h:pc),YP w h->(K w.params).In h)
  (F:∀(w:wE) (mg:Str->Option ci) (fa:db) (h:pc),(K w.params).In h->h.Ns ev mg->mg d.name=bd (.ref fa)->
   ∃fd:Fk,(∀(s:dL) (u:ci),BindsTo s fd ⟨[u],[]⟩ [("_law_script",u)])/\∀base:pc,(K w.params).In base->base.Ns ev mg->gm l.prog w (K w.params) mg base lO 17 fa fd ["_law_script"] (Ie (K w.params))) :
  PySem.W.WalkO q Ò XP YP l.row.toRowW d [] (λf vs=>FI f vs):=
 L2.Px (n:=63) (k:=17) (x:="_law_script") (CX:=λ_=>lO) (sp:=λw=>Ie (K w.params)) hn ⋯ ZN ⟨rfl,by decide,by decide,rfl⟩ hY F (λ_ _ a ns hl hO hS=>⟨a,ns,rfl,hO,hS,hl,λ_=>rfl⟩) λ_ _ _ _ _ z=>z
end My
open PySem PySem.W PyProof.Rows
inductive PySem.W.Fast|tw17742693299154234719|tw6837042067735282201|tw8330300468306993530|tw1190465537814346499|tw10033011096386986965|tw9661984016482813802|tw16124440534743716176|tw10393928424561709700|tw9973630839572565202|tw1167352086275771450|tw5067292867328390366|tw5034343573646348985|tw11641342795826626155|tw6848162749793768222|tw11333225919853193801|tw14897273428538288163|tw979147731600357700|tw13750289154657666897|tw9048702549824492970|tw17043880660913900165|tw4240231740270781306|tw14833425972712508929|tw1477959221183190021|tw3289579754114251425|tw13976965889182576781|tw2716330315198099313|tw11636945769867765203|tw8040589350245592926|tw7889316013854900428|tw3584539507892771131|tw1207104192631340745|tw15566072686695116944|tw15744589546730985349|tw13348249398002014889|tw12322786262874193275|tw1587783700792846800|tw12439250119669166804|tw12206237628606370204|tw6411812693628234770|tw1819650047850055235|tw10059979263427800201|tw9675070415718768045|tw479300790191371759|tw18158675398794265092|tw3884128261409441923|tw17411809844198812996|tw8015261525262252616|tw11832075151806102704|tw5455544235577898379|tw14913873958355000843|tw10158454615241341481|tw2555524122954665418|tw7657827320418762917|tw12165693820724695837|tw15959843562554760256|tw12454294851030331157|tw7014869345549378527|tw15009853838961775874|tw9264634937679845911|tw9310019663538436274|tw817256470943687594|tw384756684388909124|tw9812453319842214084|tw14031145559894707608|tw2731541988780660536|tw2494355772900017028|tw15686031384771573643|tw14093856129839566043|tw3461962544407677550|tw4165531072282518791|tw4472010237001612534|tw1836670391360421057|tw14943343214968543454|tw16389315393316010338|tw5712627607759922186|tw16503217356582604415|tw9431425571289493142|tw6486078161728131685|tw4431687504365262291|tw8041173120939384457|tw5350049063997925399|tw4029216757148881107|tw9003815532517545828|tw10305854869443314139|tw9690168886262453883|tw13120872831615681270|tw14222854380981319442|tw1924402064178065719|tw18206766553299793617|tw18375089379987177205|tw1356190950376475422|tw193615534698941799|tw7629831079449041062|tw11365025067360662419|tw9407811551874800927|tw726557067661755038|tw10670091247186385291|tw12629329378475820154|tw3285592323920158419|tw4115676703435210609
def PySem.W.Fast.tw8943112821062158992:=PySem.Challenge.pw_treewithin_k22_whole_slices_left_out
theorem PySem.W.Fast.te8943112821062158992:PySem.Challenge.pw_treewithin_k22_whole_slices_left_out=PySem.W.Fast.tw8943112821062158992:=rfl
set_option maxRecDepth 100000 in
set_option maxHeartbeats 0 in
theorem PySem.Challenge.cw_treewithin_k22_whole_slices_left_out_holds : PySem.Challenge.rw_treewithin_k22_whole_slices_left_out.Holds := by
 w_on;o_law;k_head;(case hw=>w_witness2)
 k_fill
 refine My.walk (l:=PySem.Challenge.rw_treewithin_k22_whole_slices_left_out) rfl rfl (fun w h Y=>PySem.W.kIn_of Y) ?F
 case F=>
  intro w mg fa h KX G hmg;refine' FL.mkAll (st:=My.top 72) (k:=17) My.law22_ok KX G hmg ?e (fun _ _ _ _ _ _=>FL.us1 fun _=>rfl) (My.all_d KX G ..)
  all_goals try first | (refine' FL.dx ?a ?l ?c ?k;(case a=>k_is);(case l=>k_is);(case c=>k_is);(case k=>k_is)) | (refine' FL.tup3K ?a;(case a=>k_is)) | k_is
#print axioms PySem.Challenge.cw_treewithin_k22_whole_slices_left_out_holds
