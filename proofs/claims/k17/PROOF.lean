import PyProof.Rows.All
import Wide.All
import OpenK.AllK
import Wide.FinOn
import Lean
import PyProof.EqAt
import PyProof.EqKinds
import PyProof.TupleCall
import PyProof.NeKinds
import PyProof.FactsAll.tuple_2
import PyProof.FactsAll.str_0
import PyProof.FactsAll.str_1
import PyProof.FactsAll.str_2
import PyProof.FactsAll.str_3
import PyProof.Rows.MinMaxN
import PyProof.Rows.SumAny
import PyProof.Rows.SetFrom
import PyProof.ReprRoads
import PyProof.Rows.StrKeys3
import PyProof.CallFns
import KE.KSortTup
import KE.KDictSum
import PySem.Challenge.RW_treewithin_k17_ways_spoilt
local macro_rules | `(tactic| omega) => `(tactic| lia)
open PySem renaming wpAny_bind -> Aa, wpAny_pure -> Af, wpAny_callSpecial?_slot -> AW, wpAny_field -> AZ, wpAny_newObj_type -> A2, wpAny_setField_rec -> A8, wpAny_holding -> A9, wpAny_call_entry -> Bc, wpAny_truthy_bool -> Bn, wpAny_seqItems -> BC, wpAny_Call_Name_kw -> BF, wpAny_mono -> BI, mem_of_lookup -> BJ, wpAny_typeNameOfWhole_keyiter -> BS, wpAny_typeOf -> B8, wpAny_passesOwn -> Cg, wpAny_typeNameOf_keyiter -> Cm, wpAny_of_eq -> Cq, wpAny_pyIter_list -> Cz, wpAny_rule -> CF, wpAny_newTuple -> CG, wpAny_attempt -> CT, wpAny_sequenceKey -> C8, wpAny_pyIter_enum -> C9, wpAny_isInstance -> Dn, wpAny_standAt -> Ds, wpAny_updateSeq_pair -> Dy, wpAny_letGo -> Dz, wpAny_updateSeq -> DH, wpAny_specialOf -> DJ, wpAny_execs_nil -> DK, wpAny_setField -> D5, wpAny_pyIter_tuple -> D6, wpAny_letOwnedTupleGo_enum -> D7, wpAny_dictEntries -> Ef, wpAny_onRaise -> El, wpAny_comprehension_free -> Em, wpAny_dictEpoch -> ES, wpAny_listPart -> E6, call -> FN
open PySem.W renaming Frag -> Ab, nsIn -> AG, mg_none_of -> AH, kia_one -> Bf, kitOne -> Bu, mg_of -> BH, fnOf -> BR, keepIn -> CC, KasT -> DS, codeIn -> DY, methodObj -> Eb, kitx_list -> Ec, kitx_dict -> Ed, cellsFrom_some -> EA, kas_rev -> EM, instObj -> EN, OpenLaw -> EO, lookIn -> E4, kitx_tuple -> Fq, callWith_K -> Fs, plainGet -> FA, kat_cons -> FC, kas_sort -> FD
open List renaming getElem?_eq_getElem -> Ad, length_append -> Ae, length_map -> Ah, size_toArray -> Aj, getElem?_map -> Ak, getElem?_eq_some_iff -> Al, replicate -> Am, length_cons -> An, getD_eq_getElem?_getD -> Ap, map_cons -> Au, getElem?_append_right -> Aw, mem_cons -> Ax, mem_map -> Ay, range -> AA, getElem?_append_left -> AD, mem_filter -> AJ, map_map -> AL, mem_append_right -> AM, getElem?_eq_none -> AN, mem_range -> AO, length_nil -> AU, mem_cons_of_mem -> AX, append_assoc -> A4, mem_append -> A5, map_append -> A6, length_replicate -> A7, length_filter_le -> Bd, drop_eq_getElem_cons -> Be, mem_singleton -> Bh, lookup_cons -> Bl, mem_of_getElem? -> Bo, not_mem_nil -> Bq, replicate_succ -> Br, filterMap_cons -> Bs, getElem?_replicate -> Bt, mem_cons_self -> Bv, getElem?_set_ne -> Bw, ext_getElem? -> BB, find?_cons -> BE, idxOf_lt_length_of_mem -> BG, getElem?_range -> BK, length_set -> BL, pairwise_iff_getElem -> BM, any_eq_true -> BP, mem_append_left -> BU, length -> BV, flatten_cons -> BZ, forIn_cons -> B2, length_reverse -> B4, flatMap_append -> B5, getElem?_set_self -> Ca, any_cons -> Cb, length_take -> Cc, length_range -> Ck, getElem_mem -> Co, all_eq_true -> Cp, eq_nil_of_length_eq_zero -> Cr, take_of_length_le -> Cs, reverse_cons -> CA, nodup_append -> CB, getElem?_of_mem -> CH, length_drop -> CJ, mergeSort_perm -> CN, map_congr_left -> CO, append_nil -> CV, mem_filterMap -> CY, range_succ_eq_map -> Df, pairwise_lt_range -> Dg, replicate_append_replicate -> Dh, length_singleton -> Dj, mem_flatMap -> Dq, filter_cons -> Dr, getElem_toArray -> DA, nodup_cons -> DM, length_pos_iff -> DP, getElem_of_mem -> DQ, pairwise_cons -> D9, pairwise_map -> Eg, length_erase_of_mem -> En, pairwise_mergeSort -> Es, length_eq_zero_iff -> Et, isEmpty_map -> Eu, getElem_inj -> Ew, drop_length -> Ex, map_set -> EG, length_pos_of_mem -> EH, filter_eq_nil_iff -> EI, drop_eq_nil_of_le -> EJ, range_succ -> ET, of_mem_zip -> EU, nil_append -> EW, map_const' -> EX, set_append_right -> E1, getElem?_toArray -> E2, take_succ -> E9, nodup_nil -> Fb, reverse_append -> Fi, map_eq_nil_iff -> Fj, map_drop -> Fo, all_cons -> Fp, map_nil -> Fz, map -> FO
open Bool renaming false_eq_true -> Ag, and_eq_true -> Av, false_ne_true -> AV, not_true -> A1, true_and -> Bx, eq_iff_iff -> Cj, and_false -> CI, and_true -> CU, or_eq_true -> EY, not_false -> Fc, false_and -> Fd
open PySem.Heap renaming get?_push_of_some -> Ai, get?_push_size -> Aq, lt_size -> Ar, SameBut -> B7, get?_update_self -> Cu, size_push -> CD, get?_update_other -> C6, IsSliceOf -> D2, size_update -> Eo, get?_update_ne -> Fh, ExtBut -> FH
open Nat renaming le_refl -> Ao, lt_of_lt_of_le -> Az, ne_of_lt -> AE, zero_add -> AR, lt_irrefl -> Ba, add_assoc -> Bb, zero_le -> Bj, le_trans -> Bp, le_add_right -> Bz, add_sub_cancel_left -> BX, sub_self -> B9, lt_succ_of_lt -> Dc, lt_or_ge -> De, le_of_ble_eq_true -> Di, lt_succ_self -> Dp, strongRecOn -> DL, le_of_lt -> DU, eq_or_lt_of_le -> D8, sub_zero -> EE, sub_sub -> E7, le_succ -> E8, succ_mul -> Fx, succ -> Fy
open PySem.Value renaming ref -> AB, none -> AY, type -> BN, bool -> B1, str -> DV, int -> DW
open PySem.PassesOwn renaming never -> AI
open PyProof.Rows renaming slot_tuple_getitem -> AQ, callWith_type1 -> Bi
open Int renaming toNat_natCast -> A3, emod_lt_of_pos -> BQ, emod_nonneg -> B3, le_refl -> DB, eq_ofNat_of_zero_le -> Ey, zero_add -> EK
open PySem.NameKind renaming free -> Bg, cell -> Fm
open PySem.Obj renaming mapSeq -> Bk, data_mapFields -> CW, isFreed_of_fields -> EZ
open False renaming elim -> Bm
open Ne renaming symm -> BA
open PySem.F renaming slot_dict_keyiterator_next -> BD, plainAttrs_list -> BW, slot_tuple_iterator_next -> Ce, slot_enumerate_next -> Cv, args_tuple_add_2 -> CP, slot_list_getattribute -> CS, entry_tuple_add -> CZ, slot_tuple_add -> C7, args_dict_keyiterator_next_1 -> Dl, entry_dict_keyiterator_next -> Du, args_list_extend_2 -> Dv, slot_zip_next -> DC, args_tuple_iterator_next_1 -> DE, entry_list_extend -> DN, entry_tuple_iterator_next -> DT, slot_list_extend -> D3, type_list_append -> Ej, slot_list_append -> Ek, args_enumerate_next_1 -> Ep, entry_enumerate_next -> EB
open PySem.AutoSeq1 renaming wpAny_loadPart' -> BO, sub_tuple_tuple -> Dm, sub_tuple_list -> Dw, sub_list_tuple -> Dx, sub_list_list -> DG, idx_int -> ED
open PySem.Str renaming ofString -> B6, length_append -> C5
open True renaming intro -> Cd
open PySem.Calls renaming spliced_cons -> Cf, spliced_nil -> Cy, Name_function_global -> D4, callWith_builtin -> EC
open ForInStep renaming yield -> Ci
open Or renaming inr -> Cn, inl -> Cw
open Option renaming map_some -> Ct, getD_none -> Er, isSome_map -> Fw
open And renaming right -> CK
open Array renaming getElem?_eq_getElem -> CM, length_toList -> DR, perm_iff_toList_perm -> Ea, size_append -> Eh, toList_inj -> Ez, getElem?_eq_none -> EL, getElem?_toList -> E3
open PySem.SeqAt renaming EqAt -> Dk
open PySem.SeqAt.RcNeAt renaming lists_lengths -> DZ, lists -> Ft
open PySem.SeqAt.EqAt renaming int_int -> D1, of_refs -> Fu, same -> FI
open PySem.EqBoolInt renaming of_rcne -> Ee, of_rc -> ER
open PySem.SeqAt.RcAt renaming lists_lengths -> Ei, tuples -> Fv, lists -> FE
open PySem.Data renaming seq -> E5
open Sum renaming inr -> Fe, inl -> Ff
open PyProof.Rows.IsTup renaming new -> Fg
open PySem.IsL renaming isList -> FG
open PySem.Flow renaming ret -> FJ
open PySem.Fin renaming done -> FK
set_option Elab.async false
set_option linter.all false
set_option maxRecDepth 100000
set_option maxHeartbeats 1000000
open Option renaming some→ap,none→bv
open PyProof.Rows renaming boot_str→tt,envOfC→ut,seqObj→wf,IntsAre→Da,AllBare→GM
open PySem renaming Value→bm,Shared→ce,starEach→ci,Addr→dL,wpAny→d4,model→d5,mainGlobals→ev,Program→f8,Expr→ga,foldedSetIterable→ii,Around→kw,World→lc,eval→lm,Heap→lw,backTo→mo,compareOp→nn,Scope→nw,swapsWith→o0,behindInMarks→pc,tupleKind→pr,bootBuiltins→re,cLine→sn,FuncData→sw,holding→sB,attributeBase→sK,binaryOp→tz,Stmt→ul,sysModules→u8,sliceBounds→wn,rawInt→wv,assignEach→ww,IntMulOk→wE,swapsWithSole→wP,swappedStores→wS,Keyword→wT,call_meets→xz,assign→xL,setField→zn,NameKind→BT,Builtin→Db,PassesOwn→EQ,setItem→Fa,keywordEach→Fk,getItem→FB,tupleKind_room_in1→FM,storedH→FS,DictEntry→Gc,typeLookup→Ge,standAt→Gf,codeAny→GE,letOwnedTupleGo→GT
local macro_rules | `(∅)=>`(by omega)
namespace L2
open PySem PySem.Spec PyProof.Rows
abbrev Key:=Sum Int Str
def vi:Key->bm->Bool
 | .inl k,v=>Value.isInt k v
 | .inr x,v=>Value.isStrOf x v
def keyH (w:lc):Key->Int
 | .inl k=>hashInt k
 | .inr x=>hashStr w x
def cI:∀{k:Key}{v:bm},vi k v=true->(∃i t,k=Ff i/\v=DW i t)\/(∃x t,k=Fe x/\v=DV x t)
 | .inl i,v,h=>by
  obtain⟨t,e⟩:=Value.isInt_shape (k:=i) (v:=v) h;exact .inl ⟨i,t,rfl,e⟩
 | .inr x,v,h=>by
  obtain⟨t,e⟩:=Value.isStrOf_shape (x:=x) (v:=v) h;exact .inr ⟨x,t,rfl,e⟩
def Kx (i:Int) (t:Tok):vi (.inl i) (.int i t)=true:=by simp [vi,Value.isInt]
def Kw (x:Str) (t:Tok):vi (.inr x) (.str x t)=true:=by simp [vi,Value.isStrOf]
def VP (a b:Int):decide ((Ff a:Key)=Ff b)=(a==b):=by
 by_cases e:a=b
 ·subst e;simp
 ·have h:¬(Ff a:Key)=Ff b:=λq=>e (Ff.inj q);rw [decide_eq_false h];exact (beq_eq_false_iff_ne.mpr e).symm
def VM (a b:Str):decide ((Fe a:Key)=Fe b)=decide (a=b):=by
 by_cases e:a=b
 ·subst e;simp
 ·have h:¬(Fe a:Key)=Fe b:=λq=>e (Fe.inj q);rw [decide_eq_false h,decide_eq_false e]
def VO (a:Int) (b:Str):decide ((Ff a:Key)=Fe b)=false:=decide_eq_false (λq=>nomatch q)
def VN (a:Str) (b:Int):decide ((Fe a:Key)=Ff b)=false:=decide_eq_false (λq=>nomatch q)
def cu (prog:f8) (w:lc):PySem.KeyKind prog w Key where
 is:=vi
 hash:=keyH w
 inj:=λv a b ha hb=>by
  rcases cI ha with⟨i,t,rfl,rfl⟩ | ⟨x,t,rfl,rfl⟩
  ·rcases cI hb with⟨j,u,rfl,e⟩ | ⟨y,u,rfl,e⟩
   ·injection e with e1 _;rw [e1]
   ·exact nomatch e
  ·rcases cI hb with⟨j,u,rfl,e⟩ | ⟨y,u,rfl,e⟩
   ·exact nomatch e
   ·injection e with e1 _;rw [e1]
 byValue:=λk v h=>by
  rcases cI h with⟨i,t,rfl,rfl⟩ | ⟨x,t,rfl,rfl⟩ <;> rfl
 pyHash:=λhv h=>by
  rcases cI hv with⟨i,t,rfl,rfl⟩ | ⟨x,t,rfl,rfl⟩
  ·exact wpAny_pyHash_int h
  ·exact wpAny_pyHash_str h
 eqBool:=λhu hv h=>by
  rcases cI hu with⟨i,t,rfl,rfl⟩ | ⟨x,t,rfl,rfl⟩
  ·rcases cI hv with⟨j,u,rfl,rfl⟩ | ⟨y,u,rfl,rfl⟩
   ·rw [VP] at h;exact wpAny_eqBool_int h
   ·rw [VO] at h;exact Dk.int_str i t y u _ _ _ _ h
  ·rcases cI hv with⟨j,u,rfl,rfl⟩ | ⟨y,u,rfl,rfl⟩
   ·rw [VN] at h;exact Dk.str_int x t j u _ _ _ _ h
   ·rw [VM] at h;exact wpAny_eqBool_str h
 «strs»:=λk x t v h=>by
  rcases cI h with⟨i,u,rfl,e⟩ | ⟨y,u,rfl,e⟩
  ·exact nomatch e
  ·injection e with e1 _;subst e1;cases v <;> rfl
def zh (prog:f8) (w:lc) (i:Int) (t:Tok):(cu prog w).is (.inl i) (.int i t)=true:=Kx i t
def zg (prog:f8) (w:lc) (x:Str) (t:Tok):(cu prog w).is (.inr x) (.str x t)=true:=Kw x t
inductive V where
 | aX | bl (b:Bool) | int (i:Int) | str (x:Str) | WR (b:Array UInt8) | Xu (b:UInt64) | ref (a:dL) | ty (n:String)
 deriving DecidableEq
def RelV:V->bm->Prop
 | .aX,u=>u=AY
 | .bl b,u=>u=B1 b
 | .int i,u=>∃t,u=DW i t
 | .str x,u=>∃t,u=DV x t
 | .WR b,u=>∃t,u=Value.bytes b t
 | .Xu b,u=>∃t,u=Value.float b t
 | .ref a,u=>u=AB a
 | .ty n,u=>u=BN n
abbrev Vals:List V->List bm->Prop:=Paired RelV
def Vals.length {xs:List V}{us:List bm} (r:Vals xs us):xs.length=us.length:=Paired.length r
theorem Vals.get:∀{xs:List V}{us:List bm}{i:Nat}{x:V},Vals xs us->xs[i]?=ap x->∃u,us[i]?=ap u/\RelV x u
 | _,_,_,_,.nil,e=>by simp at e
 | _,_,0,_,.cons r _,e=>by simp at e;subst e;exact⟨_,rfl,r⟩
 | _,_,i+1,x,.cons _ t,e=>by
  obtain⟨u,h1,h2⟩:=Vals.get (i:=i) (x:=x) t (by simpa using e);exact⟨u,by simpa using h1,h2⟩
theorem Vals.set {x:V}{u:bm} (r:RelV x u):∀{xs:List V}{us:List bm} (i:Nat),Vals xs us->Vals (xs.set i x) (us.set i u)
 | _,_,_,.nil=>.nil
 | _,_,0,.cons _ t=>.cons r t
 | _,_,i+1,.cons q t=>.cons q (Vals.set r i t)
theorem Vals.append:∀{xs ys:List V}{us ws:List bm},Vals xs us->Vals ys ws->Vals (xs++ys) (us++ws)
 | _,_,_,_,.nil,s=>s
 | _,_,_,_,.cons r t,s=>.cons r (Vals.append t s)
theorem Vals.take:∀{xs:List V}{us:List bm} (n:Nat),Vals xs us->Vals (xs.take n) (us.take n)
 | _,_,0,_=>.nil
 | _,_,_+1,.nil=>.nil
 | _,_,n+1,.cons r t=>.cons r (Vals.take n t)
theorem Vals.drop:∀{xs:List V}{us:List bm} (n:Nat),Vals xs us->Vals (xs.drop n) (us.drop n)
 | _,_,0,r=>r
 | _,_,_+1,.nil=>.nil
 | _,_,n+1,.cons _ t=>Vals.drop n t
def tY:Option V->Option bm->Prop
 | some v,ap u=>RelV v u
 | none,bv=>True
 | _,_=>False
def KV {κ:Type}:List (κ×V)->List (κ×bm)->Prop:=Paired λ(p:κ×V) (q:κ×bm)=>p.1=q.1/\RelV p.2 q.2
def kV:Key->V
 | .inl i=>.int i
 | .inr x=>.str x
inductive HO where
 | lst (xs:List V)
 | tup (xs:List V)
 | dK (kvs:List (Key×V)) | dT (kvs:List (List Key×V))
 | set (S:Int->Bool) (n:Nat)
 | ins (C dx:dL) (fs:List (Str×V))
 | own (x:dL)
 | xd (fs:List (Str×V))
 | met (f x:dL)
 | rng (lo hi:Int)
 | cU (o:Obj) (u:HO)
 | Ut (ps:Array bm)
 | ext (φ:lw->Prop)
abbrev Hp:=dL->Option HO
def upd (H:Hp) (a:dL) (o:HO):Hp:=λb=>if b=a then ap o else H b
def aR {H:Hp}{a:dL}{o:HO}:upd H a o a=ap o:=by unfold upd;rw [if_pos rfl]
def aF {H:Hp}{a b:dL}{o:HO} (h:b≠a):upd H a o b=H b:=by unfold upd;rw [if_neg h]
def Jh {H:Hp}{a b:dL}{o u:HO} (h:H a=ap o) (h':H b=ap u) (d:o≠u):a≠b:=by
 intro e;subst e;rw [h] at h';exact d (Option.some.inj h')
def bS {H:Hp}{a b:dL}{o:HO} (h:H a=ap o) (h':H b=bv):a≠b:=by
 intro e;subst e;rw [h] at h';cases h'
section
variable (P:f8) (w:lc)
def bB (H:Hp) (h:lw) (a:dL):HO->Prop
 | .lst xs=>xs.length<=sizeLine/\∃(ay:List bm) (n:Nat),Vals xs ay/\h.get? a=ap {cls:=.type "list",data:=.seq ay.toArray n}
 | .tup xs=>xs.length<=sizeLine/\∃ay:List bm,Vals xs ay/\IsTup h a ay.toArray
 | .dK kvs=>kvs.length<=sizeLine/\(a==u8)=false/\∃vs,KV kvs vs/\h.DictOf (cu P w) a vs
 | .dT kvs=>kvs.length<=sizeLine/\(a==u8)=false/\∃xs:List (List Key×dL×bm),
   Paired (λ(p:List Key×V) (q:List Key×dL×bm)=>p.1=q.1/\H q.2.1=ap (.tup (p.1.map kV))/\RelV p.2 q.2.2) kvs xs/\
   ∃o es ep,h.get? a=ap o/\o.ExactDict/\o.data=.dict es ep/\es.toList=xs.map (entryOfKey (pr (cu P w)))/\(xs.map (·.1)).Nodup
 | .set S n=>h.SetOf (intKind P w) a S n
 | .ins C dx fs=>H dx=ap (.own a)/\fs.length<=1000/\dx≠a/\h.get? a=ap (EN C dx)/\
   ∃mA,h.Ns1 dx mA/\(∀f,tY (fs.lookup f) (mA f))/\PySem.Within mA (fs.map (·.1))
 | .own _=>∃o,h.get? a=ap o
 | .xd fs=>∃mA,h.Ns1 a mA/\∀f,tY (fs.lookup f) (mA f)
 | .rng lo hi=>∃t u v,h.get? a=ap {cls:=.type "range",data:=.fields #[.int lo t,.int hi u,.int 1 v]}
 | .cU o u=>h.get? a=ap o/\bB H h a u
 | .Ut ps=>h.get? a=ap {cls:=.none,data:=.fields ps}
 | .met f x=>h.get? a=ap (Eb (.ref f) (.ref x))
 | .ext φ=>φ h/\(∃o,h.get? a=ap o)/\∀h1 h2:lw,φ h1->(∀o,h1.get? a=ap o->h2.get? a=ap o)->φ h2
def mq (H:Hp) (h:lw):Prop:=∀a o,H a=ap o->bB P w H h a o
end
section
variable {P:f8}{w:lc}{H H':Hp}{h h':lw}{a:dL}{o:HO}
def bB.lt (x:bB P w H h a o):a < h.objs.size:=by
 cases o with
 | lst xs=>obtain⟨_,_,_,_,e⟩:=x;exact Ar e
 | tup xs=>obtain⟨_,_,_,p⟩:=x;exact p.lt
 | dK kvs=>obtain⟨_,_,_,_,o,_,_,e,_⟩:=x;exact Ar e
 | dT kvs=>obtain⟨_,_,_,_,o,_,_,e,_⟩:=x;exact Ar e
 | set S n=>obtain⟨o,_,_,_,e,_⟩:=x;exact Ar e
 | ins C dx fs=>obtain⟨_,_,_,e,_⟩:=x;exact Ar e
 | own y=>obtain⟨_,e⟩:=x;exact Ar e
 | xd fs=>obtain⟨_,⟨_,_,_,e,_⟩,_⟩:=x;exact Ar e
 | rng lo hi=>obtain⟨_,_,_,e⟩:=x;exact Ar e
 | cU ob u=>obtain⟨e,_⟩:=x;exact Ar e
 | Ut ps=>exact Ar (show h.get? a=ap _ from x)
 | met f y=>exact Ar (show h.get? a=ap _ from x)
 | ext φ=>obtain⟨_,⟨_,e⟩,_⟩:=x;exact Ar e
theorem Paired.Vy {α β:Type}{F G:α->β->Prop}:∀{l₁:List α}{l₂:List β},Paired F l₁ l₂->(∀a b,F a b->G a b)->Paired G l₁ l₂
 | _,_,.nil,_=>.nil
 | _,_,.cons r t,f=>.cons (f _ _ r) (Paired.Vy t f)
def bB.wA (x:bB P w H h a o) (k:∀b u,(b=a\/H b=ap (.own a))->h.get? b=ap u->h'.get? b=ap u)
  (ho:∀b,H b=ap (.own a)->H' b=ap (.own a)) (ht:∀b xs,H b=ap (.tup xs)->H' b=ap (.tup xs)):bB P w H' h' a o:=by
 induction o with
 | lst xs=>obtain⟨z,ay,n,r,e⟩:=x;exact⟨z,ay,n,r,k _ _ (.inl rfl) e⟩
 | tup xs=>obtain⟨z,ay,r,ob,e,c⟩:=x;exact⟨z,ay,r,ob,k _ _ (.inl rfl) e,c⟩
 | dK kvs=>obtain⟨z,y,vs,r,ob,es,ep,e,c⟩:=x;exact⟨z,y,vs,r,ob,es,ep,k _ _ (.inl rfl) e,c⟩
 | dT kvs=>
  obtain⟨z,y,xs,r,ob,es,ep,e,c⟩:=x;exact⟨z,y,xs,Paired.Vy r λp q z=>⟨z.1,ht _ _ z.2.1,z.2.2⟩,ob,es,ep,k _ _ (.inl rfl) e,c⟩
 | set S n=>obtain⟨ob,es,ep,t,e,c⟩:=x;exact⟨ob,es,ep,t,k _ _ (.inl rfl) e,c⟩
 | ins C dx fs=>
  obtain⟨d,z,ne,e,mA,⟨od,es,ep,e2,c⟩,r⟩:=x;exact⟨ho _ d,z,ne,k _ _ (.inl rfl) e,mA,⟨od,es,ep,k _ _ (.inr d) e2,c⟩,r⟩
 | own y=>obtain⟨ob,e⟩:=x;exact⟨ob,k _ _ (.inl rfl) e⟩
 | xd fs=>obtain⟨mA,⟨od,es,ep,e,c⟩,r⟩:=x;exact⟨mA,⟨od,es,ep,k _ _ (.inl rfl) e,c⟩,r⟩
 | rng lo hi=>obtain⟨t,u,v,e⟩:=x;exact⟨t,u,v,k _ _ (.inl rfl) e⟩
 | cU ob u ih=>obtain⟨e,q⟩:=x;exact⟨k _ _ (.inl rfl) e,ih q⟩
 | Ut ps=>
  have e:h.get? a=ap {cls:=.none,data:=.fields ps}:=x;show h'.get? a=ap {cls:=.none,data:=.fields ps};exact k a _ (.inl rfl) e
 | met f y=>
  have e:h.get? a=ap (Eb (.ref f) (.ref y)):=x;show h'.get? a=ap (Eb (.ref f) (.ref y));exact k a _ (.inl rfl) e
 | ext φ=>obtain⟨p,⟨o,e⟩,st⟩:=x;exact⟨st _ _ p λo q=>k _ _ (.inl rfl) q,⟨o,k _ _ (.inl rfl) e⟩,st⟩
def mq.lt (x:mq P w H h) (e:H a=ap o):a < h.objs.size:=(x a o e).lt
def mq.fresh (x:mq P w H h) (e:h.objs.size<=a):H a=bv:=by
 cases q:H a with
 | none=>rfl
 | some u=>exact absurd (Az (x.lt q) e) (Ba _)
def mq.kept (x:mq P w H h) (k:∀b u,h.get? b=ap u->h'.get? b=ap u):mq P w H h':=λa o e=>
 (x a o e).wA (λb u _ q=>k b u q) (λ_ q=>q) λ_ _ q=>q
def mq.laid (x:mq P w H h) (k:∀b u,h.get? b=ap u->h'.get? b=ap u) (hp:h.objs.size<=a) (new:bB P w (upd H a o) h' a o):mq P w (upd H a o) h':=λb u e=>by
 have hn:=x.fresh hp;by_cases hb:b=a
 ·subst hb;rw [aR] at e;cases e;exact new
 ·rw [aF hb] at e;exact (x b u e).wA (λc v _ q=>k c v q) (λc q=>by rw [aF (bS q hn)];exact q) λc xs q=>by rw [aF (bS q hn)];exact q
end
def Rd (H:Hp) (a:dL) (u:HO):Prop:=H a=ap u\/∃o,H a=ap (.cU o u)
def Rd.ok {P:f8}{w:lc}{H:Hp}{h:lw}{a:dL}{u:HO} (r:Rd H a u) (x:mq P w H h):bB P w H h a u:=by
 rcases r with r | ⟨o,r⟩
 ·exact x a u r
 ·obtain⟨_,q⟩:=x a _ r;exact q
def Mut:Option HO->Prop
 | some (.lst _)=>True
 | some (.dK _)=>True
 | some (.dT _)=>True
 | some (.set _ _)=>True
 | some (.ins _ _ _)=>True
 | some (.ext _)=>True
 | _=>False
section
variable {P:f8}{w:lc}{H:Hp}{h h':lw}{x e:dL}{o':HO}
def mq.write (ok:mq P w H h) (mu:Mut (H x)) (he:e=x\/H e=ap (.own x)) (k:∀b u,b≠e->h.get? b=ap u->h'.get? b=ap u) (Xo:∃u,h'.get? e=ap u)
  (new:bB P w (upd H x o') h' x o'):mq P w (upd H x o') h':=λb u q=>by
 have Nj:∀c y,H c=ap (.own y)->c≠x:=λc y r z=>by subst z;rw [r] at mu;exact mu
 have acG:∀c xs,H c=ap (.tup xs)->c≠x:=λc xs r z=>by subst z;rw [r] at mu;exact mu
 by_cases hb:b=x
 ·subst hb;rw [aR] at q;cases q;exact new
 ·rw [aF hb] at q;by_cases V9:b=e
  ·have q':H b=ap (.own x):=by
    rcases he with z | z
    ·exact absurd (V9.trans z) hb
    ·rw [V9];exact z
   rw [q] at q';cases q';obtain⟨v,hv⟩:=Xo;exact⟨v,by rw [V9];exact hv⟩
  ·refine (ok b u q).wA (λc v hc r=>k c v ?_ r) (λc r=>by rw [aF (Nj c b r)];exact r) λc xs r=>by rw [aF (acG c xs r)];exact r
   rcases hc with rfl | hc
   ·exact V9
   ·rintro rfl;rcases he with z | z
    ·exact Nj c b hc z
    ·rw [hc] at z;cases z;exact hb rfl
end
structure Un (fs ex:List dL) (H H':Hp) (h h':lw):Prop where
 keep:∀b o,h.get? b=ap o->H b=bv->b∉fs->b∉ex->h'.get? b=ap o
 slot:∀b o,h.get? b=ap o->H b=bv->b∈fs->b∉ex->∃sl,h'.get? b=ap {o with slots:=sl}
 free:∀b o,h.get? b=ap o->H b=bv->b∉ex->H' b=bv
 there:∀b o,h.get? b=ap o->b∉ex->∃o',h'.get? b=ap o'
 eM:∀b xs,H b=ap (.tup xs)->H' b=ap (.tup xs)
 qt:∀b o u,H b=ap (.cU o u)->H' b=ap (.cU o u)
 v8:∀b ps,H b=ap (.Ut ps)->∃more,H' b=ap (.Ut (ps++more))
section
variable {fs ex:List dL}{H H1:Hp}{h h1 h':lw}{a x e:dL}{o:HO}
def Un.any (u:Un fs ex H H1 h h1) {b:dL}{ob:Obj} (q:h.get? b=ap ob) (n:H b=bv) (hx:b∉ex):∃sl,h1.get? b=ap {ob with slots:=sl}:=by
 by_cases hb:b∈fs
 ·exact u.slot b ob q n hb hx
 ·exact⟨ob.slots,u.keep b ob q n hb hx⟩
def Un.kept (k:∀b u,h.get? b=ap u->h'.get? b=ap u):Un fs ex H H h h':=
 ⟨λb ob q _ _ _=>k b ob q,λb ob q _ _ _=>⟨ob.slots,k b ob q⟩,λ_ _ _ n _=>n,λb ob q _=>⟨ob,k b ob q⟩,λ_ _ q=>q,λ_ _ _ q=>q,λ_ ps q=>⟨#[],by rw [q];simp⟩⟩
def Un.refl:Un fs ex H H h h:=Un.kept λ_ _ q=>q
def Un.laid (k:∀b u,h.get? b=ap u->h'.get? b=ap u) (hp:h.objs.size<=a) (hn:H a=bv):Un fs ex H (upd H a o) h h' where
 keep:=λb u q _ _ _=>k b u q
 slot:=λb u q _ _ _=>⟨u.slots,k b u q⟩
 free:=λb u q n _=>by rw [aF (AE (Az (Ar q) hp))];exact n
 there:=λb u q _=>⟨u,k b u q⟩
 eM:=λb xs q=>by rw [aF (bS q hn)];exact q
 qt:=λb u xs q=>by rw [aF (bS q hn)];exact q
 v8:=λb ps q=>⟨#[],by rw [aF (bS q hn),q];simp⟩
def Un.write (mu:Mut (H x)) (he:e=x\/H e=ap (.own x)) (k:∀b u,b≠e->h.get? b=ap u->h'.get? b=ap u) (Xo:∃u,h'.get? e=ap u):Un fs ex H (upd H x o) h h':=by
 have hx:∀b,H b=bv->b≠x:=λb n z=>by subst z;rw [n] at mu;exact mu
 have hb:∀b,H b=bv->b≠e:=λb n z=>by
  subst z;rcases he with r | r
  ·exact hx b n r
  ·rw [n] at r;cases r
 have hm:∀b u,H b=ap u->¬Mut (ap u)->b≠x:=λb u q nm z=>by subst z;rw [q] at mu;exact nm mu
 refine⟨λb u q n _ _=>k b u (hb b n) q,λb u q n _ _=>⟨u.slots,k b u (hb b n) q⟩,λb u q n _=>by rw [aF (hx b n)];exact n,λb u q _=>?_,
  λb xs q=>by rw [aF (hm b _ q λz=>z)];exact q,λb u xs q=>by rw [aF (hm b _ q λz=>z)];exact q,λb ps q=>⟨#[],by rw [aF (hm b _ q λz=>z),q];simp⟩⟩
 by_cases V9:b=e
 ·subst V9;exact Xo
 ·exact⟨u,k b u V9 q⟩
end
def trk (h:lw) (H:Hp):List dL:=(AA h.objs.size).filter λa=>(H a).isSome
def xw (h:lw) (H:Hp):lw:=PySem.W.hideAll h (trk h H)
def KJ (h:lw) (H:Hp):(xw h H).objs.size=h.objs.size:=PySem.W.hideAll_size _ _
def NY {h:lw}{H:Hp}{b:dL}{o:Obj} (e:h.get? b=ap o) (n:H b=bv):(xw h H).get? b=ap o:=
 PySem.W.hideAll_get _ e λhm=>by
  have q:=(AJ.mp hm).2;rw [n] at q;simp at q
def QY {h:lw}{H:Hp}{b:dL}{o:Obj} (e:(xw h H).get? b=ap o):h.get? b=ap o/\H b=bv:=by
 have e':=PySem.W.of_hideAll (trk h H) e;refine⟨e',?_⟩;cases q:H b with
 | none=>rfl
 | some x=>
  have hm:b∈trk h H:=AJ.mpr ⟨AO.mpr (Ar e'),by simp [q]⟩;have z:(xw h H).get? b=bv:=PySem.W.hideAll_none (trk h H) hm;rw [z] at e;cases e
def SD (g h:lw) (L:dL):List (dL×Obj):=(AA h.objs.size).filterMap λa=>if a=L\/(g.get? a).isSome=true then bv else (h.get? a).map λo=>(a,o)
def rest (g h:lw) (L d:dL):List (dL×Obj):=(SD g h L).filter λp=>decide (p.1≠d)
structure Mod (K:Ab) (mg:Str->Option bm) (base:lw):Prop where
 kin:K.In base
 glob:base.Ns ev mg
 blt:∃mb,base.Ns builtinsNs mb/\∀x:Str,x≠"__name__"->mb x=re x
 nolimit:base.NoLimit
structure Cx where
 prog:f8
 w:lc
 K:Ab
 mg:Str->Option bm
 base:lw
 A:kw
 N:List Str
 s₀:ce
 H₀:Hp
 env:Env
 outer:List Env
 stack:List Env
 ex:List dL
 fn:Str->Bool
 calm:Bool
 pn:List (dL×Obj)
 xe:bm->ce->Prop
def LW (l:List Env):List dL:=l.filterMap (·.frame)
abbrev Cx.fs (X:Cx):List dL:=LW X.outer
def ym (sc:nw) (x:Str):Prop:=sc.names.lookup x=ap .local\/sc.names.lookup x=ap .cell\/sc.names.lookup x=ap .free
def Loc (sc:nw) (x:Str):Prop:=sc.names.lookup x=ap .local\/sc.names.lookup x=ap .cell
def Look (env:Env) (h:lw) (m:Str->Option bm) (x:Str) (u:bm):Prop:=
 (env.kindOf x=ap .local/\m x=ap u)\/((env.kindOf x=ap .cell\/env.kindOf x=ap .free)/\∃c,env.cells.lookup x=ap c/\h.IsCell c (ap u))
structure Cx.Ok (X:Cx):Prop where
 mod:Mod X.K X.mg X.base
 kind:X.env.scope.kind=.function
 glob:X.env.globals=ev
 blt:X.env.builtins=builtinsNs
 above:X.s₀.heap.objs.size<=X.env.locals
 inj:∀x y c,X.env.cells.lookup x=ap c->X.env.cells.lookup y=ap c->x=y
 has:∀x,(X.env.kindOf x=ap .cell\/X.env.kindOf x=ap .free)->∃c,X.env.cells.lookup x=ap c
 cab:∀x c,X.fn x=true->X.env.cells.lookup x=ap c->X.s₀.heap.objs.size<=c
 hd:X.calm=true->X.A.handled=bv
 frames:X.A.frames=ap X.stack
 stk:X.stack=X.outer\/(X.stack=X.env::X.outer/\X.env.frame=ap X.env.locals)
 exf:∀b∈X.ex,b≠X.env.locals/\∀x c,X.env.cells.lookup x=ap c->c≠b
 bs:∀b o,X.base.get? b=ap o->X.s₀.heap.get? b=ap o/\X.H₀ b=bv
 T8:X.base.objs.size<=X.s₀.heap.objs.size
 Nk:∀b o,X.base.get? b=ap o->b∉X.ex
 Ol:∀b∈X.ex,b∉X.fs
 sY:X.s₀.heap.FunFrames X.base X.outer
 Xq:∀b∈X.fs,X.H₀ b=bv
structure Inv (X:Cx) (Z:List (dL×Obj)) (σ:List (Option V)) (H:Hp) (s:ce):Prop where
 ok:X.Ok
 os:s.os=X.s₀.os
 bare:GM s.gens
 base:Un X.fs X.ex X.H₀ H X.s₀.heap s.heap
 loc:∃m,s.heap.Ns X.env.locals m/\∀(i:Nat) (x:Str) (v:V),X.N[i]?=ap x->σ[i]?=ap (ap v)->ym X.env.scope x->∃u,RelV v u/\Look X.env s.heap m x u
 cell:∀x c,X.env.cells.lookup x=ap c->∃v,s.heap.IsCell c v
 free:H X.env.locals=bv
 kG:∀x c,X.env.cells.lookup x=ap c->H c=bv
 pin:∀p∈X.pn++Z,s.heap.get? p.1=ap p.2/\H p.1=bv/\p.1≠X.env.locals/\p.1∉X.fs/\∀v,p.2.data≠.cell v
 bN:mq X.prog X.w H s.heap
 len:σ.length=X.N.length
section
variable {X:Cx}{Z:List (dL×Obj)}{σ:List (Option V)}{H H':Hp}{s:ce}{h':lw}
def Cx.Ok.acI (ok:X.Ok) {b:dL}{o:Obj} (e:X.base.get? b=ap o):b∉X.fs:=λhb=>by
 have:=(ok.sY.mem hb).1;rw [e] at this;cases this
def Inv.bs (I:Inv X Z σ H s):∀b o,X.base.get? b=ap o->s.heap.get? b=ap o/\H b=bv:=λb o e=>
 ⟨I.base.keep b o (I.ok.bs b o e).1 (I.ok.bs b o e).2 (I.ok.acI e) (I.ok.Nk b o e),I.base.free b o (I.ok.bs b o e).1 (I.ok.bs b o e).2 (I.ok.Nk b o e)⟩
def Inv.bk (I:Inv X Z σ H s):∀b o,X.base.get? b=ap o->s.heap.get? b=ap o:=λb o e=>(I.bs b o e).1
def Inv.mod (I:Inv X Z σ H s):Mod X.K X.mg X.base:=I.ok.mod
def Inv.uy (I:Inv X Z σ H s):X.K.In s.heap:=I.ok.mod.kin.keeps I.bk
def Inv.lt (I:Inv X Z σ H s):X.env.locals < s.heap.objs.size:=let ⟨_,hn,_⟩:=I.loc;hn.lt
def Inv.sz (I:Inv X Z σ H s):X.s₀.heap.objs.size<=s.heap.objs.size:=Bp I.ok.above (DU I.lt)
def Inv.acH (I:Inv X Z σ H s) {a:dL} (h:s.heap.objs.size<=a):a∉X.fs:=λhb=>by
 obtain⟨_,o,ho,_⟩:=I.ok.sY.mem hb;exact absurd (Az (Ar ho) (Bp I.sz h)) (Ba _)
def Inv.WN (I:Inv X Z σ H s):∀x c,X.env.cells.lookup x=ap c->c≠X.env.locals:=λx c e z=>by
 obtain⟨v,o,ho,hd⟩:=I.cell x c e;obtain⟨m,⟨o',es,ep,NV,Ģ,_⟩,_⟩:=I.loc;rw [z,NV] at ho;cases ho;rw [Ģ] at hd;cases hd
def Inv.sY (I:Inv X Z σ H s):s.heap.FunFrames X.base X.outer:=by
 have all:∀(l:List Env),(∀b∈LW l,b∈X.fs)->X.s₀.heap.FunFrames X.base l->s.heap.FunFrames X.base l:=by
  intro l
  induction l with
  | nil=>intro _ _;trivial
  | cons env r ih=>
   intro hs hl;obtain⟨hk,⟨L,o,hf,hn,ho,hd⟩,hr⟩:=hl;have hL:=hs L (by unfold LW;rw [Bs,hf];exact Bv);obtain⟨sl,e⟩:=I.base.slot L o ho (I.ok.Xq L hL) hL λz=>I.ok.Ol L z hL;exact⟨hk,⟨L,_,hf,hn,e,hd⟩,ih (λb hb=>hs b (by unfold LW;rw [Bs,hf];exact AX _ hb)) hr⟩
 exact all X.outer (λ_ hb=>hb) I.ok.sY
def Inv.stack (I:Inv X Z σ H s):s.heap.FunFrames X.base X.stack:=by
 rcases I.ok.stk with e | ⟨e,hf⟩
 ·rw [e];exact I.sY
 ·rw [e];obtain⟨m,hn,_⟩:=I.loc;refine .cons (by rw [I.ok.kind];decide) hf hn ?_ I.sY;exact Heap.get?_none_of_le (Bp I.ok.T8 I.ok.above)
def Inv.Gw (I:Inv X Z σ H s):∀b∈LW X.stack,b∈X.env.locals::X.fs:=λb hb=>by
 rcases I.ok.stk with e | ⟨e,hf⟩
 ·rw [e] at hb;exact AX _ hb
 ·rw [e] at hb;unfold LW at hb;rw [Bs,hf] at hb;exact hb
def Inv.IH (I:Inv X Z σ H s):∀b∈LW X.stack,H b=bv:=λb hb=>by
 rcases Ax.mp (I.Gw b hb) with e | hb
 ·rw [e];exact I.free
 ·obtain⟨_,o,ho,_⟩:=I.ok.sY.mem hb;exact I.base.free b o ho (I.ok.Xq b hb) λz=>I.ok.Ol b z hb
def Inv.step {g':Array GenState}{t':Nat}{d':Drawn}{ch:List dL} (I:Inv X Z σ H s)
  (Pu:∀b∈ch,(b∈X.ex\/X.s₀.heap.objs.size<=b)/\b≠X.env.locals/\(∀x c,X.env.cells.lookup x=ap c->c≠b)/\∀p∈X.pn++Z,p.1≠b)
  (keep:∀b o,b≠X.env.locals->b∉X.fs->b∉ch->s.heap.get? b=ap o->H b=bv->h'.get? b=ap o)
  (slot:∀b o,b≠X.env.locals->b∈X.fs->b∉ch->s.heap.get? b=ap o->H b=bv->∃sl,h'.get? b=ap {o with slots:=sl}) (free:∀b o,b∉ch->s.heap.get? b=ap o->H b=bv->H' b=bv)
  (there:∀b o,b∉ch->s.heap.get? b=ap o->∃o',h'.get? b=ap o')
  (eM:∀b xs,H b=ap (.tup xs)->H' b=ap (.tup xs)) (qt:∀b o u,H b=ap (.cU o u)->H' b=ap (.cU o u)) (v8:∀b ps,H b=ap (.Ut ps)->∃more,H' b=ap (.Ut (ps++more)))
  (ns:∀m,s.heap.Ns X.env.locals m->h'.Ns X.env.locals m) (bN:mq X.prog X.w H' h') (hg:GM g') :
  Inv X Z σ H' {s with heap:=h',gens:=g',drawn:=d',toks:=t'}:=by
 have neL:∀b o,X.s₀.heap.get? b=ap o->b≠X.env.locals:=λb o e=>AE (Az (Ar e) I.ok.above);have ê:∀b o,X.s₀.heap.get? b=ap o->b∉X.ex->b∉ch:=λb o e hx hb=>by
  rcases (Pu b hb).1 with z | z
  ·exact hx z
  ·exact absurd (Az (Ar e) z) (Ba _)
 have Ú:∀x c,X.env.cells.lookup x=ap c->∀v,s.heap.IsCell c v->h'.IsCell c v:=λx c e v ⟨o,ho,hd⟩=>by
  have Zb:c∉ch:=λz=>(Pu c z).2.2.1 x c e rfl;by_cases hc:c∈X.fs
  ·obtain⟨sl,q⟩:=slot c o (I.WN x c e) hc Zb ho (I.kG x c e);exact⟨_,q,hd⟩
  ·exact⟨o,keep c o (I.WN x c e) hc Zb ho (I.kG x c e),hd⟩
 refine⟨I.ok,I.os,hg,⟨λb o e n hb hx=>?_,λb o e n hb hx=>?_,λb o e n hx=>?_,λb o e hx=>?_,λb xs e=>eM b xs (I.base.eM b xs e),λb o xs e=>qt b o xs (I.base.qt b o xs e),λb ps e=>?_⟩,?_,λx c e=>?_,?_,λx c e=>?_,λp hp=>?_,bN,I.len⟩
 ·exact keep b o (neL b o e) hb (ê b o e hx) (I.base.keep b o e n hb hx) (I.base.free b o e n hx)
 ·obtain⟨sl,e1⟩:=I.base.slot b o e n hb hx;obtain⟨sl',e2⟩:=slot b _ (neL b o e) hb (ê b o e hx) e1 (I.base.free b o e n hx);exact⟨sl',e2⟩
 ·obtain⟨o',e1⟩:=I.base.there b o e hx;exact free b o' (ê b o e hx) e1 (I.base.free b o e n hx)
 ·obtain⟨o',e1⟩:=I.base.there b o e hx;exact there b o' (ê b o e hx) e1
 ·obtain⟨m1,e1⟩:=I.base.v8 b ps e;obtain⟨m2,e2⟩:=v8 b _ e1;exact⟨m1++m2,by rw [e2,Array.append_assoc]⟩
 ·obtain⟨m,hn,hl⟩:=I.loc;refine⟨m,ns m hn,λi x v e1 e2 e3=>?_⟩;obtain⟨u,r,l⟩:=hl i x v e1 e2 e3;refine⟨u,r,?_⟩;rcases l with l | ⟨k,c,e,z⟩
  ·exact .inl l
  ·exact .inr ⟨k,c,e,Ú x c e _ z⟩
 ·obtain⟨v,z⟩:=I.cell x c e;exact⟨v,Ú x c e v z⟩
 ·obtain⟨m,⟨o,_,_,ho,_⟩,_⟩:=I.loc;exact free _ o (λz=>(Pu _ z).2.1 rfl) ho I.free
 ·obtain⟨v,o,ho,hd⟩:=I.cell x c e;exact free c o (λz=>(Pu c z).2.2.1 x c e rfl) ho (I.kG x c e)
 ·obtain⟨e,n,ne,nf,d⟩:=I.pin p hp;have Zb:p.1∉ch:=λz=>(Pu p.1 z).2.2.2 p hp rfl;exact⟨keep p.1 p.2 ne nf Zb e n,free p.1 p.2 Zb e n,ne,nf,d⟩
def Inv.un {t':Nat} (I:Inv X Z σ H s) (u:Un X.fs [] H H' s.heap h') (bN:mq X.prog X.w H' h'):Inv X Z σ H' {s with heap:=h',toks:=t'}:=by
 obtain⟨m,⟨o,es,ep,ho,r⟩,_⟩:=id I.loc;obtain⟨sl,hL⟩:=u.any ho I.free (by simp);exact I.step (g':=s.gens) (d':=s.drawn) (ch:=[]) (λ_ z=>nomatch z) (λb o _ hb _ e n=>u.keep b o e n hb (by simp)) (λb o _ hb _ e n=>u.slot b o e n hb (by simp)) (λb o _ e n=>u.free b o e n (by simp)) (λb o _ e=>u.there b o e (by simp)) u.eM u.qt u.v8 (λm' hm=>by
  obtain⟨o',ú,û,NV,r'⟩:=hm;rw [ho] at NV;cases NV;exact⟨_,ú,û,hL,r'⟩) bN I.bare
def Inv.call {g':Array GenState}{t':Nat}{d':Drawn}{ch:List dL} (I:Inv X Z σ H s) (u:Un (LW X.stack) ch H H' s.heap h') (bN:mq X.prog X.w H' h') (hg:GM g')
  (Pu:∀b∈ch,(b∈X.ex\/X.s₀.heap.objs.size<=b)/\b≠X.env.locals/\(∀x c,X.env.cells.lookup x=ap c->c≠b)/\∀p∈X.pn++Z,p.1≠b) :
  Inv X Z σ H' {s with heap:=h',gens:=g',drawn:=d',toks:=t'}:=by
 obtain⟨m,⟨o,es,ep,ho,r⟩,_⟩:=id I.loc;obtain⟨sl,hL⟩:=u.any ho I.free λz=>(Pu _ z).2.1 rfl;exact I.step (ch:=ch) Pu (λb o hL hb hc e n=>u.keep b o e n (λz=>(Ax.mp (I.Gw b z)).elim hL hb) hc) (λb o _ _ hc e n=>u.any e n hc) (λb o hc e n=>u.free b o e n hc) (λb o hc e=>u.there b o e hc) u.eM u.qt u.v8 (λm' hm=>by
  obtain⟨o',ú,û,NV,r'⟩:=hm;rw [ho] at NV;cases NV;exact⟨_,ú,û,hL,r'⟩) bN hg
def Inv.turned {t':Nat}{it:dL} (I:Inv X Z σ H s) (k:∀b o,b≠it->s.heap.get? b=ap o->h'.get? b=ap o) (hn:H it=bv) (hL:it≠X.env.locals)
  (h1:it∈X.ex\/X.s₀.heap.objs.size<=it) (h2:∀x c,X.env.cells.lookup x=ap c->c≠it) (h3:∀p∈X.pn++Z,p.1≠it):Inv X Z σ H {s with heap:=h',toks:=t'}:=by
 have Tc:∀b u,H b=ap u->b≠it:=λb u e z=>by rw [z,hn] at e;cases e
 refine I.step (g':=s.gens) (d':=s.drawn) (ch:=[it]) (λb hb=>?_) (λb o _ _ hc e _=>k b o (λz=>hc (by simp [z])) e) (λb o _ _ hc e _=>⟨o.slots,k b o (λz=>hc (by simp [z])) e⟩) (λ_ _ _ _ n=>n)
  (λb o hc e=>⟨o,k b o (λz=>hc (by simp [z])) e⟩) (λ_ _ e=>e) (λ_ _ _ e=>e) (λb ps e=>⟨#[],by rw [e];simp⟩) (λm hm=>?_) (λb u e=>?_) I.bare
 ·have e:b=it:=by simpa using hb
  subst e;exact⟨h1,hL,h2,h3⟩
 ·obtain⟨o,es,ep,ho,r⟩:=hm;exact⟨o,es,ep,k _ o (BA hL) ho,r⟩
 ·refine (I.bN b u e).wA (λc v hc q=>k c v ?_ q) (λ_ q=>q) λ_ _ q=>q;rcases hc with z | z
  ·rw [z];exact Tc b u e
  ·exact Tc c _ z
def Inv.tok (I:Inv X Z σ H s) (t:Nat):Inv X Z σ H {s with toks:=t}:=I.un (h':=s.heap) (t':=t) Un.refl I.bN
def Inv.kept {t':Nat} (I:Inv X Z σ H s) (k:∀b u,s.heap.get? b=ap u->h'.get? b=ap u):Inv X Z σ H {s with heap:=h',toks:=t'}:=I.un (Un.kept k) (I.bN.kept k)
def Inv.laid {a:dL}{o:HO}{t':Nat} (I:Inv X Z σ H s) (k:∀b u,s.heap.get? b=ap u->h'.get? b=ap u) (hp:s.heap.objs.size<=a) (new:bB X.prog X.w (upd H a o) h' a o) :
  Inv X Z σ (upd H a o) {s with heap:=h',toks:=t'}:=I.un (Un.laid k hp (I.bN.fresh hp)) (I.bN.laid k hp new)
def Inv.write {x e:dL}{o:HO}{t':Nat} (I:Inv X Z σ H s) (mu:Mut (H x)) (he:e=x\/H e=ap (.own x)) (k:∀b u,b≠e->s.heap.get? b=ap u->h'.get? b=ap u) (Xo:∃u,h'.get? e=ap u)
  (new:bB X.prog X.w (upd H x o) h' x o):Inv X Z σ (upd H x o) {s with heap:=h',toks:=t'}:=I.un (Un.write mu he k Xo) (I.bN.write mu he k Xo new)
def Inv.IV {yW:List (dL×Obj)} (I:Inv X Z σ H s) (h:∀p∈yW,s.heap.get? p.1=ap p.2/\H p.1=bv/\p.1≠X.env.locals/\p.1∉X.fs/\∀v,p.2.data≠.cell v):Inv X yW σ H s:=
 ⟨I.ok,I.os,I.bare,I.base,I.loc,I.cell,I.free,I.kG,λp hp=>(A5.mp hp).elim (λz=>I.pin p (BU _ z)) (h p),I.bN,I.len⟩
def zc {N:List Str} (hN:N.Nodup) {i j:Nat}{x:Str} (a:N[i]?=ap x) (b:N[j]?=ap x):i=j:=by
 obtain⟨h1,e1⟩:=Al.mp a;obtain⟨h2,e2⟩:=Al.mp b;exact (Ew hN).mp (e1.trans e2.symm)
def uV {M:Model}{A:kw}{E:bm->ce->Prop}{i:Nat}{x:Str}{v:V}{u:bm}{Q:Unit->ce->Prop} (I:Inv X Z σ H s) (hN:X.N.Nodup) (hi:X.N[i]?=ap x) (hx:Loc X.env.scope x) (r:RelV v u)
  (h:∀s',Inv X Z (σ.set i (ap v)) H s'->(∃a,B7 a s.heap s'.heap/\(a=X.env.locals\/X.env.cells.lookup x=ap a))->Q () s') (hf:X.fn x=true\/X.env.scope.names.lookup x=ap .local:=by first | exact .inl rfl | exact .inr rfl | assumption):d4 M A (storeName X.env x u) Q E s:=by
 obtain⟨m,hn,hl⟩:=id I.loc;have adF:(X.env.scope.kind==.class||(X.env.scope.kind==.module&&X.env.locals != X.env.globals))=false:=by rw [I.ok.kind];rfl
 have ZQ:i < σ.length:=by rw [I.len];exact (Al.mp hi).1
 have WN:=I.WN;have Ò:∀{a:dL}{h':lw},(∃o,s.heap.get? a=ap o/\H a=bv)->B7 a s.heap h'->mq X.prog X.w H h':=λ{a h'} ha hs b ob e=>by
  obtain⟨_,_,Tz⟩:=ha;refine (I.bN b ob e).wA (λc w' hc q=>(hs.2 c ?_).trans q) (λ_ q=>q) λ_ _ q=>q;rintro rfl;rcases hc with rfl | hc
  ·rw [Tz] at e;cases e
  ·rw [Tz] at hc;cases hc
 rcases hx with hk | hk
 ·refine wpAny_storeName_local hk hn (λh' ô hs=>?_) adF;obtain⟨oL,_,_,ò,_⟩:=id hn;refine h _ ⟨I.ok,I.os,I.bare,⟨λb o e n hb hx=>?_,λb o e n hb hx=>?_,I.base.free,λb o e hx=>?_,I.base.eM,I.base.qt,I.base.v8⟩,⟨_,ô,λj y v' e1 e2 e3=>?_⟩,λy c e=>?_,I.free,I.kG,λp hp=>?_,Ò ⟨oL,ò,I.free⟩ hs,by simpa using I.len⟩ ⟨_,hs,.inl rfl⟩
  ·exact (hs.2 b (AE (Az (Ar e) I.ok.above))).trans (I.base.keep b o e n hb hx)
  ·obtain⟨sl,e1⟩:=I.base.slot b o e n hb hx;exact⟨sl,(hs.2 b (AE (Az (Ar e) I.ok.above))).trans e1⟩
  ·obtain⟨o',e1⟩:=I.base.there b o e hx;exact⟨o',(hs.2 b (AE (Az (Ar e) I.ok.above))).trans e1⟩
  ·by_cases hj:j=i
   ·subst hj;rw [hi] at e1;cases e1;rw [Ca ZQ] at e2;cases e2;exact⟨u,r,.inl ⟨hk,by simp⟩⟩
   ·rw [Bw (BA hj)] at e2;obtain⟨u',r',q⟩:=hl j y v' e1 e2 e3;refine⟨u',r',?_⟩;rcases q with⟨k,e⟩ | ⟨k,c,e,z⟩
    ·refine .inl ⟨k,?_⟩;have:y≠x:=λe=>hj (zc hN e1 (e▸hi));simp [this,e]
    ·exact .inr ⟨k,c,e,z.sameBut hs (WN y c e)⟩
  ·obtain⟨w',z⟩:=I.cell y c e;exact⟨w',z.sameBut hs (WN y c e)⟩
  ·obtain⟨e,n,ne,nf,d⟩:=I.pin p hp;exact⟨(hs.2 p.1 ne).trans e,n,ne,nf,d⟩
 ·have ZW:X.fn x=true:=by
   rcases hf with z | z
   ·exact z
   ·rw [z] at hk;cases hk
  obtain⟨c,hc⟩:=I.ok.has x (.inl hk);obtain⟨w',z⟩:=I.cell x c hc;refine wpAny_storeName_cell I.ok.kind hk hc z (λh' Pw hs=>?_);obtain⟨oc,hoc,adp⟩:=id z;refine h {s with heap:=h'} ⟨I.ok,I.os,I.bare,⟨λb o e n hb hx=>?_,λb o e n hb hx=>?_,I.base.free,λb o e hx=>?_,I.base.eM,I.base.qt,I.base.v8⟩,⟨m,hn.sameBut hs (BA (WN x c hc)),λj y v' e1 e2 e3=>?_⟩,λy c' e=>?_,I.free,I.kG,λp hp=>?_,Ò ⟨oc,hoc,I.kG x c hc⟩ hs,by simpa using I.len⟩ ⟨c,hs,.inr hc⟩
  ·exact (hs.2 b (AE (Az (Ar e) (I.ok.cab x c ZW hc)))).trans (I.base.keep b o e n hb hx)
  ·obtain⟨sl,e1⟩:=I.base.slot b o e n hb hx;exact⟨sl,(hs.2 b (AE (Az (Ar e) (I.ok.cab x c ZW hc)))).trans e1⟩
  ·obtain⟨o',e1⟩:=I.base.there b o e hx;exact⟨o',(hs.2 b (AE (Az (Ar e) (I.ok.cab x c ZW hc)))).trans e1⟩
  ·by_cases hj:j=i
   ·subst hj;rw [hi] at e1;cases e1;rw [Ca ZQ] at e2;cases e2;exact⟨u,r,.inr ⟨.inl hk,c,hc,Pw⟩⟩
   ·rw [Bw (BA hj)] at e2;obtain⟨u',r',q⟩:=hl j y v' e1 e2 e3;refine⟨u',r',?_⟩;rcases q with q | ⟨k,c',e,z'⟩
    ·exact .inl q
    ·refine .inr ⟨k,c',e,z'.sameBut hs ?_⟩;rintro rfl;exact hj (zc hN e1 (I.ok.inj _ _ _ e hc▸hi))
  ·by_cases hcc:c'=c
   ·subst hcc;exact⟨_,Pw⟩
   ·obtain⟨w2,z2⟩:=I.cell y c' e;exact⟨w2,z2.sameBut hs hcc⟩
  ·obtain⟨e,n,ne,nf,d⟩:=I.pin p hp;refine⟨(hs.2 p.1 ?_).trans e,n,ne,nf,d⟩;intro q;rw [q,hoc] at e;have q':oc=p.2:=Option.some.inj e;exact d w' (by rw [<- q'];exact adp)
def nI {M:Model}{A:kw}{E:bm->ce->Prop}{i:Nat}{x:Str}{v:V}{u:bm}{Q:Unit->ce->Prop} (I:Inv X Z σ H s) (hN:X.N.Nodup) (hi:X.N[i]?=ap x) (hx:Loc X.env.scope x) (r:RelV v u)
  (h:∀s',Inv X Z (σ.set i (ap v)) H s'->Q () s') (hf:X.fn x=true\/X.env.scope.names.lookup x=ap .local:=by first | exact .inl rfl | exact .inr rfl | assumption):d4 M A (storeName X.env x u) Q E s:=
 uV I hN hi hx r (λs' I' _=>h s' I') hf
def Inv.aaz {s':ce}{ch:List dL} (I:Inv X Z σ H s) (ho:s'.os=s.os) (u:Un (LW X.stack) ch H H' s.heap s'.heap) (bN:mq X.prog X.w H' s'.heap) (hg:GM s'.gens)
  (Pu:∀b∈ch,(b∈X.ex\/X.s₀.heap.objs.size<=b)/\b≠X.env.locals/\(∀x c,X.env.cells.lookup x=ap c->c≠b)/\∀p∈X.pn++Z,p.1≠b):Inv X Z σ H' s':=by
 obtain⟨h',g',d',t',o'⟩:=s';have e:o'=s.os:=ho;subst e;exact I.call (g':=g') (t':=t') (d':=d') u bN hg Pu
end
abbrev XK:=bm->Option dL->Hp->Prop
abbrev St:=List (Option V)
abbrev VK:=V->Hp->Prop
abbrev TE:=St->Hp->VK->Prop
abbrev TT:=St->Hp->(Bool->Hp->Prop)->Prop
abbrev TA:=St->Hp->(List V->Hp->Prop)->Prop
structure Ends where
 nx:St->Hp->Prop
 rt:VK
 bk:St->Hp->Prop:=λ_ _=>False
 ct:St->Hp->Prop:=λ_ _=>False
abbrev TS:=Ends->St->Hp->Prop
def EP (X:Cx) (Z:List (dL×Obj)) (σ:St) (Q:VK) (u:bm) (s':ce):Prop:=∃v H',Inv X Z σ H' s'/\RelV v u/\Q v H'
def TP (X:Cx) (Z:List (dL×Obj)) (σ:St) (Q:Bool->Hp->Prop) (b:Bool) (s':ce):Prop:=∃H',Inv X Z σ H' s'/\Q b H'
def AP (X:Cx) (Z:List (dL×Obj)) (σ:St) (Q:List V->Hp->Prop) (us:List bm) (s':ce):Prop:=∃vs H',Inv X Z σ H' s'/\Vals vs us/\Q vs H'
def SP (X:Cx) (Z:List (dL×Obj)) (D:Ends) (f:Flow) (s':ce):Prop:=
 match f with
 | .next=>∃σ' H',Inv X Z σ' H' s'/\D.nx σ' H'
 | .brk=>∃σ' H',Inv X Z σ' H' s'/\D.bk σ' H'
 | .cont=>∃σ' H',Inv X Z σ' H' s'/\D.ct σ' H'
 | .ret u=>∃v σ' H',Inv X Z σ' H' s'/\RelV v u/\D.rt v H'
def PE (X:Cx) (e:ga) (t:TE):Prop:=
 ∀(Z:List (dL×Obj)) (s:ce) (σ:St) (H:Hp) (Q:VK),Inv X Z σ H s->t σ H Q->d4 (d5 X.prog X.w) X.A (lm e X.env) (EP X Z σ Q) X.xe s
def PT (X:Cx) (e:ga) (t:TT):Prop:=
 ∀(Z:List (dL×Obj)) (s:ce) (σ:St) (H:Hp) (Q:Bool->Hp->Prop),Inv X Z σ H s->t σ H Q->d4 (d5 X.prog X.w) X.A (isTrue e X.env (lm e X.env)) (TP X Z σ Q) X.xe s
def PW (X:Cx) (e:ga) (t:TT):Prop:=
 ∀(Æ:Sem bm) (Z:List (dL×Obj)) (s:ce) (σ:St) (H:Hp) (Q:Bool->Hp->Prop),Inv X Z σ H s->t σ H Q->d4 (d5 X.prog X.w) X.A (isTrue e X.env Æ) (TP X Z σ Q) X.xe s
def PW.pt {X:Cx}{e:ga}{t:TT} (h:PW X e t):PT X e t:=h _
def PA (X:Cx) (es:List ga) (t:TA):Prop:=
 ∀(pos:Pos) (Z:List (dL×Obj)) (s:ce) (σ:St) (H:Hp) (Q:List V->Hp->Prop),Inv X Z σ H s->t σ H Q->d4 (d5 X.prog X.w) X.A (spliced (mo pos (ci es X.env))) (AP X Z σ Q) X.xe s
def PS (X:Cx) (st:ul) (t:TS):Prop:=
 ∀(Z:List (dL×Obj)) (s:ce) (σ:St) (H:Hp) (D:Ends),Inv X Z σ H s->t D σ H->d4 (d5 X.prog X.w) X.A (exec st X.env) (SP X Z D) X.xe s
def rg (X:Cx) (st:List ul) (t:TS):Prop:=
 ∀(Z:List (dL×Obj)) (s:ce) (σ:St) (H:Hp) (D:Ends),Inv X Z σ H s->t D σ H->d4 (d5 X.prog X.w) X.A (execs st X.env) (SP X Z D) X.xe s
def bH {α:Type}{t:Sem α}{Q Q':α->ce->Prop}{M:Model}{A:kw}{E:bm->ce->Prop}{s:ce} (h:d4 M A t Q E s) (hQ:∀a s,Q a s->Q' a s):d4 M A t Q' E s:=BI h hQ λ_ _ x=>x
section
variable {X:Cx}
def bin {a b:ga}{ta tb:TE} (ha:PE X a ta) (hb:PE X b tb) {Z:List (dL×Obj)}{s:ce}{σ:St}{H:Hp}{R:V->V->Hp->Prop} (I:Inv X Z σ H s) (h:ta σ H λx H1=>tb σ H1 λy H2=>R x y H2)
  {α:Type}{Q:α->ce->Prop}{f:bm->bm->Sem α}
  (hf:∀v u s2 x y H2,Inv X Z σ H2 s2->RelV x v->RelV y u->R x y H2->d4 (d5 X.prog X.w) X.A (f v u) Q X.xe s2) :
  d4 (d5 X.prog X.w) X.A (lm a X.env) (λv s₁=>d4 (d5 X.prog X.w) X.A (lm b X.env) (λu s₂=>d4 (d5 X.prog X.w) X.A (f v u) Q X.xe s₂) X.xe s₁) X.xe s:=by
 refine bH (ha Z s σ H _ I h) λv s1 ⟨x,H1,I1,r1,q1⟩=>?_;refine bH (hb Z s1 σ H1 _ I1 q1) λu s2 ⟨y,H2,I2,r2,q2⟩=>?_;exact hf v u s2 x y H2 I2 r1 r2 q2
def X8 (i:Nat):TE:=λσ H Q=>∃v,σ[i]?=ap (ap v)/\Q v H
def tC (v:V):TE:=λ_ H Q=>Q v H
def dr {i:Nat}{x:Str}{pos:Pos} (hN:X.N[i]?=ap x) (hv:ym X.env.scope x) (hd:(x==("__debug__":Str))=false:=by decide) (i6:(x==("__classdict__":Str))=false:=by decide):PE X (.Name x pos) (X8 i):=by
 intro Z s σ H Q I h;obtain⟨v,e,h⟩:=h;obtain⟨m,hn,hl⟩:=I.loc;obtain⟨u,r,l⟩:=hl i x v hN e hv;have fin:EP X Z σ Q u s:=⟨v,H,I,r,h⟩;rcases l with⟨hk,hm⟩ | ⟨hk,c,hc,TK⟩
 ·exact wpAny_Name (wpAny_loadName_local I.ok.kind hk hn hm fin) hd
 ·rcases hk with hk | hk
  ·exact wpAny_Name (wpAny_loadName_cell I.ok.kind hk hc TK fin) hd
  ·exact wpAny_Name (wpAny_loadName_free I.ok.kind hk hc TK fin i6) hd
def Va {i j pos}:PE X (.Constant (.int i) j pos) (tC (.int i)):=λ_ _ _ H _ I h=>wpAny_Constant_int ⟨.int i,H,I.tok _,⟨_,rfl⟩,h⟩
def YW {b j pos}:PE X (.Constant (.bool b) j pos) (tC (.bl b)):=λ_ _ _ H _ I h=>Constant_bool ⟨.bl b,H,I,rfl,h⟩
def U9 {j pos}:PE X (.Constant .none j pos) (tC .aX):=λ_ _ _ H _ I h=>Constant_none ⟨.aX,H,I,rfl,h⟩
def U6 {x j pos}:PE X (.Constant (.str x) j pos) (tC (.str x)):=λ_ _ _ H _ I h=>Calls.Constant_str ⟨.str x,H,I.tok _,⟨_,rfl⟩,h⟩
def Gl (X:Cx) (x:Str):Prop:=X.env.kindOf x=ap .globalImplicit
def Jk {E:bm->ce->Prop}{Z:List (dL×Obj)}{s:ce}{σ:St}{H:Hp}{x:Str}{u:bm}{pos:Pos}{Q:bm->ce->Prop} (I:Inv X Z σ H s) (hg:Gl X x) (hm:X.mg x=ap u) (h:Q u s)
  (hd:(x==("__debug__":Str))=false:=by decide):d4 (d5 X.prog X.w) X.A (lm (.Name x pos) X.env) Q E s:=
 D4 I.ok.kind hg (Calls.loadGlobal_global (by rw [I.ok.glob];exact I.mod.glob.keeps I.bk) hm h) hd
def kd {E:bm->ce->Prop}{Z:List (dL×Obj)}{s:ce}{σ:St}{H:Hp}{x:Str}{u:bm}{pos:Pos}{Q:bm->ce->Prop} (I:Inv X Z σ H s) (hg:Gl X x) (hm:X.mg x=bv) (hv:re x=ap u) (h:Q u s)
  (hn:x≠"__name__":=by decide) (hd:(x==("__debug__":Str))=false:=by decide):d4 (d5 X.prog X.w) X.A (lm (.Name x pos) X.env) Q E s:=by
 obtain⟨mb,h1,h2⟩:=I.mod.blt;exact D4 I.ok.kind hg (Calls.loadGlobal_builtin (by rw [I.ok.glob];exact I.mod.glob.keeps I.bk) hm (by rw [I.ok.blt];exact h1.keeps I.bk) ((h2 x hn).trans hv) h) hd
def wQ {x:Str}{v:V}{u:bm}{pos:Pos} (hg:Gl X x) (hm:X.mg x=ap u) (r:RelV v u) (hd:(x==("__debug__":Str))=false:=by decide):PE X (.Name x pos) (tC v):=
 λ_ _ _ H _ I h=>Jk I hg hm ⟨v,H,I,r,h⟩ hd
def QM {x:Str}{v:V}{u:bm}{pos:Pos} (hg:Gl X x) (hm:X.mg x=bv) (hv:re x=ap u) (r:RelV v u) (hn:x≠"__name__":=by decide) (hd:(x==("__debug__":Str))=false:=by decide):PE X (.Name x pos) (tC v):=
 λ_ _ _ H _ I h=>kd I hg hm hv ⟨v,H,I,r,h⟩ hn hd
variable {a b:ga}{ta tb:TE}{pos:Pos}
def PC (X:Cx) (op:CmpOp) (a b:ga) (t:TE):Prop:=
 ∀(Z:List (dL×Obj)) (s:ce) (σ:St) (H:Hp) (Q:VK),Inv X Z σ H s->t σ H Q->
  d4 (d5 X.prog X.w) X.A (lm a X.env) (λv s₁=>d4 (d5 X.prog X.w) X.A (lm b X.env) (λu s₂=>d4 (d5 X.prog X.w) X.A (nn op v u) (EP X Z σ Q) X.xe s₂) X.xe s₁) X.xe s
def tB (t:TE):TT:=λσ H Q=>t σ H λx H1=>∃c,x=.bl c/\Q c H1
def U0 {op:CmpOp}{t:TE} (h:PC X op a b t) (h1:pc op b=false:=by first | exact Y9 _ (by decide) (by decide) | rfl):PT X (.Compare a [op] [b] pos) (tB t):=by
 intro Z s σ H Q I hw;refine wpAny_isTrue_Compare1 (bH (h Z s σ H _ I hw) λv s1 h1=>bH h1 λu s2 h2=>bH h2 λc s3 ⟨x,H1,I1,r1,q1⟩=>?_) h1;obtain⟨d,rfl,q⟩:=q1;cases r1;exact Bn ⟨H1,I1,q⟩
variable {tA æ:TT}{rest:List ga}
def acm (t u:TT):TT:=λσ H Q=>t σ H λc H1=>if c=true then u σ H1 Q else Q false H1
def tOr (t u:TT):TT:=λσ H Q=>t σ H λc H1=>if c=true then Q true H1 else u σ H1 Q
def acf (t:TT):TT:=λσ H Q=>t σ H λc H1=>Q (!c) H1
def Qw (ha:PT X a tA):PW X (.BoolOp .And [a] pos) tA:=by
 intro wh Z s σ H Q I h;refine isTrue_and (bH (ha Z s σ H Q I h) λc s1 e=>?_);cases c with
 | true=>exact isTrue_and_nil e
 | false=>exact e
def UW (ha:PT X a tA):PW X (.BoolOp .Or [a] pos) tA:=by
 intro wh Z s σ H Q I h;refine isTrue_or (bH (ha Z s σ H Q I h) λc s1 e=>?_);cases c with
 | false=>exact isTrue_or_nil e
 | true=>exact e
def UX (ha:PT X a tA) (hb:PW X (.BoolOp .And (b::rest) pos) æ):PW X (.BoolOp .And (a::b::rest) pos) (acm tA æ):=by
 intro wh Z s σ H Q I h;refine isTrue_and (bH (ha Z s σ H _ I h) λc s1 ⟨H1,I1,q1⟩=>?_);cases c with
 | true=>exact hb wh Z s1 σ H1 Q I1 q1
 | false=>exact⟨H1,I1,q1⟩
def YO (ha:PT X a tA) (hb:PW X (.BoolOp .Or (b::rest) pos) æ):PW X (.BoolOp .Or (a::b::rest) pos) (tOr tA æ):=by
 intro wh Z s σ H Q I h;refine isTrue_or (bH (ha Z s σ H _ I h) λc s1 ⟨H1,I1,q1⟩=>?_);cases c with
 | true=>exact⟨H1,I1,q1⟩
 | false=>exact hb wh Z s1 σ H1 Q I1 q1
def UZ (ha:PT X a tA):PT X (.UnaryOp .Not a pos) (acf tA):=by
 intro Z s σ H Q I h;exact isTrue_not (ha Z s σ H (λc H1=>Q (!c) H1) I h)
def Ym (ta tb:TE):TE:=λσ H Q=>ta σ H λx H1=>∃c,x=.bl c/\if c=true then tb σ H1 Q else Q (.bl false) H1
def ace (ta tb:TE):TE:=λσ H Q=>ta σ H λx H1=>∃c,x=.bl c/\if c=true then Q (.bl true) H1 else tb σ H1 Q
def Yc (ta:TE):TE:=λσ H Q=>ta σ H λx H1=>∃c,x=.bl c/\Q (.bl (!c)) H1
def U7 {op}{t:TE} (h:PE X a t):PE X (.BoolOp op [a] pos) t:=λZ s σ H Q I hw=>BoolOp_one (h Z s σ H Q I hw)
def Vc (ha:PE X a ta) (hb:PE X (.BoolOp .And (b::rest) pos) tb):PE X (.BoolOp .And (a::b::rest) pos) (Ym ta tb):=by
 intro Z s σ H Q I h;refine BoolOp_and (bH (ha Z s σ H _ I h) λv s1 ⟨x,H1,I1,r1,q1⟩=>?_);obtain⟨c,rfl,q1⟩:=q1;cases r1;refine Bn ?_;cases c with
 | true=>exact hb Z s1 σ H1 Q I1 q1
 | false=>exact⟨.bl false,H1,I1,rfl,q1⟩
def YT (ha:PE X a ta) (hb:PE X (.BoolOp .Or (b::rest) pos) tb):PE X (.BoolOp .Or (a::b::rest) pos) (ace ta tb):=by
 intro Z s σ H Q I h;refine BoolOp_or (bH (ha Z s σ H _ I h) λv s1 ⟨x,H1,I1,r1,q1⟩=>?_);obtain⟨c,rfl,q1⟩:=q1;cases r1;refine Bn ?_;cases c with
 | false=>exact hb Z s1 σ H1 Q I1 q1
 | true=>exact⟨.bl true,H1,I1,rfl,q1⟩
def U8 (ha:PE X a ta):PE X (.UnaryOp .Not a pos) (Yc ta):=by
 intro Z s σ H Q I h;refine UnaryOp_ (bH (ha Z s σ H _ I h) λv s1 ⟨x,H1,I1,r1,q1⟩=>?_);obtain⟨c,rfl,q1⟩:=q1;cases r1;exact not_of (Bn ⟨.bl (!c),H1,I1,rfl,q1⟩)
def tIf (t:TT) (ta tb:TE):TE:=λσ H Q=>t σ H λc H1=>if c=true then ta σ H1 Q else tb σ H1 Q
def yY {c:ga} (hc:PT X c tA) (ha:PE X a ta) (hb:PE X b tb):PE X (.IfExp c a b pos) (tIf tA ta tb):=by
 intro Z s σ H Q I h;refine wpAny_IfExp (bH (hc Z s σ H _ I h) λd s1 ⟨H1,I1,q1⟩=>?_);cases d with
 | true=>exact ha Z s1 σ H1 Q I1 q1
 | false=>exact hb Z s1 σ H1 Q I1 q1
end
def dq (K:Ab) (H:Hp) (a:dL) (xs:List V):Prop:=
 Rd H a (.lst xs)\/
  ∃(o:Obj) (ay:Array bm) (n:Nat),K.lookup a=ap o/\o.cls=.type "list"/\o.dict=bv/\o.data=.seq ay n/\ay.size<=sizeLine/\Vals xs ay.toList
def d7 (K:Ab) (H:Hp) (a:dL) (xs:List V):Prop:=
 Rd H a (.tup xs)\/
  ∃(o:Obj) (ay:Array bm) (n:Nat),K.lookup a=ap o/\o.cls=.type "tuple"/\o.data=.seq ay n/\ay.size<=sizeLine/\Vals xs ay.toList
def ad8:bm->Option V
 | .none=>ap .aX
 | .bool b=>ap (.bl b)
 | .int i _=>ap (.int i)
 | .str x _=>ap (.str x)
 | .bytes b _=>ap (.WR b)
 | .float b _=>ap (.Xu b)
 | .ref a=>ap (.ref a)
 | .type n=>ap (.ty n)
 | _=>bv
def RelV.abs {x:V}{u:bm} (r:RelV x u):ad8 u=ap x:=by
 cases x with
 | aX=>cases r;rfl
 | bl _=>cases r;rfl
 | int _=>obtain⟨t,rfl⟩:=r;rfl
 | str _=>obtain⟨t,rfl⟩:=r;rfl
 | WR _=>obtain⟨t,rfl⟩:=r;rfl
 | Xu _=>obtain⟨t,rfl⟩:=r;rfl
 | ref _=>cases r;rfl
 | ty _=>cases r;rfl
def RelV.inj {x y:V}{u:bm} (r:RelV x u) (q:RelV y u):x=y:=Option.some.inj (r.abs.symm.trans q.abs)
theorem Vals.inj:∀{xs ys:List V}{us:List bm},Vals xs us->Vals ys us->xs=ys
 | _,_,_,.nil,.nil=>rfl
 | _,_,_,.cons r t,.cons r' t'=>by rw [r.inj r',Vals.inj t t']
section
variable {X:Cx}{Z:List (dL×Obj)}{σ:St}{H:Hp}{s:ce}{a:dL}{xs ys:List V}
def dq.of {K:Ab} (h:H a=ap (.lst xs)):dq K H a xs:=.inl (.inl h)
def d7.of {K:Ab} (h:H a=ap (.tup xs)):d7 K H a xs:=.inl (.inl h)
def Inv.list (I:Inv X Z σ H s) (h:dq X.K H a xs):∃ay:List bm,Vals xs ay/\PlainL s.heap a ay.toArray/\xs.length<=sizeLine:=by
 rcases h with h | ⟨o,ay,n,hk,hc,hd,hs,hz,r⟩
 ·obtain⟨z,ay,n,r,e⟩:=h.ok I.bN;exact⟨ay,r,⟨_,n,e,rfl,rfl,rfl⟩,z⟩
 ·refine⟨ay.toList,r,⟨o,n,I.uy a o hk,hc,hd,by simpa using hs⟩,?_⟩;have e:=r.length;simp only [DR] at e;omega
def Inv.tuple (I:Inv X Z σ H s) (h:d7 X.K H a xs):∃ay:List bm,Vals xs ay/\IsTup s.heap a ay.toArray/\xs.length<=sizeLine:=by
 rcases h with h | ⟨o,ay,n,hk,hc,hs,hz,r⟩
 ·obtain⟨z,ay,r,p⟩:=h.ok I.bN;exact⟨ay,r,p,z⟩
 ·refine⟨ay.toList,r,⟨o,I.uy a o hk,hc,n,by simpa using hs⟩,?_⟩;have e:=r.length;simp only [DR] at e;omega
def Inv.zm (I:Inv X Z σ H s) (h:dq X.K H a xs) (h':dq X.K H a ys):xs=ys:=by
 obtain⟨ay,r,⟨o,n,e,_,_,d⟩,_⟩:=I.list h;obtain⟨its',r',⟨o',n',e',_,_,d'⟩,_⟩:=I.list h';rw [e] at e';cases e';rw [d] at d';injection d' with d1 _;have:ay=its':=by simpa using congrArg Array.toList d1
 subst this;exact r.inj r'
def Inv.lS (I:Inv X Z σ H s) (h:d7 X.K H a xs) (h':d7 X.K H a ys):xs=ys:=by
 obtain⟨ay,r,⟨o,e,_,n,d⟩,_⟩:=I.tuple h;obtain⟨its',r',⟨o',e',_,n',d'⟩,_⟩:=I.tuple h';rw [e] at e';cases e';rw [d] at d';injection d' with d1 _;have:ay=its':=by simpa using congrArg Array.toList d1
 subst this;exact r.inj r'
end
abbrev Cx.ug (X:Cx) (E:bm->ce->Prop):Cx:={X with xe:=E}
abbrev Cx.yA (X:Cx):Cx:=X.ug λ_ _=>False
def Cx.Ok.ug {X:Cx} (ok:X.Ok) (E:bm->ce->Prop):(X.ug E).Ok:=
 ⟨ok.mod,ok.kind,ok.glob,ok.blt,ok.above,ok.inj,ok.has,ok.cab,ok.hd,ok.frames,ok.stk,ok.exf,ok.bs,ok.T8,ok.Nk,ok.Ol,ok.sY,ok.Xq⟩
def Cx.Ok.kW {X:Cx}{E:bm->ce->Prop} (ok:(X.ug E).Ok):X.Ok:=
 ⟨ok.mod,ok.kind,ok.glob,ok.blt,ok.above,ok.inj,ok.has,ok.cab,ok.hd,ok.frames,ok.stk,ok.exf,ok.bs,ok.T8,ok.Nk,ok.Ol,ok.sY,ok.Xq⟩
section
variable {X:Cx}{Z:List (dL×Obj)}{σ:St}{H:Hp}{s:ce}{E:bm->ce->Prop}
def Inv.ug (I:Inv X Z σ H s) (E:bm->ce->Prop):Inv (X.ug E) Z σ H s:=⟨I.ok.ug E,I.os,I.bare,I.base,I.loc,I.cell,I.free,I.kG,I.pin,I.bN,I.len⟩
def Inv.kW (I:Inv (X.ug E) Z σ H s):Inv X Z σ H s:=⟨I.ok.kW,I.os,I.bare,I.base,I.loc,I.cell,I.free,I.kG,I.pin,I.bN,I.len⟩
def SP.kW {D:Ends}{f:Flow}{s':ce} (h:SP (X.ug E) Z D f s'):SP X Z D f s':=by
 cases f with
 | next=>obtain⟨σ',H',I,q⟩:=h;exact⟨σ',H',I.kW,q⟩
 | brk=>obtain⟨σ',H',I,q⟩:=h;exact⟨σ',H',I.kW,q⟩
 | cont=>obtain⟨σ',H',I,q⟩:=h;exact⟨σ',H',I.kW,q⟩
 | ret u=>obtain⟨v,σ',H',I,r,q⟩:=h;exact⟨v,σ',H',I.kW,r,q⟩
def rg.yA {st:List ul}{t:TS} (h:rg X.yA st t):rg X st t:=λZ s σ H D I hw=>
 BI (h Z s σ H D (I.ug _) hw) (λ_ _ q=>q.kW) λ_ _ z=>Bm z
end
section
variable {X:Cx}{st:ul}{rest:List ul}{t u:TS}{e:ga}{te:TE}{pos:Pos}
def Yd:TS:=λD σ H=>D.nx σ H
def aca (t u:TS):TS:=λD σ H=>t {D with nx:=u D} σ H
def wK:rg X [] Yd:=λ_ _ σ H _ I h=>DK ⟨σ,H,I,h⟩
def yR (h1:PS X st t) (h2:rg X rest u):rg X (st::rest) (aca t u):=by
 intro Z s σ H D I h;refine wpAny_execs_cons (bH (h1 Z s σ H {D with nx:=u D} I h) λf s1 q=>?_);cases f with
 | next=>
  obtain⟨σ',H',I',q⟩:=q;exact h2 Z s1 σ' H' D I' q
 | ret v=>exact q
 | brk=>exact q
 | cont=>exact q
def Qx (h1:PS X st t):rg X [st] t:=by
 intro Z s σ H D I h;refine wpAny_execs_cons (bH (h1 Z s σ H D I h) λf s1 q=>?_);cases f with
 | next=>exact DK q
 | ret v=>exact q
 | brk=>exact q
 | cont=>exact q
def Yh:TS:=λD σ H=>D.ct σ H
def yU:PS X (.Continue pos) Yh:=λ_ _ σ H _ I h=>wpAny_Continue ⟨σ,H,I,h⟩
def Inv.quiet {Z:List (dL×Obj)}{σ:St}{H:Hp}{s:ce} (I:Inv X Z σ H s):interactive X.env=false:=by simp [interactive,I.ok.kind]
def Yf (te:TE):TS:=λD σ H=>te σ H λ_ H1=>D.nx σ H1
def nM (he:PE X e te) (hs:o0 e bv pos.line X.env=pure false:=by rfl):PS X (.Expr e pos) (Yf te):=by
 intro Z s σ H D I h;exact wpAny_Expr_any (bH (he Z s σ H _ I h) λv s1 ⟨x,H1,I1,r1,q1⟩=>⟨σ,H1,I1,q1⟩) I.quiet hs
def acb (te:TE):TS:=λD σ H=>te σ H D.rt
def wL (he:PE X e te):PS X (.Return (ap e) pos) (acb te):=by
 intro Z s σ H D I h;exact wpAny_Return_some (bH (he Z s σ H _ I h) λv s1 ⟨x,H1,I1,r1,q1⟩=>⟨x,σ,H1,I1,r1,q1⟩)
def aci (c:TT) (t u:TS):TS:=λD σ H=>c σ H λb H1=>if b=true then t D σ H1 else u D σ H1
def MN {c:ga}{a b:List ul}{tc:TT} (hc:PT X c tc) (ha:rg X a t) (hb:rg X b u):PS X (.If c a b pos) (aci tc t u):=by
 intro Z s σ H D I h;refine wpAny_If (bH (hc Z s σ H _ I h) λd s1 ⟨H1,I1,q1⟩=>?_);cases d with
 | true=>exact ha Z s1 σ H1 D I1 q1
 | false=>exact hb Z s1 σ H1 D I1 q1
def Uv:TS:=λ_ _ _=>False
end
abbrev TG:=V->St->Hp->(St->Hp->Prop)->Prop
abbrev W5:=List V->St->Hp->(St->Hp->Prop)->Prop
def PG (X:Cx) (Ì:ga) (t:TG):Prop:=
 ∀(Z:List (dL×Obj)) (s:ce) (σ:St) (H:Hp) (v:V) (u:bm) (Q:St->Hp->Prop),Inv X Z σ H s->RelV v u->t v σ H Q->
  d4 (d5 X.prog X.w) X.A (xL Ì X.env u) (λ_ s'=>∃σ' H',Inv X Z σ' H' s'/\Q σ' H') X.xe s
def PGs (X:Cx) (ts:List ga) (t:W5):Prop:=
 ∀(Z:List (dL×Obj)) (s:ce) (σ:St) (H:Hp) (vs:List V) (us:List bm) (Q:St->Hp->Prop),Inv X Z σ H s->Vals vs us->t vs σ H Q->
  d4 (d5 X.prog X.w) X.A (assignInOrder ((ww ts X.env).map (·.2)) us) (λ_ s'=>∃σ' H',Inv X Z σ' H' s'/\Q σ' H') X.xe s
abbrev Iu:=V->V->V->Hp->(Hp->Prop)->Prop
def Iv (X:Cx) (t:Iu):Prop:=
 ∀(Z:List (dL×Obj)) (s:ce) (σ:St) (H:Hp) (o i v:V) (ov iv u:bm) (Q:Hp->Prop),Inv X Z σ H s->RelV o ov->RelV i iv->RelV v u->t o i v H Q->
  d4 (d5 X.prog X.w) X.A (Fa ov iv u) (λ_ s'=>∃H',Inv X Z σ H' s'/\Q H') X.xe s
abbrev TIp:=V->V->Hp->VK->Prop
def PIp (X:Cx) (op:Operator) (t:TIp):Prop:=
 ∀(Z:List (dL×Obj)) (s:ce) (σ:St) (H:Hp) (x y:V) (v u:bm) (Q:VK),Inv X Z σ H s->RelV x v->RelV y u->t x y H Q->
  d4 (d5 X.prog X.w) X.A (inplaceOp op v u) (EP X Z σ Q) X.xe s
section
variable {X:Cx}{pos:Pos}
def dJ (i:Nat):TG:=λv σ H Q=>Q (σ.set i (ap v)) H
def QE {i:Nat}{x:Str} (hN:X.N.Nodup) (hi:X.N[i]?=ap x) (hx:Loc X.env.scope x) (hf:X.fn x=true\/X.env.scope.names.lookup x=ap .local:=by first | exact .inl rfl | exact .inr rfl | assumption):PG X (.Name x pos) (dJ i):=by
 intro Z s σ H v u Q I r h;exact wpAny_assign_Name (nI I hN hi hx r (λs' I'=>⟨_,H,I',h⟩) hf)
def RO:W5:=λvs σ H Q=>vs=[]/\Q σ H
def mG (t:TG) (u:W5):W5:=λvs σ H Q=>∃v r,vs=v::r/\t v σ H λσ' H'=>u r σ' H' Q
def d8:PGs X [] RO:=by
 intro Z s σ H vs us Q I r h;obtain⟨e,h⟩:=h;subst e;cases r;exact assignInOrder_nil ⟨σ,H,I,h⟩
def aQ {e:ga}{es:List ga}{t:TG}{u:W5} (h1:PG X e t) (h2:PGs X es u)
  (hs:(ww (e::es) X.env).map (·.2)=xL e X.env::(ww es X.env).map (·.2):=by rfl):PGs X (e::es) (mG t u):=by
 intro Z s σ H vs us Q I r h;obtain⟨v,vr,e1,h⟩:=h;subst e1;cases r with
 | cons r rr=>
  rw [hs];refine assignInOrder_cons (bH (h1 Z s σ H _ _ _ I r h) λ_ s1 ⟨σ1,H1,I1,q1⟩=>?_);exact h2 Z s1 σ1 H1 _ _ Q I1 rr q1
def RN (K:Ab) (n:Nat) (t:W5):TG:=λv σ H Q=>∃a xs,v=.ref a/\d7 K H a xs/\xs.length=n/\t xs σ H Q
def gb {es:List ga}{k:Nat}{t:W5}{n:Nat} (hc:X.calm=true) (h:PGs X es t)
  (hn:(ww es X.env).length=n:=by rfl) (xt:(ww es X.env).findIdx? (·.1)=bv:=by rfl):PG X (.Tuple es k pos) (RN X.K n t):=by
 intro Z s σ H v u Q I r hw;obtain⟨a,xs,e1,hq,hl,hw⟩:=hw;subst e1;cases r;obtain⟨ay,rv,ht,hz⟩:=I.tuple hq;refine assign_Tuple_tuple (I.ok.hd hc) ht (by simp [hn,<- hl,rv.length]) xt λh' hx=>?_;have I1:Inv X Z σ H {s with heap:=h'}:=I.kept (t':=s.toks) λb o e=>hx b o (AE (Ar e)) e;exact h Z _ σ H xs _ Q I1 (by simpa using rv) hw
def adQ (to ti:TE) (t:Iu):TG:=λv σ H Q=>to σ H λo H1=>ti σ H1 λi H2=>t o i v H2 λH3=>Q σ H3
def MW {o i:ga}{to ti:TE}{t:Iu} (ho:PE X o to) (hi:PE X i ti) (hs:Iv X t)
  (ha:∀v,xL (.Subscript o i pos) X.env v=(do
   let ov <- sB [v] (lm o X.env)
   let iv <- sB [v,ov] (lm i X.env)
   Gf pos
   sB [v,ov,iv] (Fa ov iv v)
   release [v,ov,iv] []):=by intro _;rfl):PG X (.Subscript o i pos) (adQ to ti t):=by
 intro Z s σ H v u Q I r h;refine Aa (A9 (bH (ho Z s σ H _ I h) λov s1 ⟨x,H1,I1,r1,q1⟩=>?_));refine Aa (A9 (bH (hi Z s1 σ H1 _ I1 q1) λiv s2 ⟨y,H2,I2,r2,q2⟩=>?_));refine Aa (Ds (Aa (A9 (bH (hs Z s2 σ H2 x y v ov iv u _ I2 r1 r2 r q2) λ_ s3 ⟨H3,I3,q3⟩=>?_))));exact wpAny_release ⟨σ,H3,I3,q3⟩
def Uz (te:TE) (g:TG):TS:=λD σ H=>te σ H λx H1=>g x σ H1 D.nx
def wM {tg e:ga}{te:TE}{g:TG} (he:PE X e te) (hg:PG X tg g) (hs:wP [tg] e pos.line X.env=pure false:=by rfl) (hw:wS [tg] e X.env=pure bv:=by rfl)
  (h1:(ww [tg] X.env).map (·.2)=[xL tg X.env]:=by rfl):PS X (.Assign [tg] e pos) (Uz te g):=by
 intro Z s σ H D I h;refine wpAny_Assign_stores (bH (he Z s σ H _ I h) λv s1 ⟨x,H1,I1,r1,q1⟩=>?_) hs hw;rw [h1];exact bH (hg Z s1 σ H1 x v _ I1 r1 q1) λ_ s2 q=>q
def rS {i:Nat}{x:Str}{e:ga}{te:TE}{Ó:Pos} (hN:X.N.Nodup) (hi:X.N[i]?=ap x) (hx:Loc X.env.scope x) (he:PE X e te) (hs:o0 e (ap (.Name x Ó)) pos.line X.env=pure false:=by rfl) (hf:X.fn x=true\/X.env.scope.names.lookup x=ap .local:=by first | exact .inl rfl | exact .inr rfl | assumption) :
  PS X (.Assign [.Name x Ó] e pos) (Uz te (dJ i)):=by
 intro Z s σ H D I h;refine wpAny_Assign_Name (bH (he Z s σ H _ I h) λv s1 ⟨y,H1,I1,r1,q1⟩=>?_) hs;exact nI I1 hN hi hx r1 (λs2 I2=>⟨_,H1,I2,q1⟩) hf
def acd (i j:Nat) (ta:TA):TS:=λD σ H=>ta σ H λvs H1=>∃v w,vs=[v,w]/\D.nx ((σ.set i (ap v)).set j (ap w)) H1
def U2 {i j:Nat}{x y:Str}{a b:ga}{ta:TA}{px py pt:Pos}{kt k2 U1} (hc:X.calm=true) (hN:X.N.Nodup) (hi:X.N[i]?=ap x) (hj:X.N[j]?=ap y) (ö:i≠j)
  (hx:X.env.scope.names.lookup x=ap .local) (hy:X.env.scope.names.lookup y=ap .local) (ha:PA X [a,b] ta)
  (hw:wS [.Tuple [.Name x px,.Name y py] kt pt] (.Tuple [a,b] k2 U1) X.env=pure (ap [x,y]))
  (hs:wP [.Tuple [.Name x px,.Name y py] kt pt] (.Tuple [a,b] k2 U1) pos.line X.env=pure false:=by rfl) :
  PS X (.Assign [.Tuple [.Name x px,.Name y py] kt pt] (.Tuple [a,b] k2 U1) pos) (acd i j ta):=by
 intro Z s σ H D I h;refine Aa (Ds ?_);refine Aa (Af ?_);rw [if_neg (by decide)];refine Aa (Tuple_ (bH (ha _ Z s σ H _ I h) λus s1 ⟨vs,H1,I1,r1,q1⟩=>?_));obtain⟨v,w,e1,q1⟩:=q1;subst e1;obtain⟨u1,u2,rfl,rv,iB⟩:∃u1 u2,us=[u1,u2]/\RelV v u1/\RelV w u2:=by
  cases r1 with
  | cons p q=>
   cases q with
   | cons p' q'=>
    cases q';exact⟨_,_,rfl,p,p'⟩
 refine A2 ?_ (by show 2<=sizeLine;decide);have I2:Inv X Z σ H1 {s1 with heap:=s1.heap.push {cls:=.type "tuple",data:=.seq [u1,u2].toArray}}:=I1.kept (t':=s1.toks) λb o e=>Ai _ e;rw [hw];refine Aa (Af ?_);refine Aa (CF (Aa (unpackItems_tuple (items:=#[u1,u2]) (I.ok.hd hc) (Fg s1.heap _) λh' vm=>?_)));have I3:=I2.kept (h':=h') (t':=s1.toks) λb o e=>vm b o (AE (Ar e)) e;show d4 _ _ (assignInOrder [λv=>bindName X.env y v,λv=>bindName X.env x v] [u2,u1] >>= λ_=>pure Flow.next) _ _ _;refine Aa (assignInOrder_cons (wpAny_bindName (nI I3 hN hj (.inl hy) iB (λs2 I4=>?_) (.inr hy))));refine assignInOrder_cons (wpAny_bindName (nI I4 hN hi (.inl hx) rv (λs3 I5=>assignInOrder_nil (Af ?_)) (.inr hx)));rw [List.set_comm _ _ (BA ö)] at I5;exact⟨_,H1,I5,q1⟩
def Yl (to ti te:TE) (P1:V->V->Hp->VK->Prop) (å:TIp) (PZ:Iu):TS:=λD σ H=>to σ H λo H1=>ti σ H1 λi H2=>P1 o i H2 λx H3=>te σ H3 λy H4=>å x y H4 λz H5=>PZ o i z H5 λH6=>D.nx σ H6
def aaF (X:Cx) (t:V->V->Hp->VK->Prop):Prop:=
 ∀(Z:List (dL×Obj)) (s:ce) (σ:St) (H:Hp) (o i:V) (ov iv:bm) (Q:VK),Inv X Z σ H s->RelV o ov->RelV i iv->t o i H Q->
  d4 (d5 X.prog X.w) X.A (FB ov iv) (EP X Z σ Q) X.xe s
def Qz {o i e:ga}{to ti te:TE}{P1:V->V->Hp->VK->Prop}{å:TIp}{PZ:Iu}{op:Operator}{eP:Pos} (ho:PE X o to) (hi:PE X i ti) (hg:aaF X P1) (he:PE X e te) (hp:PIp X op å) (hs:Iv X PZ)
  (ha:∀ov iv new,augStore i ov iv new=(do sB [new,ov,iv] (Fa ov iv new);release [new,ov,iv] [];pure .next):=by intros;rfl):PS X (.AugAssign (.Subscript o i eP) op e pos) (Yl to ti te P1 å PZ):=by
 intro Z s σ H D I h;refine wpAny_AugAssign_SubscriptAny (bH (ho Z s σ H _ I h) λov s1 ⟨x1,H1,I1,r1,q1⟩=>?_) ha;refine bH (hi Z s1 σ H1 _ I1 q1) λiv s2 ⟨x2,H2,I2,r2,q2⟩=>?_;refine bH (hg Z s2 σ H2 x1 x2 ov iv _ I2 r1 r2 q2) λË s3 ⟨x3,H3,I3,r3,q3⟩=>?_;refine bH (he Z s3 σ H3 _ I3 q3) λv s4 ⟨x4,H4,I4,r4,q4⟩=>?_;refine bH (hp Z s4 σ H4 x3 x4 Ë v _ I4 r3 r4 q4) λnew s5 ⟨x5,H5,I5,r5,q5⟩=>?_;exact bH (hs Z s5 σ H5 x1 x2 x5 ov iv new _ I5 r1 r2 r5 q5) λ_ s6 ⟨H6,I6,q6⟩=>⟨σ,H6,I6,q6⟩
def ipI (f:Int->Int->Int):TIp:=λx y H Q=>∃i j,x=.int i/\y=.int j/\Q (.int (f i j)) H
def VZ:PIp X .Add (ipI λi j=>i+j):=by
 intro Z s σ H x y v u Q I r1 r2 h;obtain⟨i,j,e1,e2,q⟩:=h;subst e1;subst e2;obtain⟨t,rfl⟩:=r1;obtain⟨t',rfl⟩:=r2;exact iadd_int ⟨.int _,H,I.tok _,⟨_,rfl⟩,q⟩
end
section
variable {X:Cx}{pos:Pos}
def Uu (c:TT) (tb:TS):TS:=λD σ H=>∃W:Nat->St->Hp->Prop,(∃m,W m σ H)/\∀m σ H,W m σ H->
 c σ H λb H1=>if b=true then ∃N:St->Hp->Prop,(∀σ' H',N σ' H'->∃m',m' < m/\W m' σ' H')/\tb {D with nx:=N,ct:=N,bk:=D.nx} σ H1 else D.nx σ H1
def yS {c:ga}{body:List ul}{tc:TT}{tb:TS} (hp:EQ (d5 X.prog X.w) X.A X.env X.xe) (hc:PT X c tc) (hb:rg X body tb):PS X (.While c body [] pos) (Uu tc tb):=by
 intro Z s σ H D I h;obtain⟨W,⟨m0,w0⟩,turn⟩:=h;refine wpAny_While (codeAny_whileLoop (λn s'=>∃σ' H',Inv X Z σ' H' s'/\W n σ' H') ?_ m0 ⟨σ,H,I,w0⟩);rintro n s1 ⟨σ1,H1,I1,w1⟩;refine Cg hp (bH (hc Z s1 σ1 H1 _ I1 (turn n σ1 H1 w1)) λb s2 ⟨H2,I2,q2⟩=>?_);cases b with
 | true=>
  obtain⟨N,hN,q2⟩:=q2;refine Cg hp (bH (hb Z s2 σ1 H2 _ I2 q2) λf s3 q3=>?_);cases f with
  | next=>
   obtain⟨σ3,H3,I3,n3⟩:=q3;obtain⟨m',hm,w3⟩:=hN σ3 H3 n3;exact⟨m',hm,σ3,H3,I3,w3⟩
  | cont=>
   obtain⟨σ3,H3,I3,n3⟩:=q3;obtain⟨m',hm,w3⟩:=hN σ3 H3 n3;exact⟨m',hm,σ3,H3,I3,w3⟩
  | brk=>exact q3
  | ret v=>exact q3
 | false=>
  exact DK ⟨σ1,H2,I2,q2⟩
end
structure It where
 go:Nat->Hp->Prop
 SU:Nat->Hp->V->Hp->Prop
 stop:Nat->Hp->Prop
def uS (X:Cx) (Z:List (dL×Obj)) (H:Hp) (b:dL):Prop:=
 H b=bv/\b≠X.env.locals/\b∉X.fs/\(b∈X.ex\/X.s₀.heap.objs.size<=b)/\(∀x c,X.env.cells.lookup x=ap c->c≠b)/\∀p∈X.pn++Z,p.1≠b
def Inv.xE {X:Cx}{Z:List (dL×Obj)}{σ:St}{H H':Hp}{s:ce}{b:dL} (I:Inv X Z σ H s) (hb:s.heap.objs.size<=b) (hn:H' b=bv):uS X Z H' b:=by
 refine⟨hn,Nat.ne_of_gt (Az I.lt hb),I.acH hb,.inr (Bp I.sz hb),λx c e z=>?_,λp hp z=>?_⟩
 ·obtain⟨v,q⟩:=I.cell x c e;exact absurd (Az q.lt (by rw [z];exact hb)) (Ba _)
 ·exact absurd (Az (Ar (I.pin p hp).1) (by rw [z];exact hb)) (Ba _)
structure Turn (P:f8) (w:lc) (K:Ab) (tg:ga) (J:It) (fp:List dL) (it:dL) (tn:Nat->lw->Prop):Prop where
 mem:it∈fp
 obj:∀i h,tn i h->∀b∈fp,∃o,h.get? b=ap o/\∀v,o.data≠.cell v
 keep:∀i h h',tn i h->(∀b∈fp,∀o,h.get? b=ap o->h'.get? b=ap o)->tn i h'
 item:∀(X:Cx),X.prog=P->X.w=w->X.K=K->X.calm=true->∀(i:Nat) (Z:List (dL×Obj)) (s:ce) (σ:St) (H:Hp) (E:bm->ce->Prop),Inv X Z σ H s->(∀b∈fp,uS X Z H b)->tn i s.heap->J.go i H->
  d4 (d5 P w) X.A (pyNext (.ref it)) (λr s1=>∃u,r=ap u/\
   d4 (d5 P w) X.A (GT tg (.ref it) u) (λ_ s2=>∃x H',Inv X Z σ H' s2/\RelV x u/\J.SU i H x H'/\tn (i+1) s2.heap/\∀b∈fp,H' b=bv) E s1) E s
 done:∀(X:Cx),X.prog=P->X.w=w->X.K=K->X.calm=true->∀(i:Nat) (Z:List (dL×Obj)) (s:ce) (σ:St) (H:Hp) (E:bm->ce->Prop),Inv X Z σ H s->(∀b∈fp,uS X Z H b)->tn i s.heap->J.stop i H->
  d4 (d5 P w) X.A (pyNext (.ref it)) (λr s1=>r=bv/\Inv X Z σ H s1) E s
 self:∀(A:kw) (i:Nat) (s:ce) (Q:bm->ce->Prop) (E:bm->ce->Prop),tn i s.heap->Q (.ref it) s->d4 (d5 P w) A (pyIter (.ref it)) Q E s
abbrev TI:=St->Hp->(It->Hp->Prop)->Prop
def PIE (X:Cx) (Z:List (dL×Obj)) (σ:St) (tg:ga) (R:It->Hp->Prop) (ì:bm) (s2:ce):Prop:=
 ∃(it:dL) (fp:List dL) (tn:Nat->lw->Prop) (J:It) (H':Hp),ì=.ref it/\Inv X Z σ H' s2/\Turn X.prog X.w X.K tg J fp it tn/\tn 0 s2.heap/\(∀b∈fp,uS X Z H' b)/\R J H'
def PI (X:Cx) (tg iter:ga) (wi:TI):Prop:=
 ∀(Z:List (dL×Obj)) (s:ce) (σ:St) (H:Hp) (R:It->Hp->Prop),Inv X Z σ H s->wi σ H R->
  d4 (d5 X.prog X.w) X.A (lm iter X.env) (λv s1=>d4 (d5 X.prog X.w) X.A (pyIter v) (PIE X Z σ tg R) X.xe s1) X.xe s
def sU {M:Model}{A:kw}{E:bm->ce->Prop}{s:ce}{tg:ga}{it:dL}{u:bm}{o:Obj}{n:String}{vs:Array bm}{Q:Unit->ce->Prop} (ho:s.heap.get? it=ap o) (hc:o.cls=.type n) (hd:o.data=.fields vs)
  (hn:["enumerate","zip","dict_itemiterator","dict_reverseitemiterator","odict_iterator","itertools.zip_longest","itertools.pairwise"].contains n=false) (hQ:Q () s):d4 M A (GT tg (.ref it) u) Q E s:=by
 unfold GT;cases tg <;> first
  | exact Af hQ
  | (cases u <;> first
    | exact Af hQ
    | (
      refine Aa (wpAny_load ho ?_);rw [hc,hd];show d4 M A (if (["enumerate","zip","dict_itemiterator","dict_reverseitemiterator","odict_iterator","itertools.zip_longest","itertools.pairwise"].contains n&&vs[0]?==ap (wv _))=true then _ else _) Q E s;rw [if_neg (by intro h;rw [hn,Fd] at h;cases h)];exact Af hQ))
def Itl (K:Ab) (a:dL):It:=
 ⟨λi H=>∃xs x,dq K H a xs/\xs[i]?=ap x,λi H x H'=>H'=H/\∀xs,dq K H a xs->xs[i]?=ap x,λi H=>∃xs,dq K H a xs/\xs.length<=i⟩
def Itt (K:Ab) (a:dL):It:=
 ⟨λi H=>∃xs x,d7 K H a xs/\xs[i]?=ap x,λi H x H'=>H'=H/\∀xs,d7 K H a xs->xs[i]?=ap x,λi H=>∃xs,d7 K H a xs/\xs.length<=i⟩
def Itr (lo:Int) (n:Nat):It:=⟨λi _=>i < n,λi H x H'=>H'=H/\x=.int (lo+i),λi _=>n<=i⟩
def J0 {P:f8}{w:lc}{K:Ab}{tg:ga} (a it:dL):Turn P w K tg (Itl K a) [it] it (λi h=>h.IsListIter it a i) where
 mem:=by simp
 obj:=λi h st b hb=>by
  have e:b=it:=by simpa using hb
  subst e;obtain⟨o,e,c,d⟩:=st;exact⟨o,e,λv z=>by rw [d] at z;cases z⟩
 keep:=λi h h' st k=>st.at λo e=>k it (by simp) o e
 item:=by
  intro X hP hw hK hc i Z s σ H E I hf st hg;subst hP hw hK;obtain⟨xs,x,hq,hx⟩:=hg;obtain⟨ay,rv,p,hz⟩:=I.list hq;obtain⟨u,hu,ru⟩:=rv.get hx;obtain⟨f0,f1,f2,f3,f4,f5⟩:=hf it (by simp);refine wpAny_pyNext_list_item st p.isList (x:=u) (by simpa using hu) λh' nt sb=>?_;have I1:Inv X Z σ H {s with heap:=h'}:=I.turned (t':=s.toks) (λb o hb e=>(sb.2 b hb).trans e) f0 f1 f3 f4 f5;obtain⟨o,e,c,d⟩:=id nt;exact⟨u,rfl,sU (s:={s with heap:=h'}) e c d (by decide) ⟨x,H,I1,ru,⟨rfl,λys hy=>by rw [I.zm hy hq];exact hx⟩,nt,λb hb=>(hf b hb).1⟩⟩
 done:=by
  intro X hP hw hK hc i Z s σ H E I hf st hg;subst hP hw hK;obtain⟨xs,hq,hx⟩:=hg;obtain⟨ay,rv,p,hz⟩:=I.list hq;obtain⟨f0,f1,f2,f3,f4,f5⟩:=hf it (by simp);have hl:=rv.length;exact wpAny_pyNext_list_end (I.ok.hd hc) st p.isList (by simp;omega) λh' eb=>⟨rfl,I.turned (t':=s.toks) (λb o hb e=>eb b o hb e) f0 f1 f3 f4 f5⟩
 self:=λ_ _ _ _ _ st h=>wpAny_pyIter_listiter st h
def Gi {P:f8}{w:lc}{K:Ab}{tg:ga} (a it:dL):Turn P w K tg (Itt K a) [it] it (λi h=>h.IsTupleIter it a i) where
 mem:=by simp
 obj:=λi h st b hb=>by
  have e:b=it:=by simpa using hb
  subst e;obtain⟨o,e,c,d⟩:=st;exact⟨o,e,λv z=>by rw [d] at z;cases z⟩
 keep:=λi h h' st k=>st.at λo e=>k it (by simp) o e
 item:=by
  intro X hP hw hK hc i Z s σ H E I hf st hg;subst hP hw hK;obtain⟨xs,x,hq,hx⟩:=hg;obtain⟨ay,rv,p,hz⟩:=I.tuple hq;obtain⟨u,hu,ru⟩:=rv.get hx;obtain⟨f0,f1,f2,f3,f4,f5⟩:=hf it (by simp);refine wpAny_pyNext_tuple_item st (show s.heap.IsTuple a ay.toArray from p) (x:=u) (by simpa using hu) λh' nt sb=>?_;have I1:Inv X Z σ H {s with heap:=h'}:=I.turned (t':=s.toks) (λb o hb e=>(sb.2 b hb).trans e) f0 f1 f3 f4 f5;obtain⟨o,e,c,d⟩:=id nt;exact⟨u,rfl,sU (s:={s with heap:=h'}) e c d (by decide) ⟨x,H,I1,ru,⟨rfl,λys hy=>by rw [I.lS hy hq];exact hx⟩,nt,λb hb=>(hf b hb).1⟩⟩
 done:=by
  intro X hP hw hK hc i Z s σ H E I hf st hg;subst hP hw hK;obtain⟨xs,hq,hx⟩:=hg;obtain⟨ay,rv,p,hz⟩:=I.tuple hq;obtain⟨f0,f1,f2,f3,f4,f5⟩:=hf it (by simp);have hl:=rv.length;exact wpAny_pyNext_tuple_end (I.ok.hd hc) st (show s.heap.IsTuple a ay.toArray from p) (by simp;omega) λh' eb=>⟨rfl,I.turned (t':=s.toks) (λb o hb e=>eb b o hb e) f0 f1 f3 f4 f5⟩
 self:=λ_ _ _ _ _ st h=>wpAny_pyIter_tupleiter st h
def Gk {P:f8}{w:lc}{K:Ab}{tg:ga} (it:dL) (lo:Int) (n:Nat):Turn P w K tg (Itr lo n) [it] it (λi h=>IsRangeIter h it (lo+(i:Nat)*1) ((n:Int)-(i:Nat)) 1) where
 mem:=by simp
 obj:=λi h st b hb=>by
  have e:b=it:=by simpa using hb
  subst e;exact⟨_,st,λv z=>by
   have z':=z;cases z'⟩
 keep:=λi h h' st k=>k it (by simp) _ st
 item:=by
  intro X hP hw hK hc i Z s σ H E I hf st hg;subst hP hw hK;obtain⟨f0,f1,f2,f3,f4,f5⟩:=hf it (by simp);have W:=Walks.range (prog:=X.prog) (w:=X.w) (I.ok.hd hc) it lo 1 n;refine W.item i s _ _ hg st λv h' tk hv nt kk=>?_;obtain⟨t,rfl⟩:=hv;have I1:Inv X Z σ H {s with heap:=h',toks:=tk}:=I.turned (λb o hb e=>kk b o (by simpa using hb) e) f0 f1 f3 f4 f5;refine⟨_,rfl,sU (s:={s with heap:=h',toks:=tk}) (n:="range_iterator") nt rfl rfl (by decide) ⟨.int (lo+i),H,I1,⟨t,?_⟩,⟨rfl,rfl⟩,nt,λb hb=>(hf b hb).1⟩⟩;rw [Int.mul_one]
 done:=by
  intro X hP hw hK hc i Z s σ H E I hf st hg;obtain⟨f0,f1,f2,f3,f4,f5⟩:=hf it (by simp);exact wpAny_pyNext_range_end (I.ok.hd hc) st (by have:n<=i:=hg;omega) λh' eb=>⟨rfl,I.turned (t':=s.toks) (λb o hb e=>eb b o hb e) f0 f1 f3 f4 f5⟩
 self:=λ_ _ _ _ _ st h=>wpAny_pyIter_rangeiter st h
section
variable {X:Cx}{tg:ga}
def Mz {Z:List (dL×Obj)}{σ:St}{H:Hp}{s:ce}{R:It->Hp->Prop}{E:bm->ce->Prop}{lo hi:Int}{t u v:Tok}{tk:Nat} (I:Inv X Z σ H s) (h1:-(2 ^ 62)<=lo) (h2:lo < 2 ^ 62) (h3:-(2 ^ 62)<=hi) (h4:hi < 2 ^ 62)
  (q:R (Itr lo (hi-lo).toNat) H):d4 (d5 X.prog X.w) X.A (pyIter (.ref s.heap.objs.size)) (PIE X Z σ tg R) E {s with heap:=s.heap.push {cls:=.type "range",data:=.fields #[.int lo t,.int hi u,.int 1 v]},toks:=tk}:=by
 refine wpAny_pyIter_range (IsRange.new ..) (small_one h1 h2 h3 h4) ?_;have I1:Inv X Z σ H {s with heap:=s.heap.push {cls:=.type "range",data:=.fields #[.int lo t,.int hi u,.int 1 v]},toks:=tk}:=I.kept λb o e=>Ai _ e;refine⟨(s.heap.push {cls:=.type "range",data:=.fields #[.int lo t,.int hi u,.int 1 v]}).objs.size,[(s.heap.push {cls:=.type "range",data:=.fields #[.int lo t,.int hi u,.int 1 v]}).objs.size],_,_,H,rfl,
  I1.kept (t':=tk) λb o e=>Ai _ e,Gk _ lo (hi-lo).toNat,?_,λb hb=>?_,q⟩
 ·have e1:lo+((0:Nat):Int)*1=lo:=by simp
  have e2:(((hi-lo).toNat:Nat):Int)-((0:Nat):Int)=Builtin.Range.rangeSize lo hi 1:=by rw [rangeSize_one];split <;> omega
  show IsRangeIter _ _ (lo+((0:Nat):Int)*1) ((((hi-lo).toNat:Nat):Int)-((0:Nat):Int)) 1;rw [e1,e2];exact Aq _ rfl
 ·have e:b=(s.heap.push {cls:=.type "range",data:=.fields #[.int lo t,.int hi u,.int 1 v]}).objs.size:=by simpa using hb
  subst e;exact I1.xE (Ao _) (I1.bN.fresh (Ao _))
def Zw (ta:TA):TI:=λσ H R=>ta σ H λvs H1=>∃j:Int,vs=[.int j]/\-(2 ^ 62)<=j/\j < 2 ^ 62/\R (Itr 0 j.toNat) H1
def Kk {a:ga}{ta:TA}{p pos:Pos} (hg:Gl X "range") (hm:X.mg "range"=bv) (ha:PA X [a] ta) (hs:ci [a] X.env=[(false,lm a X.env)]:=by rfl):PI X tg (.Call (.Name "range" p) [a] [] pos) (Zw ta):=by
 intro Z s σ H R I h;refine Call_ (kd I hg hm boot_range (Bi (bH (ha pos Z s σ H _ I h) λus s1 ⟨vs,H1,I1,r1,q1⟩=>?_) hs rfl));obtain⟨j,e,q1,q2,q⟩:=q1;subst e;cases r1 with
 | cons r rr=>
  cases rr;obtain⟨t,rfl⟩:=r;exact call_range_1 (Mz I1 ∅ ∅ q1 q2 (by simpa using q))
def acj (wi:TI) (g:TG) (tb:TS):TS:=λD σ H=>wi σ H λJ H1=>∃W:Nat->Nat->St->Hp->Prop,(∃m,W 0 m σ H1)/\∀i m σ H,W i m σ H->
 (J.stop i H/\D.nx σ H)\/(J.go i H/\∃N:St->Hp->Prop,(∀σ' H',N σ' H'->∃m',m' < m/\W (i+1) m' σ' H')/\∀x H',J.SU i H x H'->g x σ H' λσ2 H2=>tb {D with nx:=N,ct:=N,bk:=D.nx} σ2 H2)
def o7 (fp:List dL) (h:lw):List (dL×Obj):=fp.filterMap λb=>(h.get? b).map λo=>(b,o)
def j9 {fp:List dL}{h:lw}{b:dL}{o:Obj} (hb:b∈fp) (e:h.get? b=ap o):(b,o)∈o7 fp h:=CY.mpr ⟨b,hb,by rw [e];rfl⟩
def Ko {fp:List dL}{h:lw}{p:dL×Obj} (hp:p∈o7 fp h):p.1∈fp/\h.get? p.1=ap p.2:=by
 obtain⟨b,hb,e⟩:=CY.mp hp;cases q:h.get? b with
 | none=>rw [q] at e;cases e
 | some o=>
  rw [q] at e;have e':=Option.some.inj e;subst e';exact⟨hb,q⟩
def Inv.pinned {Z:List (dL×Obj)}{σ:St}{H:Hp}{s:ce}{fp:List dL} (I:Inv X Z σ H s) (hf:∀b∈fp,uS X Z H b) (ho:∀b∈fp,∃o,s.heap.get? b=ap o/\∀v,o.data≠.cell v):Inv X (Z++o7 fp s.heap) σ H s:=
 I.IV λp hp=>(A5.mp hp).elim (λz=>I.pin p (AM _ z)) λz=>by
  obtain⟨hb,e⟩:=Ko z;obtain⟨f0,f1,f2,_⟩:=hf p.1 hb;obtain⟨o,e',d⟩:=ho p.1 hb;rw [e] at e';cases e';exact⟨e,f0,f1,f2,d⟩
def Inv.kX {Z pl:List (dL×Obj)}{σ:St}{H:Hp}{s:ce} (I:Inv X (Z++pl) σ H s):Inv X Z σ H s:=I.IV λp hp=>I.pin p (AM _ (BU _ hp))
def MP {iter:ga}{body:List ul}{wi:TI}{g:TG}{tb:TS}{pos:Pos} (hp:EQ (d5 X.prog X.w) X.A X.env X.xe) (hc:X.calm=true) (hi:PI X tg iter wi) (hg:PG X tg g) (hb:rg X body tb)
  (hs:∀x,ii iter X.env x=pure x:=by intro _;rfl):PS X (.For tg iter body [] pos) (acj wi g tb):=by
 intro Z s σ H D I h;refine wpAny_For (bH (hi Z s σ H _ I h) λv s1 h1=>bH h1 λì s2 h2=>?_) hs;obtain⟨it,fp,tn,J,H2,e,I2,T,J7,f2,W,⟨m0,w0⟩,turn⟩:=h2;subst e;have UA:∀{H':Hp},(∀b∈fp,H' b=bv)->∀b∈fp,uS X Z H' b:=λhn b hb=>⟨hn b hb,(f2 b hb).2⟩;refine codeAny_forLoop_any (λn s'=>∃i σ' H',Inv X Z σ' H' s'/\tn i s'.heap/\(∀b∈fp,H' b=bv)/\W i n σ' H') ?_ m0 ⟨0,σ,H2,I2,J7,λb hb=>(f2 b hb).1,w0⟩;rintro n s3 ⟨i,σ3,H3,I3,Yq,Z7,w3⟩;rcases turn i n σ3 H3 w3 with⟨stop,qn⟩ | ⟨go,N,hN,step⟩
 ·refine Cg hp (bH (T.done X rfl rfl rfl hc i Z s3 σ3 H3 X.xe I3 (UA Z7) Yq stop) λr s4 ⟨hr,I4⟩=>?_);subst hr;exact DK ⟨σ3,H3,I4,qn⟩
 ·refine Cg hp (bH (T.item X rfl rfl rfl hc i Z s3 σ3 H3 X.xe I3 (UA Z7) Yq go) λr s4 ⟨u,hr,h4⟩=>?_);subst hr;refine Cg hp (bH h4 λ_ s5 ⟨x,H5,I5,r5,y5,UB,Ĩ⟩=>?_);have Ĭ:=I5.pinned (UA Ĩ) (T.obj _ _ UB);refine Cg hp (bH (hg _ s5 σ3 H5 x u _ Ĭ r5 (step x H5 y5)) λ_ s6 ⟨σ6,H6,I6,q6⟩=>?_);refine Cg hp (bH (hb _ s6 σ6 H6 _ I6 q6) λf s7 q7=>?_);have again:∀{σ7:St}{H7:Hp},Inv X (Z++o7 fp s5.heap) σ7 H7 s7->N σ7 H7->∃m,m < n/\∃i σ' H',Inv X Z σ' H' s7/\tn i s7.heap/\(∀b∈fp,H' b=bv)/\W i m σ' H':=λ{σ7 H7} I7 n7=>by
   obtain⟨m',hm,w7⟩:=hN σ7 H7 n7;refine⟨m',hm,i+1,σ7,H7,I7.kX,T.keep _ _ _ UB λb hb o e=>(I7.pin (b,o) (AM _ (AM _ (j9 hb e)))).1,λb hb=>?_,w7⟩;obtain⟨o,e,d⟩:=T.obj _ _ UB b hb;exact (I7.pin (b,o) (AM _ (AM _ (j9 hb e)))).2.1
  cases f with
  | next=>obtain⟨σ7,H7,I7,n7⟩:=q7;exact again I7 n7
  | cont=>obtain⟨σ7,H7,I7,n7⟩:=q7;exact again I7 n7
  | brk=>obtain⟨σ7,H7,I7,q7⟩:=q7;exact⟨σ7,H7,I7.kX,q7⟩
  | ret v=>obtain⟨x7,σ7,H7,I7,r7,q7⟩:=q7;exact⟨x7,σ7,H7,I7.kX,r7,q7⟩
end
abbrev R2:=V->V->Hp->VK->Prop
def iA (X:Cx) (f:bm->bm->Sem bm) (r:R2):Prop:=
 ∀(Z:List (dL×Obj)) (s:ce) (σ:St) (H:Hp) (x y:V) (v u:bm) (Q:VK),Inv X Z σ H s->RelV x v->RelV y u->r x y H Q->
  d4 (d5 X.prog X.w) X.A (f v u) (EP X Z σ Q) X.xe s
def UnR (X:Cx) (f:bm->Sem bm) (r:V->Hp->VK->Prop):Prop:=
 ∀(Z:List (dL×Obj)) (s:ce) (σ:St) (H:Hp) (x:V) (v:bm) (Q:VK),Inv X Z σ H s->RelV x v->r x H Q->
  d4 (d5 X.prog X.w) X.A (f v) (EP X Z σ Q) X.xe s
def bZ (X:Cx) (f:bm) (r:List V->Hp->VK->Prop):Prop:=
 ∀(Z:List (dL×Obj)) (s:ce) (σ:St) (H:Hp) (xs:List V) (us:List bm) (Q:VK),Inv X Z σ H s->Vals xs us->r xs H Q->
  d4 (d5 X.prog X.w) X.A (call f us) (EP X Z σ Q) X.xe s
def aeb (X:Cx) (r:V->Hp->(Bool->Hp->Prop)->Prop):Prop:=
 ∀(Z:List (dL×Obj)) (s:ce) (σ:St) (H:Hp) (x:V) (v:bm) (Q:Bool->Hp->Prop),Inv X Z σ H s->RelV x v->r x H Q->
  d4 (d5 X.prog X.w) X.A (truthy v) (TP X Z σ Q) X.xe s
def S0 (r:R2) (ta tb:TE):TE:=λσ H Q=>ta σ H λx H1=>tb σ H1 λy H2=>r x y H2 Q
def tUn (r:V->Hp->VK->Prop) (ta:TE):TE:=λσ H Q=>ta σ H λx H1=>r x H1 Q
def rI (C:Int->Int->Prop) (g:Int->Int->V):R2:=λx y H Q=>∃i j,x=.int i/\y=.int j/\C i j/\Q (g i j) H
def Qs (g:Int->Int->V):R2:=λx y H Q=>∃i j,x=.int i/\y=.int j/\Q (g i j) H
def rU (g:Int->V):V->Hp->VK->Prop:=λx H Q=>∃i,x=.int i/\Q (g i) H
section
variable {X:Cx}{a b:ga}{ta tb:TE}{pos:Pos}
def WU (ha:PE X a ta) (hb:PE X b tb) {Z:List (dL×Obj)}{s:ce}{σ:St}{H:Hp}{R:V->V->Hp->Prop} (I:Inv X Z σ H s)
  (h:ta σ H λx H1=>tb σ H1 λy H2=>R x y H2) {Q:bm->ce->Prop}{f:bm->bm->Sem bm}
  (hf:∀v u s2 x y H2,Inv X Z σ H2 s2->RelV x v->RelV y u->R x y H2->d4 (d5 X.prog X.w) X.A (f v u) Q X.xe s2) :
  d4 (d5 X.prog X.w) X.A (lm a X.env) (λv s₁=>d4 (d5 X.prog X.w) X.A (lm b X.env) (λu s₂=>d4 (d5 X.prog X.w) X.A (f v u) Q X.xe s₂) X.xe s₁) X.xe s:=by
 refine bH (ha Z s σ H _ I h) λv s1 ⟨x,H1,I1,r1,q1⟩=>?_;refine bH (hb Z s1 σ H1 _ I1 q1) λu s2 ⟨y,H2,I2,r2,q2⟩=>?_;exact hf v u s2 x y H2 I2 r1 r2 q2
def IW {op:Operator}{r:R2} (ho:iA X (tz op) r) (ha:PE X a ta) (hb:PE X b tb):PE X (.BinOp a op b pos) (S0 r ta tb):=by
 intro Z s σ H Q I h;exact wpAny_BinOp (WU ha hb I h λv u s2 x y H2 I2 rx ry q=>ho Z s2 σ H2 x y v u Q I2 rx ry q)
def YS {op:UnaryOp}{r:V->Hp->VK->Prop} (ho:UnR X (unaryOp op) r) (ha:PE X a ta):PE X (.UnaryOp op a pos) (tUn r ta):=by
 intro Z s σ H Q I h;exact UnaryOp_ (bH (ha Z s σ H _ I h) λv s1 ⟨x,H1,I1,r1,q1⟩=>ho Z s1 σ H1 x v Q I1 r1 q1)
def opI {f:bm->bm->Sem bm}{C:Int->Int->Prop}{g:Int->Int->Int}
  (rule:∀(i j:Int) (t u:Tok) (s:ce) (Q:bm->ce->Prop) (E:bm->ce->Prop),C i j->Q (.int (g i j) s.toks) {s with toks:=s.toks+1}->d4 (d5 X.prog X.w) X.A (f (.int i t) (.int j u)) Q E s) :
  iA X f (rI C λi j=>.int (g i j)):=by
 intro Z s σ H x y v u Q I rx ry h;obtain⟨i,j,rfl,rfl,hc,q⟩:=h;obtain⟨t,rfl⟩:=rx;obtain⟨t',rfl⟩:=ry;exact rule i j t t' s _ _ hc ⟨.int (g i j),H,I.tok _,⟨_,rfl⟩,q⟩
def Y4 {f:bm->bm->Sem bm}{g:Int->Int->Int}
  (rule:∀(i j:Int) (t u:Tok) (s:ce) (Q:bm->ce->Prop) (E:bm->ce->Prop),Q (.int (g i j) s.toks) {s with toks:=s.toks+1}->d4 (d5 X.prog X.w) X.A (f (.int i t) (.int j u)) Q E s) :
  iA X f (Qs λi j=>.int (g i j)):=by
 intro Z s σ H x y v u Q I rx ry h;obtain⟨i,j,rfl,rfl,q⟩:=h;obtain⟨t,rfl⟩:=rx;obtain⟨t',rfl⟩:=ry;exact rule i j t t' s _ _ ⟨.int (g i j),H,I.tok _,⟨_,rfl⟩,q⟩
def QX {f:bm->bm->Sem bm}{g:Int->Int->Bool}
  (rule:∀(i j:Int) (t u:Tok) (s:ce) (Q:bm->ce->Prop) (E:bm->ce->Prop),Q (.bool (g i j)) s->d4 (d5 X.prog X.w) X.A (f (.int i t) (.int j u)) Q E s) :
  iA X f (Qs λi j=>.bl (g i j)):=by
 intro Z s σ H x y v u Q I rx ry h;obtain⟨i,j,rfl,rfl,q⟩:=h;obtain⟨t,rfl⟩:=rx;obtain⟨t',rfl⟩:=ry;exact rule i j t t' s _ _ ⟨.bl (g i j),H,I,rfl,q⟩
def SS (i j:Int):Prop:=0 < j/\j < 1073741824
def Pn (i j:Int):Prop:=0<=j/\j<=1000000/\i.natAbs < 2 ^ 64
def SR (i j:Int):Prop:=(-(2 ^ 64) < i/\i < 2 ^ 64)\/(-(2 ^ 64) < j/\j < 2 ^ 64)
def SR.ok {i j:Int} (h:SR i j):wE i j:=by
 rcases h with⟨h1,h2⟩ | ⟨h1,h2⟩
 ·exact .of_left (intBits_le_64 h1 h2)
 ·exact .of_right (intBits_le_64 h1 h2)
def Vn:iA X (tz .Add) (Qs λi j=>.int (i+j)):=Y4 λ_ _ _ _ _ _ _ q=>add_int q
def Ve:iA X (tz .Sub) (Qs λi j=>.int (i-j)):=Y4 λ_ _ _ _ _ _ _ q=>sub_int q
def QR:iA X (tz .FloorDiv) (rI SS λi j=>.int (i / j)):=opI λi j _ _ _ _ _ hc q=>by
 have h1:(0:Int) < j:=hc.1;have h2:j < 1073741824:=hc.2;exact floordiv_int ∅ (by rw [Int.fdiv_eq_ediv_of_nonneg i ∅];exact q) (.inl (PyProof.noPylong_small ∅))
def Vi:iA X (tz .Mod) (rI (λ_ j=>0 < j) λi j=>.int (i % j)):=opI λi j _ _ _ _ _ hc q=>by
 have h1:(0:Int) < j:=hc;exact mod_int' ∅ (by rw [Int.fmod_eq_emod_of_nonneg i ∅];exact q)
def Vg:iA X (tz .Pow) (rI Pn λi j=>.int (i ^ j.toNat)):=opI λ_ _ _ _ _ _ _ hc q=>pow_int_small hc.1 hc.2.1 hc.2.2 q
def unI {f:bm->Sem bm}{g:Int->Int}
  (rule:∀(i:Int) (t:Tok) (s:ce) (Q:bm->ce->Prop) (E:bm->ce->Prop),Q (.int (g i) s.toks) {s with toks:=s.toks+1}->d4 (d5 X.prog X.w) X.A (f (.int i t)) Q E s) :
  UnR X f (rU λi=>.int (g i)):=by
 intro Z s σ H x v Q I rx h;obtain⟨i,rfl,q⟩:=h;obtain⟨t,rfl⟩:=rx;exact rule i t s _ _ ⟨.int (g i),H,I.tok _,⟨_,rfl⟩,q⟩
def Up:UnR X (unaryOp .USub) (rU λi=>.int (-i)):=unI λ_ _ _ _ _ q=>neg_int q
end
section
variable {X:Cx}{a b c:ga}{ta tb tc:TE}{pos:Pos}
def Oe {Z:List (dL×Obj)}{σ:St}{H:Hp}{s:ce}{Q:VK}{k k':Bool} (I:Inv X Z σ H s) (q:Q (.bl k) H) (e:k=k'):EP X Z σ Q (.bool k') s:=by
 subst e;exact⟨.bl k,H,I,rfl,q⟩
def Y0:iA X (nn .Lt) (Qs λi j=>.bl (decide (i < j))):=QX λ_ _ _ _ _ _ _ q=>lt_int q
def Y1:iA X (nn .LtE) (Qs λi j=>.bl (decide (i<=j))):=QX λ_ _ _ _ _ _ _ q=>le_int q
def Y2:iA X (nn .Gt) (Qs λi j=>.bl (decide (j < i))):=QX λ_ _ _ _ _ _ _ q=>gt_int q
def Y3:iA X (nn .GtE) (Qs λi j=>.bl (decide (j<=i))):=QX λ_ _ _ _ _ _ _ q=>ge_int q
def Km:iA X (nn .In) (λx y H Q=>∃i j,x=.str i/\y=.str j/\Q (.bl (!(Builtin.Str.occurrences j i 0 j.length 1).isEmpty)) H):=by
 intro Z s σ H x y v u Q I rx ry h;obtain⟨i,j,rfl,rfl,q⟩:=h;obtain⟨t,rfl⟩:=rx;obtain⟨t',rfl⟩:=ry;exact in_str (Oe I q rfl)
def Vj:iA X (nn .Is) (λx y H Q=>y=.aX/\Q (.bl (decide (x=.aX))) H):=by
 intro Z s σ H x y v u Q I rx ry h;obtain⟨rfl,q⟩:=h;cases ry;refine is_none_gen (Oe I q ?_);cases x <;> first
  | (cases rx;rfl)
  | (obtain⟨t,rfl⟩:=rx;rfl)
def iA.or {f:bm->bm->Sem bm}{r r':R2} (h:iA X f r) (h':iA X f r'):iA X f (λx y H Q=>r x y H Q\/r' x y H Q):=by
 intro Z s σ H x y v u Q I rx ry q;rcases q with q | q
 ·exact h Z s σ H x y v u Q I rx ry q
 ·exact h' Z s σ H x y v u Q I rx ry q
def mU (b:ga) {op:CmpOp} (h:op≠.In:=by decide) (h2:op≠.NotIn:=by decide):pc op b=false:=by
 have e1:(op==CmpOp.In)=false:=by cases op <;> first | rfl | exact absurd rfl h
 have e2:(op==CmpOp.NotIn)=false:=by cases op <;> first | rfl | exact absurd rfl h2
 cases b <;> simp [pc,e1,e2]
def qJ {op:CmpOp}{r:R2} (ho:iA X (nn op) r) (ha:PE X a ta) (hb:PE X b tb) (hm:pc op b=false):PE X (.Compare a [op] [b] pos) (S0 r ta tb):=by
 intro Z s σ H Q I h;exact wpAny_Compare1 (WU ha hb I h λv u s2 x y H2 I2 rx ry q=>ho Z s2 σ H2 x y v u Q I2 rx ry q) hm
def SY (t:TE):TT:=λσ H Q=>t σ H λx H'=>∃k,x=.bl k/\Q k H'
def qI {op:CmpOp}{r:R2} (ho:iA X (nn op) r) (ha:PE X a ta) (hb:PE X b tb) (hm:pc op b=false):PT X (.Compare a [op] [b] pos) (SY (S0 r ta tb)):=by
 intro Z s σ H Q I h;refine wpAny_isTrue_Compare1 (bH (ha Z s σ H _ I h) λv s1 ⟨x,H1,I1,r1,q1⟩=>bH (hb Z s1 σ H1 _ I1 q1) λu s2 ⟨y,H2,I2,r2,q2⟩=>
  bH (ho Z s2 σ H2 x y v u _ I2 r1 r2 q2) λc s3 ⟨z,H3,I3,r3,k,e,q3⟩=>?_) hm
 subst e;cases r3;exact Bn ⟨H3,I3,q3⟩
def Gu (r r':R2) (ta tb tc:TE):TE:=λσ H Q=>ta σ H λx H1=>tb σ H1 λy H2=>r x y H2 λz H3=>∃k,z=.bl k/\
 (if k=true then tc σ H3 λw' H4=>r' y w' H4 Q else Q (.bl false) H3)
def M7 {op GI:CmpOp}{r r':R2} (ho:iA X (nn op) r) (NV:iA X (nn GI) r') (ha:PE X a ta) (hb:PE X b tb) (hc:PE X c tc)
  (hm:lastMarks [op,GI] [b,c]=false:=by with_unfolding_all rfl):PE X (.Compare a [op,GI] [b,c] pos) (Gu r r' ta tb tc):=by
 intro Z s σ H Q I h;refine Compare_chain (bH (ha Z s σ H _ I h) λv s1 ⟨x,H1,I1,r1,q1⟩=>chain_link (bH (hb Z s1 σ H1 _ I1 q1) λu s2 ⟨y,H2,I2,r2,q2⟩=>
  bH (ho Z s2 σ H2 x y v u _ I2 r1 r2 q2) λd s3 ⟨z,H3,I3,r3,k,e,q3⟩=>?_)) hm
 subst e;cases r3;refine Bn ?_;cases k with
 | false=>exact ite_ff ⟨.bl false,H3,I3,rfl,q3⟩
 | true=>exact ite_tt (chain_last (bH (hc Z s3 σ H3 _ I3 q3) λw' s4 ⟨z',H4,I4,r4,q4⟩=>NV Z s4 σ H4 y z' u w' Q I4 r2 r4 q4))
def MM {op GI:CmpOp}{r r':R2} (ho:iA X (nn op) r) (NV:iA X (nn GI) r') (ha:PE X a ta) (hb:PE X b tb) (hc:PE X c tc)
  (hm:lastMarks [op,GI] [b,c]=false:=by with_unfolding_all rfl):PT X (.Compare a [op,GI] [b,c] pos) (SY (Gu r r' ta tb tc)):=by
 intro Z s σ H Q I h;refine isTrue_chain (bH (ha Z s σ H _ I h) λv s1 ⟨x,H1,I1,r1,q1⟩=>test_link (bH (hb Z s1 σ H1 _ I1 q1) λu s2 ⟨y,H2,I2,r2,q2⟩=>
  bH (ho Z s2 σ H2 x y v u _ I2 r1 r2 q2) λd s3 ⟨z,H3,I3,r3,k,e,q3⟩=>?_)) hm
 subst e;cases r3;refine Bn ?_;cases k with
 | false=>
  obtain⟨k',e',q'⟩:=q3;cases e';exact ite_ff ⟨H3,I3,q'⟩
 | true=>
  refine ite_tt (test_last (bH (hc Z s3 σ H3 _ I3 q3) λw' s4 ⟨z',H4,I4,r4,q4⟩=>bH (NV Z s4 σ H4 y z' u w' _ I4 r2 r4 q4) λd' s5 ⟨z2,H5,I5,r5,k2,e2,q5⟩=>?_));subst e2;cases r5;exact Bn ⟨H5,I5,q5⟩
def W4 (K:Ab) (x:V) (H:Hp) (k:Bool):Prop:=
 match x with
 | .aX=>k=false
 | .bl b=>k=b
 | .int i=>k=(i != 0)
 | .str y=>y.length<=sizeLine/\k=((y.length:Int) != 0)
 | .WR y=>y.size<=sizeLine/\k=((y.size:Int) != 0)
 | .ref p=>(∃xs,dq K H p xs/\k=!xs.isEmpty)\/(∃xs,d7 K H p xs/\k=!xs.isEmpty)\/∃kvs,H p=ap (.dK kvs)/\k=!kvs.isEmpty
 | _=>False
def Hb {κ:Type}{kvs:List (κ×V)}{vs:List (κ×bm)} (r:KV kvs vs):(!vs.isEmpty)=!kvs.isEmpty:=by
 cases r <;> rfl
def sH {xs:List V}{ay:List bm} (r:Vals xs ay):(!ay.toArray.isEmpty)=!xs.isEmpty:=by
 cases r <;> simp
def xg:(sizeLine:Nat) < 2 ^ 63:=by rw [sizeLine_eq];decide
def Ur:aeb X (λx H Q=>∃k,W4 X.K x H k/\Q k H):=by
 intro Z s σ H x v Q I rx h;obtain⟨k,e,q⟩:=h;have hs:=sizeLine_eq;cases x with
 | aX=>
  cases rx;have e':=e;subst e';exact truthy_none ⟨H,I,q⟩
 | bl b=>
  cases rx;have e':=e;subst e';exact Bn ⟨H,I,q⟩
 | int i=>
  obtain⟨t,rfl⟩:=rx;have e':=e;subst e';exact PySem.P.truthy_int ⟨H,I,q⟩
 | str y=>
  obtain⟨t,rfl⟩:=rx;obtain⟨hy,e'⟩:y.length<=sizeLine/\k=((y.length:Int) != 0):=e;subst e';exact PySem.P.truthy_str ∅ ⟨H,I.tok _,q⟩
 | WR y=>
  obtain⟨t,rfl⟩:=rx;obtain⟨hy,e'⟩:y.size<=sizeLine/\k=((y.size:Int) != 0):=e;subst e';exact PySem.W.truthy_bytes ∅ ⟨H,I.tok _,q⟩
 | ref p=>
  cases rx;have e':=e;rcases e' with⟨xs,hx,e'⟩ | ⟨xs,hx,e'⟩ | ⟨kvs,hx,e'⟩
  ·subst e';obtain⟨ay,r,pl,hz⟩:=I.list hx;have Á:=r.length;exact wpAny_truthy_list pl.isList (by simp only [Aj];omega) ⟨H,I.tok _,by rw [sH r];exact q⟩
  ·subst e';obtain⟨ay,r,pl,hz⟩:=I.tuple hx;have Á:=r.length;exact truthy_tuple pl (by simp only [Aj];omega) ⟨H,I.tok _,by rw [sH r];exact q⟩
  ·subst e';obtain⟨hz,hS,vs,r,m⟩:kvs.length<=sizeLine/\(p==u8)=false/\∃vs,KV kvs vs/\s.heap.DictOf (cu X.prog X.w) p vs:=I.bN p _ hx;have Á:=Paired.length r;exact wpAny_truthy_dict hS m ∅ ⟨H,I.tok _,by rw [Hb r];exact q⟩
 | _=>exact (show False from e).elim
def MK (ha:PE X a ta) (he:∀Æ,isTrue a X.env Æ=(do let v <- Æ;Gf a.pos;sB [v] (truthy v))) :
  PT X a (λσ H Q=>ta σ H λx H'=>∃k,W4 X.K x H' k/\Q k H'):=by
 intro Z s σ H Q I h;exact isTrue_plain (bH (ha Z s σ H _ I h) λv s1 ⟨x,H1,I1,r1,q1⟩=>Ur Z s1 σ H1 x v Q I1 r1 q1) (he _)
def GH:iA X (tz .Add) (λx y H Q=>∃i j,x=.str i/\y=.str j/\i.length+j.length<=sizeLine/\Q (.str (i++j)) H):=by
 intro Z s σ H x y v u Q I rx ry h;obtain⟨i,j,rfl,rfl,hz,q⟩:=h;obtain⟨t,rfl⟩:=rx;obtain⟨t',rfl⟩:=ry;exact add_str (λt' tk=>⟨.str (i++j),H,I.tok _,⟨_,rfl⟩,q⟩) hz
def vals1 {x:V}{us:List bm} (r:Vals [x] us):∃u,us=[u]/\RelV x u:=by
 cases r with
 | cons r1 r2=>cases r2;exact⟨_,rfl,r1⟩
def vals2 {x y:V}{us:List bm} (r:Vals [x,y] us):∃u w',us=[u,w']/\RelV x u/\RelV y w':=by
 cases r with
 | cons r1 r2=>
  cases r2 with
  | cons r3 r4=>cases r4;exact⟨_,_,rfl,r1,r3⟩
def O3:bZ X (.builtin "abs") (λxs H Q=>∃i,xs=[.int i]/\Q (.int (if i < 0 then -i else i)) H):=by
 intro Z s σ H xs us Q I r h;obtain⟨i,rfl,q⟩:=h;obtain⟨u,rfl,t,rfl⟩:=vals1 r;exact call_abs_int λu tk=>⟨.int (if i < 0 then -i else i),H,I.tok _,⟨_,rfl⟩,q⟩
def Lw (hc:X.calm=true):bZ X (.builtin "max") (λxs H Q=>∃i j,xs=[.int i,.int j]/\Q (.int (if j > i then j else i)) H):=by
 intro Z s σ H xs us Q I r h;obtain⟨i,j,rfl,q⟩:=h;obtain⟨u,w',rfl,⟨t,rfl⟩,⟨t',rfl⟩⟩:=vals2 r;refine max_two_ints (I.ok.hd hc) λh' tk k=>⟨_,H,I.kept k,?_,q⟩;by_cases hj:j > i
 ·rw [if_pos hj,if_pos hj];exact⟨_,rfl⟩
 ·rw [if_neg hj,if_neg hj];exact⟨_,rfl⟩
def Lv (hc:X.calm=true):bZ X (.builtin "min") (λxs H Q=>∃i j,xs=[.int i,.int j]/\Q (.int (if j < i then j else i)) H):=by
 intro Z s σ H xs us Q I r h;obtain⟨i,j,rfl,q⟩:=h;obtain⟨u,w',rfl,⟨t,rfl⟩,⟨t',rfl⟩⟩:=vals2 r;refine min_two_ints (I.ok.hd hc) λh' tk k=>⟨_,H,I.kept k,?_,q⟩;by_cases hj:j < i
 ·rw [if_pos hj,if_pos hj];exact⟨_,rfl⟩
 ·rw [if_neg hj,if_neg hj];exact⟨_,rfl⟩
def Lz:bZ X (.type "int") (λxs H Q=>(∃i,xs=[.int i]/\Q (.int i) H)\/∃k,xs=[.bl k]/\Q (.int (if k then 1 else 0)) H):=by
 intro Z s σ H xs us Q I r h;rcases h with⟨i,rfl,q⟩ | ⟨k,rfl,q⟩
 ·obtain⟨u,rfl,t,rfl⟩:=vals1 r;exact call_int_int ⟨.int i,H,I,⟨_,rfl⟩,q⟩
 ·obtain⟨u,rfl,r1⟩:=vals1 r;cases r1;exact call_int_bool ⟨.int (if k then 1 else 0),H,I.tok _,⟨_,rfl⟩,q⟩
def aaH (K:Ab) (x:V) (H:Hp) (n:Nat):Prop:=
 match x with
 | .str y=>y.length<=sizeLine/\n=y.length
 | .WR y=>y.size<=sizeLine/\n=y.size
 | .ref p=>(∃xs,dq K H p xs/\n=xs.length)\/∃xs,d7 K H p xs/\n=xs.length
 | _=>False
def O2:bZ X (.builtin "len") (λxs H Q=>∃x n,xs=[x]/\aaH X.K x H n/\Q (.int n) H):=by
 intro Z s σ H xs us Q I r h;obtain⟨x,n,rfl,e,q⟩:=h;obtain⟨u,rfl,rx⟩:=vals1 r;have hs:=sizeLine_eq;cases x with
 | str y=>
  obtain⟨t,rfl⟩:=rx;obtain⟨hy,e'⟩:y.length<=sizeLine/\n=y.length:=e;subst e';exact len_str ∅ ⟨.int _,H,I.tok _,⟨_,rfl⟩,q⟩
 | WR y=>
  obtain⟨t,rfl⟩:=rx;obtain⟨hy,e'⟩:y.size<=sizeLine/\n=y.size:=e;subst e';exact PySem.W.len_bytes ∅ ⟨.int _,H,I.tok _,⟨_,rfl⟩,q⟩
 | ref p=>
  cases rx;have e':=e;rcases e' with⟨xs,hx,e'⟩ | ⟨xs,hx,e'⟩
  ·subst e';obtain⟨ay,r',pl,hz⟩:=I.list hx;have Á:=r'.length;exact Calls.call_len_list pl.isList (by simp only [Aj];omega) ⟨.int xs.length,H,I.tok _,⟨_,by simp only [Aj];rw [Á]⟩,q⟩
  ·subst e';obtain⟨ay,r',pl,hz⟩:=I.tuple hx;have Á:=r'.length;exact len_tuple pl (by simp only [Aj];omega) ⟨.int xs.length,H,I.tok _,⟨_,by simp only [Aj];rw [Á]⟩,q⟩
 | _=>exact (show False from e).elim
end
structure W7 (h:lw) (x dx C:dL) (mA:Str->Option bm):Prop where
 obj:h.get? x=ap (EN C dx)
 ns:h.Ns1 dx mA
 ne:dx≠x
def Kt {h:lw}{dx:dL}{mA:Str->Option bm} (n:h.Ns1 dx mA):∃od,h.get? dx=ap od/\∀name,E4 name od=ap (mA name):=by
 obtain⟨o,es,ep,ho,hd,hk,_,hm⟩:=n;refine⟨o,ho,λname=>?_⟩;have e:=hm name;unfold nsFind findBy at e;rw [<- Array.find?_toList] at e;unfold E4;rw [hd];dsimp only
 split
 ·rename_i y q;rw [q] at e;exact congrArg ap e
 ·rename_i q;rw [q] at e;have a:es.toList.any (·.refKey)=false:=by
   rw [List.any_eq_false];intro y hy;obtain⟨z,t,adw⟩:=hk y (Array.mem_toList_iff.mp hy);simp [DictEntry.refKey,adw]
  have a':¬es.toList.any (·.refKey)=true:=by rw [a];exact AV
  rw [if_neg a'];exact congrArg ap e
def W7.look {h:lw}{x dx C:dL}{mA:Str->Option bm} (I:W7 h x dx C mA):∃od,PySem.W.InstAt h x (EN C dx) C (ap od)/\∀name,E4 name od=ap (mA name):=
 let ⟨od,ho,hl⟩:=Kt I.ns
 ⟨od,⟨I.obj,rfl,rfl,ho⟩,hl⟩
def tY.some_of {v:V}{o:Option bm} (r:tY (ap v) o):∃u,o=ap u/\RelV v u:=by
 cases o with
 | none=>exact (show False from r).elim
 | some u=>exact⟨u,rfl,r⟩
section
variable {P:f8}{w:lc}{H:Hp}{h:lw}{a C dx:dL}{fs:List (Str×V)}
def Rx (bN:mq P w H h) (e:H a=ap (.ins C dx fs)):∃mA,W7 h a dx C mA/\(∀f,tY (fs.lookup f) (mA f))/\PySem.Within mA (fs.map (·.1))/\fs.length<=1000/\H dx=ap (.own a):=by
 obtain⟨d,z,ne,ob,mA,n,r,q⟩:=(show bB P w H h a (.ins C dx fs) from bN a _ e);exact⟨mA,⟨ob,n,ne⟩,r,q,z,d⟩
end
structure Cls (K:Ab) (C:dL):Prop where
 pg:FA K C Str.empty=true
 hd:PySem.W.hasDictIn K C=true
 po:PySem.W.plainOver K C=true
 sa:PySem.W.findIn K (.ref C) "__setattr__"=ap (ap (.builtin "object.__setattr__"))
def Cls.get {K:Ab}{C:dL} (c:Cls K C) (f:Str):FA K C f=true:=c.pg
section
variable {X:Cx}{Z:List (dL×Obj)}{σ:St}{H:Hp}{s:ce}{A:kw}{E:bm->ce->Prop}{Q:bm->ce->Prop}{c:bm}{b:Bool}
inductive mC (K:Ab) (H:Hp):V->bm->Prop where
 | aX:mC K H .aX (.type "NoneType")
 | bl (x:Bool):mC K H (.bl x) (.type "bool")
 | int (i:Int):mC K H (.int i) (.type "int")
 | str (x:Str):mC K H (.str x) (.type "str")
 | Xu (x:UInt64):mC K H (.Xu x) (.type "float")
 | lst {a:dL}{xs:List V} (e:H a=ap (.lst xs)):mC K H (.ref a) (.type "list")
 | cU {a:dL}{o:Obj}{xs:List V} (e:H a=ap (.cU o (.lst xs))):mC K H (.ref a) (.type "list")
 | tup {a:dL}{xs:List V} (e:H a=ap (.tup xs)):mC K H (.ref a) (.type "tuple")
 | dK {a:dL}{kvs:List (Key×V)} (e:H a=ap (.dK kvs)):mC K H (.ref a) (.type "dict")
 | dT {a:dL}{kvs:List (List Key×V)} (e:H a=ap (.dT kvs)):mC K H (.ref a) (.type "dict")
 | ins {a C dx:dL}{fs:List (Str×V)} (e:H a=ap (.ins C dx fs)) (cl:Cls K C) (ha:PySem.W.findIn K (.ref C) "__class__"=ap (ap (.builtin "object.__class__")))
   (hn:PySem.W.specialIn K (.builtin "object.__class__") "__get__"=ap (ap (.builtin "getset_descriptor.__get__"))) (htk:PySem.W.takesIn K (.builtin "object.__class__")=ap true)
   (hm:PySem.W.mroIn K C (.type "object")=ap true):mC K H (.ref a) (.ref C)
def Kz {x:V}{u t:bm} (I:Inv X Z σ H s) (rx:RelV x u) (ty:mC X.K H x t) (e:Bu X.K t c=ap b) (h:∀tk,Q (.bool b) {s with toks:=tk}) :
  d4 (d5 X.prog X.w) A (call (.builtin "isinstance") [u,c]) Q E s:=by
 cases ty with
 | aX=>cases (show u=AY from rx);exact Bf PySem.W.kitx_none I.uy Cd e (λz=>nomatch z) h
 | bl y=>cases (show u=B1 y from rx);exact Bf PySem.W.kitx_bool I.uy Cd e (λz=>nomatch z) h
 | int i=>obtain⟨t,q⟩:=(show ∃t,u=DW i t from rx);cases q;exact Bf PySem.W.kitx_int I.uy Cd e (λz=>nomatch z) h
 | str y=>obtain⟨t,q⟩:=(show ∃t,u=DV y t from rx);cases q;exact Bf PySem.W.kitx_str I.uy Cd e (λz=>nomatch z) h
 | Xu y=>obtain⟨t,q⟩:=(show ∃t,u=Value.float y t from rx);cases q;exact Bf PySem.W.kitx_float I.uy Cd e (λz=>nomatch z) h
 | @lst a xs ea=>
  cases (show u=AB a from rx);obtain⟨_,_,n,_,h1⟩:=(show bB X.prog X.w H s.heap a (.lst xs) from I.bN a _ ea);exact Bf Ec I.uy ⟨_,h1,rfl⟩ e (λz=>nomatch z) h
 | @cU a ob xs ea=>
  cases (show u=AB a from rx);obtain⟨_,_,_,n,_,h1⟩:=(show bB X.prog X.w H s.heap a (.cU ob (.lst xs)) from I.bN a _ ea);exact Bf Ec I.uy ⟨_,h1,rfl⟩ e (λz=>nomatch z) h
 | @tup a xs ea=>
  cases (show u=AB a from rx);obtain⟨_,_,_,p⟩:=(show bB X.prog X.w H s.heap a (.tup xs) from I.bN a _ ea);obtain⟨o,h1,h2,_⟩:=p;exact Bf Fq I.uy ⟨o,h1,h2⟩ e (λz=>nomatch z) h
 | @dK a kvs ea=>
  cases (show u=AB a from rx);obtain⟨_,_,vs,_,p⟩:=(show bB X.prog X.w H s.heap a (.dK kvs) from I.bN a _ ea);obtain⟨o,es,ep,h1,h2,_⟩:=p;exact Bf Ed I.uy ⟨o,h1,h2.1⟩ e (λz=>nomatch z) h
 | @dT a kvs ea=>
  cases (show u=AB a from rx);obtain⟨_,_,xs,_,o,es,ep,h1,h2,_⟩:=(show bB X.prog X.w H s.heap a (.dT kvs) from I.bN a _ ea);exact Bf Ed I.uy ⟨o,h1,h2.1⟩ e (λz=>nomatch z) h
 | @ins a C dx fs ea cl ha hn htk hm=>
  cases (show u=AB a from rx);obtain⟨mA,O,_⟩:=Rx I.bN ea;obtain⟨od,J,_⟩:=O.look;exact Bf (PySem.W.kitx_own (cl.get _) cl.hd ha hn htk hm) I.uy J e (λz=>nomatch z) h
end
structure da (k:Nat) (A:kw):Prop where
 hd:A.handled=bv
 dp:A.depth+3*k+5 < recursionLimit
 un:A.units+16*k+200 < sn
 gd:A.guards=ap []
def da.mono {j k:Nat}{A:kw} (r:da k A) (h:j<=k):da j A:=⟨r.hd,by have:=r.dp;omega,by have:=r.un;omega,r.gd⟩
def da.deeper {k:Nat}{A:kw} (r:da (k+1) A) (env:Env):da k (A.deeper env):=
 ⟨r.hd,by have:=r.dp;show A.depth+1+3*k+5 < _;omega,by have:=r.un;show A.units+3+16*k+200 < _;omega,r.gd⟩
def da.depth {k:Nat}{A:kw} (r:da k A):A.depth < recursionLimit:=by have:=r.dp;omega
def acg:TA:=λ_ H Q=>Q [] H
def Yi (ta:TE) (tr:TA):TA:=λσ H Q=>ta σ H λx H1=>tr σ H1 λxs H2=>Q (x::xs) H2
section
variable {X:Cx}{e:ga}{es:List ga}{te:TE}{t:TA}{pos:Pos}
def cY:PA X [] acg:=λ_ _ _ _ H Q I h=>Cy ⟨[],H,I,.nil,h⟩
def bw (ha:PE X e te) (hr:PA X es t) (hs:ci (e::es) X.env=(false,lm e X.env)::ci es X.env:=by rfl):PA X (e::es) (Yi te t):=by
 intro pos Z s σ H Q I h;rw [hs];refine Cf (bH (ha Z s σ H _ I h) λu s1 ⟨x,H1,I1,r1,q1⟩=>?_);exact bH (hr pos Z s1 σ H1 _ I1 q1) λus s2 ⟨xs,H2,I2,r2,q2⟩=>⟨x::xs,H2,I2,.cons r1 r2,q2⟩
end
abbrev Sp:=List V->Hp->VK->XK->Prop
abbrev LZ:=List Env->Hp->ce->XK->bm->ce->Prop
structure SN (P:f8) (w:lc) (K:Ab) (mg:Str->Option bm) (base:lw) (A:kw) (outer:List Env) (s:ce) (H:Hp):Prop where
 frames:A.frames=ap outer
 mod:Mod K mg base
 bs:∀b o,base.get? b=ap o->s.heap.get? b=ap o/\H b=bv
 T8:base.objs.size<=s.heap.objs.size
 sY:s.heap.FunFrames base outer
 Xq:∀b∈LW outer,H b=bv
 bN:mq P w H s.heap
 bare:GM s.gens
def CE (outer:List Env) (P:f8) (w:lc) (H:Hp) (s:ce) (Q:VK) (u:bm) (s':ce):Prop:=
 ∃v H',s'.os=s.os/\GM s'.gens/\Un (LW outer) [] H H' s.heap s'.heap/\mq P w H' s'.heap/\RelV v u/\Q v H'
def CR (CX:LZ) (outer:List Env) (P:f8) (w:lc) (H:Hp) (s:ce) (Q:VK) (E:XK) (r:Result) (s':ce):Prop:=
 match r with
 | .ok (.ret u)=>CE outer P w H s Q u s'
 | .ok _=>False
 | .error e=>CX outer H s E e s'
structure gj (P:f8) (w:lc) (K:Ab) (mg:Str->Option bm) (base:lw) (CX:LZ) (k:Nat) (f:dL) (fd:sw) (ps:List Str) (sp:Sp):Prop where
 len:∀vs H Q E,sp vs H Q E->vs.length=ps.length
 run:∀(A:kw) (outer:List Env) (s:ce) (H:Hp) (args:Args) (us:List bm) (vs:List V) (Q:VK) (E:XK),da k A->SN P w K mg base A outer s H->BindsTo s fd args (ps.zip us)->Vals vs us->sp vs H Q E->
  GE (d5 P w) A (.call (.ref f) args) (CR CX outer P w H s Q E) s
def gj.imp {P:f8}{w:lc}{K:Ab}{mg:Str->Option bm}{base:lw}{CX:LZ}{k:Nat}{f:dL}{fd:sw}{ps:List Str}{sp sp':Sp} (F:gj P w K mg base CX k f fd ps sp)
  (h:∀vs H Q E,sp' vs H Q E->sp vs H Q E):gj P w K mg base CX k f fd ps sp':=
 ⟨λvs H Q E q=>F.len vs H Q E (h _ _ _ _ q),λA outer s H args us vs Q E hr he hb hv hs=>F.run A outer s H args us vs Q E hr he hb hv (h _ _ _ _ hs)⟩
section
variable {X:Cx}{Z:List (dL×Obj)}{σ:St}{H:Hp}{s s':ce}
def Inv.ad0 (I:Inv X Z σ H s):SN X.prog X.w X.K X.mg X.base X.A X.stack s H:=
 ⟨I.ok.frames,I.ok.mod,I.bs,Bp I.ok.T8 I.sz,I.stack,I.IH,I.bN,I.bare⟩
def Inv.after {Q:VK}{u:bm} (I:Inv X Z σ H s) (h:CE X.stack X.prog X.w H s Q u s'):EP X Z σ Q u s':=by
 obtain⟨v,H',os,bare,un,bN,r,q⟩:=h;obtain⟨hh,g,d,t,os'⟩:=s';obtain rfl:os'=s.os:=os;exact⟨v,H',I.call (h':=hh) (g':=g) (d':=d) (t':=t) (ch:=[]) un bN bare (λb z=>absurd z (by simp)),r,q⟩
end
def Binds (K:Ab) (fd:sw) (ps:List Str) (ds:List bm):Prop:=
 ∀(s:ce) (us:List bm),K.In s.heap->(us++ds).length=ps.length->BindsTo s fd ⟨us,[]⟩ (ps.zip (us++ds))
def Binds.all {K:Ab}{fd:sw}{ps:List Str} (h:∀us:List bm,us.length=ps.length->bindArgs fd ⟨us,[]⟩=pure (ps.zip us)):Binds K fd ps []:=λs us _ hl=>by
 rw [CV] at hl ⊢;exact .of_eq (h us hl)
def Passes (CX:LZ) (X:Cx) (E:XK):Prop:=∀(Z:List (dL×Obj)) (σ:St) (H:Hp) (s:ce) (e:bm) (s':ce),Inv X Z σ H s->CX X.stack H s E e s'->X.xe e s'
section
variable {X:Cx}{CX:LZ}{k:Nat}{f:dL}{fd:sw}{ps:List Str}{sp:Sp}{dvs:List V}{ds:List bm}{E:XK}{e:ga}
def Ms {Z:List (dL×Obj)}{σ:St}{H:Hp}{s:ce}{Q:VK}{us:List bm}{vs:List V} (F:gj X.prog X.w X.K X.mg X.base CX k f fd ps sp) (hr:da k X.A) (hb:Binds X.K fd ps ds) (hd:Vals dvs ds) (hx:Passes CX X E)
  (I:Inv X Z σ H s) (r:Vals vs us) (h:sp (vs++dvs) H Q E):d4 (d5 X.prog X.w) X.A (call (.ref f) us) (EP X Z σ Q) X.xe s:=by
 have r2:Vals (vs++dvs) (us++ds):=r.append hd;have hl:(us++ds).length=ps.length:=by rw [<- r2.length];exact F.len _ _ _ _ h
 refine wpAny_call (codeAny_mono (F.run X.A X.stack s H ⟨us,[]⟩ (us++ds) (vs++dvs) Q E hr I.ad0 (hb s us I.uy hl) r2 h) λr s' hq=>?_);cases r with
 | error e=>exact hx Z σ H s e s' I hq
 | ok fl=>
  cases fl with
  | ret u=>exact I.after hq
  | next=>exact Bm hq
  | brk=>exact Bm hq
  | cont=>exact Bm hq
end
structure ar (N P:List Str) (sc:nw):Prop where
 kind:sc.kind=.function
 co:sc.isCoroutine=false
 gen:sc.isGenerator=false
 nd:N.Nodup
 pre:N.take P.length=P
 par:∀x∈P,sc.names.lookup x=ap .local\/sc.names.lookup x=ap .cell
 Vq:∀y∈sc.names,y.2≠.free
theorem vI {kindOf:Str->Option BT}{x:Str}:∀{binds:List (Str×bm)}{m:Str->Option bm},(∀v,(x,v)∉binds)->bindL kindOf binds m x=m x
 | [],_,_=>rfl
 | (n,v)::r,m,h=>by
  unfold bindL;rw [vI λw hw=>h w (AX _ hw)]
  split
  ·have:x≠n:=by rintro rfl;exact h v Bv
   simp [this]
  ·rfl
theorem vK {kindOf:Str->Option BT}{x:Str}:∀{binds:List (Str×bm)}{m:Str->Option bm},(∀v,(x,v)∉binds)->bindC kindOf binds m x=m x
 | [],_,_=>rfl
 | (n,v)::r,m,h=>by
  unfold bindC;rw [vK λw hw=>h w (AX _ hw)]
  split
  ·rfl
  ·have:x≠n:=by rintro rfl;exact h v Bv
   simp [this]
theorem vJ {kindOf:Str->Option BT}{x:Str}{v:bm}:∀{P:List Str}{vs:List bm}{i:Nat}{m:Str->Option bm},P.Nodup->P[i]?=ap x->vs[i]?=ap v->kindOf x=ap .local->
  bindL kindOf (P.zip vs) m x=ap v
 | [],_,_,_,_,h,_,_=>by simp at h
 | _::_,[],_,_,_,_,h,_=>by simp at h
 | p::P,w::vs,0,m,nd,h1,h2,hk=>by
  simp at h1 h2;subst h1;subst h2;show bindL kindOf ((p,w)::P.zip vs) m p=_;unfold bindL;rw [vI λv hv=>(DM.mp nd).1 (EU hv).1,if_pos hk];simp
 | p::P,w::vs,i+1,m,nd,h1,h2,hk=>by
  show bindL kindOf ((p,w)::P.zip vs) m x=_;unfold bindL;exact vJ (i:=i) (DM.mp nd).2 (by simpa using h1) (by simpa using h2) hk
theorem vL {kindOf:Str->Option BT}{x:Str}{v:bm}:∀{P:List Str}{vs:List bm}{i:Nat}{m:Str->Option bm},P.Nodup->P[i]?=ap x->vs[i]?=ap v->kindOf x≠ap .local->
  bindC kindOf (P.zip vs) m x=ap v
 | [],_,_,_,_,h,_,_=>by simp at h
 | _::_,[],_,_,_,_,h,_=>by simp at h
 | p::P,w::vs,0,m,nd,h1,h2,hk=>by
  simp at h1 h2;subst h1;subst h2;show bindC kindOf ((p,w)::P.zip vs) m p=_;unfold bindC;rw [vK λv hv=>(DM.mp nd).1 (EU hv).1,if_neg hk];simp
 | p::P,w::vs,i+1,m,nd,h1,h2,hk=>by
  show bindC kindOf ((p,w)::P.zip vs) m x=_;unfold bindC;exact vL (i:=i) (DM.mp nd).2 (by simpa using h1) (by simpa using h2) hk
def start (N:List Str) (vs:List V):St:=vs.map ap++Am (N.length-vs.length) bv
def jJ (CX:LZ) (P:f8) (w:lc) (K:Ab) (mg:Str->Option bm) (base:lw) (N:List Str) (qual:Str) (scope:nw) (f:dL) (cd:bm) (A:kw) (outer:List Env) (s:ce) (H:Hp) (E:XK):Cx where
 prog:=P
 w:=w
 K:=K
 mg:=mg
 base:=base
 A:=A.deeper (ut qual scope s.heap.objs.size f cd)
 N:=N
 s₀:=s
 H₀:=H
 env:=ut qual scope s.heap.objs.size f cd
 outer:=outer
 stack:=ut qual scope s.heap.objs.size f cd::outer
 ex:=[]
 calm:=true
 fn:=λ_=>true
 pn:=[]
 xe:=λe s'=>d4 (d5 P w) (A.deeper (ut qual scope s.heap.objs.size f cd)) (leaving (ut qual scope s.heap.objs.size f cd) e) (λ_ Yy=>CX outer H s E e Yy) (λe' Yy=>CX outer H s E e' Yy) s'
def FQ {sc:nw}{n:Nat}{x:Str} (h:sc.names.lookup x=ap .cell):∃c,(cellsFrom n sc.names []).lookup x=ap c:=by
 have q:=EA sc.names n [] (.inl h);exact Option.isSome_iff_exists.mp q
def KC {CX:LZ}{P:f8}{w:lc}{K:Ab}{mg:Str->Option bm}{base:lw}{N ps:List Str}{qual:Str}{scope:nw}{f:dL}{cd:bm}{A:kw}{outer:List Env}{s s1:ce}{H:Hp}{E:XK}{us:List bm}{vs:List V}
  (S:ar N ps scope) (hd:A.handled=bv) (e0:SN P w K mg base A outer s H) (hl:vs.length=ps.length) (r:Vals vs us)
  (x:InCallC s s.heap.objs.size (bindL (ut qual scope s.heap.objs.size f cd).kindOf (ps.zip us) λ_=>bv) (cellsFrom (s.heap.objs.size+1) scope.names []) (bindC (ut qual scope s.heap.objs.size f cd).kindOf (ps.zip us) λ_=>bv) s1) :
  Inv (jJ CX P w K mg base N qual scope f cd A outer s H E) [] (start N vs) H s1:=by
 have dR:ps.length<=N.length:=by have:=congrArg BV S.pre;rw [Cc] at this;omega
 obtain⟨h1,tk,rfl,hk⟩:=x.done;have Za:∀b:dL,b∉(jJ CX P w K mg base N qual scope f cd A outer s H E).ex:=λb z=>absurd (show b∈([]:List dL) from z) (by simp);refine⟨⟨e0.mod,S.kind,rfl,rfl,Ao _,λy z c h1 h2=>?_,λy hy=>?_,λy c _ h=>?_,λ_=>hd,Around.frames_deeper e0.frames,.inr ⟨rfl,rfl⟩,λb z=>absurd z (Za b),e0.bs,e0.T8,λb _ _=>Za b,λb z=>absurd z (Za b),e0.sY,e0.Xq⟩,
  rfl,e0.bare,Un.kept hk,⟨_,x.toInCall.ns,λi y v h1 h2 h3=>?_⟩,λy c h=>⟨_,x.cell y c h⟩,e0.bN.fresh (Ao _),λy c h=>?_,λp hp=>absurd (show p∈([]:List (dL×Obj)) from hp) (by simp),e0.bN.kept hk,?_⟩
 ·exact name_of_addr x.apart (BJ h1) (BJ h2)
 ·rcases hy with hy | hy
  ·exact FQ hy
  ·exact absurd rfl (S.Vq _ (BJ hy))
 ·exact DU (x.above y c (BJ h))
 ·have hi:i < vs.length:=by
   unfold start at h2;by_cases hi:i < vs.length
   ·exact hi
   ·rw [Aw (by simpa using hi)] at h2;rw [Bt] at h2
    split at h2 <;> cases h2
  have ha:vs[i]?=ap v:=by
   unfold start at h2;rw [AD (by simpa using hi),Ak] at h2;cases e:vs[i]? with
   | none=>rw [e] at h2;cases h2
   | some a=>rw [e] at h2;cases h2;rfl
  obtain⟨u,hu,rv⟩:=r.get ha;have hp:ps[i]?=ap y:=by
   rw [<- S.pre,List.getElem?_take_of_lt ∅];exact h1
  have ndP:ps.Nodup:=by rw [<- S.pre];exact S.nd.sublist (List.take_sublist _ _)
  refine⟨u,rv,?_⟩;rcases S.par y (Bo hp) with k | k
  ·exact .inl ⟨k,vJ ndP hp hu k⟩
  ·obtain⟨c,e⟩:=FQ (n:=s.heap.objs.size+1) k;refine .inr ⟨.inl k,c,e,?_⟩;have q:=x.cell y c e;rw [vL ndP hp hu (by show scope.names.lookup y≠_;rw [k];decide)] at q;exact q
 ·exact e0.bN.fresh (DU (x.above y c (BJ h)))
 ·unfold start;show _=N.length;rw [Ae,Ah,A7];omega
def aaa {CX:LZ}{P:f8}{w:lc}{K:Ab}{mg:Str->Option bm}{base:lw}{k:Nat}{f:dL}{name qual:Str}{params:Arguments}{body:List ul}{scope:nw}{dV kV È pm cQ ct oc:bm}{an od:Option dL}
  {Nc:Array (Option bm)}{N ps:List Str}{sp:Sp} (lk:K.lookup f=ap ⟨oc,od,.func (BR name qual params body scope dV kV È pm an cQ ct),Nc⟩) (i6:DY K cQ qual=true) (S:ar N ps scope)
  (len:∀vs H Q E,sp vs H Q E->vs.length=ps.length)
  (N3:∀(A:kw) (outer:List Env) (s:ce) (H:Hp) (vs:List V) (Q:VK) (E:XK),da k (A.deeper (ut qual scope s.heap.objs.size f cQ))->sp vs H Q E->
   ∃t,rg (jJ CX P w K mg base N qual scope f cQ A outer s H E) body t/\t {nx:=λ_ H'=>Q .aX H',rt:=Q} (start N vs) H) :
  gj P w K mg base CX (k+1) f (BR name qual params body scope dV kV È pm an cQ ct) ps sp:=by
 refine⟨len,λA outer s H args us vs Q E hr e0 hb r RE=>?_⟩;have hl:=len _ _ _ _ RE;have KX:K.In s.heap:=e0.mod.kin.keeps λb o e=>(e0.bs b o e).1;have lim:s.heap.NoLimit:=e0.mod.nolimit.keeps λb o e=>(e0.bs b o e).1;have ZP:∀y∈ps.zip us,scope.names.lookup y.1=ap .local\/(scope.names.lookup y.1=ap .cell/\((cellsFrom (s.heap.objs.size+1) scope.names []).lookup y.1).isSome=true):=λ⟨n,v⟩ hy=>by
  rcases S.par n (EU hy).1 with q | q
  ·exact .inl q
  ·exact .inr ⟨q,EA _ _ _ (.inl q)⟩
 refine codeAny_call_function hr.depth (KX _ _ lk) rfl S.co S.gen rfl (PySem.W.codeRec_of KX i6) (hb _ _ _ _ ?_);refine wpAny_newFunctionEnv_cells S.kind ZP λenv he s1 x=>?_;subst he;refine⟨lim.keeps x.toInCall.keep,codeAny_func ?_⟩;obtain⟨t,ht,hq⟩:=N3 A outer s H vs Q E (hr.deeper _) RE;have I:Inv (jJ CX P w K mg base N qual scope f cQ A outer s H E) [] (start N vs) H s1:=KC S hr.hd e0 hl r x;refine BI (ht [] s1 (start N vs) H _ I hq) (λfl s' hs=>?_) λe s' hs=>hs;have fin:∀{σ':St}{H':Hp}{v:V}{u:bm},Inv (jJ CX P w K mg base N qual scope f cQ A outer s H E) [] σ' H' s'->RelV v u->Q v H'->CE outer P w H s Q u s':=
  λ{σ' H' v u} J rv q=>⟨v,H',J.os,J.bare,J.base,J.bN,rv,q⟩
 cases fl with
 | ret u=>
  obtain⟨v,σ',H',J,rv,q⟩:=hs;exact fin J rv q
 | next=>
  obtain⟨σ',H',J,q⟩:=hs;exact fin (v:=V.aX) (u:=AY) J rfl q
 | brk=>
  obtain⟨_,_,_,q⟩:=hs;exact Bm q
 | cont=>
  obtain⟨_,_,_,q⟩:=hs;exact Bm q
section
variable {X:Cx}{x:Str}{p pos:Pos}{e:ga}{es:List ga}{t:TA}{id T:String}{r:List V->Hp->VK->Prop}
def tCB (r:List V->Hp->VK->Prop) (t:TA):TE:=λσ H Q=>t σ H λvs H1=>r vs H1 Q
def fJ (hc:bZ X (.builtin id) r) (hg:Gl X x) (hm:X.mg x=bv) (hv:re x=ap (.builtin id)) (ha:PA X (e::es) t) (hn:x≠"__name__":=by decide) (n8:(x==("__debug__":Str))=false:=by decide)
  (he:ci (e::es) X.env=(false,lm e X.env)::ci es X.env:=by rfl) (dR:(mo pos (ci es X.env)).any (·.1)=false:=by rfl):PE X (.Call (.Name x p) (e::es) [] pos) (tCB r t):=by
 intro Z s σ H Q I h;refine BF (kd I hg hm hv ?_ hn n8);exact PyProof.Rows.callWith_builtin1 (bH (ha pos Z s σ H _ I h) λus s1 ⟨vs,H1,I1,r1,q1⟩=>hc Z s1 σ H1 vs us Q I1 r1 q1) he dR
def lV (hc:bZ X (.type T) r) (hg:Gl X x) (hm:X.mg x=bv) (hv:re x=ap (.type T)) (ha:PA X (e::es) t) (hn:x≠"__name__":=by decide) (n8:(x==("__debug__":Str))=false:=by decide)
  (he:ci (e::es) X.env=(false,lm e X.env)::ci es X.env:=by rfl) (dR:(mo pos (ci es X.env)).any (·.1)=false:=by rfl):PE X (.Call (.Name x p) (e::es) [] pos) (tCB r t):=by
 intro Z s σ H Q I h;refine BF (kd I hg hm hv ?_ hn n8);exact Bi (bH (ha pos Z s σ H _ I h) λus s1 ⟨vs,H1,I1,r1,q1⟩=>hc Z s1 σ H1 vs us Q I1 r1 q1) he dR
end
end L2
namespace HT
open PySem PyProof.Rows
def lexLt:List Int->List Int->Bool
 | [],[]=>false
 | [],_::_=>true
 | _::_,[]=>false
 | x::xs,y::ys=>if x=y then lexLt xs ys else decide (x < y)
theorem G1 (x y:Int) (xs ys:List Int):lexLt (x::xs) (y::ys)=if x=y then lexLt xs ys else decide (x < y):=rfl
def OB (A:kw) (s:ce) (a:Int) (t:Tok) (c:Int) (u:Tok):∃e,Dk A s (.int a t) (.int c u) e/\(e=true↔a=c):=
 ⟨(a==c),D1 a t c u,by simp⟩
def Mx (A:kw) (s:ce) (a:Int) (t:Tok) (c:Int) (u:Tok) (prog:f8) (w:lc) (E:bm->ce->Prop) (Q:bm->ce->Prop) (h:Q (.bool (decide (a < c))) s) :
  d4 (d5 prog w) A (richCompare .Lt (.int a t) (.int c u)) Q E s:=
 (PyProof.Rows.lt_int h:d4 (d5 prog w) A (nn .Lt (.int a t) (.int c u)) Q E s)
section
open PySem.SeqAt
open PySem.AutoSeq1 (wpAny_loadPart')
open PySem.MeetsSeq PySem.MeetsSeq2 PySem.MeetsSeq3
def ui (l b:dL) (items cC:Array bm) (n n2:Nat) (dd Sk:Option dL) (sl Pq:Array (Option bm)) (ns ms:List Int) (hi:Da items.toList ns) (hj:Da cC.toList ms) :
  Meets (Db.«tuple.__lt__» ⟨[.ref l,.ref b],[]⟩)
   (λ_ R s=>s.heap.get? l=ap {cls:=.type "tuple",dict:=dd,data:=.seq items n,slots:=sl}/\s.heap.get? b=ap {cls:=.type "tuple",dict:=Sk,data:=.seq cC n2,slots:=Pq}/\
    R (.ok (.ret (.bool (lexLt ns ms)))) s):=
 .of_wp λprog w A R s h=>by
  obtain⟨hp,g,d,tk,os⟩:=s;obtain⟨hl,hb,h⟩:=h;have f2:=AutoSeq1.sub_tuple_tuple;have z1:items.size=ns.length:=by rw [<- hi.length];simp
  have z2:cC.size=ms.length:=by rw [<- hj.length];simp
  wp_walk using wpAny_loadPart' hl,wpAny_loadPart' hb,wpAny_forIn_list _ (λrest b s'=>b.1=bv/\s'=⟨hp,g,d,tk,os⟩/\∃(vs ws:List bm) (Je Xi:List Int),rest=vs.zip ws/\
   Da vs Je/\Da ws Xi/\Je.length+cC.size=Xi.length+items.size/\R (.ok (.ret (.bool (lexLt Je Xi)))) ⟨hp,g,d,tk,os⟩) _
  case turn=>
   rintro⟨y,x⟩ rest b s' ⟨ù,rfl,vs,ws,Je,Xi,hz,hvi,hwi,Á,hR⟩;cases hvi with
   | nil=>rw [List.zip_nil_left] at hz;cases hz
   | cons a t ac7=>
    cases hwi with
    | nil=>rw [List.zip_nil_right] at hz;cases hz
    | cons c u ac6=>
     rw [List.zip_cons_cons] at hz;injection hz with hyx ZJ;injection hyx with hy hx;subst hy hx;rw [G1] at hR;simp only [An] at Á;obtain⟨e,he,ZS⟩:=OB A.in1 ⟨hp,g,d,tk,os⟩ a t c u;refine Aa (he prog w _ _ ?_);cases e with
     | true=>
      rw [if_pos (ZS.mp rfl)] at hR
      wp_walk
      exact⟨rfl,rfl,_,_,_,_,ZJ,ac7,ac6,by omega,hR⟩
     | false=>
      rw [if_neg (λq=>absurd (ZS.mpr q) AV)] at hR;have hri:=Mx A.in1 ⟨hp,g,d,tk,os⟩ a t c u prog w
      wp_walk using hri
      exact⟨_,rfl,by simpa using hR⟩
  case fin=>
   rintro⟨b1,b2⟩ s' ⟨ù,rfl,vs,ws,Je,Xi,hz,hvi,hwi,Á,hR⟩;simp only at ù;subst ù;have hv:lexLt Je Xi=decide (items.size < cC.size):=by
    cases hvi with
    | nil=>
     cases hwi with
     | nil=>
      exact (decide_eq_false ∅).symm
     | cons c u hw=>
      simp only [AU,An] at Á;exact (decide_eq_true ∅).symm
    | cons a t hv=>
     cases hwi with
     | nil=>
      simp only [AU,An] at Á;exact (decide_eq_false ∅).symm
     | cons c u hw=>
      rw [List.zip_cons_cons] at hz;cases hz
   rw [hv] at hR
   wp_walk
   exact⟨_,rfl,by simpa [Builtin.Tuple.tupleCompareSizes] using hR⟩
  case h=>
   exact⟨rfl,rfl,items.toList,cC.toList,ns,ms,rfl,hi,hj,by omega,h⟩
end
section
variable {prog:f8}{w:lc}{A:kw}{E:bm->ce->Prop}{s:ce}
def GX {l b:dL}{items cC:Array bm}{ns ms:List Int}{Q:bm->ce->Prop} (hl:IsTup s.heap l items) (hb:IsTup s.heap b cC) (hi:Da items.toList ns) (hj:Da cC.toList ms)
  (hu:A.units < sn) (h:Q (.bool (lexLt ns ms)) s):d4 (d5 prog w) A (nn .Lt (.ref l) (.ref b)) Q E s:=by
 obtain⟨⟨cls,dd,data,sl⟩,ho,hc,n,hd⟩:=id hl;obtain⟨⟨WQ,Sk,data2,Pq⟩,KH,N2,n2,Ð⟩:=id hb;simp only at hc hd N2 Ð;subst hc hd N2 Ð;exact richCompare_meets_room (op:=.Lt) ⟨_,ho,rfl⟩ ⟨_,KH,rfl⟩ PySem.F.slot_tuple_lt PySem.F.entry_tuple_lt (PySem.F.args_tuple_lt_2 _ _) (ui l b items cC n n2 dd Sk sl Pq ns ms hi hj)
  ⟨ho,KH,show B1 (lexLt ns ms)≠Value.notImplemented/\Q (.bool (lexLt ns ms)) s from⟨(λx=>nomatch x),h⟩⟩ hu
def Sq {t b:dL}{vs ws:List bm}{Q:bm->ce->Prop} (ht:IsTup s.heap t vs.toArray) (hb:IsTup s.heap b ws.toArray) (hv:vs≠[])
  (h1:ws=[]->Q (.ref t) s) (h2:ws≠[]->Q (.ref s.heap.objs.size) {s with heap:=s.heap.push {cls:=.type "tuple",data:=.seq (vs++ws).toArray}})
  (hsz:vs.length+ws.length<=sizeLine):d4 (d5 prog w) A (tz .Add (.ref t) (.ref b)) Q E s:=by
 obtain⟨⟨cls,dd,data,sl⟩,ho,hc,n,hd⟩:=id ht;obtain⟨⟨WQ,Sk,data2,Pq⟩,KH,N2,n2,Ð⟩:=id hb;simp only at hc hd N2 Ð;subst hc hd N2 Ð;have e:vs.toArray++ws.toArray=(vs++ws).toArray:=by simp
 by_cases hw:ws=[]
 ·exact concat_meets ⟨_,ho,rfl⟩ ⟨_,KH,rfl⟩ noFill_tuple_add seq_tuple_add C7 CZ (CP _ _)
   (tuple_addW1 t b vs.toArray ws.toArray n n2 dd Sk sl Pq (by simpa using hv) (by simp [hw])) ⟨ho,KH,h1 hw⟩
 ·refine concat_meets ⟨_,ho,rfl⟩ ⟨_,KH,rfl⟩ noFill_tuple_add seq_tuple_add C7 CZ (CP _ _)
   (tuple_addW2 t b vs.toArray ws.toArray n n2 dd Sk sl Pq (by simpa using hv) (by simpa using hw) (by rw [Aj,Aj];exact hsz)) ⟨ho,KH,?_⟩
  rw [e];exact h2 hw
def dW (n d:Nat):Option Int->Nat
 | none=>d
 | some v=>if v < 0 then (v+(n:Int)).toNat else min v.toNat n
theorem Mp (n d:Nat):dW n d bv=d:=rfl
def Qk (n d k:Nat):dW n d (ap (k:Int))=min k n:=by
 show (if (k:Int) < 0 then ((k:Int)+(n:Int)).toNat else min (k:Int).toNat n)=min k n;rw [if_neg ∅,A3]
def JQ (v:Int) (n d:Nat):(if v < 0 then max (v+(n:Int)) 0 else min v (n:Int))=((dW n d (ap v):Nat):Int):=by
 show (if v < 0 then max (v+(n:Int)) 0 else min v (n:Int))=(((if v < 0 then (v+(n:Int)).toNat else min v.toNat n):Nat):Int);by_cases hv:v < 0
 ·simp only [if_pos hv];omega
 ·simp only [if_neg hv];omega
def Ie (lo hi:Option Int) (n:Nat):Builtin.Slice.sliceAdjust lo hi 1 (n:Int)=(((dW n 0 lo:Nat):Int),((dW n n hi:Nat):Int)):=by
 have h1:¬((1:Int) < 0):=by omega
 unfold Builtin.Slice.sliceAdjust;refine Prod.ext ?_ ?_
 ·cases lo with
  | none=>rfl
  | some v=>exact JQ v n 0
 ·cases hi with
  | none=>rfl
  | some v=>exact JQ v n n
def GD (i j:Nat):Builtin.Slice.slicePlaces (i:Int) (j:Int) 1=j-i:=by
 unfold Builtin.Slice.slicePlaces;have h1:(1:Int) > 0:=by omega
 split <;> omega
def gX {v:bm}{o:Option Int}{Q:Option Int->ce->Prop} (p:IsPart v o) (h:Q o s):d4 (d5 prog w) A (Builtin.Slice.slicePartIndex v) Q E s:=by
 cases p with
 | none=>exact slicePart_none h
 | int i t=>exact slicePart_int h
def jo {sl:dL}{vl vu:bm}{lo hi:Option Int}{n:Nat}{Q:Int×Int×Nat->ce->Prop} (hs:s.heap.IsSliceOf sl vl vu .none) (pl:IsPart vl lo) (pu:IsPart vu hi)
  (h:Q (((dW n 0 lo:Nat):Int),1,dW n n hi-dW n 0 lo) s):d4 (d5 prog w) A (Builtin.Slice.sliceApplied (.ref sl) (pure (n:Int))) Q E s:=by
 obtain⟨os,zA,TH,KL⟩:=id hs;refine Aa (Aa (AZ zA KL (x:=vl) rfl (Aa (AZ zA KL (x:=vu) rfl (Aa (AZ zA KL (x:=.none) rfl (Af ?_)))))));refine Aa (slicePart_none ?_);refine Aa (gX pl (Aa (gX pu (Aa (Af ?_)))));show d4 _ _ (match Builtin.Slice.sliceAdjust lo hi 1 (n:Int) with | (lo,hi)=>pure (lo,(1:Int),Builtin.Slice.slicePlaces lo hi 1)) _ _ s;rw [Ie lo hi n];show d4 _ _ (pure (((dW n 0 lo:Nat):Int),(1:Int),Builtin.Slice.slicePlaces ((dW n 0 lo:Nat):Int) ((dW n n hi:Nat):Int) 1)) _ _ s;rw [GD];exact Af h
def MR (xs:Array bm) (i k:Nat):((AA k).filterMap λ(m:Nat)=>xs[((i:Int)+(m:Int)*1).toNat]?).toArray=((xs.toList.drop i).take k).toArray:=by
 have e:(λ(m:Nat)=>xs[((i:Int)+(m:Int)*1).toNat]?)=λm=>xs[i+m]?:=by
  funext m;have:((i:Int)+(m:Int)*1).toNat=i+m:=by omega
  rw [this]
 rw [e];have:=pick_run xs i k;rw [List.filterMap_map] at this;have e2:((λx=>xs[x]?)∘λx=>i+x)=λm=>xs[i+m]?:=rfl;rw [e2] at this;rw [this]
def oe {t sl:dL}{items:Array bm}{vl vu:bm}{lo hi:Option Int}{Q:bm->ce->Prop} (ht:IsTup s.heap t items) (hs:s.heap.IsSliceOf sl vl vu .none) (pl:IsPart vl lo) (pu:IsPart vu hi)
  (hw:¬(dW items.size 0 lo=0/\dW items.size items.size hi=items.size))
  (h:Q (.ref s.heap.objs.size) {s with heap:=s.heap.push {cls:=.type "tuple",data:=.seq ((items.toList.drop (dW items.size 0 lo)).take (dW items.size items.size hi-dW items.size 0 lo)).toArray}})
  (hsz:items.size<=sizeLine):d4 (d5 prog w) A (FB (.ref t) (.ref sl)) Q E s:=by
 have Jv:sizeOk (.seq ((items.toList.drop (dW items.size 0 lo)).take (dW items.size items.size hi-dW items.size 0 lo)).toArray):=by
  show ((items.toList.drop (dW items.size 0 lo)).take (dW items.size items.size hi-dW items.size 0 lo)).toArray.size<=sizeLine;rw [Aj,Cc,CJ,DR];omega
 obtain⟨os,zA,TH,KL⟩:=id hs;have TL:s.TypeIs (.ref sl) "slice":=⟨os,zA,TH⟩;unfold FB
 try with_reducible refine A9 ?_
 first | refine Aa (Af ?_) | skip
 refine Aa (C8 ht.typeIs (by decide) ?_);refine Aa (AW (name:=B6 "__getitem__") ht.typeIs AQ
  (Bc AQ ht.typeIs entry_tuple_getitem ?_ (args_tuple_getitem _ _)))
 show d4 _ _ (Builtin.Tuple.tupleItemsOf (.ref t) >>= _) _ _ s;refine Aa (tupleItemsOf_ ht ?_);refine Aa (B8 TL ?_);refine Aa (jo hs pl pu ?_);have hno:¬((((dW items.size 0 lo:Nat):Int)==0&&(1:Int)==1&&(dW items.size items.size hi-dW items.size 0 lo)==items.size)=true):=by
  intro q;rw [Av,Av] at q;have q1:=eq_of_beq q.1.1;have q2:=eq_of_beq q.2;exact hw ⟨by omega,by omega⟩
 show d4 _ _ (if (((dW items.size 0 lo:Nat):Int)==0&&(1:Int)==1&&(dW items.size items.size hi-dW items.size 0 lo)==items.size)=true then _ else _) _ _ s;rw [if_neg hno,MR]
 first
  | exact Aa (m:=Builtin.Tuple.tupleExact _) (A2 (Af ⟨_,rfl,Af h⟩) Jv)
  | exact Aa (m:=Builtin.Tuple.tupleExact _) (A2 (Aa (Af (Af ⟨_,rfl,Af h⟩))) Jv)
  | exact Aa (Aa (m:=Builtin.Tuple.tupleExact _) (A2 (Af (Af ⟨_,rfl,Af h⟩)) Jv))
  | exact Aa (Aa (m:=Builtin.Tuple.tupleExact _) (A2 (Af ⟨_,rfl,Af h⟩) Jv))
end
end HT
namespace L2
open PySem PySem.Spec PyProof.Rows
abbrev TO:=St->Hp->(Option Int->Hp->Prop)->Prop
def PO (X:Cx) (e:Option ga) (t:TO):Prop:=
 ∀(Z:List (dL×Obj)) (s:ce) (σ:St) (H:Hp) (Q:Option Int->Hp->Prop),Inv X Z σ H s->t σ H Q->
  d4 (d5 X.prog X.w) X.A (evalPart e X.env) (λu s'=>∃o H',Inv X Z σ H' s'/\IsPart u o/\Q o H') X.xe s
def P7:TO:=λ_ H Q=>Q bv H
def Yb (t:TE):TO:=λσ H Q=>t σ H λx H1=>∃i,x=.int i/\Q (ap i) H1
def intsAre_of {ns:List Int}:∀{us:List bm},Vals (ns.map V.int) us->Da us ns:=by
 induction ns with
 | nil=>intro us r;rw [Fz] at r;cases r;exact .nil
 | cons n ns ih=>
  intro us r;rw [Au] at r;cases r with
  | cons r1 r2=>
   obtain⟨t,e⟩:=r1;subst e;exact .cons n t (ih r2)
section
variable {X:Cx}{e:ga}{te:TE}{lo hi:Option ga}{tl th:TO}{pos p2:Pos}
def QC:PO X bv P7:=by
 intro Z s σ H Q I h;exact Af ⟨bv,H,I,.none,h⟩
def QB (h:PE X e te):PO X (ap e) (Yb te):=by
 intro Z s σ H Q I hw;refine bH (h Z s σ H _ I hw) λu s1 ⟨x,H1,I1,r1,q1⟩=>?_;obtain⟨i,rfl,q⟩:=q1;obtain⟨t,rfl⟩:=r1;exact⟨ap i,H1,I1,.int i t,q⟩
def SlR (X:Cx) (r:V->Option Int->Option Int->Hp->VK->Prop):Prop:=
 ∀(Z:List (dL×Obj)) (s:ce) (σ:St) (H:Hp) (x:V) (v vl vu:bm) (lo hi:Option Int) (sl:dL) (Q:VK),Inv X Z σ H s->RelV x v->s.heap.IsSliceOf sl vl vu .none->IsPart vl lo->IsPart vu hi->r x lo hi H Q->
  ∃T id,Ge (.type T) "__getitem__"=pure (ap (.builtin id))/\s.TypeIs v T/\d4 (d5 X.prog X.w) X.A (FB v (.ref sl)) (EP X Z σ Q) X.xe s
def tSl (r:V->Option Int->Option Int->Hp->VK->Prop) (te:TE) (tl th:TO):TE:=λσ H Q=>te σ H λx H1=>tl σ H1 λl H2=>th σ H2 λu H3=>r x l u H3 Q
def MZ {r:V->Option Int->Option Int->Hp->VK->Prop} (hr:SlR X r) (he:PE X e te) (hl:PO X lo tl) (hu:PO X hi th):PE X (.Subscript e (.Slice lo hi bv p2) pos) (tSl r te tl th):=by
 intro Z s σ H Q I h;refine Subscript_ (bH (he Z s σ H _ I h) λv s1 ⟨x,H1,I1,r1,q1⟩=>?_);refine wpAny_Slice (bH (hl Z s1 σ H1 _ I1 q1) λvl s2 ⟨l,H2,I2,pl,q2⟩=>bH (hu Z s2 σ H2 _ I2 q2) λvu s3 ⟨u,H3,I3,pu,q3⟩=>?_);rw [evalPart_none];refine Af ?_;have I4:Inv X Z σ H3 {s3 with heap:=s3.heap.push {cls:=.type "slice",data:=.fields #[vl,vu,.none]}}:=I3.kept (t':=s3.toks) λb ob q=>Ai _ q;obtain⟨T,id,hT,ht,hg⟩:=hr Z {s3 with heap:=s3.heap.push {cls:=.type "slice",data:=.fields #[vl,vu,.none]}} σ H3 x v vl vu l u s3.heap.objs.size Q I4 r1 (D2.new ..) pl pu q3;show d4 (d5 X.prog X.w) X.A (subscriptTail e (.Slice lo hi bv p2) v (.ref s3.heap.objs.size)) (EP X Z σ Q) X.xe {s3 with heap:=s3.heap.push {cls:=.type "slice",data:=.fields #[vl,vu,.none]}};exact tail_any (ops:=[.ref s3.heap.objs.size,v]) ht hT hg (by with_unfolding_all rfl)
def yb (xs:List V) (lo hi:Option Int):List V:=(xs.drop (HT.dW xs.length 0 lo)).take (HT.dW xs.length xs.length hi-HT.dW xs.length 0 lo)
def pU (xs:List V) (lo hi:Option Int):(yb xs lo hi).length<=xs.length:=by
 unfold yb;rw [Cc,CJ];omega
def acz (K:Ab):V->Option Int->Option Int->Hp->VK->Prop:=λx lo hi H Q=>∃a xs,x=.ref a/\d7 K H a xs/\
 ¬(HT.dW xs.length 0 lo=0/\HT.dW xs.length xs.length hi=xs.length)/\∀p,H p=bv->Q (.ref p) (upd H p (.tup (yb xs lo hi)))
def UC:SlR X (acz X.K):=by
 intro Z s σ H x v vl vu lo hi sl Q I rx hs pl pu h;obtain⟨a,xs,rfl,hx,hw,q⟩:=h;cases rx;obtain⟨ay,r,ht,hz⟩:=I.tuple hx;have Á:ay.toArray.size=xs.length:=by rw [Aj];exact r.length.symm
 refine⟨"tuple",_,AQ.lookup,ht.typeIs,?_⟩;refine HT.oe ht hs pl pu (by rw [Á];exact hw) ?_ (by rw [Á];exact hz);rw [Á];refine⟨.ref s.heap.objs.size,_,I.laid (t':=s.toks) (o:=.tup (yb xs lo hi)) (λb ob q=>Ai _ q) (Ao _) ?_,rfl,q _ (I.bN.fresh (Ao _))⟩;exact⟨Bp (pU xs lo hi) hz,_,(r.drop (HT.dW xs.length 0 lo)).take (HT.dW xs.length xs.length hi-HT.dW xs.length 0 lo),Fg _ _⟩
def S8 (K:Ab):R2:=λx y H Q=>∃a b xs ys,x=.ref a/\y=.ref b/\d7 K H a xs/\d7 K H b ys/\xs≠[]/\xs.length+ys.length<=sizeLine/\
 (ys=[]->Q (.ref a) H)/\(ys≠[]->∀p,H p=bv->Q (.ref p) (upd H p (.tup (xs++ys))))
def Vals.j7 {xs:List V}{us:List bm} (r:Vals xs us):us=[]↔xs=[]:=by
 cases r with
 | nil=>simp
 | cons _ _=>simp
def Jd:iA X (tz .Add) (S8 X.K):=by
 intro Z s σ H x y v u Q I rx ry h;obtain⟨a,b,xs,ys,rfl,rfl,ha,hb,hx,hz,q1,q2⟩:=h;cases rx;cases ry;obtain⟨ay,r1,p1,_⟩:=I.tuple ha;obtain⟨cO,r2,p2,_⟩:=I.tuple hb;refine HT.Sq p1 p2 (λz=>hx (r1.j7.mp z)) (λz=>⟨.ref a,H,I,rfl,q1 (r2.j7.mp z)⟩) (λz=>?_) (by rw [<- r1.length,<- r2.length];exact hz);refine⟨.ref s.heap.objs.size,_,I.laid (t':=s.toks) (o:=.tup (xs++ys)) (λb ob q=>Ai _ q) (Ao _) ?_,rfl,q2 (λw=>z (r2.j7.mpr w)) _ (I.bN.fresh (Ao _))⟩;exact⟨by rw [Ae];exact hz,_,r1.append r2,Fg _ _⟩
end
def nX (n:Nat) (i:Int):Option Nat:=if 0<=i then (if i < n then ap i.toNat else bv) else if -(n:Int)<=i then ap (i+n).toNat else bv
def ck {α:Type} (xs:List α) (i:Int):Option α:=(nX xs.length i).bind λj=>xs[j]?
def xn {n:Nat}{i:Int}{j:Nat} (h:nX n i=ap j):seqIndex? i n=ap j/\j < n/\-(n:Int)<=i/\i < n:=by
 unfold nX at h;by_cases h0:0<=i
 ·rw [if_pos h0] at h;by_cases h1:i < n
  ·rw [if_pos h1] at h;have e:=Option.some.inj h;exact⟨by rw [seqIndex_of h0 h1,e],by omega,by omega,h1⟩
  ·rw [if_neg h1] at h;cases h
 ·rw [if_neg h0] at h;by_cases h1:-(n:Int)<=i
  ·rw [if_pos h1] at h;have e:=Option.some.inj h;exact⟨by rw [seqIndex_neg ∅ h1,e],by omega,h1,by omega⟩
  ·rw [if_neg h1] at h;cases h
def yg {α:Type}{xs:List α}{i:Int}{v:α} (h:ck xs i=ap v):∃j,seqIndex? i xs.length=ap j/\xs[j]?=ap v/\j < xs.length/\-(xs.length:Int)<=i/\i < xs.length:=by
 unfold ck at h;cases e:nX xs.length i with
 | none=>rw [e] at h;cases h
 | some j=>
  rw [e] at h;obtain⟨h1,h2,h3,h4⟩:=xn e;exact⟨j,h1,h,h2,h3,h4⟩
def bL {α:Type}{xs:List α}{j:Nat}{v:α} (h:xs[j]?=ap v):ck xs (j:Int)=ap v:=by
 have hj:=(Al.mp h).1;have e:nX xs.length (j:Int)=ap j:=by
  unfold nX;rw [if_pos ∅,if_pos ∅];simp
 unfold ck;rw [e];exact h
def Pa {α:Type} (xs:List α) (v:α):ck (xs++[v]) (-1)=ap v:=by
 have hl:(xs++[v]).length=xs.length+1:=by simp
 have e:nX (xs++[v]).length (-1)=ap xs.length:=by
  unfold nX;rw [hl,if_neg (by decide),if_pos ∅];congr 1;omega
 unfold ck;rw [e];simp
def rf (b:ga):Prop:=∀o i,subscripted b false o i=operate [o,i] (FB o i)
def Py (X:Cx) (r:R2):Prop:=
 ∀(value Ç:ga) (Z:List (dL×Obj)) (s:ce) (σ:St) (H:Hp) (x y:V) (v u:bm) (Q:VK),Inv X Z σ H s->RelV x v->RelV y u->r x y H Q->
  subscripted Ç false v u=operate [v,u] (FB v u)->d4 (d5 X.prog X.w) X.A (subscriptTail value Ç v u) (EP X Z σ Q) X.xe s
def MtR (X:Cx) (id:String) (r:V->List V->Hp->VK->Prop):Prop:=
 ∀(Z:List (dL×Obj)) (s:ce) (σ:St) (H:Hp) (x:V) (xs:List V) (v:bm) (us:List bm) (Q:VK),Inv X Z σ H s->RelV x v->Vals xs us->r x xs H Q->
  d4 (d5 X.prog X.w) X.A (call (.builtin id) (v::us)) (EP X Z σ Q) X.xe s
section
variable {X:Cx}{a b:ga}{ta tb:TE}{pos:Pos}
def Py.or {r r':R2} (h:Py X r) (h':Py X r'):Py X (λx y H Q=>r x y H Q\/r' x y H Q):=by
 intro value Ç Z s σ H x y v u Q I rx ry q hs;rcases q with q | q
 ·exact h value Ç Z s σ H x y v u Q I rx ry q hs
 ·exact h' value Ç Z s σ H x y v u Q I rx ry q hs
def M4 {r:R2} (hr:Py X r) (ha:PE X a ta) (hb:PE X b tb) (hs:rf b):PE X (.Subscript a b pos) (S0 r ta tb):=by
 intro Z s σ H Q I h;exact Subscript_ (WU ha hb I h λv u s2 x y H2 I2 rx ry q=>hr a b Z s2 σ H2 x y v u Q I2 rx ry q (hs _ _))
def YG (K:Ab):R2:=λx y H Q=>∃p xs i v,x=.ref p/\y=.int i/\dq K H p xs/\ck xs i=ap v/\Q v H
def YF (K:Ab):R2:=λx y H Q=>∃p xs i v,x=.ref p/\y=.int i/\d7 K H p xs/\ck xs i=ap v/\Q v H
def UR:R2:=λx y H Q=>∃z i c,x=.str z/\y=.int i/\z.length<=sizeLine/\ck z.cps.toList i=ap c/\Q (.str ⟨#[c]⟩) H
def Rr:Py X (YG X.K):=by
 intro value Ç Z s σ H x y v u Q I rx ry h hs;obtain⟨p,xs,i,z,rfl,rfl,hq,he,q⟩:=h;cases rx;obtain⟨t,rfl⟩:=ry;obtain⟨ay,r,pl,hz⟩:=I.list hq;obtain⟨j,h1,h2,h3,h4,h5⟩:=yg he;obtain⟨w,ew,iB⟩:=r.get h2;have hl:=r.length;have hn:=xg;have fin:EP X Z σ Q w s:=⟨z,H,I,iB,q⟩;by_cases h0:0<=i
 ·have hj:i.toNat=j:=by
   rw [seqIndex_of h0 h5] at h1;exact Option.some.inj h1
  exact item_listR pl.isList h0 ∅ (by rw [hj];simpa using ew) fin hs
 ·have hj:(i+(ay.toArray.size:Int)).toNat=j:=by
   rw [seqIndex_neg ∅ h4] at h1;rw [Aj,<- hl];exact Option.some.inj h1
  exact subscriptTail_builtinR (x:=w) pl.isList.typeIs slot_list_getitem.lookup
   (wpAny_getItem_list_neg (Q:=λr s'=>r=w/\EP X Z σ Q r s') pl.isList ∅ (by rw [Aj] <;> omega) ∅ (by rw [hj];simpa using ew) ⟨rfl,fin⟩) hs
def VV:Py X (YF X.K):=by
 intro value Ç Z s σ H x y v u Q I rx ry h hs;obtain⟨p,xs,i,z,rfl,rfl,hq,he,q⟩:=h;cases rx;obtain⟨t,rfl⟩:=ry;obtain⟨ay,r,pl,hz⟩:=I.tuple hq;obtain⟨j,h1,h2,h3,h4,h5⟩:=yg he;obtain⟨w,ew,iB⟩:=r.get h2;have hl:=r.length;have hn:=xg;have fin:EP X Z σ Q w s:=⟨z,H,I,iB,q⟩;exact subscriptTail_builtinR (x:=w) pl.typeIs slot_tuple_getitem.lookup
  (getItem_tuple (j:=j) (Q:=λr s'=>r=w/\EP X Z σ Q r s') pl ∅ ∅ (by rw [Aj,<- hl];exact h1) (by simpa using ew) ⟨rfl,fin⟩) hs
def NM:Py X UR:=by
 intro value Ç Z s σ H x y v u Q I rx ry h hs;obtain⟨z,i,c,rfl,rfl,hz,he,q⟩:=h;obtain⟨t,rfl⟩:=rx;obtain⟨t',rfl⟩:=ry;obtain⟨j,h1,h2,h3,h4,h5⟩:=yg he;have hl:z.cps.toList.length=z.length:=by simp [Str.length]
 rw [hl] at h1 h4 h5;have hn:=xg;exact tail_any (typeIs_str s z t) slot_str_getitem.lookup (getItem_str (c:=c) (by
  have e1:decide (i < -(2 ^ 63:Int))=false:=decide_eq_false ∅;have e2:decide (i≥2 ^ 63)=false:=decide_eq_false ∅;rw [e1,e2,Bool.or_false]) (by rw [h1];simpa using h2) ⟨.str ⟨#[c]⟩,H,I.tok _,⟨_,rfl⟩,q⟩) hs
def rIx (K:Ab):R2:=λx y H Q=>YG K x y H Q\/YF K x y H Q\/UR x y H Q
def VW:Py X (rIx X.K):=Rr.or (VV.or NM)
def GW (ay:List bm) (n j:Nat) (u:bm):Bk (·.setIfInBounds j u) {cls:=.type "list",data:=.seq ay.toArray n}={cls:=.type "list",data:=.seq (ay.set j u).toArray n}:=by
 simp [Bk]
def Inv.lst {Z:List (dL×Obj)}{σ:St}{H:Hp}{s:ce}{p:dL}{xs:List V} (I:Inv X Z σ H s) (h:H p=ap (.lst xs)) :
  ∃(ay:List bm) (n:Nat),Vals xs ay/\s.heap.get? p=ap {cls:=.type "list",data:=.seq ay.toArray n}/\xs.length<=sizeLine:=by
 obtain⟨z,ay,n,r,e⟩:=I.bN p _ h;exact⟨ay,n,r,e,z⟩
def Inv.Vz {Z:List (dL×Obj)}{σ:St}{H:Hp}{s:ce}{p:dL}{xs ys:List V}{ay its':List bm}{n n':Nat}{f:Obj->Obj} (I:Inv X Z σ H s) (h:H p=ap (.lst xs))
  (ho:s.heap.get? p=ap {cls:=.type "list",data:=.seq ay.toArray n}) (hf:f {cls:=.type "list",data:=.seq ay.toArray n}={cls:=.type "list",data:=.seq its'.toArray n'}) (r:Vals ys its') (hz:ys.length<=sizeLine) (t:Nat) :
  Inv X Z σ (upd H p (.lst ys)) {s with heap:=s.heap.update p f,toks:=t}:=by
 have e:(s.heap.update p f).get? p=ap {cls:=.type "list",data:=.seq its'.toArray n'}:=by
  rw [Cu f ho (by rw [hf] <;> rfl),hf]
 refine I.write (x:=p) (e:=p) (by rw [h];trivial) (.inl rfl) (λb u hb q=>(C6 _ _ (BA hb)).trans q) ⟨_,e⟩ ?_;exact⟨hz,its',n',r,e⟩
def YD:V->V->V->Hp->(Hp->Prop)->Prop:=λo i v H Q=>∃p xs k j,o=.ref p/\i=.int k/\H p=ap (.lst xs)/\nX xs.length k=ap j/\Q (upd H p (.lst (xs.set j v)))
def set_list:Iv X YD:=by
 intro Z s σ H o i v ov iv u Q I ro ri rv h;obtain⟨p,xs,k,j,rfl,rfl,hp,hj,q⟩:=h;cases ro;obtain⟨t,rfl⟩:=ri;obtain⟨ay,n,r,ho,hz⟩:=I.lst hp;obtain⟨h1,h2,h3,h4⟩:=xn hj;have hl:=r.length;have hn:=xg;have I':Inv X Z σ (upd H p (.lst (xs.set j v))) {s with heap:=s.heap.update p (Bk (·.setIfInBounds j u))}:=
  I.Vz hp ho (GW ay n j u) (r.set rv j) (by rw [BL];exact hz) s.toks
 by_cases h0:0<=k
 ·have hk:k.toNat=j:=by
   rw [seqIndex_of h0 h4] at h1;exact Option.some.inj h1
  exact PySem.W.ki_setAt ho h0 ∅ (by rw [Aj,<- hl];exact h4) (by rw [hk];exact⟨_,I',q⟩)
 ·have hk:(k+(ay.toArray.size:Int)).toNat=j:=by
   rw [seqIndex_neg ∅ h3] at h1;rw [Aj,<- hl];exact Option.some.inj h1
  exact PySem.W.ki_setBack ho ∅ (by rw [Aj,<- hl];exact h3) ∅ (by rw [hk];exact⟨_,I',q⟩)
def wF (lo hi:Option Int) (n:Nat):(wn lo hi bv n).1=((HT.dW n 0 lo:Nat):Int)/\(wn lo hi bv n).2.1=((HT.dW n n hi:Nat):Int)/\(wn lo hi bv n).2.2=1:=by
 refine⟨?_,?_,rfl⟩
 ·cases lo with
  | none=>simp [wn,HT.dW]
  | some i=>
   simp only [wn,HT.dW,Er,show (1:Int) > 0 by decide,if_true];by_cases h:i < 0
   ·simp only [h,if_true] <;> omega
   ·simp only [h,if_false] <;> omega
 ·cases hi with
  | none=>simp [wn,HT.dW]
  | some i=>
   simp only [wn,HT.dW,Er,show (1:Int) > 0 by decide,if_true];by_cases h:i < 0
   ·simp only [h,if_true] <;> omega
   ·simp only [h,if_false] <;> omega
def um (ay:List bm) (lo hi:Option Int):slicePick ay.toArray lo hi bv=((ay.drop (HT.dW ay.length 0 lo)).take (HT.dW ay.length ay.length hi-HT.dW ay.length 0 lo)).toArray:=by
 obtain⟨h1,h2,h3⟩:=wF lo hi ay.toArray.size;unfold slicePick;rw [h1,h2,h3];simp only [sliceRange_one,pick_run,Aj] <;> rfl
def acA (K:Ab):V->Option Int->Option Int->Hp->VK->Prop:=λx lo hi H Q=>∃a xs,x=.ref a/\dq K H a xs/\∀p,H p=bv->Q (.ref p) (upd H p (.lst (yb xs lo hi)))
def aaU:SlR X (acA X.K):=by
 intro Z s σ H x v vl vu lo hi sl Q I rx hs pl pu h;obtain⟨a,xs,rfl,hx,q⟩:=h;cases rx;obtain⟨ay,r,ht,hz⟩:=I.list hx;have Á:=r.length;refine⟨"list",_,slot_list_getitem.lookup,ht.isList.typeIs,?_⟩;refine wpAny_getItem_list_slice ht.isList hs pl pu .none (by simp) ?_ (by rw [Aj] <;> omega);rw [um,<- Á];refine⟨.ref s.heap.objs.size,_,I.laid (t':=s.toks) (o:=.lst (yb xs lo hi)) (λb ob q=>Ai _ q) (Ao _) ?_,rfl,q _ (I.bN.fresh (Ao _))⟩;exact⟨Bp (pU xs lo hi) hz,_,0,(r.drop (HT.dW xs.length 0 lo)).take (HT.dW xs.length xs.length hi-HT.dW xs.length 0 lo),Aq _ rfl⟩
def yd:bZ X (.type "list") (λxs H Q=>∃p ys,xs=[.ref p]/\(dq X.K H p ys\/d7 X.K H p ys)/\∀l,H l=bv->Q (.ref l) (upd H l (.lst ys))):=by
 intro Z s σ H xs us Q I r h;obtain⟨p,ys,rfl,hq,q⟩:=h;obtain⟨u,rfl,rx⟩:=vals1 r;cases rx;have fin:∀(ay:List bm),Vals ys ay->ys.length<=sizeLine->∀(h':lw) (c':Nat),(∀b o',s.heap.get? b=ap o'->h'.get? b=ap o')->
   h'.get? s.heap.objs.size=ap {cls:=.type "list",dict:=bv,data:=.seq ay.toArray c',slots:=#[]}->EP X Z σ Q (.ref s.heap.objs.size) {s with heap:=h'}:=λay r' hz h' c' kp e=>
  ⟨.ref s.heap.objs.size,_,I.laid (t':=s.toks) kp (Ao _) (show bB X.prog X.w _ h' _ (.lst ys) from⟨hz,ay,c',r',e⟩),rfl,q _ (I.bN.fresh (Ao _))⟩
 rcases hq with hq | hq
 ·obtain⟨ay,r',pl,hz⟩:=I.list hq;have Á:=r'.length;obtain⟨o,ho,hc,n,hd⟩:=pl.isList;exact call_list_seq p (.inl rfl) ho hc hd (λh' c' kp e=>fin ay r' hz h' c' kp e) (by simp only [Aj] <;> omega)
 ·obtain⟨ay,r',pl,hz⟩:=I.tuple hq;have Á:=r'.length;obtain⟨o,ho,hc,n,hd⟩:=pl;exact call_list_seq p (.inr rfl) ho hc hd (λh' c' kp e=>fin ay r' hz h' c' kp e) (by simp only [Aj] <;> omega)
def uK:bZ X (.type "tuple") (λxs H Q=>∃p ys,xs=[.ref p]/\((dq X.K H p ys/\∀l,H l=bv->Q (.ref l) (upd H l (.tup ys)))\/(d7 X.K H p ys/\Q (.ref p) H))):=by
 intro Z s σ H xs us Q I r h;obtain⟨p,ys,rfl,h⟩:=h;obtain⟨u,rfl,rx⟩:=vals1 r;cases rx;rcases h with⟨hq,q⟩ | ⟨hq,q⟩
 ·obtain⟨ay,r',pl,hz⟩:=I.list hq;have Á:=r'.length;refine call_tuple_list pl.isList (λh' kp=>?_) (by simp only [Aj] <;> omega);have I1:Inv X Z σ H {s with heap:=h'}:=I.kept (t':=s.toks) kp;have I2:Inv X Z σ (upd H h'.objs.size (.tup ys)) {s with heap:=h'.push {cls:=.type "tuple",data:=.seq ay.toArray}}:=
   I1.laid (t':=s.toks) (λb o e=>Ai _ e) (Ao _) (show bB X.prog X.w _ _ _ (.tup ys) from⟨hz,ay,r',Fg _ _⟩)
  exact⟨.ref h'.objs.size,_,I2,rfl,q _ (I1.bN.fresh (Ao _))⟩
 ·obtain⟨ay,r',pl,hz⟩:=I.tuple hq;exact call_tuple_same pl ⟨.ref p,H,I,rfl,q⟩
def tyV (K:Ab) (T:String) (x:V) (H:Hp):Prop:=match x with
 | .str _=>T="str"
 | .int _=>T="int"
 | .ref p=>(T="list"/\∃xs,dq K H p xs)\/(T="tuple"/\∃o,K.lookup p=ap o/\o.cls=.type "tuple"/\o.dict=bv)\/
   (T="dict"/\((∃kvs,H p=ap (.dK kvs))\/∃kvs,H p=ap (.dT kvs)))\/(T="set"/\∃S n,H p=ap (.set S n))
 | _=>False
def L7 {Z:List (dL×Obj)}{σ:St}{H:Hp}{s:ce}{T:String}{x:V}{v:bm} (I:Inv X Z σ H s) (r:RelV x v) (ty:tyV X.K T x H) :
  s.TypeIs v T/\∀a,v=.ref a->∃ob,s.heap.get? a=ap ob/\ob.dict=bv:=by
 cases x with
 | str z=>
  obtain⟨t,rfl⟩:=r;cases (show T="str" from ty);exact⟨typeIs_str s z t,λ_ e=>nomatch e⟩
 | int i=>
  obtain⟨t,rfl⟩:=r;cases (show T="int" from ty);exact⟨typeIs_int s i t,λ_ e=>nomatch e⟩
 | ref p=>
  cases r;rcases ty with⟨rfl,xs,hq⟩ | ⟨rfl,o,hk,hc,hd⟩ | ⟨rfl,hk⟩ | ⟨rfl,S,n,hk⟩
  ·obtain⟨ay,_,pl,_⟩:=I.list hq;refine⟨pl.isList.typeIs,λa e=>?_⟩;cases e;obtain⟨o,n,e,c,hd,_⟩:=pl;exact⟨o,e,hd⟩
  ·refine⟨⟨o,I.uy p o hk,hc⟩,λa e=>?_⟩;cases e;exact⟨o,I.uy _ o hk,hd⟩
  ·have z:∃o,s.heap.get? p=ap o/\o.ExactDict:=by
    rcases hk with⟨kvs,hk⟩ | ⟨kvs,hk⟩
    ·obtain⟨_,_,_,_,o,_,_,e,ex,_⟩:=I.bN p _ hk;exact⟨o,e,ex⟩
    ·obtain⟨_,_,_,_,o,_,_,e,ex,_⟩:=I.bN p _ hk;exact⟨o,e,ex⟩
   obtain⟨o,e,ex⟩:=z;refine⟨⟨o,e,ex.1⟩,λa e2=>?_⟩;cases e2;exact⟨o,e,ex.2.1⟩
  ·obtain⟨o,_,_,_,e,ex,_⟩:=I.bN p _ hk;refine⟨⟨o,e,ex.1⟩,λa e2=>?_⟩;cases e2;exact⟨o,e,ex.2.1⟩
 | _=>exact Bm ty
def Yk (K:Ab) (T:String) (r:V->List V->Hp->VK->Prop) (to:TE):TE:=λσ H Q=>to σ H λx H1=>tyV K T x H1/\r x [] H1 Q
def tBM (K:Ab) (T:String) (r:V->List V->Hp->VK->Prop) (to:TE) (t:TA):TE:=λσ H Q=>to σ H λx H1=>tyV K T x H1/\t σ H1 λxs H2=>r x xs H2 Q
variable {o e:ga}{es:List ga}{to:TE}{t:TA}{name:Str}{Â bQ:Pos}{T id:String}{r:V->List V->Hp->VK->Prop}
def Vb (pa:PlainAttrs T) (slot:Slot T name id) (Ju:typeOf (.builtin id)=pure (.type "method_descriptor")) (hm:MtR X id r) (ho:PE X o to)
  (fW:sK o name X.env (lm o X.env)=lm o X.env:=by rfl) (fV:(Â.endLine==bQ.line)=true:=by rfl):PE X (.Call (.Attribute o name Â) [] [] bQ) (Yk X.K T r to):=by
 intro Z s σ H Q I h;refine wpAny_Call_method0_late fW fV (bH (ho Z s σ H _ I h) λv s1 ⟨x,H1,I1,r1,ty,q1⟩=>?_);obtain⟨h1,h2⟩:=L7 I1 r1 ty;exact⟨T,id,pa,slot,Ju,h1,h2,EC rfl (PySem.evalArgs_none (hm Z s1 σ H1 x [] v [] Q I1 r1 .nil q1))⟩
def YV (pa:PlainAttrs T) (slot:Slot T name id) (Ju:typeOf (.builtin id)=pure (.type "method_descriptor")) (hm:MtR X id r) (ho:PE X o to) (ha:PA X (e::es) t)
  (fW:sK o name X.env (lm o X.env)=lm o X.env:=by rfl)
  (sR:((mo bQ (ci (e::es) X.env)).all (λx=>!x.1)&&(backToKw bQ (Fk [] X.env)).all (λx=>x.1.isSome)
   && decide ((e::es).length+([]:List wT).length+(if ([]:List wT).isEmpty then 0 else 1) < 30))=true:=by rfl)
  (fV:(Â.endLine==bQ.line)=true:=by rfl) (hs:ci (e::es) X.env=(false,lm e X.env)::ci es X.env:=by rfl) (ig:(mo bQ (ci es X.env)).any (·.1)=false:=by rfl) :
  PE X (.Call (.Attribute o name Â) (e::es) [] bQ) (tBM X.K T r to t):=by
 intro Z s σ H Q I h;refine wpAny_Call_method_late fW sR fV rfl (bH (ho Z s σ H _ I h) λv s1 ⟨x,H1,I1,r1,ty,q1⟩=>?_);obtain⟨h1,h2⟩:=L7 I1 r1 ty;refine⟨T,id,pa,slot,Ju,h1,h2,?_⟩;have hA:=ha bQ Z s1 σ H1 _ I1 q1;rw [hs] at hA ⊢;refine EC (by show (false||(mo bQ (ci es X.env)).any (·.1))=false;rw [ig] <;> rfl) (Calls.evalArgs_plain ?_);exact bH hA λus s2 ⟨vs,H2,I2,r2,q2⟩=>hm Z s2 σ H2 x vs v us Q I2 r1 r2 q2
end
def LY (X:Cx) (id:String) (r:V->List V->Hp->VK->Prop):Prop:=
 ∀(Z:List (dL×Obj)) (s:ce) (σ:St) (H:Hp) (x:V) (xs:List V) (v:bm) (us:List bm) (Q:VK),Inv X Z σ H s->RelV x v->Vals xs us->r x xs H Q->
  d4 (d5 X.prog X.w) X.A (call (.builtin id) (v::us)) (EP X Z σ Q) X.xe s
def Vals.one:∀{x:V}{us:List bm},Vals [x] us->∃u,us=[u]/\RelV x u
 | _,_,.cons r .nil=>⟨_,rfl,r⟩
def Vals.zero:∀{us:List bm},Vals [] us->us=[]
 | _,.nil=>rfl
def Vals.dropLast {xs:List V}{us:List bm} (h:Vals xs us):Vals xs.dropLast us.dropLast:=by
 induction h with
 | nil=>exact .nil
 | cons r t ih=>
  cases t with
  | nil=>exact .nil
  | cons q t'=>exact .cons r ih
theorem Vals.rep {xs:List V}{us:List bm} (h:Vals xs us):∀k:Nat,Vals (Am k xs).flatten (Am k us).flatten
 | 0=>.nil
 | k+1=>by
  rw [Br,Br,BZ,BZ];exact Vals.append h (Vals.rep h k)
def HB {α:Type} (l:List α):l.eraseIdx (l.length-1)=l.dropLast:=by
 induction l with
 | nil=>rfl
 | cons a r ih=>
  cases r with
  | nil=>rfl
  | cons b r=>
   have e:(a::b::r).length-1=((b::r).length-1)+1:=by
    have h1:(a::b::r).length=r.length+2:=rfl;have h2:(b::r).length=r.length+1:=rfl;omega
   rw [e,List.eraseIdx_cons_succ,ih]
   all_goals rfl
theorem foldl_rep (ay:List bm):∀(k:Nat) (Å:List bm),
  List.foldl (λx1 x2=>x1++x2) Å.toArray (Am k ay.toArray)=(Å++(Am k ay).flatten).toArray
 | 0,Å=>by simp
 | k+1,Å=>by
  have e:Å.toArray++ay.toArray=(Å++ay).toArray:=by simp
  have e2:(Å++ay)++(Am k ay).flatten=Å++(Am (k+1) ay).flatten:=by
   rw [Br,BZ,A4]
  rw [<- e2,<- foldl_rep ay k (Å++ay),<- e,Br,List.foldl_cons]
section
variable {X:Cx}{Z:List (dL×Obj)}{σ:St}{H:Hp}{s:ce}{l:dL}{xs ys:List V}
def Inv.GZ {ay its':List bm}{n:Nat}{f:Array bm->Array bm}{t':Nat} (I:Inv X Z σ H s) (hH:H l=ap (.lst xs))
  (e:s.heap.get? l=ap {cls:=.type "list",data:=.seq ay.toArray n}) (hf:f ay.toArray=its'.toArray) (hv:Vals ys its') (hz:ys.length<=sizeLine) :
  Inv X Z σ (upd H l (.lst ys)) {s with heap:=s.heap.update l (Bk f),toks:=t'}:=by
 have q:=PySem.IsL.update e f;rw [hf] at q;refine I.write (x:=l) (e:=l) (by rw [hH];exact trivial) (.inl rfl) (λb' u hb hu=>(C6 s.heap (Bk f) (BA hb)).trans hu) ⟨_,q⟩ ?_;exact⟨hz,its',_,hv,q⟩
def Inv.VB {ay:List bm}{t':Nat} (I:Inv X Z σ H s) (hv:Vals ys ay) (hz:ys.length<=sizeLine) :
  Inv X Z σ (upd H s.heap.objs.size (.lst ys)) {s with heap:=s.heap.push {cls:=.type "list",data:=.seq ay.toArray},toks:=t'}:=
 I.laid (λ_ _ q=>Ai _ q) (Ao _) ⟨hz,ay,0,hv,Aq _ rfl⟩
def Inv.fresh (I:Inv X Z σ H s):H s.heap.objs.size=bv:=I.bN.fresh (Ao _)
def Inv.pe (I:Inv X Z σ H s) (hH:H l=ap (.lst xs)):xs.length<=sizeLine/\∃(ay:List bm) (n:Nat),Vals xs ay/\xs.length=ay.length/\s.heap.get? l=ap {cls:=.type "list",data:=.seq ay.toArray n}:=by
 obtain⟨z,ay,n,r,e⟩:=I.bN l _ hH;exact⟨z,ay,n,r,r.length,e⟩
def jv {n:Nat} (h:n<=sizeLine):Builtin.List.listTooLong n=false:=by
 exact decide_eq_false ∅
end
section
variable {X:Cx}
def Qv:V->List V->Hp->VK->Prop:=λx vs H Q=>∃l xs y,x=.ref l/\vs=[y]/\H l=ap (.lst xs)/\xs.length < sizeLine/\Q .aX (upd H l (.lst (xs++[y])))
def Kq:LY X "list.append" Qv:=by
 intro Z s σ H x vs v us Q I rx rv h;obtain⟨l,xs,y,rfl,rfl,hH,hz,q⟩:=h;cases rx;obtain⟨u,rfl,ru⟩:=rv.one;obtain⟨z,ay,n,r,hl,e⟩:=I.pe hH;refine xz F.slot_list_append ⟨_,e,rfl⟩ F.entry_list_append (F.args_list_append_2 _ _) (PySem.list_append l ay.toArray n u (by rw [Aj];omega)) ⟨e,?_⟩;refine⟨.aX,_,I.GZ (its':=ay++[u]) hH e (by simp) (r.append (.cons ru .nil)) ?_,rfl,q⟩;rw [Ae,Dj];omega
def Qt:V->List V->Hp->VK->Prop:=λx vs H Q=>∃l b xs zs,x=.ref l/\vs=[.ref b]/\H l=ap (.lst xs)/\H b=ap (.lst zs)/\xs.length+zs.length<=sizeLine/\Q .aX (upd H l (.lst (xs++zs)))
def Xh:LY X "list.extend" Qt:=by
 intro Z s σ H x vs v us Q I rx rv h;obtain⟨l,b,xs,zs,rfl,rfl,hH,hB,hz,q⟩:=h;cases rx;obtain⟨u,rfl,ru⟩:=rv.one;cases ru;obtain⟨z,ay,n,r,hl,e⟩:=I.pe hH;obtain⟨z2,cO,n2,r2,LU,e2⟩:=I.pe hB;have hsz:ay.toArray.size+cO.toArray.size<=sizeLine:=by rw [Aj,Aj];omega
 have sQ:¬(!ay.toArray.isEmpty&&Builtin.List.listTooLong (ay.toArray.size+cO.toArray.size))=true:=by
  rw [jv hsz,CI];exact AV
 refine xz D3 ⟨_,e,rfl⟩ DN (Dv _ _)
  (AutoSeq1.list_extend_list_list_0 l ay.toArray n b cO.toArray n2 sQ (by rw [Aj];omega) ∅) ⟨e,e2,?_⟩
 refine⟨.aX,_,I.GZ (its':=ay++cO) hH e (by simp) (r.append r2) ?_,rfl,q⟩;rw [Ae];omega
def acC:V->List V->Hp->VK->Prop:=λx vs H Q=>∃l xs y,x=.ref l/\vs=[]/\H l=ap (.lst xs)/\xs[xs.length-1]?=ap y/\Q y (upd H l (.lst xs.dropLast))
def Vv:LY X "list.pop" acC:=by
 intro Z s σ H x vs v us Q I rx rv h;obtain⟨l,xs,y,rfl,rfl,hH,hy,q⟩:=h;cases rx;have hus:=rv.zero;subst hus;obtain⟨z,ay,n,r,hl,e⟩:=I.pe hH;obtain⟨u,hu,ru⟩:=r.get hy;have V3:ay.toArray[ay.toArray.size-1]?=ap u:=by
  show ay.toArray[ay.length-1]?=ap u;rw [<- E3,<- hl];exact hu
 refine xz F.slot_list_pop ⟨_,e,rfl⟩ F.entry_list_pop (F.args_list_pop_1 _) (MeetsSeq.list_pop_last l ay.toArray n u V3 (by rw [Aj];omega)) ⟨e,?_⟩;refine⟨y,_,I.GZ (its':=ay.dropLast) hH e ?_ r.dropLast ?_,ru,q⟩
 ·rw [Aj,List.eraseIdxIfInBounds_toArray,HB]
 ·rw [List.length_dropLast];omega
def acD:R2:=λx y H Q=>∃l b xs zs,x=.ref l/\y=.ref b/\H l=ap (.lst xs)/\H b=ap (.lst zs)/\xs.length+zs.length<=sizeLine/\∀p,H p=bv->Q (.ref p) (upd H p (.lst (xs++zs)))
def Vm:iA X (tz .Add) acD:=by
 intro Z s σ H x y v u Q I rx ry h;obtain⟨l,b,xs,zs,rfl,rfl,hH,hB,hz,q⟩:=h;cases rx;cases ry;obtain⟨z,ay,n,r,hl,e⟩:=I.pe hH;obtain⟨z2,cO,n2,r2,LU,e2⟩:=I.pe hB;refine PySem.P.add_list e e2 ?_ (by rw [Aj,Aj];omega);have ea:ay.toArray++cO.toArray=(ay++cO).toArray:=by simp
 rw [ea];exact⟨.ref _,_,I.VB (t':=s.toks) (r.append r2) (by rw [Ae];omega),rfl,q _ I.fresh⟩
def acB:R2:=λx y H Q=>∃l k xs,x=.ref l/\y=.int k/\H l=ap (.lst xs)/\-(2 ^ 63)<=k/\k < 2 ^ 63/\xs.length*k.toNat<=sizeLine/\
 ∀p,H p=bv->Q (.ref p) (upd H p (.lst (Am k.toNat xs).flatten))
def len_rep {α:Type} (xs:List α) (k:Nat):(Am k xs).flatten.length=k*xs.length:=by
 induction k with
 | zero=>simp
 | succ k ih=>rw [Br,BZ,Ae,ih,Fx,Nat.add_comm]
def Vf:iA X (tz .Mult) acB:=by
 intro Z s σ H x y v u Q I rx ry h;obtain⟨l,k,xs,rfl,rfl,hH,h1,h2,hz,q⟩:=h;cases rx;obtain⟨t,rfl⟩:=ry;obtain⟨z,ay,n,r,hl,e⟩:=I.pe hH;have Á:ay.toArray.size*k.toNat<=sizeLine:=by rw [Aj,<- hl];exact hz
 have adH:¬ay.toArray.size*k.toNat > (2 ^ 63-1) / 8:=by
  have:(sizeLine:Nat)<=(2 ^ 63-1) / 8:=by decide
  omega
 have adB:¬(!Builtin.List.listFitsIndex k)=true:=by
  rw [fitsIndex_both h1 h2];exact AV
 have sQ:¬Builtin.List.listTooLong (ay.toArray.size*k.toNat)=true:=by
  rw [jv Á];exact AV
 have RI:List.foldl (λx1 x2=>x1++x2) #[] (Am (if ay.toArray.isEmpty=true then 0 else k.toNat) ay.toArray)=(Am k.toNat ay).flatten.toArray:=by
  have f0:∀m:Nat,List.foldl (λx1 x2=>x1++x2) #[] (Am m ay.toArray)=(Am m ay).flatten.toArray:=λm=>by
   have:=foldl_rep ay m [];exact this
  rw [f0];cases ay with
  | nil=>simp
  | cons a r'=>rw [if_neg (by simp)]
 refine wpAny_binaryOp_repeat_ref (T:="list") (U:="int") (by decide) ⟨_,e,rfl⟩ (λs'=>typeIs_int s' k t) noFill_list_mul F.fills_int_mul F.slot_int_rmul repeat_list F.slot_int_index.lookup
  (xz F.slot_int_rmul (typeIs_int s k t) F.entry_int_rmul (F.args_int_rmul_2 _ _) (int___rmul___int_list k t l ay.toArray n)
   ⟨e,rfl,⟨_,e,rfl⟩,xz F.slot_list_mul ⟨_,e,rfl⟩ F.entry_list_mul (F.args_list_mul_2 _ _) (AutoListH.list___mul___list_int_3 l ay.toArray n k t adB adH sQ) ⟨e,?_⟩⟩)
 rw [RI];exact⟨.ref _,_,I.VB (t':=s.toks) (r.rep k.toNat) (by rw [len_rep,Nat.mul_comm];exact hz),rfl,q _ I.fresh⟩
end
section
variable {prog:f8}{w:lc}{A:kw}{E:bm->ce->Prop}{s:ce}
def J8 (ay cO:List bm) (a c:Nat):ay.toArray.extract 0 a++cO.toArray++ay.toArray.extract c ay.toArray.size=(ay.take a++cO++ay.drop c).toArray:=by
 apply Ez.mp
 first
  | (
    simp;exact Cs (by simp))
  | simp [Cs]
  | simp
def H9 {a c n:Nat} (Xp:a<=c) (hc:c<=n):wn (ap (a:Int)) (ap (c:Int)) bv n=((a:Int),(c:Int),1):=by
 simp only [wn,Er];have h1:¬((a:Int) < 0):=by omega
 have h2:¬((c:Int) < 0):=by omega
 congr 1
 ·omega
 ·congr 1;omega
set_option maxRecDepth 100000 in
def uo {l b sl:dL}{items new:Array bm}{n n2:Nat}{vl vu:bm}{a c:Nat}{Q:Unit->ce->Prop}
  (e:s.heap.get? l=ap {cls:=.type "list",data:=.seq items n}) (e2:s.heap.get? b=ap {cls:=.type "list",data:=.seq new n2}) (NW:l≠b)
  (hs:s.heap.IsSliceOf sl vl vu .none) (pl:IsPart vl (ap (a:Int))) (pu:IsPart vu (ap (c:Int))) (Xp:a<=c) (hc:c<=items.size)
  (hsz:items.size+new.size<=sizeLine) (h:Q () {s with heap:=s.heap.update l (Bk λxs=>xs.extract 0 a++new++xs.extract c xs.size)}) :
  d4 (d5 prog w) A (Fa (.ref l) (.ref sl) (.ref b)) Q E s:=by
 have hl:s.heap.IsList l items:=FG e;have hb:s.heap.IsList b new:=FG e2;obtain⟨os,zA,TH,KL⟩:=id hs;have TL:s.TypeIs (.ref sl) "slice":=⟨os,zA,TH⟩;have ZH:¬((rawPart bv==wv 0)=true):=AV;have NU:Builtin.List.listSameRef (.ref l) (.ref b)=false:=by
  unfold Builtin.List.listSameRef;exact beq_eq_false_iff_ne.mpr NW
 have adq:(max (a:Int) (c:Int)).toNat=c:=by omega
 have Hf:((λxs:Array bm=>xs.extract 0 a++new++xs.extract c xs.size) items).size<=sizeLine+1:=by
  simp only [Eh,Array.size_extract];omega
 unfold Fa
 try with_reducible refine A9 ?_
 first | refine Aa (Af ?_) | skip
 refine Aa (C8 hl.typeIs (by decide) ?_);refine Aa (AW (name:=B6 "__setitem__") hl.typeIs slot_list_setitem
  (Bc slot_list_setitem hl.typeIs entry_list_setitem ?_ (args_list_setitem _ _ _)))
 show d4 _ _ (Builtin.List.listSubscript? (.ref sl) >>= _) _ _ s;refine Aa ?_;unfold Builtin.List.listSubscript?;refine Aa (DJ TL slice_no_index ?_);simp only [Option.isNone_none,if_true];refine Af ?_;show d4 _ _ (typeOf (.ref sl) >>= _) _ _ s;refine Aa (B8 TL ?_)
 first
  | rw [if_neg (by decide)]
  | refine PySem.W.KFB.if_not (by decide) ?_
 rw [listSliceParts_eq];refine Aa (Aa (AZ zA KL (x:=.none) rfl (Aa (E6 .none ?_))));rw [if_neg ZH];refine Aa (AZ zA KL (x:=vl) rfl (Aa (E6 pl ?_)));refine Aa (AZ zA KL (x:=vu) rfl (Aa (E6 pu (Af ?_))))
 first
  | simp only [NU,Ag,if_false]
  | refine PySem.W.KFB.if_not NU ?_
  | (
    dsimp only;rw [if_neg (by rw [NU];exact AV)])
 refine Aa (m:=Builtin.List.listAllItems (.ref b) "must assign iterable to extended slice") ?_;unfold Builtin.List.listAllItems;refine Aa (B8 hb.typeIs ?_)
 first
  | refine PySem.W.KFB.if_so (by decide) ?_
  | rw [if_pos (by decide)]
  | simp only [beq_self_eq_true,Bool.true_or,if_true]
 unfold Builtin.List.listItems;refine Aa (BC e2 rfl (Af ?_));refine Aa (Aa (BC e rfl (Af ?_)));refine Aa (Cq ((sliceIndices_raw (ap (a:Int)) (ap (c:Int)) bv items.size (by simp)).trans (congrArg (pure:Int×Int×Int->Sem (Int×Int×Int)) (H9 Xp hc))) ?_);show d4 _ _ (if ((1:Int)==1)=true then _ else _) _ _ s;rw [if_pos (by decide)];refine Aa (CF ?_)
 first
  | simp only [jv hsz,Ag,if_false]
  | refine PySem.W.KFB.if_not (jv hsz) ?_
 first | refine Aa (Af ?_) | skip
 show d4 _ _ (updateSeq l (λxs=>xs.extract 0 ((a:Int)).toNat++new++xs.extract (max (a:Int) (c:Int)).toNat xs.size) >>= _) _ _ s;rw [adq,A3];refine Aa (DH (hz:=Bp (Bz _ _) hsz) (_hz':=Hf) e rfl ?_);refine Aa (Dz ?_)
 first
  | exact Aa (Af (Af ⟨.none,rfl,Af h⟩))
  | exact Af ⟨.none,rfl,Af h⟩
end
section
variable {X:Cx}
def Ka {Z:List (dL×Obj)}{s:ce}{σ:St}{H:Hp}{l b sl:dL}{xs ys:List V}{a c:Int}{vl vu:bm}{Q:Unit->ce->Prop} (I:Inv X Z σ H s)
  (hH:H l=ap (.lst xs)) (hB:H b=ap (.lst ys)) (NW:l≠b) (hs:s.heap.IsSliceOf sl vl vu .none) (ra:RelV (.int a) vl) (rc:RelV (.int c) vu) (h0:0<=a) (Xp:a<=c) (hc:c<=xs.length)
  (hz:xs.length+ys.length<=sizeLine) (h:∀s',Inv X Z σ (upd H l (.lst (xs.take a.toNat++ys++xs.drop c.toNat))) s'->Q () s') :
  d4 (d5 X.prog X.w) X.A (Fa (.ref l) (.ref sl) (.ref b)) Q X.xe s:=by
 obtain⟨ta,rfl⟩:=ra;obtain⟨tc,rfl⟩:=rc;obtain⟨z,ay,n,r,hl,e⟩:=I.pe hH;obtain⟨z2,cO,n2,r2,LU,e2⟩:=I.pe hB;obtain⟨a',rfl⟩:=Ey h0;obtain⟨c',rfl⟩:=Ey (Int.le_trans h0 Xp);simp only [A3] at h;refine uo (a:=a') (c:=c') e e2 NW hs (.int _ _) (.int _ _) ∅ (by rw [Aj];omega) (by rw [Aj,Aj];omega) (h _ ?_);refine I.GZ (its':=ay.take a'++cO++ay.drop c') (t':=s.toks) hH e ?_ (Vals.append (Vals.append (r.take _) r2) (r.drop _)) ?_
 ·exact J8 ay cO a' c'
 ·rw [Ae,Ae,Cc,CJ];omega
end
section
variable {κ:Type} [DecidableEq κ]
def iW (kvs:List (κ×V)) (k:κ):Option V:=(kvs.find? λkv=>decide (kv.1=k)).map (·.2)
def putK (kvs:List (κ×V)) (k:κ) (v:V):List (κ×V):=
 if (kvs.any λkv=>decide (kv.1=k))=true then kvs.map (λkv=>if kv.1=k then (kv.1,v) else kv) else kvs++[(k,v)]
def kT {p:κ×V}{r:List (κ×V)}{k:κ} (e:p.1=k):iW (p::r) k=ap p.2:=by simp [iW,BE,e]
def kU {p:κ×V}{r:List (κ×V)}{k:κ} (e:¬p.1=k):iW (p::r) k=iW r k:=by simp [iW,BE,e]
theorem nB (k:κ):∀kvs:List (κ×V),(kvs.any λkv=>decide (kv.1=k))=(iW kvs k).isSome
 | []=>rfl
 | p::r=>by
  rw [Cb];by_cases e:p.1=k
  ·simp only [kT e,decide_eq_true e,Bool.true_or,Option.isSome_some]
  ·rw [kU e,decide_eq_false e,Bool.false_or];exact nB k r
def pP (kvs:List (κ×V)) (k:κ) (v:V):(putK kvs k v).length<=kvs.length+1:=by
 unfold putK
 split
 ·rw [Ah];omega
 ·rw [Ae,An,AU];omega
def tY.pj {o:Option V}{u:Option bm} (r:tY o u):o.isSome=u.isSome:=by
 cases o with
 | none=>cases u with
  | none=>rfl
  | some _=>exact (show False from r).elim
 | some _=>cases u with
  | none=>exact (show False from r).elim
  | some _=>rfl
def KV.val {kvs:List (κ×V)}{vs:List (κ×bm)} (r:KV kvs vs) (k:κ):tY (iW kvs k) (valueAt vs k):=by
 unfold KV at r
 induction r with
 | nil=>exact Cd
 | @cons p q ps qs h t ih=>
  obtain⟨h1,h2⟩:=h;by_cases e:p.1=k
  ·have e':q.1=k:=h1.symm.trans e;have b:valueAt (q::qs) k=ap q.2:=by simp [valueAt,BE,e']
   rw [kT e,b];exact h2
  ·have e':¬q.1=k:=λz=>e (h1.trans z);have b:valueAt (q::qs) k=valueAt qs k:=by simp [valueAt,BE,e']
   rw [kU e,b];exact ih
def KV.any {kvs:List (κ×V)}{vs:List (κ×bm)} (r:KV kvs vs) (k:κ):(kvs.any λkv=>decide (kv.1=k))=vs.any λkv=>decide (kv.1=k):=by
 induction r with
 | nil=>rfl
 | cons h t ih=>rw [Cb,Cb,ih,h.1]
def KV.UK {kvs:List (κ×V)}{vs:List (κ×bm)} (r:KV kvs vs) (k:κ) {y:V}{u:bm} (ry:RelV y u) :
  KV (kvs.map λkv=>if kv.1=k then (kv.1,y) else kv) (vs.map λkv=>if kv.1=k then (kv.1,u) else kv):=by
 induction r with
 | nil=>exact .nil
 | @cons p q ps qs h t ih=>
  rw [Au,Au];refine .cons ?_ ih;obtain⟨h1,h2⟩:=h;by_cases e:p.1=k
  ·rw [if_pos e,if_pos (h1.symm.trans e)];exact⟨h1,ry⟩
  ·rw [if_neg e,if_neg (λz=>e (h1.trans z))];exact⟨h1,h2⟩
def KV.put {kvs:List (κ×V)}{vs:List (κ×bm)} (r:KV kvs vs) (k:κ) {y:V}{u:bm} (ry:RelV y u):KV (putK kvs k y) (stored vs k u):=by
 unfold putK stored;rw [r.any k];by_cases e:(vs.any λkv=>decide (kv.1=k))=true
 ·rw [if_pos e,if_pos e];exact r.UK k ry
 ·rw [if_neg e,if_neg e];exact Paired.snoc r ⟨rfl,ry⟩
def KV.length {kvs:List (κ×V)}{vs:List (κ×bm)} (r:KV kvs vs):kvs.length=vs.length:=Paired.length r
end
def Jn {P:f8}{w:lc}{k:Key}{u:bm} (r:RelV (kV k) u):(cu P w).is k u=true:=by
 cases k with
 | inl i=>obtain⟨t,e⟩:=(show ∃t,u=DW i t from r);subst e;exact zh P w i t
 | inr x=>obtain⟨t,e⟩:=(show ∃t,u=DV x t from r);subst e;exact zg P w x t
theorem vj {P:f8}{w:lc}:∀{ks:List Key}{us:List bm},Vals (ks.map kV) us->ItemsAre (cu P w) ks us
 | [],_,r=>by rw [Fz] at r;cases r;exact .nil
 | k::ks,_,r=>by
  rw [Au] at r;cases r with
  | cons h t=>exact .cons (Jn h) (vj t)
abbrev KT (H:Hp):List (List Key×V)->List (List Key×dL×bm)->Prop:=Paired λp q=>p.1=q.1/\H q.2.1=ap (.tup (p.1.map kV))/\RelV p.2 q.2.2
def KT.val {H:Hp}{kvs:List (List Key×V)}{xs:List (List Key×dL×bm)} (r:KT H kvs xs) (k:List Key):tY (iW kvs k) ((atKey xs k).map (·.2)):=by
 induction r with
 | nil=>exact Cd
 | @cons p q ps qs h t ih=>
  obtain⟨h1,_,h2⟩:=h;by_cases e:p.1=k
  ·have e':q.1=k:=h1.symm.trans e;have b:atKey (q::qs) k=ap q.2:=by simp [atKey,BE,e']
   rw [kT e,b];exact h2
  ·have e':¬q.1=k:=λz=>e (h1.trans z);have b:atKey (q::qs) k=atKey qs k:=by simp [atKey,BE,e']
   rw [kU e,b];exact ih
def KT.UK {H:Hp}{kvs:List (List Key×V)}{xs:List (List Key×dL×bm)} (r:KT H kvs xs) (k:List Key) {y:V}{u:bm} (ry:RelV y u) :
  KT H (kvs.map λkv=>if kv.1=k then (kv.1,y) else kv) (xs.map (putAt k u)):=by
 induction r with
 | nil=>exact .nil
 | @cons p q ps qs h t ih=>
  rw [Au,Au];refine .cons ?_ ih;obtain⟨h1,h2,h3⟩:=h;unfold putAt;by_cases e:p.1=k
  ·rw [if_pos e,if_pos (h1.symm.trans e)];exact⟨h1,h2,ry⟩
  ·rw [if_neg e,if_neg (λz=>e (h1.trans z))];exact⟨h1,h2,h3⟩
def KT.put {H:Hp}{kvs:List (List Key×V)}{xs:List (List Key×dL×bm)} (r:KT H kvs xs) (k:List Key) {b:dL}{y:V}{u:bm} (hb:H b=ap (.tup (k.map kV))) (ry:RelV y u) :
  KT H (putK kvs k y) (FS xs k b u):=by
 have e:(kvs.any λkv=>decide (kv.1=k))=(atKey xs k).isSome:=by
  rw [nB,(r.val k).pj,Fw]
 unfold putK FS;rw [e];by_cases q:(atKey xs k).isSome=true
 ·rw [if_pos q,if_pos q];exact r.UK k ry
 ·rw [if_neg q,if_neg q];exact Paired.snoc r ⟨rfl,hb,ry⟩
def KT.keeps {H H':Hp}{kvs:List (List Key×V)}{xs:List (List Key×dL×bm)} (r:KT H kvs xs) (ht:∀b ys,H b=ap (.tup ys)->H' b=ap (.tup ys)):KT H' kvs xs:=
 Paired.Vy r λ_ _ z=>⟨z.1,ht _ _ z.2.1,z.2.2⟩
section
variable {P:f8}{w:lc}{H:Hp}{h:lw}{a:dL}
def S5 {u:HO} (ok:mq P w H h) (e:Rd H a u):bB P w H h a u:=e.ok ok
def tN {kvs:List (Key×V)} (ok:mq P w H h) (e:Rd H a (.dK kvs)):kvs.length<=sizeLine/\(a==u8)=false/\∃vs,KV kvs vs/\h.DictOf (cu P w) a vs:=
 show bB P w H h a (.dK kvs) from S5 ok e
def aau {kvs:List (Key×V)} (ok:mq P w H h) (e:H a=ap (.dK kvs)):kvs.length<=sizeLine/\(a==u8)=false/\∃vs,KV kvs vs/\h.DictOf (cu P w) a vs:=tN ok (.inl e)
def sD {ks:List Key} (ok:mq P w H h) (e:H a=ap (.tup (ks.map kV))):(pr (cu P w)).is h ks a:=by
 obtain⟨_,ay,r,o,h1,h2,n,h3⟩:=(show bB P w H h a (.tup (ks.map kV)) from ok a _ e);exact⟨o,ay.toArray,n,h1,h2,h3,by simpa using vj r⟩
def tM {kvs:List (List Key×V)} (ok:mq P w H h) (e:Rd H a (.dT kvs)):kvs.length<=sizeLine/\(a==u8)=false/\
  ∃xs,KT H kvs xs/\h.DictOfH (pr (cu P w)) a xs:=by
 obtain⟨z,y,xs,r,o,es,ep,h1,h2,h3,h4,h5⟩:=(show bB P w H h a (.dT kvs) from S5 ok e);refine⟨z,y,xs,r,o,es,ep,h1,h2,h3,h4,λx hx=>?_,h5⟩;have all:∀{l:List (List Key×V)}{m:List (List Key×dL×bm)},KT H l m->∀x∈m,(pr (cu P w)).is h x.1 x.2.1:=by
  intro l m q
  induction q with
  | nil=>intro x hx;exact nomatch hx
  | @cons p q ps qs hq t ih=>
   intro x hx;rcases Ax.mp hx with e | hx
   ·subst e;exact sD ok (by rw [<- hq.1];exact hq.2.1)
   ·exact ih x hx
 exact all r x hx
def aat {kvs:List (List Key×V)} (ok:mq P w H h) (e:H a=ap (.dT kvs)):kvs.length<=sizeLine/\(a==u8)=false/\
  ∃xs,KT H kvs xs/\h.DictOfH (pr (cu P w)) a xs:=tM ok (.inl e)
end
def uT (H:Hp) (a:dL) (y:V) (r:Option V):Prop:=
 (∃kvs k,Rd H a (.dK kvs)/\y=kV k/\r=iW kvs k)\/∃kvs k b,Rd H a (.dT kvs)/\y=.ref b/\H b=ap (.tup (k.map kV))/\r=iW kvs k
def Pm (H:Hp) (a:dL) (y v:V) (H':Hp):Prop:=
 (∃kvs k,H a=ap (.dK kvs)/\y=kV k/\kvs.length < sizeLine/\H'=upd H a (.dK (putK kvs k v)))\/
 ∃kvs k b,H a=ap (.dT kvs)/\y=.ref b/\H b=ap (.tup (k.map kV))/\kvs.length < sizeLine/\H'=upd H a (.dT (putK kvs k v))
theorem uT.k {H:Hp}{a:dL}{kvs:List (Key×V)}{k:Key} (e:H a=ap (.dK kvs)):uT H a (kV k) (iW kvs k):=.inl ⟨kvs,k,.inl e,rfl,rfl⟩
theorem Pm.k {H:Hp}{a:dL}{kvs:List (Key×V)}{k:Key}{v:V} (e:H a=ap (.dK kvs)) (hl:kvs.length < sizeLine):Pm H a (kV k) v (upd H a (.dK (putK kvs k v))):=.inl ⟨kvs,k,e,rfl,hl,rfl⟩
section
variable {X:Cx}{Z:List (dL×Obj)}{σ:St}{H:Hp}{s:ce}{a:dL}{y v:V}{u r:bm}{o:Option V}{A:kw}{E:bm->ce->Prop}
def Inv.big (I:Inv X Z σ H s):u8 < s.heap.objs.size:=by
 have h:=(I.mod.glob.keeps I.bk).lt;exact Nat.lt_trans (by decide) h
def Lq {Q:bm->ce->Prop} (hu:A.units+1 < sn) (I:Inv X Z σ H s) (g:uT H a y (ap v)) (ry:RelV y u) (h:∀w' s',Inv X Z σ H s'->RelV v w'->Q w' s') :
  d4 (d5 X.prog X.w) A (FB (.ref a) u) Q E s:=by
 rcases g with⟨kvs,k,e,ey,l⟩ | ⟨kvs,k,b,e,ey,eb,l⟩
 ·subst ey;obtain⟨z,hd,vs,Ñ,dd⟩:=tN I.bN e;obtain⟨w',hw,iB⟩:=tY.some_of (v:=v) (o:=valueAt vs k) (by rw [l];exact Ñ.val k);exact wpAny_getItem_of (Jn ry) dd.mapOf hw (h w' _ (I.tok _) iB)
 ·subst ey;cases (show u=AB b from ry);obtain⟨z,hd,xs,Ñ,dd⟩:=tM I.bN e;obtain⟨w',hw,iB⟩:=tY.some_of (v:=v) (o:=(atKey xs k).map (·.2)) (by rw [l];exact Ñ.val k);obtain⟨p,hp,xv⟩:=Option.map_eq_some_iff.mp hw;refine wpAny_getItem_heap (FM hu) (sD I.bN eb) dd hp ?_;rw [xv];exact h w' _ (I.tok _) iB
def ad5 {Q:bm->ce->Prop} (hu:A.units+1 < sn) (I:Inv X Z σ H s) (g:uT H a y o) (ry:RelV y u) (h:∀s',Inv X Z σ H s'->Q (.bool o.isSome) s') :
  d4 (d5 X.prog X.w) A (nn .In u (.ref a)) Q E s:=by
 rcases g with⟨kvs,k,e,ey,l⟩ | ⟨kvs,k,b,e,ey,eb,l⟩
 ·subst ey;obtain⟨z,hd,vs,Ñ,dd⟩:=tN I.bN e;refine wpAny_in_of (Jn ry) hd dd.mapOf ?_;rw [<- (Ñ.val k).pj,<- l];exact h _ (I.tok _)
 ·subst ey;cases (show u=AB b from ry);obtain⟨z,hd,xs,Ñ,dd⟩:=tM I.bN e;refine wpAny_in_heap (FM hu) (sD I.bN eb) hd dd ?_;have q:=(Ñ.val k).pj;rw [Fw] at q;rw [<- q,<- l];exact h _ (I.tok _)
def JP {h':lw}{t':Nat}{ob:HO} (I:Inv X Z σ H s) (mu:Mut (H a)) (hs:B7 a s.heap h') (he:∃q,h'.get? a=ap q) (new:bB X.prog X.w (upd H a ob) h' a ob) :
  Inv X Z σ (upd H a ob) {s with heap:=h',toks:=t'}:=
 I.write (x:=a) (e:=a) mu (.inl rfl) (λb q hb z=>(hs.2 b hb).trans z) he new
def WI {P:f8}{w:lc}{H':Hp}{h':lw}{kvs:List (Key×V)}{vs:List (Key×bm)} (z:kvs.length<=sizeLine) (hd:(a==u8)=false) (Ñ:KV kvs vs) (dd:h'.DictOf (cu P w) a vs) :
  bB P w H' h' a (.dK kvs):=⟨z,hd,vs,Ñ,dd⟩
def Lo {H':Hp}{Q:Unit->ce->Prop} (hu:A.units+1 < sn) (I:Inv X Z σ H s) (g:Pm H a y v H') (ry:RelV y u) (rv:RelV v r) (h:∀s',Inv X Z σ H' s'->Q () s') :
  d4 (d5 X.prog X.w) A (Fa (.ref a) u r) Q E s:=by
 rcases g with⟨kvs,k,e,ey,l,eH⟩ | ⟨kvs,k,b,e,ey,eb,l,eH⟩
 ·subst ey eH;obtain⟨z,hd,vs,Ñ,dd⟩:=aau I.bN e;have hz:vs.length<=sizeLine:=by rw [<- Ñ.length];exact z
  have hl:(putK kvs k v).length<=sizeLine:=by have:=pP kvs k v;omega
  refine wpAny_setItem_pairs (hsz:=hz) (Jn ry) dd λh' ü hs=>h _ ?_;have he:∃q,h'.get? a=ap q:=let ⟨q,_,_,hq,_⟩:=ü;⟨q,hq⟩;exact JP I (by rw [e];exact Cd) hs he (WI hl hd (Ñ.put k rv) ü)
 ·subst ey eH;cases (show u=AB b from ry);obtain⟨z,hd,xs,Ñ,dd⟩:=aat I.bN e;have hz:xs.length<=sizeLine:=by rw [<- Paired.length Ñ];exact z
  have hl:(putK kvs k v).length<=sizeLine:=by have:=pP kvs k v;omega
  refine wpAny_setItem_heap (hsz:=hz) (FM hu) (sD I.bN eb) dd λh' ü hs=>h _ ?_;obtain⟨q,es,ep,hq,h2,h3,h4,_,h5⟩:=ü;refine JP I (by rw [e];exact Cd) hs ⟨q,hq⟩ ⟨hl,hd,_,(Ñ.put k eb rv).keeps λc ys ec=>?_,q,es,ep,hq,h2,h3,h4,h5⟩;rw [aF (Jh ec e (λz=>nomatch z))];exact ec
end
def W8 (i:ga):Prop:=∀ov iv,subscripted i false ov iv=operate [ov,iv] (FB ov iv)
def P9 {prog:f8}{w:lc}{A:kw}{E:bm->ce->Prop}{s:ce}{env:Env}{value Ç:ga}{pos:Pos}{T id:String}{Q:bm->ce->Prop}
  (hl:Ge (.type T) "__getitem__"=pure (ap (.builtin id))) (hs:W8 Ç)
  (h:d4 (d5 prog w) A (lm value env) (λo s₁=>d4 (d5 prog w) A (lm Ç env) (λi s₂=>s₂.TypeIs o T/\d4 (d5 prog w) A (FB o i) Q E s₂) E s₁) E s) :
  d4 (d5 prog w) A (lm (.Subscript value Ç pos) env) Q E s:=by
 refine Subscript_ (BI h (λo s₁ h₁=>BI h₁ (λi s₂ h₂=>?_) λ_ _ x=>x) λ_ _ x=>x);obtain⟨hT,h₂⟩:=h₂;refine Aa ?_;refine Aa (DJ hT hl ?_);have fin:d4 (d5 prog w) A (subscripted Ç false o i) (λr s₃=>d4 (d5 prog w) A (letTemporaryGo value o r >>= λ_=>pure r) Q E s₃) E s₂:=by
  rw [hs o i];exact wpAny_operating (BI h₂ (λr s₃ h₃=>Aa (wpAny_letTemporaryGo (Af h₃))) λ_ _ x=>x)
 first
  | exact Af (Aa fin)
  | exact Aa (Af (Aa fin))
  | exact Aa fin
def zZ {X:Cx}{Z:List (dL×Obj)}{σ:St}{H:Hp}{s:ce}{a:dL}{y:V}{o:Option V} (I:Inv X Z σ H s) (g:uT H a y o):s.TypeIs (.ref a) "dict":=by
 rcases g with⟨kvs,k,e,_,_⟩ | ⟨kvs,k,b,e,_,_,_⟩
 ·obtain⟨_,_,vs,_,dd⟩:=tN I.bN e;exact dd.typeIs
 ·obtain⟨_,_,xs,_,dd⟩:=tM I.bN e;exact dd.typeIs
def Yg (td ty:TE):TE:=λσ H Q=>td σ H λx H1=>ty σ H1 λy H2=>∃a v,x=.ref a/\uT H2 a y (ap v)/\Q v H2
def ack (ty td:TE):TE:=λσ H Q=>ty σ H λy H1=>td σ H1 λx H2=>∃a o,x=.ref a/\uT H2 a y o/\Q (.bl o.isSome) H2
def Yw (td ty tv:TE):TS:=λD σ H=>tv σ H λv H1=>td σ H1 λx H2=>ty σ H2 λy H3=>∃a H4,x=.ref a/\Pm H3 a y v H4/\D.nx σ H4
section
variable {X:Cx}{o i value:ga}{pos Ó:Pos}{td ty tv:TE}
def QK (hu:X.A.units+1 < sn) (ho:PE X o td) (hi:PE X i ty) (hs:W8 i):PE X (.Subscript o i pos) (Yg td ty):=by
 intro Z s σ H Q I h;refine P9 PySem.F.slot_dict_getitem.lookup hs (bH (ho Z s σ H _ I h) λu s1 ⟨x,H1,I1,rx,q1⟩=>bH (hi Z s1 σ H1 _ I1 q1) λiv s2 ⟨y,H2,I2,ry,a,v,ex,g,q2⟩=>?_);subst ex;obtain rfl:u=AB a:=rx;exact⟨zZ I2 g,Lq hu I2 g ry λw' s3 I3 iB=>⟨v,H2,I3,iB,q2⟩⟩
def Vd (hu:X.A.units+1 < sn) (hi:PE X i ty) (ho:PE X o td):PC X .In i o (ack ty td):=by
 intro Z s σ H Q I h;refine bH (hi Z s σ H _ I h) λiv s1 ⟨y,H1,I1,ry,q1⟩=>bH (ho Z s1 σ H1 _ I1 q1) λu s2 ⟨x,H2,I2,rx,a,ov,ex,g,q2⟩=>?_;subst ex;obtain rfl:u=AB a:=rx;exact ad5 hu I2 g ry λs3 I3=>⟨.bl ov.isSome,H2,I3,rfl,q2⟩
def Qy (hu:X.A.units+1 < sn) (ho:PE X o td) (hi:PE X i ty) (hv:PE X value tv) (hs:o0 value (ap (.Subscript o i Ó)) pos.line X.env=pure false) :
  PS X (.Assign [.Subscript o i Ó] value pos) (Yw td ty tv):=by
 intro Z s σ H D I h;refine wpAny_Assign_Subscript (bH (hv Z s σ H _ I h) λr s1 ⟨v,H1,I1,rv,q1⟩=>bH (ho Z s1 σ H1 _ I1 q1) λu s2 ⟨x,H2,I2,rx,q2⟩=>bH (hi Z s2 σ H2 _ I2 q2) λiv s3 ⟨y,H3,I3,ry,a,H4,ex,g,q3⟩=>?_) hs;subst ex;obtain rfl:u=AB a:=rx;exact Lo hu I3 g ry rv λs4 I4=>⟨σ,H4,I4,q3⟩
end
def OS {P:f8}{w:lc}{H:Hp} (h:lw) (hb:u8 < h.objs.size):bB P w H (h.push {cls:=.type "dict",data:=.dict #[]}) h.objs.size (.dK []):=
 ⟨Bj _,beq_eq_false_iff_ne.mpr (BA (AE hb)),[],.nil,Heap.DictOf.new h⟩
def Ux:TE:=λ_ H Q=>∀p,H p=bv->Q (.ref p) (upd H p (.dK []))
section
variable {X:Cx}{pos:Pos}
def M5:PE X (.Dict [] [] pos) Ux:=λZ s σ H Q I h=>
 wpAny_Dict_empty ⟨.ref s.heap.objs.size,_,I.laid (a:=s.heap.objs.size) (o:=.dK []) (t':=s.toks) (λ_ _ q=>Ai _ q) (Ao _) (OS s.heap I.big),rfl,h _ (I.bN.fresh (Ao _))⟩
end
structure M2 (X:Cx) (o:ga) (m:Str) (Â:Pos) (e f:ga) (bQ:Pos):Prop where
 base:sK o m X.env (lm o X.env)=lm o X.env
 few:((mo bQ (ci [e,f] X.env)).all (λx=>!x.1)&&(backToKw bQ (Fk [] X.env)).all (λx=>x.1.isSome)
  && decide (([e,f]:List ga).length+([]:List wT).length+(if ([]:List wT).isEmpty then 0 else 1) < 30))=true
 line:(Â.endLine==bQ.line)=true
 trees:mo bQ (ci [e,f] X.env)=[(false,lm e X.env),(false,lm f X.env)]
def IsD (H:Hp) (a:dL):Prop:=(∃kvs,Rd H a (.dK kvs))\/∃kvs,Rd H a (.dT kvs)
end L2
namespace Att
open PySem PySem.W PySem.Calls PyProof.Rows
def qj {P:Params}{h:lw}:∀(ns:List Int) (vs:List bm),WellAll P h vs (ns.map WData.int)->Da vs ns:=by
 intro ns
 induction ns with
 | nil=>
  intro vs w;cases w;exact .nil
 | cons n ns ih=>
  intro vs w;cases w with
  | cons a b=>
   cases a;exact .cons _ _ (ih _ b)
def Kb {l:OpenLaw}{n:Nat} (hn:l.most=ap n) {P:Params}{h:lw}{args:List WData}{Û:List bm}
  (RF:l.row.toRowW.claim.pre args=true) (Đ:WellAll P h Û args) :
  ∃a vs ns,Û=[AB a]/\args=[WData.list (ns.map WData.int)]/\h.get? a=ap {cls:=.type "list",data:=.seq vs.toArray}/\Da vs ns/\ns.length<=n:=by
 have hsh:=(pre_splitW RF).1;have hc:l.pre.holds [] {args:=args}=true:=(pre_splitW RF).2;obtain⟨d,r,rfl,h1,h2⟩:=hasAllW_cons hsh;obtain rfl:=hasAllW_nil h2;obtain⟨xs,rfl,h3⟩:=hasW_list h1;obtain⟨ns,rfl⟩:=items_int h3;have Á:ns.length<=n:=by
  unfold OpenLaw.pre at hc;have h4:(WTm.not (.lt (.lit (.int (n:Int))) (.len (.arg 0)))).holds [] {args:=[.list (ns.map .int)]}=true:=by
   have h4:=(holds_andW hc).1;rw [hn] at h4;exact h4
  have h5:=condW_of h4 (w_not (w_lt w_lit (w_len_list (w_arg rfl))));refine Nat.le_of_not_lt λq=>?_
  first
   | (rw [decide_eq_true q'] at h5;exact absurd h5 (by decide))
   | (simp at h5;omega)
 cases Đ with
 | cons w1 w2=>
  cases w2;cases w1 with
  | list ho adK=>exact⟨_,_,ns,rfl,rfl,ho,qj ns _ adK,Á⟩
def Ki (l:OpenLaw) (args:List WData):l.row.toRowW.claim.post args (.bool true) args=true:=
 postW_of (r:=l.row.toRowW) (X:=(true==true))
  (show WShape.has [] (.bool true) .bool=true by first | rfl | decide | simp [WShape.has,WShape.arms,WShape.armsAll])
  (show (WTm.eq .res (.lit (.bool true))).value [] {args:=args,res:=ap (.bool true),after:=args}=ap (.bool (true==true)) from w_eq_bool (w_res rfl) w_lit) rfl
def FT {l:OpenLaw}{n:Nat}{q:f8}{Î:List Str}{XP:(Str->Option bm)->lw->Prop}{YP:lc->lw->Prop}{d:DefRec}
  (hn:l.most=ap n) (ZX:d.params.defaults=[])
  (call:∀(w:lc) (s₀ s₁:ce) (mg mb:Str->Option bm) (fa:dL) (o:Obj) (pm cd È:bm) (a:dL) (vs:List bm) (ns:List Int),
   Ground q Î [] XP w s₀ mg mb s₁.heap->YP w s₁.heap->
   s₁.heap.get? fa=ap o->o.data=.func (docDef d.name d.params d.body d.scope pm cd È)->s₁.heap.CodeRec cd d.name->mg d.name=ap (.ref fa)->
   s₁.heap.get? a=ap {cls:=.type "list",data:=.seq vs.toArray}->Da vs ns->ns.length<=n->s₁.gens=#[]->
   GE (d5 l.prog w) callerA (.call (.ref fa) ⟨[.ref a],[]⟩) (λr s'=>r=.ok (.ret (.bool true))/\OldK s₁.heap s'.heap/\s'.os=s₁.os/\GM s'.gens) s₁) :
  WalkO q Î XP YP l.row.toRowW d [] (λf vs=>FN f vs):=by
 intro w s₀ s₁ mg mb G Y fa o pm cd È dV kV ho hd i6 hD hmg hg args Û as RF ahw hrd Đ hlo;obtain rfl:dV=.none:=Dflts.none hD ZX;obtain rfl:kV=.none:=Dflts.noKw hD;obtain⟨a,vs,ns,rfl,rfl,V6,Õ,Á⟩:=Kb hn RF Đ;refine enter_call (codeAny_mono (call w s₀ s₁ mg mb fa o pm cd È a vs ns G Y ho (fd_plain hd) i6 hmg V6 Õ Á hg) λr s' hq=>?_);obtain⟨rfl,h2,h3,h4⟩:=hq;exact⟨.inl ⟨.bool true,.bool true,[],rfl,λ_=>rfl,.bool true,Ki l _,λ_=>⟨List.Pairwise.nil,λ_ hm=>(nomatch hm)⟩⟩,h2,h3,h4⟩
end Att
namespace L2
open PySem PySem.Spec PyProof.Rows
theorem oT:∀{vs:List bm}{ns:List Int},Da vs ns->Vals (ns.map V.int) vs
 | _,_,.nil=>.nil
 | _,_,.cons n t h=>.cons ⟨t,rfl⟩ (oT h)
def SJ (H:Hp):Prop:=∀b,H b=bv\/∃o xs,H b=ap (.cU o (.lst xs))
def NA {P:f8}{w:lc}{K:Ab}{mg mb:Str->Option bm}{CX:LZ}{k:Nat}{fa a:dL}{fd:sw}{x:Str}{sp:Sp}{s₁:ce}{vs:List bm}{ns:List Int}
  (KX:K.In s₁.heap) (hns:s₁.heap.Ns ev mg) (hb:s₁.heap.Ns builtinsNs mb) (hbb:∀x:Str,x≠"__name__"->mb x=re x) (adt:s₁.heap.NoLimit) (hg:s₁.gens=#[])
  (ha:s₁.heap.get? a=ap {cls:=.type "list",data:=.seq vs.toArray}) (hi:Da vs ns) (hl:ns.length<=sizeLine) (hr:da k callerA)
  (F:∀base:lw,K.In base->base.Ns ev mg->gj P w K mg base CX k fa fd [x] sp) (ZZ:∀(s:ce) (u:bm),BindsTo s fd ⟨[u],[]⟩ [(x,u)])
  (RE:∀H:Hp,SJ H->dq K H a (ns.map V.int)->sp [.ref a] H (λv _=>v=.bl true) λ_ _ _=>False)
  (Ħ:∀H e s',CX [] H s₁ (λ_ _ _=>False) e s'->False) :
  GE (d5 P w) callerA (.call (.ref fa) ⟨[.ref a],[]⟩) (λr s'=>r=.ok (.ret (.bool true))/\OldK s₁.heap s'.heap/\s'.os=s₁.os/\GM s'.gens) s₁:=by
 have rv:=oT hi;have acN:=hi.length;have â:∀H:Hp,SJ H->dq K H a (ns.map V.int)->mq P w H s₁.heap->(∀b,H b≠bv->b=a)->(H a≠bv->K.lookup a=bv)->
   GE (d5 P w) callerA (.call (.ref fa) ⟨[.ref a],[]⟩) (λr s'=>r=.ok (.ret (.bool true))/\OldK s₁.heap s'.heap/\s'.os=s₁.os/\GM s'.gens) s₁:=by
  intro H hO hS bN hA hK;have JR:∀{b:dL}{o:Obj},s₁.heap.get? b=ap o->H b=bv->(xw s₁.heap H).get? b=ap o:=λe n=>NY e n;have Za:∀{b:dL}{o:Obj}{es:Array Gc}{ep:Nat},s₁.heap.get? b=ap o->o.data=.dict es ep->H b=bv:=λ{b o es ep} e d=>by
   cases q:H b with
   | none=>rfl
   | some u=>
    have e':b=a:=hA b (by rw [q];simp);subst e';rw [ha] at e;cases e;have d':E5 vs.toArray _=Data.dict es ep:=d;cases d'
  have é:∀{b:dL}{m:Str->Option bm},s₁.heap.Ns b m->(xw s₁.heap H).Ns b m:=λ{b m} ⟨o,es,ep,e,d,r⟩=>⟨o,es,ep,JR e (Za e d),d,r⟩;have hKb:K.In (xw s₁.heap H):=λb o e=>JR (KX b o e) (by
   cases q:H b with
   | none=>rfl
   | some u=>
    have e':b=a:=hA b (by rw [q];simp);subst e';rw [hK (by rw [q];simp)] at e;cases e)
  have hM:Mod K mg (xw s₁.heap H):=⟨hKb,é hns,⟨mb,é hb,hbb⟩,let ⟨mc,h1,h2⟩:=adt;⟨mc,é h1,h2⟩⟩;have e0:SN P w K mg (xw s₁.heap H) callerA [] s₁ H:=⟨rfl,hM,λb o e=>QY e,Nat.le_of_eq (KJ _ _),trivial,λb hb=>absurd (show b∈([]:List dL) from hb) (by simp),bN,.of_eq hg⟩;refine codeAny_mono ((F _ hKb (é hns)).run callerA [] s₁ H ⟨[.ref a],[]⟩ [.ref a] [.ref a] _ _ hr e0 (ZZ s₁ (.ref a)) (.cons rfl .nil) (RE H hO hS)) λr s' h=>?_;cases r with
  | error e=>exact (Ħ H e s' h).elim
  | ok fl=>
   cases fl with
   | next=>exact Bm h
   | brk=>exact Bm h
   | cont=>exact Bm h
   | ret u=>
    obtain⟨v,H',os,bare,un,ado,r',q⟩:=h;have q':v=.bl true:=q;subst q';obtain rfl:u=B1 true:=r';refine⟨rfl,OldK.of_keep λb o e=>?_,os,bare⟩;cases q:H b with
    | none=>exact un.keep b o e q (by intro z;exact absurd (show b∈([]:List dL) from z) (by simp)) (by simp)
    | some u=>
     rcases hO b with z | ⟨ob,xs,z⟩
     ·rw [q] at z;cases z
     ·have z2:=un.qt b ob _ z;obtain⟨e1,_⟩:=bN b _ z;obtain⟨e2,_⟩:=ado b _ z2;rw [e] at e1;cases e1;exact e2
 cases hk:K.lookup a with
 | some o=>
  have e:=KX a o hk;rw [ha] at e;cases e;refine â (λ_=>bv) (λ_=>.inl rfl) (.inr ⟨_,vs.toArray,_,hk,rfl,rfl,rfl,by rw [Aj,acN];exact hl,by simpa using rv⟩) (λb u z=>by have z':(bv:Option HO)=ap u:=z;cases z') (λb z=>absurd rfl z) λz=>absurd rfl z
 | none=>
  refine â (λb=>if b=a then ap (.cU {cls:=.type "list",data:=.seq vs.toArray} (.lst (ns.map V.int))) else bv) (λb=>?_) (.inl (.inr ⟨{cls:=.type "list",data:=.seq vs.toArray},if_pos rfl⟩)) (λb u z=>?_) (λb z=>?_) λ_=>hk
  ·by_cases hb:b=a
   ·exact .inr ⟨_,_,if_pos hb⟩
   ·exact .inl (if_neg hb)
  ·by_cases hb:b=a
   ·have z':=(if_pos hb).symm.trans z;cases z';subst hb;exact⟨ha,by rw [Ah];exact hl,vs,_,rv,ha⟩
   ·have z':=(if_neg hb).symm.trans z;cases z'
  ·by_cases hb:b=a
   ·exact hb
   ·exact absurd (if_neg hb) z
def PQ {l:EO}{n k:Nat}{q:f8}{Î:List Str}{XP:(Str->Option bm)->lw->Prop}{YP:lc->lw->Prop}{d:DefRec}{K:Params->Ab}{CX:lc->LZ}{sp:lc->Sp}{x:Str}
  (hn:l.most=ap n) (hn2:n<=sizeLine) (ZX:d.params.defaults=[]) (hr:da k callerA)
  (hY:∀(w:lc) (h:lw),YP w h->(K w.params).In h)
  (F:∀(w:lc) (mg:Str->Option bm) (fa:dL) (h:lw),(K w.params).In h->h.Ns ev mg->mg d.name=ap (.ref fa)->
   ∃fd:sw,(∀(s:ce) (u:bm),BindsTo s fd ⟨[u],[]⟩ [(x,u)])/\
    ∀base:lw,(K w.params).In base->base.Ns ev mg->gj l.prog w (K w.params) mg base (CX w) k fa fd [x] (sp w))
  (RE:∀(w:lc) (H:Hp) (a:dL) (ns:List Int),ns.length<=n->SJ H->dq (K w.params) H a (ns.map V.int)->sp w [.ref a] H (λv _=>v=.bl true) λ_ _ _=>False)
  (Ħ:∀(w:lc) (H:Hp) (s:ce) (e:bm) (s':ce),CX w [] H s (λ_ _ _=>False) e s'->False) :
  PySem.W.WalkO q Î XP YP l.row.toRowW d [] (λf vs=>FN f vs):=by
 refine Att.FT hn ZX λw s₀ s₁ mg mb fa o pm cd È a vs ns G Y ho hd i6 hmg V6 Õ Á hg=>?_;have KX:=hY w _ Y;obtain⟨fd,hb,hF⟩:=F w mg fa _ KX G.T.g hmg;exact NA KX G.T.g G.T.b G.T.builtins G.T.nolimit hg V6 Õ (Bp Á hn2) hr hF hb (λH hO hS=>RE w H a ns Á hO hS) λH e s'=>Ħ w H s₁ e s'
def gI (s:ul):Arguments:=match s with
 | .FunctionDef _ a _ _ _ _ _ _ _ _=>a
 | _=>{posonlyargs:=[],args:=[],vararg:=bv,kwonlyargs:=[],kw_defaults:=[],kwarg:=bv,defaults:=[]}
def bx (s:ul):List ul:=match s with
 | .FunctionDef _ _ b _ _ _ _ _ _ _=>b
 | _=>[]
def ag (s:ul):nw:=match s with
 | .FunctionDef _ _ _ _ _ _ sc _ _ _=>sc
 | _=>{kind:=.function,names:=[],isGenerator:=false,isCoroutine:=false}
abbrev mr:LZ:=λ_ _ _ _ _ _=>False
abbrev E0:XK:=λ_ _ _=>False
def S9 {X:Cx}:Passes mr X E0:=λ_ _ _ _ _ _ _ h=>h.elim
structure PB (K:Ab) (x qual:Str) (st:ul) (f:dL) (fd:sw):Prop where
 ex:∃(oc:bm) (od:Option dL) (kV È pm:bm) (an:Option dL) (cQ ct:bm) (Nc:Array (Option bm)),
  fd=BR x qual (gI st) (bx st) (ag st) .none kV È pm an cQ ct/\K.lookup f=ap ⟨oc,od,.func fd,Nc⟩/\DY K cQ qual=true
 kp:CC K (.ref f)=true
section
variable {P:f8}{w:lc}{K:Ab}{mg:Str->Option bm}{base:lw}
def PB.ok {x qual:Str}{st:ul}{f:dL}{fd:sw}{N ps:List Str}{k:Nat}{sp:Sp} (F:PB K x qual st f fd) (S:ar N ps (ag st)) (len:∀vs H Q E,sp vs H Q E->vs.length=ps.length)
  (N3:∀(cQ:bm) (A:kw) (outer:List Env) (s:ce) (H:Hp) (vs:List V) (Q:VK) (E:XK),da k (A.deeper (ut qual (ag st) s.heap.objs.size f cQ))->sp vs H Q E->
   ∃t,rg (jJ mr P w K mg base N qual (ag st) f cQ A outer s H E).yA (bx st) t/\t {nx:=λ_ H'=>Q .aX H',rt:=Q} (start N vs) H):gj P w K mg base mr (k+1) f fd ps sp:=by
 obtain⟨oc,od,kV,È,pm,an,cQ,ct,Nc,rfl,lk,i6⟩:=F.ex;refine aaa lk i6 S len λA outer s H vs Q E hr RE=>?_;obtain⟨t,h,q⟩:=N3 cQ A outer s H vs Q E hr RE;exact⟨t,h.yA,q⟩
def PB.binds {x qual:Str}{st:ul}{f:dL}{fd:sw}{ps:List Str} (F:PB K x qual st f fd)
  (h:∀(kV È pm:bm) (an:Option dL) (cQ ct:bm) (us:List bm),us.length=ps.length->bindArgs (BR x qual (gI st) (bx st) (ag st) .none kV È pm an cQ ct) ⟨us,[]⟩=pure (ps.zip us)):Binds K fd ps []:=by
 obtain⟨oc,od,kV,È,pm,an,cQ,ct,Nc,rfl,lk,i6⟩:=F.ex;exact .all (h kV È pm an cQ ct)
def Wk {x qual:Str}{st:ul}{f:dL}{oc:bm}{od an:Option dL}{Nc:Array (Option bm)}{kV È pm cQ ct:bm} (l:K.lookup f=ap ⟨oc,od,.func (BR x qual (gI st) (bx st) (ag st) .none kV È pm an cQ ct),Nc⟩)
  (c:DY K cQ qual=true) (k:CC K (.ref f)=true):PB K x qual st f (BR x qual (gI st) (bx st) (ag st) .none kV È pm an cQ ct):=⟨⟨oc,od,kV,È,pm,an,cQ,ct,Nc,rfl,l,c⟩,k⟩
end
def uY {n:Nat} (h:n<=1000):n < sizeLine:=Nat.lt_of_le_of_lt h (by decide)
def uA {A B:Prop} (h:B):if false=true then A else B:=by
 exact h
def uz {A B:Prop} (h:A):if true=true then A else B:=by
 exact h
def kO (H H':Hp):Prop:=∀b o,H b=ap o->H' b=ap o
def kO.refl (H:Hp):kO H H:=λ_ _ h=>h
def lsz {h:lw}{b:Nat}{o:Obj} (e:h.get? b=ap o):b < h.objs.size:=Ar e
def neN {a b:Nat} (h:a≠b):a≠b:=h
def ltN {a b:Nat} (h:a < b):a < b:=h
def T7 {h:lw}{c:Nat}{v:Option bm} (q:h.IsCell c v):c < h.objs.size:=q.lt
structure aG (Xs:nw) (N:List Str) (sc:nw) (N':List Str) (ix:List (Option Nat)):Prop where
 kind:sc.kind=.function
 nc:∀y∈sc.names,y.2≠.cell
 loc:∀y∈sc.names,y.2=.local->sc.names.lookup y.1=ap .local
 fr:∀y∈sc.names,y.2=.free->(Xs.names.lookup y.1=ap .cell\/Xs.names.lookup y.1=ap .free)
 nd:N'.Nodup
 len:ix.length=N'.length
 map:((ix.zip N').all λp=>match p.1 with | none=>true | some j=>decide (N[j]?=ap p.2)&&decide (sc.names.lookup p.2=ap .free))=true
def aG.at {Xs:nw}{N:List Str}{sc:nw}{N':List Str}{ix:List (Option Nat)} (S:aG Xs N sc N' ix) {i j:Nat}{x:Str} (h1:ix[i]?=ap (ap j)) (h2:N'[i]?=ap x) :
  N[j]?=ap x/\sc.names.lookup x=ap .free:=by
 have hm:((ap j,x):Option Nat×Str)∈ix.zip N':=by
  refine Bo (i:=i) ?_;rw [List.getElem?_zip_eq_some];exact⟨h1,h2⟩
 have q:=Cp.mp S.map _ hm;simp only [Av,decide_eq_true_eq] at q;exact q
def oE (ix:List (Option Nat)) (σ:St):St:=ix.map λo=>match o with | some j=>(σ[j]?).getD bv | none=>bv
def gq (X:Cx) (sc:nw) (N':List Str) (cl:List (Str×dL)) (C:dL) (s2:ce) (H2:Hp) (fp:List dL):Cx where
 prog:=X.prog
 w:=X.w
 K:=X.K
 mg:=X.mg
 base:=X.base
 A:=X.A
 N:=N'
 s₀:=s2
 H₀:=H2
 env:=compEnvC sc cl C X.env
 outer:=X.stack
 stack:=X.stack
 ex:=fp
 calm:=X.calm
 fn:=λ_=>false
 pn:=[]
 xe:=λ_ _=>False
theorem m8 {env:Env}:∀(names:List (Str×BT)) (cs:List (Str×dL)),(∀y∈names,y.2=.free->∃c,env.cells.lookup y.1=ap c)->
  ∃cl,(forIn names cs λ(x:Str×BT) (c:List (Str×dL))=>(match x with | (name,kind)=>do
    let c <- if (kind==Bg)=true then do let a <- cellOf env name;pure ((name,a)::c) else pure c
    pure (Ci c):Sem (ForInStep (List (Str×dL)))))=pure cl/\(∀x c,cl.lookup x=ap c->cs.lookup x=ap c\/(env.cells.lookup x=ap c/\(x,Bg)∈names))/\(∀x,((x,Bg)∈names\/(∃c,cs.lookup x=ap c))->∃c,cl.lookup x=ap c)
 | [],cs,_=>⟨cs,rfl,λ_ _ h=>.inl h,λx h=>h.elim (λz=>nomatch z) λz=>z⟩
 | (n,k)::r,cs,h=>by
  by_cases hk:k=.free
  ·subst hk;obtain⟨c,hc⟩:=h (n,.free) Bv rfl;obtain⟨cl,e,h1,h2⟩:=m8 r ((n,c)::cs) λy hy=>h y (AX _ hy);refine⟨cl,?_,λx d hd=>?_,λx hx=>?_⟩
   ·rw [B2,<- e];simp only [beq_self_eq_true,if_true,cellOf,hc,pure_bind]
   ·rcases h1 x d hd with z | ⟨z1,z2⟩
    ·rw [Bl] at z;by_cases hx:(x==n)=true
     ·rw [hx] at z;have vm:x=n:=eq_of_beq hx;subst vm;cases z;exact .inr ⟨hc,Bv⟩
     ·have vm:(x==n)=false:=by simpa using hx
      rw [vm] at z;exact .inl z
    ·exact .inr ⟨z1,AX _ z2⟩
   ·refine h2 x ?_;rcases hx with hx | ⟨d,hd⟩
    ·rcases Ax.mp hx with z | z
     ·injection z with z1 _;subst z1;exact .inr ⟨c,by rw [Bl];simp⟩
     ·exact .inl z
    ·by_cases hx:(x==n)=true
     ·exact .inr ⟨c,by rw [Bl,hx]⟩
     ·have vm:(x==n)=false:=by simpa using hx
      exact .inr ⟨d,by rw [Bl,vm];exact hd⟩
  ·obtain⟨cl,e,h1,h2⟩:=m8 r cs λy hy=>h y (AX _ hy);refine⟨cl,?_,λx d hd=>?_,λx hx=>?_⟩
   ·have hb:(k==Bg)=false:=by simpa using hk
    rw [B2,<- e];simp only [hb,Ag,if_false,pure_bind]
   ·rcases h1 x d hd with z | ⟨z1,z2⟩
    ·exact .inl z
    ·exact .inr ⟨z1,AX _ z2⟩
   ·refine h2 x ?_;rcases hx with hx | hx
    ·rcases Ax.mp hx with z | z
     ·injection z with _ z2;exact absurd z2.symm hk
     ·exact .inl z
    ·exact .inr hx
def mK {sc:nw}{env:Env} (h:∀y∈sc.names,y.2=.free->∃c,env.cells.lookup y.1=ap c) :
  ∃cl,closureFor sc env=pure cl/\(∀x c,cl.lookup x=ap c->env.cells.lookup x=ap c/\(x,Bg)∈sc.names)/\(∀x,(x,Bg)∈sc.names->∃c,cl.lookup x=ap c):=by
 obtain⟨cl,e,h1,h2⟩:=m8 (env:=env) sc.names [] h;refine⟨cl,?_,λx c hc=>(h1 x c hc).resolve_left (λz=>nomatch z),λx hx=>h2 x (.inl hx)⟩;unfold closureFor;have e':(forIn sc.names ([]:List (Str×dL)) λx r=>(match x with | (name,kind)=>if (kind==Bg)=true then do let a <- cellOf env name;pure (Ci ((name,a)::r)) else pure (Ci r):Sem (ForInStep (List (Str×dL)))))=pure cl:=by
  rw [<- e]
  first
   | rfl
   | (
     congr 1;funext x r;obtain⟨n,k⟩:=x;by_cases hk:(k==Bg)=true
     ·simp only [hk,if_true,pure_bind]
     ·simp only [hk,if_false,pure_bind,Ag])
   | simp only [pure_bind]
 simpa using e'
theorem hZ {env:Env}:∀{names:List (Str×BT)}{x:Str},
  (names.map λ(n,k)=>if (k==Bg&&env.scope.kind==.function&&env.kindOf n==ap .cell) then (n,Fm) else (n,k)).lookup x =
   (names.lookup x).map λk=>if (k==Bg&&env.scope.kind==.function&&env.kindOf x==ap .cell) then Fm else k
 | [],_=>rfl
 | (n,k)::r,x=>by
  have ih:=@hZ env r x;show List.lookup x ((if (k==Bg&&env.scope.kind==.function&&env.kindOf n==ap .cell)=true then (n,Fm) else (n,k))::_)=_;cases hx:x==n with
  | true=>
   have e:=eq_of_beq hx;subst e;by_cases hc:(k==Bg&&env.scope.kind==.function&&env.kindOf x==ap .cell)=true
   ·rw [if_pos hc,Bl,Bl,hx];simp only [Ct,hc,if_true]
   ·rw [if_neg hc,Bl,Bl,hx];simp only [Ct,hc,if_false];simp
  | false=>
   by_cases hc:(k==Bg&&env.scope.kind==.function&&env.kindOf n==ap .cell)=true
   ·rw [if_pos hc,Bl,Bl,hx];exact ih
   ·rw [if_neg hc,Bl,Bl,hx];exact ih
def XG (X:Cx) (É:List ga) (t:TT):Prop:=
 ∀(Z:List (dL×Obj)) (s:ce) (σ:St) (H:Hp) (Q:Bool->Hp->Prop),Inv X Z σ H s->t σ H Q->
  d4 (d5 X.prog X.w) X.A (forIn É true λc r=>if r=true then do let ok <- isTrue c X.env (lm c X.env);pure (Ci ok) else pure (Ci r)) (TP X Z σ Q) X.xe s
def acn:TT:=λ_ H Q=>Q true H
def QH {X:Cx}:XG X [] acn:=λZ s σ H Q I h=>by
 exact Af ⟨H,I,h⟩
def QG {X:Cx}{c:ga}{t:TT} (hc:PT X c t):XG X [c] t:=λZ s σ H Q I h=>by
 rw [B2];simp only [if_true,bind_assoc,pure_bind];refine Aa (bH (hc Z s σ H Q I h) λb s1 q=>?_);exact Af q
def tLc (ix:List (Option Nat)) (wi:TI) (g:TG) (tf:TT) (te:TE):TE:=λσ H Q=>wi σ H λJ H1=>∀D,H1 D=bv->∃W:Nat->Nat->St->List V->Hp->Prop,
 (∃m,W 0 m (oE ix σ) [] (upd H1 D (.lst [])))/\∀i m σ' ys H,W i m σ' ys H->H D=ap (.lst ys)/\
  ((J.stop i H/\Q (.ref D) H)\/(J.go i H/\∀x H',J.SU i H x H'->g x σ' H' λσ2 H2=>tf σ2 H2 λb H3=>
   if b=true then te σ2 H3 λy H4=>H4 D=ap (.lst ys)/\ys.length+1<=sizeLine/\∃m',m' < m/\W (i+1) m' σ2 (ys++[y]) (upd H4 D (.lst (ys++[y]))) else ∃m',m' < m/\W (i+1) m' σ2 ys H3))
def mB {prog:f8}{w:lc}{A:kw}{R:Result->ce->Prop}{s:ce}{Ä Ì iter:ga}{É:List ga}{scope:nw}{pos:Pos}{it Å:bm}{env:Env} (I:Nat->ce->Prop)
  (turn:∀n s,I n s->d4 (d5 prog w) A (pyNext it) (λr s₁=>match r with
   | none=>R (.ok .next) s₁
   | some v=>d4 (d5 prog w) A (GT Ì it v) (λ_ S1=>d4 (d5 prog w) A (xL Ì env v) (λ_ s₂=>
     d4 (d5 prog w) A (forIn É true λc r=>if r=true then do let ok <- isTrue c env (lm c env);pure (Ci ok) else pure (Ci r)) (λok s₃=>
      if ok=true then d4 (d5 prog w) A (lm Ä env) (λx s₄=>
       d4 (d5 prog w) A (call (.builtin "list.append") [Å,x]) (λ_ s₅=>∃m,m < n/\I m s₅) (λ_ _=>False) s₄) (λ_ _=>False) s₃
      else ∃m,m < n/\I m s₃) (λ_ _=>False) s₂) (λ_ _=>False) S1) (λ_ _=>False) s₁) (λ_ _=>False) s)
  (n:Nat) (h:I n s) :
  GE (d5 prog w) A (.compLoop (.ListComp Ä [⟨Ì,iter,É,0⟩] scope pos) 0 it Å env) R s:=by
 refine codeAny_loop rfl I (λn s hI=>?_) n h;refine wpAny_noted ?_;rw [compTurn_list];refine Aa (Ds (Aa (BI (turn n s hI) (λr s₁ h₁=>?_) λ_ _ h'=>h'.elim)));cases r with
 | none=>exact Af h₁
 | some v=>
  refine Aa (BI h₁ (λ_ S1 Zy=>?_) λ_ _ h'=>h'.elim);refine Aa (BI Zy (λ_ s₂ h₂=>Aa (BI h₂ (λok s₃ h₃=>?_) λ_ _ h'=>h'.elim)) λ_ _ h'=>h'.elim);cases ok with
  | false=>exact Af ⟨rfl,h₃⟩
  | true=>
   have Zx:d4 (d5 prog w) A (lm Ä env) (λx s₄=>
       d4 (d5 prog w) A (call (.builtin "list.append") [Å,x]) (λ_ s₅=>∃m,m < n/\I m s₅) (λ_ _=>False) s₄) (λ_ _=>False) s₃:=h₃
   exact Aa (Aa (BI Zx (λx s₄ h₄=>Aa (BI h₄ (λ_ s₅ h₅=>Af (Af ⟨rfl,h₅⟩)) λ_ _ h'=>h'.elim)) λ_ _ h'=>h'.elim))
section
variable {X:Cx}{Ä tg iter:ga}{É:List ga}{sc:nw}{pos:Pos}{N':List Str}{ix:List (Option Nat)}{wi:TI}{g:TG}{tf:TT}{te:TE}
structure aaM (X:Cx) (Z:List (dL×Obj)) (H:Hp) (C:dL):Prop where
 hn:H C=bv
 hL:C≠X.env.locals
 ab:X.s₀.heap.objs.size<=C
 cl:∀x c,X.env.cells.lookup x=ap c->c≠C
 pn:∀p∈X.pn++Z,p.1≠C
def Jl (hc:X.calm=true) (S:aG X.env.scope X.N sc N' ix)
  (hg:∀cl C s2 H2 fp,PG (gq X sc N' cl C s2 H2 fp) tg g) (hf:∀cl C s2 H2 fp,XG (gq X sc N' cl C s2 H2 fp) É tf) (he:∀cl C s2 H2 fp,PE (gq X sc N' cl C s2 H2 fp) Ä te)
  {Z:List (dL×Obj)}{σ:St}{H2:Hp}{s2:ce}{cl:List (Str×dL)} (sT:∀x c,cl.lookup x=ap c->X.env.cells.lookup x=ap c/\(x,Bg)∈sc.names) (KN:∀x,(x,Bg)∈sc.names->∃c,cl.lookup x=ap c)
  {it:dL}{fp:List dL}{tn:Nat->lw->Prop}{J:It}{Q:VK} (I2:Inv X Z σ H2 s2) (T:Turn X.prog X.w X.K tg J fp it tn) (J7:tn 0 s2.heap) (f2:∀b∈fp,uS X Z H2 b)
  (hW:∀D,H2 D=bv->∃W:Nat->Nat->St->List V->Hp->Prop,
   (∃m,W 0 m (oE ix σ) [] (upd H2 D (.lst [])))/\∀i m σ' ys H,W i m σ' ys H->H D=ap (.lst ys)/\
    ((J.stop i H/\Q (.ref D) H)\/(J.go i H/\∀x H',J.SU i H x H'->g x σ' H' λσ2 H2=>tf σ2 H2 λb H3=>
     if b=true then te σ2 H3 λy H4=>H4 D=ap (.lst ys)/\ys.length+1<=sizeLine/\∃m',m' < m/\W (i+1) m' σ2 (ys++[y]) (upd H4 D (.lst (ys++[y]))) else ∃m',m' < m/\W (i+1) m' σ2 ys H3)))
  {RR:bm->dL->Result->ce->Prop}{E:bm->ce->Prop}
  (hRR:∀D C m s' H',Inv X Z σ H' s'->Q (.ref D) H'->s'.heap.Ns C m->aaM X Z H' C->RR (.ref D) C (.ok .next) s') :
  d4 (d5 X.prog X.w) X.A (newList []) (λÅ s₃=>d4 (d5 X.prog X.w) X.A (newFunctionEnv sc X.env.globals cl [] X.env.qual bv .none (ap X.env)) (λaay s₄=>
   GE (d5 X.prog X.w) X.A (.compStart (.ListComp Ä [⟨tg,iter,É,0⟩] sc pos) 0 (.ref it) Å {aay with scope:=relabel sc X.env}) (RR Å aay.locals) s₄) E s₃) E s2:=by
 refine A2 (wpAny_newFunctionEnv S.nc (by intro y hy;simp at hy) (λh₁ Hh xu=>?_) S.kind);generalize hH2:s2.heap.push {cls:=.type "list",dict:=bv,data:=.seq ([]:List bm).toArray}=G2 at Hh xu ⊢;have hC:G2.objs.size=s2.heap.objs.size+1:=by rw [<- hH2,CD]
 obtain⟨D,hD⟩:∃D:Nat,s2.heap.objs.size=D:=⟨_,rfl⟩;obtain⟨C,hCC⟩:∃C:Nat,G2.objs.size=C:=⟨_,rfl⟩;simp only [hD,hCC] at Hh xu hC ⊢;have hDC:D≠C:=by omega
 have Ë:∀b o,s2.heap.get? b=ap o->h₁.get? b=ap o:=λb o e=>by
  have hb:=lsz e;exact xu.extBut b o (neN ∅) (Ai _ (hH2▸Ai _ e))
 have Z0:h₁.get? D=ap {cls:=.type "list",data:=.seq ([]:List bm).toArray}:=by
  refine xu.extBut D _ hDC (Ai _ ?_);rw [<- hH2,<- hD];exact Aq _ rfl
 have hD2:H2 D=bv:=I2.bN.fresh ∅;have hC2:H2 C=bv:=I2.bN.fresh ∅;obtain⟨W,⟨m0,w0⟩,turn⟩:=hW D hD2;have T6:∀x c,cl.lookup x=ap c->∃v,s2.heap.IsCell c v:=λx c e=>I2.cell x c (sT x c e).1;have ad6:∀x c,cl.lookup x=ap c->c < D:=λx c e=>by
  obtain⟨v,q⟩:=T6 x c e;have:=T7 q;exact ltN ∅
 have Ī:∀b∈fp,b < D:=λb hb=>by
  obtain⟨o,e,_⟩:=T.obj 0 _ J7 b hb;have:=lsz e;exact ltN ∅
 have Yok:(gq X sc N' cl C s2 H2 fp).Ok:=by
  refine⟨I2.ok.mod,S.kind,I2.ok.glob,I2.ok.blt,?_,?_,?_,?_,I2.ok.hd,I2.ok.frames,.inl rfl,?_,I2.bs,?_,?_,?_,I2.stack,I2.IH⟩
  ·show s2.heap.objs.size<=C;omega
  ·intro x y c e1 e2;exact I2.ok.inj x y c (sT x c e1).1 (sT y c e2).1
  ·intro x hx;have vm:(relabel sc X.env).names.lookup x=ap .cell\/(relabel sc X.env).names.lookup x=ap .free:=hx;unfold relabel at vm;rw [hZ] at vm;cases q:sc.names.lookup x with
   | none=>rw [q] at vm;simp at vm
   | some k=>
    have hm:=BJ q;by_cases hk:k=.free
    ·subst hk;exact KN x hm
    ·have õ:k≠.cell:=S.nc _ hm;rw [q] at vm;have hb:(k==Bg)=false:=by simpa using hk
     simp only [Ct,hb,Fd,Ag,if_false] at vm;rcases vm with z | z
     ·exact absurd (Option.some.inj z) õ
     ·exact absurd (Option.some.inj z) hk
  ·intro x c ZW;exact absurd ZW AV
  ·intro b hb;refine⟨?_,λx c e z=>(f2 b hb).2.2.2.2.1 x c (sT x c e).1 z⟩;show b≠C;have:=ltN (Ī b hb);exact neN ∅
  ·exact Bp I2.ok.T8 I2.sz
  ·intro b o e hb;rcases (f2 b hb).2.2.2.1 with z | z
   ·exact I2.ok.Nk b o e z
   ·have h1:=lsz (h:=X.base) e;have h2:=I2.ok.T8;omega
  ·intro b hb z;rcases Ax.mp (I2.Gw b z) with q | q
   ·exact (f2 b hb).2.1 q
   ·exact (f2 b hb).2.2.1 q
 have un0:Un (LW X.stack) fp H2 (upd H2 D (.lst [])) s2.heap h₁:=Un.laid Ë ∅ hD2;have adn:mq X.prog X.w (upd H2 D (.lst [])) h₁:=I2.bN.laid Ë ∅ ⟨Bj _,[],0,.nil,Z0⟩;have IY:∀tk,Inv (gq X sc N' cl C s2 H2 fp) [] (oE ix σ) (upd H2 D (.lst [])) {s2 with heap:=h₁,toks:=tk}:=λtk=>by
  refine⟨Yok,rfl,I2.bare,un0,⟨_,Hh,λi x v e1 e2 e3=>?_⟩,λx c e=>?_,?_,λx c e=>?_,λp hp=>absurd (show p∈([]:List (dL×Obj)) from hp) (by simp),adn,?_⟩
  ·have nv:N'[i]?=ap x:=e1;unfold oE at e2;rw [Ak] at e2;cases q:ix[i]? with
   | none=>rw [q] at e2;cases e2
   | some o=>
    cases o with
    | none=>rw [q] at e2;cases e2
    | some j=>
     rw [q] at e2;have WD:(σ[j]?).getD bv=ap v:=Option.some.inj e2;have e4:σ[j]?=ap (ap v):=by
      cases z:σ[j]? with
      | none=>rw [z] at WD;cases WD
      | some y=>rw [z] at WD;exact congrArg ap WD
     obtain⟨a1,a2⟩:=S.at q nv;have ZN:=BJ a2;have hk:=S.fr _ ZN rfl;obtain⟨m,_,hl⟩:=I2.loc;obtain⟨u,r,l⟩:=hl j x v a1 e4 (.inr hk);refine⟨u,r,.inr ⟨?_,?_⟩⟩
     ·show (relabel sc X.env).names.lookup x=ap .cell\/(relabel sc X.env).names.lookup x=ap .free;unfold relabel;rw [hZ,a2];by_cases hb:(X.env.scope.kind==.function&&X.env.kindOf x==ap .cell)=true
      ·left
       simp only [Ct,beq_self_eq_true,Bx,hb,if_true]
      ·right
       simp only [Ct,beq_self_eq_true,Bx,hb,if_false,Ag]
     ·obtain⟨c,hcx⟩:=KN x ZN;have hcX:=(sT x c hcx).1;refine⟨c,hcx,?_⟩;rcases l with⟨k,_⟩ | ⟨k,c',e',z⟩
      ·have k':X.env.scope.names.lookup x=ap .local:=k;rcases hk with y | y <;> rw [k'] at y <;> cases y
      ·rw [hcX] at e';cases e';obtain⟨o,ho,hd⟩:=z;exact⟨o,Ë _ _ ho,hd⟩
  ·obtain⟨v,o,ho,hd⟩:=T6 x c e;exact⟨v,o,Ë _ _ ho,hd⟩
  ·show upd H2 D (.lst []) C=bv;rw [aF (BA hDC)];exact hC2
  ·have mi:=ltN (ad6 x c e);show upd H2 D (.lst []) c=bv;rw [aF (neN ∅)];exact I2.kG x c (sT x c e).1
  ·unfold oE;rw [Ah];exact S.len
 have ĩ:∀{yW:List (dL×Obj)}{H':Hp},(∀b∈fp,H' b=bv)->(∀p∈yW,p.1∉fp)->∀b∈fp,uS (gq X sc N' cl C s2 H2 fp) yW H' b:=λhn hp b hb=>by
  refine⟨hn b hb,?_,?_,.inl hb,λx c e z=>(f2 b hb).2.2.2.2.1 x c (sT x c e).1 z,λp Ę z=>?_⟩
  ·show b≠C;have:=ltN (Ī b hb);exact neN ∅
  ·exact Yok.Ol b hb
  ·have adi:p∈([]:List (dL×Obj))++_:=Ę;exact hp p adi (z▸hb)
 have á:∀s₃:ce,s₃={s2 with heap:=h₁,toks:=s2.toks+([]:List (Str×bm)).length}->
   GE (d5 X.prog X.w) X.A (.compLoop (.ListComp Ä [⟨tg,iter,É,0⟩] sc pos) 0 (.ref it) (.ref D) (compEnvC sc cl C X.env)) (RR (.ref D) C) s₃:=by
  rintro s₃ rfl;refine mB (λn s'=>∃i σ' ys H',Inv (gq X sc N' cl C s2 H2 fp) [] σ' H' s'/\tn i s'.heap/\(∀b∈fp,H' b=bv)/\W i n σ' ys H') ?_ m0
   ⟨0,_,[],_,IY _,T.keep _ _ _ J7 (λb _ o e=>Ë b o e),λb hb=>by rw [aF (AE (Ī b hb))];exact (f2 b hb).1,w0⟩
  rintro n s3 ⟨i,σ3,ys,H3,I3,Yq,Z7,w3⟩;obtain⟨hDl,w3⟩:=turn i n σ3 ys H3 w3;rcases w3 with⟨stop,qn⟩ | ⟨go,step⟩
  ·refine bH (T.done (gq X sc N' cl C s2 H2 fp) rfl rfl rfl hc i [] s3 σ3 H3 _ I3 (ĩ Z7 (by simp)) Yq stop) λr s4 ⟨hr,I4⟩=>?_;subst hr;obtain⟨m,hn,_⟩:=I4.loc;refine hRR D C m s4 H3 (I2.aaz (ch:=fp) I4.os I4.base I4.bN I4.bare λb hb=>?_) qn hn ?_
   ·obtain⟨a0,a1,a2,a3,a4,a5⟩:=f2 b hb;exact⟨a3,a1,a4,a5⟩
   ·refine⟨I4.free,?_,?_,λx c e z=>?_,λp hp z=>?_⟩
    ·have:=ltN I2.lt;exact neN ∅
    ·have:=I2.sz;omega
    ·obtain⟨v,q⟩:=I2.cell x c e;have:=T7 q;exact neN (a:=c) (b:=C) ∅ z
    ·have:=lsz (I2.pin p hp).1;exact neN (a:=p.1) (b:=C) ∅ z
  ·refine bH (T.item (gq X sc N' cl C s2 H2 fp) rfl rfl rfl hc i [] s3 σ3 H3 (λ_ _=>False) I3 (ĩ Z7 (by simp)) Yq go) λr s4 ⟨u,hr,h4⟩=>?_;subst hr;refine bH h4 λ_ s5 ⟨x,H5,I5,r5,y5,UB,Ĩ⟩=>?_;have Ĭ:=I5.pinned (ĩ Ĩ (by simp)) (T.obj _ _ UB);refine bH (hg _ _ _ _ _ _ s5 σ3 H5 x u _ Ĭ r5 (step x H5 y5)) λ_ s6 ⟨σ6,H6,I6,q6⟩=>?_;refine bH (hf _ _ _ _ _ _ s6 σ6 H6 _ I6 q6) λb s7 ⟨H7,I7,q7⟩=>?_;have NH:∀{s8:ce}{σ8:St}{H8:Hp},Inv (gq X sc N' cl C s2 H2 fp) ([]++o7 fp s5.heap) σ8 H8 s8->tn (i+1) s8.heap/\∀b∈fp,H8 b=bv:=λ{s8 σ8 H8} I8=>by
    refine⟨T.keep _ _ _ UB λb hb o e=>(I8.pin (b,o) (AM _ (AM _ (j9 hb e)))).1,λb hb=>?_⟩;obtain⟨o,e,d⟩:=T.obj _ _ UB b hb;exact (I8.pin (b,o) (AM _ (AM _ (j9 hb e)))).2.1
   cases b with
   | false=>
    have q7':=q7;obtain⟨m',hm,w7⟩:=q7';obtain⟨t7,fr7⟩:=NH I7;exact⟨m',hm,i+1,σ6,ys,H7,I7.kX,t7,fr7,w7⟩
   | true=>
    refine bH (he _ _ _ _ _ _ s7 σ6 H7 _ I7 q7) λyv s8 ⟨y,H8,I8,r8,hD8,hz8,m',hm,w8⟩=>?_;obtain⟨z,ay,k,rv,hl8,e8⟩:=I8.pe hD8;obtain⟨t8,fr8⟩:=NH I8;refine wpAny_list_append_plain (s:=s8) (items:=ay.toArray) (hsz:=by rw [Aj];omega) ⟨_,e8⟩ λh9 hl9 hs9=>?_;obtain⟨k9,e9⟩:=hl9;have hv9:=Vals.append rv (.cons r8 .nil);have I9:Inv (gq X sc N' cl C s2 H2 fp) ([]++o7 fp s5.heap) σ6 (upd H8 D (.lst (ys++[y]))) {s8 with heap:=h9,toks:=s8.toks}:=by
     refine I8.write (x:=D) (e:=D) (by rw [hD8];exact trivial) (.inl rfl) (λb u hb hu=>(hs9.2 b hb).trans hu) ⟨_,e9⟩ ?_;refine⟨by rw [Ae,Dj];exact hz8,ay++[yv],k9,hv9,?_⟩;rw [e9];simp
    obtain⟨t9,fr9⟩:=NH I9;exact⟨m',hm,i+1,σ6,_,_,I9.kX,t9,fr9,w8⟩
 exact codeAny_compStart_list (á _ rfl) (T.self _ 0 _ _ _ (T.keep _ _ _ J7 λb _ o e=>Ë b o e) (á _ rfl))
def YU (hc:X.calm=true) (S:aG X.env.scope X.N sc N' ix) (hi:PI X tg iter wi)
  (hg:∀cl C s2 H2 fp,PG (gq X sc N' cl C s2 H2 fp) tg g) (hf:∀cl C s2 H2 fp,XG (gq X sc N' cl C s2 H2 fp) É tf) (he:∀cl C s2 H2 fp,PE (gq X sc N' cl C s2 H2 fp) Ä te)
  (hs:∀x,ii iter X.env x=pure x:=by intro _;rfl):PE X (.ListComp Ä [⟨tg,iter,É,0⟩] sc pos) (tLc ix wi g tf te):=by
 intro Z s σ H Q I h;have Hi:∀y∈sc.names,y.2=.free->∃c,X.env.cells.lookup y.1=ap c:=λy hy hk=>I.ok.has y.1 (S.fr y hy hk);obtain⟨cl,NZ,sT,KN⟩:=mK Hi;refine Em (use:=bv) rfl hs NZ S.kind S.loc (bH (hi Z s σ H _ I h) λv s1 h1=>bH h1 λì s2 h2=>?_);obtain⟨it,fp,tn,J,H2,rfl,I2,T,J7,f2,hW⟩:=h2;refine Jl (RR:=λÅ C=>compPost (d5 X.prog X.w) X.A X.xe bv (EP X Z σ Q) Å C) hc S hg hf he sT KN I2 T J7 f2 hW λD C m s' H' I' q hn F=>?_;refine⟨m,hn,λh' ė=>⟨.ref D,H',?_,rfl,q⟩⟩;exact I'.turned (it:=C) (t':=s'.toks) (λb o hb e=>(ė.2 b hb).trans e) F.hn F.hL (.inr F.ab) F.cl F.pn
def yT {i:Nat}{x:Str}{px kJ:Pos} (hc:X.calm=true) (hN:X.N.Nodup) (zB:X.N[i]?=ap x) (hx:X.env.scope.names.lookup x=ap .local) (S:aG X.env.scope X.N sc N' ix) (hi:PI X tg iter wi)
  (hg:∀cl C s2 H2 fp,PG (gq X sc N' cl C s2 H2 fp) tg g) (hf:∀cl C s2 H2 fp,XG (gq X sc N' cl C s2 H2 fp) É tf) (he:∀cl C s2 H2 fp,PE (gq X sc N' cl C s2 H2 fp) Ä te)
  (qk:o0 (.ListComp Ä [⟨tg,iter,É,0⟩] sc pos) (ap (.Name x px)) kJ.line X.env=pure true:=by rfl)
  (hs:∀x,ii iter X.env x=pure x:=by intro _;rfl):PS X (.Assign [.Name x px] (.ListComp Ä [⟨tg,iter,É,0⟩] sc pos) kJ) (Uz (tLc ix wi g tf te) (dJ i)):=by
 intro Z s σ H D0 I h;rw [exec_Assign_Name_used _ _ _ _ qk];refine Aa (Ds (Aa ?_));show d4 _ X.A (do let _ <- comprehension (.ListComp Ä [⟨tg,iter,É,0⟩] sc pos) sc X.env _ (newList []) false (lm iter X.env) (ap (xL (.Name x px) X.env))) _ _ s;have Hi:∀y∈sc.names,y.2=.free->∃c,X.env.cells.lookup y.1=ap c:=λy hy hk=>I.ok.has y.1 (S.fr y hy hk);obtain⟨cl,NZ,sT,KN⟩:=mK Hi;refine Aa (BI (Em (use:=ap (xL (.Name x px) X.env)) (Q:=λ_ s'=>SP X Z D0 .next s') rfl hs NZ S.kind S.loc (bH (hi Z s σ H _ I h) λv s1 h1=>bH h1 λì s2 h2=>?_)) (λ_ s' hq=>Af (Af hq)) λ_ _ e=>e);obtain⟨it,fp,tn,J,H2,rfl,I2,T,J7,f2,hW⟩:=h2;refine Jl (RR:=λÅ C=>compPost (d5 X.prog X.w) X.A X.xe (ap (xL (.Name x px) X.env)) (λ_ s'=>SP X Z D0 .next s') Å C) (Q:=λx H1=>dJ i x σ H1 D0.nx) hc S hg hf he sT KN I2 T J7 f2 hW λD C m s' H' I' q hn F=>?_;show d4 _ X.A (xL (.Name x px) X.env (.ref D)) _ _ _;refine wpAny_assign_Name (uV (v:=.ref D) I' hN zB (.inl hx) rfl (λYy I'' Ė=>?_) (.inr hx));obtain⟨a,Ė,ha⟩:=Ė;have haC:C≠a:=by
  rcases ha with z | z
  ·rw [z];exact F.hL
  ·exact BA (F.cl _ _ z)
 refine⟨m,hn.sameBut Ė haC,λh' ė=>⟨_,H',?_,q⟩⟩;exact I''.turned (it:=C) (t':=Yy.toks) (λb o hb e=>(ė.2 b hb).trans e) F.hn F.hL (.inr F.ab) F.cl F.pn
end
section
variable {X:Cx}{b e:ga}
def pV:bZ X (.builtin "isinstance") (λxs H Q=>∃x c t b,xs=[x,.ty c]/\mC X.K H x t/\Bu X.K t (.type c)=ap b/\Q (.bl b) H):=by
 intro Z s σ H xs us Q I r h;obtain⟨x,c,t,b,rfl,ty,hk,q⟩:=h;obtain⟨u,w',rfl,ru,iB⟩:=vals2 r;cases (show w'=BN c from iB);exact Kz I ru ty hk λtk=>⟨.bl b,H,I.tok _,rfl,q⟩
def Kl (hu:X.A.units < sn):iA X (nn .NotEq) (λx y H Q=>∃p q xs,x=.ref p/\y=.ref q/\dq X.K H p xs/\dq X.K H q []/\Q (.bl (!xs.isEmpty)) H):=by
 intro Z s σ H x y v u Q I rx ry h;obtain⟨p,q,xs,rfl,rfl,hp,hq,k⟩:=h;cases rx;cases ry;obtain⟨ay,r,pl,hz⟩:=I.list hp;obtain⟨cO,r2,YR,hz2⟩:=I.list hq;cases r2;cases xs with
 | nil=>
  cases r;refine Ee (Ft (e:=λ_=>true) pl.isList YR.isList rfl hu λj h1=>absurd h1 (by simp)) ?_;exact⟨.bl false,H,I,rfl,k⟩
 | cons y ys=>
  have hl:=r.length;refine Ee (DZ pl.isList YR.isList (by simp at hl ⊢;intro z;subst z;simp at hl) hu) ?_;exact⟨.bl true,H,I,rfl,k⟩
def FR {bs:List Bool}:∀{us:List bm},Vals (bs.map V.bl) us->us=bs.map B1:=by
 induction bs with
 | nil=>intro us r;rw [Fz] at r;cases r;rfl
 | cons n ns ih=>
  intro us r;cases r with
  | cons r1 r2=>
   cases r1;rw [ih r2];rfl
def H0 (hc:X.calm=true):bZ X (.builtin "all") (λxs H Q=>∃(p:dL) (bs:List Bool),xs=[.ref p]/\dq X.K H p (bs.map V.bl)/\Q (.bl (bs.all id)) H):=by
 intro Z s σ H xs us Q I r h;obtain⟨p,bs,rfl,hp,q⟩:=h;obtain⟨u,rfl,ru⟩:=vals1 r;cases ru;obtain⟨ay,rv,pl,hz⟩:=I.list hp;have eb:=FR rv;subst eb;have hl:=pl.isList;have mi:p < s.heap.objs.size:=by obtain⟨_,e,_⟩:=hl;exact Ar e
 refine call_all_walk (Cz hl ?_);refine⟨s.heap.objs.size,[s.heap.objs.size,p],[s.heap.objs.size],(bs.map B1).toArray.size,_,_,λi=>(bs[i]?).getD true,rfl,Walks.list (A:=X.A.in1) (I.ok.hd hc) _ p (AE mi) (bs.map B1).toArray,
  ⟨⟨_,Aq _ rfl,rfl,rfl⟩,hl.push _⟩,λi v s' Q' E' hP hQ=>?_,λh' tk hk=>?_⟩
 ·have N5:(bs.map B1)[i]?=ap v:=by simpa using hP
  rw [Ak] at N5;cases e:bs[i]? with
  | none=>rw [e] at N5;cases N5
  | some b=>
   rw [e] at N5;cases N5;simp only [e,Option.getD_some] at hQ;exact Bn hQ
 ·have e:((AA (bs.map B1).toArray.size).all λi=>(bs[i]?).getD true)=bs.all id:=by
   rw [Aj,Ah];exact LSm.range_all bs
  rw [e];exact⟨.bl (bs.all id),H,I.kept (LSm.kept_iter hk),rfl,q⟩
def HZ (hc:X.calm=true):bZ X (.builtin "any") (λxs H Q=>∃(p:dL) (bs:List Bool),xs=[.ref p]/\dq X.K H p (bs.map V.bl)/\Q (.bl (bs.any id)) H):=by
 intro Z s σ H xs us Q I r h;obtain⟨p,bs,rfl,hp,q⟩:=h;obtain⟨u,rfl,ru⟩:=vals1 r;cases ru;obtain⟨ay,rv,pl,hz⟩:=I.list hp;have eb:=FR rv;subst eb;have hl:=pl.isList;have mi:p < s.heap.objs.size:=by obtain⟨_,e,_⟩:=hl;exact Ar e
 refine call_any_walk (Cz hl ?_);refine⟨s.heap.objs.size,[s.heap.objs.size,p],[s.heap.objs.size],(bs.map B1).toArray.size,_,_,λi=>(bs[i]?).getD false,rfl,Walks.list (A:=X.A.in1) (I.ok.hd hc) _ p (AE mi) (bs.map B1).toArray,
  ⟨⟨_,Aq _ rfl,rfl,rfl⟩,hl.push _⟩,λi v s' Q' E' hP hQ=>?_,λh' tk hk=>?_⟩
 ·have N5:(bs.map B1)[i]?=ap v:=by simpa using hP
  rw [Ak] at N5;cases e:bs[i]? with
  | none=>rw [e] at N5;cases N5
  | some b=>
   rw [e] at N5;cases N5;simp only [e,Option.getD_some] at hQ;exact Bn hQ
 ·have e:((AA (bs.map B1).toArray.size).any λi=>(bs[i]?).getD false)=bs.any id:=by
   rw [Aj,Ah];exact LSm.range_any bs
  rw [e];exact⟨.bl (bs.any id),H,I.kept (LSm.kept_iter hk),rfl,q⟩
def qg (l:dL) (items:Array bm) (n:Nat) (b:dL) (cC:Array bm) (n2:Nat) (dd:Option dL) (sl:Array (Option bm)) (hs0:¬(!items.isEmpty&&Builtin.List.listTooLong (items.size+cC.size))=true) (F5:items.size<=sizeLine) (qU:items.size+cC.size<=sizeLine+1) :
  Meets (Db.«list.extend» ⟨[.ref l,.ref b],[]⟩) (λ_ R s=>s.heap.get? l=ap {cls:=.type "list",dict:=bv,data:=.seq items n,slots:=#[]}/\s.heap.get? b=ap {cls:=.type "tuple",dict:=dd,data:=.seq cC n2,slots:=sl}/\R (.ok (.ret AY)) {s with heap:=s.heap.update l (Bk λx=>x++cC),toks:=s.toks}):=
 .of_wp λprog w A R s h=>by
  obtain⟨hp,g,d,tk,os⟩:=s;obtain⟨hl,hb,h⟩:=h;have f1:=ED;have f2:=Dm;have f3:=DG;have f4:=Dw;have f5:=Dx;have Hf:(items++cC).size<=sizeLine+1:=by rw [Eh];exact qU
  wp_walk using (DH hl rfl (hz:=F5) (_hz':=Hf)),BO hl,BO hb;exact⟨_,rfl,h⟩
def MF (K:Ab):V->List V->Hp->VK->Prop:=λx vs H Q=>∃l b xs zs,x=.ref l/\vs=[.ref b]/\H l=ap (.lst xs)/\d7 K H b zs/\xs.length+zs.length<=sizeLine/\Q .aX (upd H l (.lst (xs++zs)))
def GQ:LY X "list.extend" (MF X.K):=by
 intro Z s σ H x vs v us Q I rx rv h;obtain⟨l,b,xs,zs,rfl,rfl,hH,hB,hz,q⟩:=h;cases rx;obtain⟨u,rfl,ru⟩:=rv.one;cases ru;obtain⟨z,ay,n,r,hl,e⟩:=I.pe hH;obtain⟨cO,r2,⟨⟨cls,dd,data,sl⟩,e2,hc,n2,hd⟩,z2⟩:=I.tuple hB;simp only at hc hd;subst hc hd;have LU:=r2.length;have hsz:ay.toArray.size+cO.toArray.size<=sizeLine:=by rw [Aj,Aj];omega
 have sQ:¬(!ay.toArray.isEmpty&&Builtin.List.listTooLong (ay.toArray.size+cO.toArray.size))=true:=by
  rw [jv hsz,CI];exact AV
 refine xz D3 ⟨_,e,rfl⟩ DN (Dv _ _)
  (qg l ay.toArray n b cO.toArray n2 dd sl sQ (by rw [Aj];omega) ∅) ⟨e,e2,?_⟩
 refine⟨.aX,_,I.GZ (its':=ay++cO) hH e (by simp) (r.append r2) ?_,rfl,q⟩;rw [Ae];omega
def Its (x:Str):It:=⟨λi _=>i < x.cps.size,λi H v H'=>H'=H/\∃c,x.cps[i]?=ap c/\v=.str ⟨#[c]⟩,λi _=>x.cps.size<=i⟩
def Gj {P:f8}{w:lc}{K:Ab}{tg:ga} (it:dL) (x:Str) (t:Tok) (ty:String) (Ju:ty="str_ascii_iterator"\/ty="str_iterator"):Turn P w K tg (Its x) [it] it (λi h=>h.IsStrIter it ty x t i/\i<=x.cps.size) where
 mem:=by simp
 obj:=λi h st b hb=>by
  have e:b=it:=by simpa using hb
  subst e;obtain⟨⟨o,e,c,d⟩,_⟩:=st;exact⟨o,e,λv z=>by rw [d] at z;cases z⟩
 keep:=λi h h' st k=>⟨let ⟨o,ho,r⟩:=st.1;⟨o,k it (by simp) o ho,r⟩,st.2⟩
 item:=by
  intro X hP hw hK hc i Z s σ H E I hf st hg;subst hP hw hK;obtain⟨f0,f1,f2,f3,f4,f5⟩:=hf it (by simp);have Tx:i < x.cps.size:=hg;obtain⟨st,_⟩:=st;rcases Ju with rfl | rfl
  ·refine wpAny_pyNext_ascii_item st (c:=x.cps[i]) (by simp [Tx]) λh' nt sb=>?_;have I1:Inv X Z σ H {s with heap:=h',toks:=s.toks+1}:=I.turned (λb o hb e=>(sb.2 b hb).trans e) f0 f1 f3 f4 f5;obtain⟨o,e,c,d⟩:=id nt;exact⟨_,rfl,sU (s:={s with heap:=h',toks:=s.toks+1}) e c d (by decide) ⟨.str ⟨#[x.cps[i]]⟩,H,I1,⟨_,rfl⟩,⟨rfl,_,by simp [Tx],rfl⟩,⟨nt,Tx⟩,λb hb=>(hf b hb).1⟩⟩
  ·refine wpAny_pyNext_wide_item st (c:=x.cps[i]) (by simp [Tx]) λh' nt sb=>?_;have I1:Inv X Z σ H {s with heap:=h',toks:=s.toks+1}:=I.turned (λb o hb e=>(sb.2 b hb).trans e) f0 f1 f3 f4 f5;obtain⟨o,e,c,d⟩:=id nt;exact⟨_,rfl,sU (s:={s with heap:=h',toks:=s.toks+1}) e c d (by decide) ⟨.str ⟨#[x.cps[i]]⟩,H,I1,⟨_,rfl⟩,⟨rfl,_,by simp [Tx],rfl⟩,⟨nt,Tx⟩,λb hb=>(hf b hb).1⟩⟩
 done:=by
  intro X hP hw hK hc i Z s σ H E I hf st hg;obtain⟨f0,f1,f2,f3,f4,f5⟩:=hf it (by simp);obtain⟨st,_⟩:=st;have hn:x.cps[i]?=bv:=by
   have Tx:x.cps.size<=i:=hg;simp [Tx]
  rcases Ju with rfl | rfl
  ·exact wpAny_pyNext_ascii_end (I.ok.hd hc) st hn λh' eb=>⟨rfl,I.turned (t':=s.toks) (λb o hb e=>eb b o hb e) f0 f1 f3 f4 f5⟩
  ·exact wpAny_pyNext_wide_end (I.ok.hd hc) st hn λh' eb=>⟨rfl,I.turned (t':=s.toks) (λb o hb e=>eb b o hb e) f0 f1 f3 f4 f5⟩
 self:=λ_ _ _ _ _ st h=>by
  obtain⟨st,_⟩:=st;rcases Ju with rfl | rfl
  ·exact wpAny_pyIter_striter_ascii st h
  ·exact wpAny_pyIter_striter_wide st h
def ac1 (tl:TE):TI:=λσ H R=>tl σ H λx H1=>∃z,x=.str z/\R (Its z) H1
def U5 {tg l:ga}{tl:TE} (hl:PE X l tl):PI X tg l (ac1 tl):=by
 intro Z s σ H R I h;refine bH (hl Z s σ H _ I h) λv s1 ⟨x,H1,I1,r1,q1⟩=>?_;obtain⟨z,e,q⟩:=q1;subst e;obtain⟨t,rfl⟩:=r1;have fin:∀(ty:String) (Ju:ty="str_ascii_iterator"\/ty="str_iterator") (o:Obj),(s1.heap.push o).IsStrIter s1.heap.objs.size ty z t 0->PIE X Z σ tg R (.ref s1.heap.objs.size) {s1 with heap:=s1.heap.push o}:=λty Ju o st=>by
  refine⟨s1.heap.objs.size,[s1.heap.objs.size],_,_,H1,rfl,I1.kept (t':=s1.toks) λb o e=>Ai _ e,Gj _ z t ty Ju,⟨st,Bj _⟩,λb hb=>?_,q⟩;have e:b=s1.heap.objs.size:=by simpa using hb
  subst e;exact I1.xE (Ao _) (I1.bN.fresh (Ao _))
 cases ha:z.cps.all (· < 128)
 ·exact wpAny_pyIter_wide ha (fin _ (.inr rfl) _ ⟨_,Aq _ rfl,rfl,rfl⟩)
 ·exact wpAny_pyIter_ascii ha (fin _ (.inl rfl) _ ⟨_,Aq _ rfl,rfl,rfl⟩)
end
section
variable {X:Cx}{CX:LZ}{k:Nat}{f:dL}{fd:sw}{ps:List Str}{sp:Sp}{dvs:List V}{ds:List bm}{E:XK}{x:Str}{p pos:Pos}{e:ga}{es:List ga}{ta:TE}{t:TA}
def Uy (f:dL) (sp:Sp) (dvs:List V) (E:XK) (ta:TE) (t:TA):TE:=λσ H Q=>ta σ H λx H1=>x=.ref f/\t σ H1 λvs H2=>sp (vs++dvs) H2 Q E
def M8 (F:gj X.prog X.w X.K X.mg X.base CX k f fd ps sp) (hr:da k X.A) (hf:PE X (.Name x p) ta) (hk:CC X.K (.ref f)=true) (hb:Binds X.K fd ps ds) (hd:Vals dvs ds) (hx:Passes CX X E)
  (ha:PA X (e::es) t) (he:ci (e::es) X.env=(false,lm e X.env)::ci es X.env:=by rfl) (dR:(mo pos (ci es X.env)).any (·.1)=false:=by rfl) :
  PE X (.Call (.Name x p) (e::es) [] pos) (Uy f sp dvs E ta t):=by
 intro Z s σ H Q I h;refine BF (bH (hf Z s σ H _ I h) λv s1 ⟨y,H1,I1,r1,ey,q1⟩=>?_);subst ey;cases r1;refine Fs (h₀:=X.base) I.ok.mod.kin hk (bH (ha pos Z s1 σ H1 _ I1 q1) λus s2 ⟨vs,H2,I2,r,q⟩=>⟨I2.uy,?_⟩) he dR;exact Ms F hr hb hd hx I2 r q
end
section
variable {X:Cx}{o:ga}{lo hi:ga}{to tl th:TE}{pos p2:Pos}
def Wj (to tl th:TE):TG:=λv σ H Q=>to σ H λx H1=>tl σ H1 λi H2=>th σ H2 λj H3=>∃l b xs ys a c,x=.ref l/\v=.ref b/\i=.int a/\j=.int c/\H3 l=ap (.lst xs)/\H3 b=ap (.lst ys)/\l≠b/\0<=a/\a<=c/\c<=xs.length/\xs.length+ys.length<=sizeLine/\
 Q σ (upd H3 l (.lst (xs.take a.toNat++ys++xs.drop c.toNat)))
def MX (ho:PE X o to) (hl:PE X lo tl) (hh:PE X hi th)
  (ha:∀v,xL (.Subscript o (.Slice (ap lo) (ap hi) bv p2) pos) X.env v=(do
   let ov <- sB [v] (lm o X.env)
   let iv <- sB [v,ov] (lm (.Slice (ap lo) (ap hi) bv p2) X.env)
   Gf pos
   sB [v,ov,iv] (Fa ov iv v)
   release [iv,v,ov] []):=by intro _;rfl):PG X (.Subscript o (.Slice (ap lo) (ap hi) bv p2) pos) (Wj to tl th):=by
 intro Z s σ H v u Q I r h;refine Aa (A9 (bH (ho Z s σ H _ I h) λov s1 ⟨x,H1,I1,r1,q1⟩=>?_));refine Aa (A9 (wpAny_Slice ?_));rw [evalPart_some,evalPart_some,evalPart_none];refine bH (hl Z s1 σ H1 _ I1 q1) λvl s2 ⟨i,H2,I2,r2,q2⟩=>bH (hh Z s2 σ H2 _ I2 q2) λvu s3 ⟨j,H3,I3,r3,q3⟩=>Af ?_;obtain⟨l,b,xs,ys,a,c,rfl,rfl,rfl,rfl,hH,hB,NW,h0,Xp,hc,hz,q⟩:=q3;cases r;cases r1;have I4:Inv X Z σ H3 {s3 with heap:=s3.heap.push {cls:=.type "slice",data:=.fields #[vl,vu,.none]}}:=I3.kept (t':=s3.toks) λb ob q=>Ai _ q;refine Aa (Ds (Aa (A9 (Ka I4 hH hB NW (D2.new ..) r2 r3 h0 Xp hc hz λs' I'=>?_))));exact wpAny_release ⟨σ,_,I',q⟩
end
def oO (l:dL) (H H':Hp):Prop:=∀b u,b≠l->H b=ap u->H' b=ap u
def k7 {H:Hp}{p:dL} (h:H p=bv) (o:HO):kO H (upd H p o):=λb u q=>by rw [aF (bS q h)];exact q
def Kc {H:Hp}{p:dL} (o:HO):oO p H (upd H p o):=λb u n q=>by rw [aF n];exact q
def kL (H:Hp) (o:HO) (Q:VK):Prop:=∀p H',kO H H'->H' p=ap o->H p=bv->Q (.ref p) H'
def kL.at {H:Hp}{o:HO}{Q:VK} (h:kL H o Q) (p:dL) (hp:H p=bv):Q (.ref p) (upd H p o):=h p _ (k7 hp o) aR hp
def yG (H:Hp) (l:dL) (o:HO) (Q:Hp->Prop):Prop:=∀H',oO l H H'->H' l=ap o->Q H'
def yG.at {H:Hp}{l:dL}{o:HO}{Q:Hp->Prop} (h:yG H l o Q):Q (upd H l o):=h _ (Kc o) aR
def iA.mono {X:Cx}{f:bm->bm->Sem bm}{r r':R2} (h:iA X f r) (hr:∀x y H Q,r' x y H Q->r x y H Q):iA X f r':=λZ s σ H x y v u Q I rx ry q=>h Z s σ H x y v u Q I rx ry (hr _ _ _ _ q)
def bZ.mono {X:Cx}{f:bm}{r r':List V->Hp->VK->Prop} (h:bZ X f r) (hr:∀xs H Q,r' xs H Q->r xs H Q):bZ X f r':=λZ s σ H xs us Q I rx q=>h Z s σ H xs us Q I rx (hr _ _ _ q)
def LY.mono {X:Cx}{id:String}{r r':V->List V->Hp->VK->Prop} (h:LY X id r) (hr:∀x xs H Q,r' x xs H Q->r x xs H Q):LY X id r':=λZ s σ H x xs v us Q I rx rv q=>h Z s σ H x xs v us Q I rx rv (hr _ _ _ _ q)
def Iv.mono {X:Cx}{r r':Iu} (h:Iv X r) (hr:∀o i v H Q,r' o i v H Q->r o i v H Q):Iv X r':=λZ s σ H o i v ov iv u Q I ro ri rv q=>h Z s σ H o i v ov iv u Q I ro ri rv (hr _ _ _ _ _ q)
section
variable {X:Cx}{e o:ga}{es:List ga}{t:TA}{pos:Pos}
def X9 (t:TA):TE:=λσ H Q=>t σ H λxs H1=>xs.length<=sizeLine/\kL H1 (.tup xs) Q
def Ye (t:TA):TE:=λσ H Q=>t σ H λxs H1=>xs.length<=sizeLine/\kL H1 (.lst xs) Q
def QI {x1} (h:PA X es t):PE X (.Tuple es x1 pos) (X9 t):=by
 intro Z s σ H Q I hq;refine wpAny_Tuple_spliced (bH (h pos Z s σ H _ I hq) λus s1 ⟨xs,H1,I1,r,z,q⟩=>⟨by rw [<- r.length];exact z,?_⟩);have hf:=I1.bN.fresh (Ao _);refine⟨.ref s1.heap.objs.size,upd H1 s1.heap.objs.size (.tup xs),I1.laid (t':=s1.toks) (λb u e=>Ai _ e) (Ao _) ?_,rfl,q.at _ hf⟩;exact⟨z,us,r,⟨_,Aq _ rfl,rfl,_,rfl⟩⟩
def IX (h:PA X es t):PE X (.List es pos) (Ye t):=by
 intro Z s σ H Q I hq;refine wpAny_List_spliced (bH (h pos Z s σ H _ I hq) λus s1 ⟨xs,H1,I1,r,z,q⟩=>⟨by rw [<- r.length];exact z,?_⟩);have hf:=I1.bN.fresh (Ao _);refine⟨.ref s1.heap.objs.size,upd H1 s1.heap.objs.size (.lst xs),I1.laid (t':=s1.toks) (λb u e=>Ai _ e) (Ao _) ?_,rfl,q.at _ hf⟩;exact⟨z,us,0,r,Aq _ rfl⟩
def Uw:TE:=λ_ H Q=>kL H (.dK []) Q
def M6:PE X (.Dict [] [] pos) Uw:=λZ s σ H Q I h=>M5 Z s σ H Q I λp hp=>h.at p hp
def S6 (K:Ab):R2:=λx y H Q=>match x with
 | .int i=>∃j,y=.int j/\Q (.int (i+j)) H
 | .str i=>∃j,y=.str j/\i.length+j.length<=sizeLine/\Q (.str (i++j)) H
 | .ref a=>(∃b xs zs,y=.ref b/\H a=ap (.lst xs)/\H b=ap (.lst zs)/\xs.length+zs.length<=sizeLine/\kL H (.lst (xs++zs)) Q)\/S8 K x y H Q
 | _=>False
def QW:iA X (tz .Add) (S6 X.K):=by
 refine ((Vn.or GH).or (Vm.or Jd)).mono λx y H Q h=>?_;cases x with
 | int i=>obtain⟨j,rfl,q⟩:=h;exact .inl (.inl ⟨i,j,rfl,rfl,q⟩)
 | str i=>obtain⟨j,rfl,hl,q⟩:=h;exact .inl (.inr ⟨i,j,rfl,rfl,hl,q⟩)
 | ref a=>
  rcases h with⟨b,xs,zs,rfl,h1,h2,hz,q⟩ | h
  ·exact .inr (.inl ⟨a,b,xs,zs,rfl,rfl,h1,h2,hz,λp hp=>q.at p hp⟩)
  ·exact .inr (.inr h)
 | _=>exact h.elim
def QQ:iA X (tz .Mult) (rI wE λi j=>.int (i*j)):=opI λ_ _ _ _ _ _ _ hc q=>mul_int q hc
def HW:bZ X (.type "list") (λxs H Q=>∃p ys,xs=[.ref p]/\(dq X.K H p ys\/d7 X.K H p ys)/\kL H (.lst ys) Q):=yd.mono λxs H Q ⟨p,ys,e,h,q⟩=>⟨p,ys,e,h,λl hl=>q.at l hl⟩
def MH:V->List V->Hp->VK->Prop:=λx vs H Q=>∃l xs y,x=.ref l/\vs=[y]/\H l=ap (.lst xs)/\xs.length < sizeLine/\yG H l (.lst (xs++[y])) (Q .aX)
def sg:LY X "list.append" MH:=Kq.mono λx xs H Q ⟨l,ys,y,e1,e2,h,hz,q⟩=>⟨l,ys,y,e1,e2,h,hz,q.at⟩
def Kg (K:Ab):V->List V->Hp->VK->Prop:=λx vs H Q=>∃l b xs zs,x=.ref l/\vs=[.ref b]/\H l=ap (.lst xs)/\d7 K H b zs/\xs.length+zs.length<=sizeLine/\yG H l (.lst (xs++zs)) (Q .aX)
def zf:LY X "list.extend" (Kg X.K):=GQ.mono λx xs H Q ⟨l,b,ys,zs,e1,e2,h1,h2,hz,q⟩=>⟨l,b,ys,zs,e1,e2,h1,h2,hz,q.at⟩
def YE:V->List V->Hp->VK->Prop:=λx vs H Q=>∃l xs y,x=.ref l/\vs=[]/\H l=ap (.lst (xs++[y]))/\yG H l (.lst xs) (Q y)
def Q7:LY X "list.pop" YE:=Vv.mono λx xs H Q ⟨l,ys,y,e1,e2,h,q⟩=>⟨l,ys++[y],y,e1,e2,h,by simp,by rw [List.dropLast_concat];exact q.at⟩
def UO:Iu:=λo i v H Q=>∃p xs k j,o=.ref p/\i=.int k/\H p=ap (.lst xs)/\nX xs.length k=ap j/\yG H p (.lst (xs.set j v)) Q
def oZ:Iv X UO:=set_list.mono λo i v H Q ⟨p,xs,k,j,e1,e2,h,hj,q⟩=>⟨p,xs,k,j,e1,e2,h,hj,q.at⟩
end
section
variable {X:Cx} (K:Ab) (hK:X.K=K) {a e o:ga}{es:List ga}{ta to:TE}{t:TA}{pos:Pos}{name:Str}{Â bQ:Pos}{T Xk:String}{r:V->List V->Hp->VK->Prop}
include hK
def Jp:Py X (rIx K):=hK▸VW
def QU:iA X (tz .Add) (S6 K):=hK▸QW
def UQ (K:Ab):List V->Hp->VK->Prop:=λxs H Q=>∃x n,xs=[x]/\aaH K x H n/\Q (.int n) H
def vH:bZ X (.builtin "len") (UQ K):=hK▸O2
def MD (K:Ab):List V->Hp->VK->Prop:=λxs H Q=>∃p ys,xs=[.ref p]/\(dq K H p ys\/d7 K H p ys)/\kL H (.lst ys) Q
def HV:bZ X (.type "list") (MD K):=hK▸HW
def YN (K:Ab):List V->Hp->VK->Prop:=λxs H Q=>∃(p:dL) (bs:List Bool),xs=[.ref p]/\dq K H p (bs.map V.bl)/\Q (.bl (bs.all id)) H
def LB (hc:X.calm=true):bZ X (.builtin "all") (YN K):=hK▸H0 hc
def YM (K:Ab):List V->Hp->VK->Prop:=λxs H Q=>∃(p:dL) (bs:List Bool),xs=[.ref p]/\dq K H p (bs.map V.bl)/\Q (.bl (bs.any id)) H
def LA (hc:X.calm=true):bZ X (.builtin "any") (YM K):=hK▸HZ hc
def UP (K:Ab):R2:=λx y H Q=>∃p q xs,x=.ref p/\y=.ref q/\dq K H p xs/\dq K H q []/\Q (.bl (!xs.isEmpty)) H
def rV (hu:X.A.units < sn):iA X (nn .NotEq) (UP K):=hK▸Kl hu
def ab9 (K:Ab) (ta:TE):TT:=λσ H Q=>ta σ H λx H'=>∃k,W4 K x H' k/\Q k H'
def u0 (ha:PE X a ta) (he:∀Æ,isTrue a X.env Æ=(do let v <- Æ;Gf a.pos;sB [v] (truthy v))):PT X a (ab9 K ta):=hK▸MK ha he
def QL (pa:PlainAttrs T) (slot:Slot T name Xk) (Ju:typeOf (.builtin Xk)=pure (.type "method_descriptor")) (hm:MtR X Xk r) (ho:PE X o to)
  (fW:sK o name X.env (lm o X.env)=lm o X.env:=by rfl) (fV:(Â.endLine==bQ.line)=true:=by rfl):PE X (.Call (.Attribute o name Â) [] [] bQ) (Yk K T r to):=hK▸Vb pa slot Ju hm ho fW fV
def wR (pa:PlainAttrs T) (slot:Slot T name Xk) (Ju:typeOf (.builtin Xk)=pure (.type "method_descriptor")) (hm:MtR X Xk r) (ho:PE X o to) (ha:PA X (e::es) t)
  (fW:sK o name X.env (lm o X.env)=lm o X.env:=by rfl)
  (sR:((mo bQ (ci (e::es) X.env)).all (λx=>!x.1)&&(backToKw bQ (Fk [] X.env)).all (λx=>x.1.isSome)
   && decide ((e::es).length+([]:List wT).length+(if ([]:List wT).isEmpty then 0 else 1) < 30))=true:=by rfl)
  (fV:(Â.endLine==bQ.line)=true:=by rfl) (hs:ci (e::es) X.env=(false,lm e X.env)::ci es X.env:=by rfl) (ig:(mo bQ (ci es X.env)).any (·.1)=false:=by rfl) :
  PE X (.Call (.Attribute o name Â) (e::es) [] bQ) (tBM K T r to t):=hK▸YV pa slot Ju hm ho ha fW sR fV hs ig
omit hK
end
structure SQ (P:f8) (w:lc) (K:Ab) (mg:Str->Option bm) (base:lw) (x:Str) (k:Nat) (ps:List Str) (sp:Sp) where
 f:dL
 fd:sw
 ok:gj P w K mg base mr k f fd ps sp
 bi:Binds K fd ps []
 kp:CC K (.ref f)=true
 at':mg x=ap (.ref f)
section
variable {X:Cx}{k k':Nat}{ps:List Str}{sp:Sp}{x:Str}{p pos:Pos}{e:ga}{es:List ga}{t:TA}
def Yj (sp:Sp) (t:TA):TE:=λσ H Q=>t σ H λvs H1=>sp vs H1 Q E0
def M9 (G:SQ X.prog X.w X.K X.mg X.base x k ps sp) (hr:da k' X.A) (hk:k<=k') (hg:Gl X x) (ha:PA X (e::es) t) (n8:(x==("__debug__":Str))=false:=by decide)
  (he:ci (e::es) X.env=(false,lm e X.env)::ci es X.env:=by rfl) (dR:(mo pos (ci es X.env)).any (·.1)=false:=by rfl) :
  PE X (.Call (.Name x p) (e::es) [] pos) (Yj sp t):=by
 intro Z s σ H Q I h;refine BF (Jk I hg G.at' ?_ n8);refine Fs (h₀:=X.base) I.ok.mod.kin G.kp (bH (ha pos Z s σ H _ I h) λus s1 ⟨vs,H1,I1,r,q⟩=>⟨I1.uy,?_⟩) he dR;refine Ms (dvs:=[]) (ds:=[]) G.ok (hr.mono hk) G.bi .nil S9 I1 r ?_;rw [CV];exact q
end
section
variable {v:V}
def O9 {α:Type}{xs:List α}{i:Int} (h0:0<=i) (h1:i < xs.length):∃v,ck xs i=ap v/\xs[i.toNat]?=ap v:=by
 have hk:i.toNat < xs.length:=by omega
 have q:=bL (by rw [Ad hk]);have e:((i.toNat:Nat):Int)=i:=by omega
 rw [e] at q;exact⟨_,q,by rw [Ad hk]⟩
def Td {i j:Int} (h1:-18446744073709551616 < i) (h2:i < 18446744073709551616):wE i j:=SR.ok (.inl ⟨h1,h2⟩)
def mul_r {i j:Int} (h1:-18446744073709551616 < j) (h2:j < 18446744073709551616):wE i j:=SR.ok (.inr ⟨h1,h2⟩)
end
def aU {n:Nat} (h:n<=1000):n<=sizeLine:=DU (uY h)
section
variable {X:Cx} (K:Ab) (hK:X.K=K)
include hK
def US (K:Ab):R2:=λx y H Q=>∃p q xs,x=.ref p/\y=.ref q/\dq K H p xs/\dq K H q []/\Q (.bl xs.isEmpty) H
def rX (hu:X.A.units < sn):iA X (nn .Eq) (US K):=by
 subst hK;intro Z s σ H x y v u Q I rx ry h;obtain⟨p,q,xs,rfl,rfl,hp,hq,k⟩:=h;cases rx;cases ry;obtain⟨ay,r,pl,hz⟩:=I.list hp;obtain⟨cO,r2,YR,hz2⟩:=I.list hq;cases r2;cases xs with
 | nil=>
  cases r;refine ER (FE (e:=λ_=>true) pl.isList YR.isList rfl hu λj h1=>absurd h1 (by simp)) ?_;exact⟨.bl true,H,I,rfl,k⟩
 | cons y ys=>
  have hl:=r.length;refine ER (Ei pl.isList YR.isList (by simp at hl ⊢;intro z;subst z;simp at hl) hu) ?_;exact⟨.bl false,H,I,rfl,k⟩
omit hK
end
theorem Vals.rQ:∀{xs:List V}{us:List bm},Vals xs us->Vals xs.reverse us.reverse
 | _,_,.nil=>.nil
 | _,_,.cons h t=>by rw [CA,CA];exact (Vals.rQ t).append (.cons h .nil)
def VC:Ge (.type "list_reverseiterator") (B6 "__len__")=pure bv:=by kernel_rfl
def Rb:Ge (.type "list_reverseiterator") (B6 "__length_hint__")=pure (ap (.builtin "list_reverseiterator.__length_hint__")):=by kernel_rfl
def Qd:splitId "list_reverseiterator.__length_hint__"=ap ("list_reverseiterator","__length_hint__"):=by kernel_rfl
def P8:isSubtype (.type "list_reverseiterator") (.type "list_reverseiterator")=pure true:=by kernel_rfl
def NX {prog:f8}{w:lc}{A:kw}{E:bm->ce->Prop}{s:ce}{r l:dL}{i:Int}{Q:Bool->ce->Prop} (h:s.heap.IsRevIter r l i) (q:Q false s):d4 (d5 prog w) A (Builtin.List.listLengthHint (AB r)) Q E s:=by
 refine Aa (DJ h.typeIs VC ?_);refine Aa (DJ h.typeIs Rb ?_);dsimp only;rw [Qd];dsimp only;refine Aa (Dn h.typeIs P8 ?_);rw [if_neg (by decide)];exact Af q
def uu {prog:f8}{w:lc}{A:kw}{s:ce}{R:Result->ce->Prop}{r l S:dL}{items:Array bm} (hA:A.handled=bv) (h:s.heap.IsRevIter r l (items.size-1)) (hl:s.heap.IsList l items) (NW:l≠r) (ĥ:S≠r) (hSl:S≠l) (hz:items.size<=sizeLine)
  (hS:s.heap.get? S=ap {cls:=BN "list",data:=E5 #[]})
  (q:∀(h':lw) (tk:Nat) (Å:Array bm) (c:Nat),(∀b o,b≠S->b≠r->s.heap.get? b=ap o->h'.get? b=ap o)->h'.get? S=ap {cls:=BN "list",data:=E5 Å c}->ItemsOf (λi v=>items[items.size-1-i]?=ap v) Å items.size->R (.ok (.ret .none)) {s with heap:=h',toks:=tk}) :
  d4 (d5 prog w) A.in1 (Db.«list.__init__» {pos:=[AB S,AB r]})
   (λfin s'=>match fin with | FK f=>R (Except.ok f) s' | Fin.again c'=>c'.quiet=true/\GE (d5 prog w) A c' R s') (λe s'=>R (Except.error e) s') s:=by
 unfold Db.«list.__init__»;refine Aa (wpAny_listItems hS rfl ?_);refine Aa ?_;refine DH hS rfl ?_ (by simp) (by simp);refine Aa (Dz ?_);have k1:∀b o,b≠S->s.heap.get? b=ap o->(s.heap.update S (Bk λ_=>#[])).get? b=ap o:=λb o hb e=>by rw [C6 _ _ (BA hb)];exact e
 have hS1:=Cu (Bk λ_=>#[]) hS rfl;generalize s.heap.update S (Bk λ_=>#[])=h1 at k1 hS1 ⊢;have ð:h1.IsRevIter r l (items.size-1):=let ⟨o,e,p⟩:=h;⟨o,k1 _ _ (BA ĥ) e,p⟩;have Ĝ:h1.IsList l items:=let ⟨o,e,p⟩:=hl;⟨o,k1 _ _ (BA hSl) e,p⟩;unfold Builtin.List.listExtendWith;refine Aa (B8 (T:="list_reverseiterator") ð.typeIs ?_);rw [if_neg (by
  have e1:Builtin.List.listSameRef (AB S) (AB r)=false:=by
   unfold Builtin.List.listSameRef;simpa using ĥ
  rw [e1];decide)]
 refine Aa (wpAny_pyIter_revIter ð ?_);refine Aa (A9 (NX ð ?_));rw [if_neg (by decide)];refine Af ⟨plainId_quiet F.plain_extend_loop _,?_⟩;refine codeAny_extend_loopS (Walks.toS (Walks.listRev (A:=A.in1) hA r l NW items)) hz S (by simp [ĥ,hSl]) .none items.size 0 _ #[] _ (EE _) (Bj _) ⟨Bj _,by simpa using ð,Ĝ⟩ hS1 (ItemsOf.nil _) ?_;intro s' Å c mv e io;rw [mv.eq_with];exact q s'.heap s'.toks Å c (λb o n1 n2 e'=>mv.heap b o (by simp [n1,n2]) (k1 b o n1 e')) e io
def uL {prog:f8}{w:lc}{A:kw}{E:bm->ce->Prop}{s:ce}{r l:dL}{items:Array bm}{Q:bm->ce->Prop} (hA:A.handled=bv) (h:s.heap.IsRevIter r l (items.size-1)) (hl:s.heap.IsList l items) (NW:l≠r) (hz:items.size<=sizeLine)
  (q:∀(h':lw) (tk:Nat) (Å:Array bm) (c:Nat),(∀b o,b≠r->s.heap.get? b=ap o->h'.get? b=ap o)->h'.get? s.heap.objs.size=ap {cls:=BN "list",data:=E5 Å c}->ItemsOf (λi v=>items[items.size-1-i]?=ap v) Å items.size->Q (.ref s.heap.objs.size) {s with heap:=h',toks:=tk}) :
  d4 (d5 prog w) A (call (BN "list") [AB r]) Q E s:=by
 have lr:=let ⟨_,e,_⟩:=h;Ar e;have ll:=let ⟨_,e,_⟩:=hl;Ar e;refine callType_codes F.called_list (F.typeCall_list_1 _) F.entry_list_init (code_list_new (Q₁:=λv s₁=>v=.ref s.heap.objs.size/\s₁={s with heap:=s.heap.push {cls:=BN "list",data:=E5 #[]}}) _ ⟨rfl,rfl⟩) ?_;rintro obj s₁ ⟨rfl,rfl⟩;refine⟨⟨_,Aq _ rfl,rfl⟩,F.args_list_init_2 _ _,?_⟩;have kp:∀b o,s.heap.get? b=ap o->(s.heap.push {cls:=BN "list",data:=E5 #[]}).get? b=ap o:=λb o e=>Ai _ e;refine uu (A:=A.in1) (items:=items) (l:=l) hA (let ⟨o,e,p⟩:=h;⟨o,kp _ _ e,p⟩) (let ⟨o,e,p⟩:=hl;⟨o,kp _ _ e,p⟩) NW (λz=>by rw [z] at lr;exact Ba _ lr) (λz=>by rw [z] at ll;exact Ba _ ll) hz (Aq _ rfl) ?_;intro h' tk Å c k e io;exact⟨rfl,q h' tk Å c (λb o n e'=>k b o (λz=>by rw [z] at e';exact Ba _ (Ar e')) n (kp b o e')) e io⟩
def tLR (K:Ab) (te:TE):TE:=λσ H Q=>te σ H λx H1=>∃p ys,x=.ref p/\dq K H1 p ys/\kL H1 (.lst ys.reverse) Q
section
variable {X:Cx} (K:Ab) (hK:X.K=K) {e:ga}{te:TE}{p1 p2 q1 q2:Pos}
include hK
def GG (hc:X.calm=true) (Ġ:Gl X "list") (ě:X.mg "list"=bv) (ğ:Gl X "reversed") (Xm:X.mg "reversed"=bv) (he:PE X e te)
  (F5:ci [.Call (.Name "reversed" q1) [e] [] q2] X.env=(false,lm (.Call (.Name "reversed" q1) [e] [] q2) X.env)::ci [] X.env:=by rfl) (qU:ci [e] X.env=(false,lm e X.env)::ci [] X.env:=by rfl) :
  PE X (.Call (.Name "list" p1) [.Call (.Name "reversed" q1) [e] [] q2] [] p2) (tLR K te):=by
 intro Z s σ H Q I h;subst hK;refine BF (kd I Ġ ě boot_list ?_ (by decide) (by decide));refine Bi ?_ F5 rfl;refine Cf ?_;refine BF (kd I ğ Xm boot_reversed ?_ (by decide) (by decide));refine Bi ?_ qU rfl;rw [qU];refine Cf (bH (he Z s σ H _ I h) λu s1 ⟨x,H1,I1,r1,pa,ys,ex,hS,q⟩=>Cy ?_);subst ex;cases r1;obtain⟨ay,rv,pl,hz⟩:=I1.list hS;have Á:=rv.length;have lp:=let ⟨_,e,_⟩:=pl.isList;Ar e;refine call_reversed_list pl.isList ?_;refine Cy ?_;have kp:∀b o,s1.heap.get? b=ap o->(s1.heap.push (revObj pa (ay.toArray.size-1))).get? b=ap o:=λb o e=>Ai _ e;refine uL (items:=ay.toArray) (l:=pa) (r:=s1.heap.objs.size) (I1.ok.hd hc) ⟨_,Aq _ rfl,rfl,rfl⟩ (let ⟨o,e,p⟩:=pl.isList;⟨o,kp _ _ e,p⟩) (λz=>by rw [z] at lp;exact Ba _ lp) (by rw [Aj];omega) ?_;intro h' tk Å c k e io;have kk:∀b o,s1.heap.get? b=ap o->h'.get? b=ap o:=λb o eb=>k b o (λz=>by rw [z] at eb;exact Ba _ (Ar eb)) (kp b o eb);have ea:Å=ay.reverse.toArray:=by
  obtain⟨z1,z2⟩:=io;apply Array.ext
  ·rw [z1,Aj,Aj,B4]
  ·intro j h1 h2;have:=z2 j Å[j] (CM h1);rw [Aj] at this;have hj:j < ay.length:=by rw [z1,Aj] at h1;exact h1
   rw [E2] at this;have e3:ay.reverse[j]?=ap Å[j]:=by rw [List.getElem?_reverse hj];exact this
   rw [DA];exact (Option.some.inj (((Ad (by rw [B4];exact hj)).symm.trans e3))).symm
 subst ea;have qU:s1.heap.objs.size<=(s1.heap.push (revObj pa (ay.toArray.size-1))).objs.size:=by simp [Heap.push]
 refine⟨.ref _,upd H1 _ (.lst ys.reverse),I1.laid (t':=tk) kk qU ?_,rfl,q.at _ (I1.bN.fresh qU)⟩;exact⟨by rw [B4];exact hz,ay.reverse,c,rv.rQ,e⟩
end
end L2
namespace My
open PySem PySem.Spec PyProof.Rows L2
def Wd (x:Str):Prop:=1<=x.length/\x.length<=8/\∀c∈x.cps.toList,97<=c/\c < 123
def Part (x:Str) (n:Nat):Prop:=x.length<=n/\∀c∈x.cps.toList,97<=c/\c < 123
def Part.append {x y:Str}{m n:Nat} (a:Part x m) (b:Part y n):Part (x++y) (m+n):=by
 refine⟨?_,λc hc=>?_⟩
 ·rw [C5];have:=a.1;have:=b.1;omega
 ·rw [Str.cps_append,Array.toList_append] at hc;rcases A5.mp hc with h | h
  ·exact a.2 c h
  ·exact b.2 c h
def uv {d st:Int} (h:st=1\/st=3\/st=5\/st=7\/st=9\/st=11) {n:Nat} (hn:n<=26):((AA n).map λk:Nat=>ap (97+((d+st*(0+(k:Int))) % 26).toNat)).Nodup:=by
 unfold List.Nodup;rw [Eg];refine List.Pairwise.imp_of_mem ?_ Dg;intro a b ha hb Z1 hz;have ù:=AO.mp hb;have Hf:=Option.some.inj hz;rcases h with rfl | rfl | rfl | rfl | rfl | rfl <;> omega
def w4 {α β:Type}{g:α->β}{l:List α} (h:(l.map g).Nodup):l.Nodup:=(Eg.mp h).imp λh e=>h (congrArg g e)
def JX (x y:Str) (c:Nat):(x++⟨#[c]⟩++y).cps[x.length]?=ap c:=by
 show ((x.cps++#[c])++y.cps)[x.cps.size]?=ap c;rw [Array.getElem?_append_left (by simp),Array.getElem?_append_right (Ao _)];simp
def G3:∀k:_root_.Fin 26,ck ("abcdefghijklmnopqrstuvwxyz":Str).cps.toList (k.val:Int)=ap (97+k.val):=by decide +kernel
def Ku {n:Int} (h0:0<=n) (h1:n < 26):ck ("abcdefghijklmnopqrstuvwxyz":Str).cps.toList n=ap (97+n.toNat):=by
 have e:=G3 ⟨n.toNat,by omega⟩;have e2:((n.toNat:Nat):Int)=n:=by omega
 rw [e2] at e;exact e
def Nd {c:Nat} (h0:97<=c) (h1:c < 123):Part ⟨#[c]⟩ 1:=by
 refine⟨Ao _,λd hd=>?_⟩;have:d=c:=by simpa using hd
 subst this;exact⟨h0,h1⟩
inductive Tr where
 | leaf (x:Str)
 | node (l r:Tr)
def Tr.aJ:Tr->List Str
 | .leaf x=>[x]
 | .node l r=>l.aJ++r.aJ
def Tr.size:Tr->Nat
 | .leaf _=>1
 | .node l r=>l.size+r.size+1
def Tr.depth:Tr->Nat
 | .leaf _=>0
 | .node l r=>max l.depth r.depth+1
def Tr.Ws (t:Tr):Prop:=∀x∈t.aJ,Wd x
def Tr.mY:∀t:Tr,1<=t.aJ.length
 | .leaf _=>Ao _
 | .node l r=>by have:=l.mY;show 1<=(l.aJ++r.aJ).length;rw [Ae];omega
def Tr.ox:∀t:Tr,t.depth < t.aJ.length
 | .leaf _=>Dp 0
 | .node l r=>by
  have h1:=l.ox;have h2:=r.ox;have h3:=l.mY;have h4:=r.mY;show max l.depth r.depth+1 < (l.aJ++r.aJ).length;rw [Ae];omega
def Tr.size_eq:∀t:Tr,t.size+1=2*t.aJ.length
 | .leaf _=>rfl
 | .node l r=>by
  have h1:=l.size_eq;have h2:=r.size_eq;show l.size+r.size+1+1=2*(l.aJ++r.aJ).length;rw [Ae];omega
def sL:∀k:_root_.Fin 26,(!(Builtin.Str.occurrences ("abcdefghijklmnopqrstuvwxyz":Str) ⟨#[97+k.val]⟩ 0 ("abcdefghijklmnopqrstuvwxyz":Str).length 1).isEmpty)=true:=by decide +kernel
def Hd {c:Nat} (h0:97<=c) (h1:c < 123):(!(Builtin.Str.occurrences ("abcdefghijklmnopqrstuvwxyz":Str) ⟨#[c]⟩ 0 ("abcdefghijklmnopqrstuvwxyz":Str).length 1).isEmpty)=true:=by
 have e:=sL ⟨c-97,by omega⟩;have e2:97+(c-97)=c:=by omega
 simp only [e2] at e;exact e
def sizes (ts:List Tr):Nat:=(ts.map Tr.size).sum
def bU (a b:List Tr):sizes (a++b)=sizes a+sizes b:=by unfold sizes;rw [A6,List.sum_append]
def fo (t:Tr):sizes [t]=t.size:=by simp [sizes]
def Tr.size_pos:∀t:Tr,1<=t.size
 | .leaf _=>Ao _
 | .node l r=>by show 1<=l.size+r.size+1;omega
theorem len_sizes:∀ts:List Tr,ts.length<=sizes ts
 | []=>Ao _
 | t::r=>by have:=len_sizes r;have:=t.size_pos;show r.length+1<=t.size+sizes r;omega
def Tr.post:Tr->List Tr
 | .leaf x=>[.leaf x]
 | .node l r=>l.post++r.post++[.node l r]
def Tr.post_len:∀t:Tr,t.post.length=t.size
 | .leaf _=>rfl
 | .node l r=>by show (l.post++r.post++[_]).length=l.size+r.size+1;rw [Ae,Ae,l.post_len,r.post_len];rfl
def posts (ts:List Tr):List Tr:=(ts.map Tr.post).flatten
def j3 (a b:List Tr):posts (a++b)=posts a++posts b:=by unfold posts;rw [A6,List.flatten_append]
def o6 (t:Tr):posts [t]=t.post:=by simp [posts]
def Kh (t u:Tr):posts [t,u]=t.post++u.post:=by simp [posts]
inductive Ent where
 | word (x:Str)
 | pair (a b:Nat)
def Tr.nd:Tr->Nat->List Ent
 | .leaf x,_=>[.word x]
 | .node l r,o=>l.nd o++r.nd (o+l.size)++[.pair (o+l.size-1) (o+l.size+r.size-1)]
def Tr.bz:∀(t:Tr) (o:Nat),(t.nd o).length=t.size
 | .leaf _,_=>rfl
 | .node l r,o=>by show (l.nd o++r.nd (o+l.size)++[_]).length=l.size+r.size+1;rw [Ae,Ae,l.bz,r.bz];rfl
def run:List Tr->List Ent->List Nat->Option (List Ent×List Nat)
 | [],À,ls=>ap (À,ls)
 | .leaf x::k,À,ls=>run k (À++[.word x]) (À.length::ls)
 | .node _ _::k,À,b::a::ls=>run k (À++[.pair a b]) (À.length::ls)
 | .node _ _::_,_,_=>bv
theorem rO:∀(t:Tr) (k:List Tr) (À:List Ent) (ls:List Nat),run (t.post++k) À ls=run k (À++t.nd À.length) ((À.length+t.size-1)::ls)
 | .leaf x,k,À,ls=>rfl
 | .node l r,k,À,ls=>by
  have e1:(Tr.node l r).post++k=l.post++(r.post++(Tr.node l r::k)):=by show l.post++r.post++[_]++k=_;simp
  rw [e1,rO l,rO r];have e2:(À++l.nd À.length).length=À.length+l.size:=by rw [Ae,l.bz]
  rw [e2];show run k _ _=run k _ _;have e3:(À++l.nd À.length++r.nd (À.length+l.size)).length=À.length+(Tr.node l r).size-1:=by
   rw [Ae,Ae,l.bz,r.bz];show _=À.length+(l.size+r.size+1)-1;omega
  rw [e3];have e4:À++(Tr.node l r).nd À.length=À++l.nd À.length++r.nd (À.length+l.size)++[.pair (À.length+l.size-1) (À.length+l.size+r.size-1)]:=by
   show À++(l.nd À.length++r.nd (À.length+l.size)++[_])=_;simp
  rw [e4]
def Ke (t:Tr):run t.post [] []=ap (t.nd 0,[t.size-1]):=by
 have:=rO t [] [] [];rw [CV] at this;rw [this];show ap ([]++t.nd 0,[0+t.size-1])=_;simp
end My
namespace L2
open PySem PySem.Spec PyProof.Rows
def iK {prog:f8}{w:lc}{A:kw}{E:bm->ce->Prop}{s:ce}{it t:dL}{i:Nat}{items:Array bm}{x:bm}{Q:bm->ce->Prop} (h:s.heap.IsTupleIter it t i) (ht:s.heap.IsTuple t items) (hx:items[i]?=ap x)
  (q:∀h':lw,h'.IsTupleIter it t (i+1)->B7 it s.heap h'->Q x {s with heap:=h'}):d4 (d5 prog w) A (Builtin.SmallTypes.nextOf (.ref it)) Q E s:=by
 unfold Builtin.SmallTypes.nextOf;refine Aa (AW h.typeIs Ce (Bc Ce h.typeIs DT ?_ (DE _)));obtain⟨o,ho,hc,hd⟩:=id h;obtain⟨ot,Ě,htc,n,ĕ⟩:=id ht;show d4 _ _ (field (.ref it) 0 >>= λseq=>_) _ _ s;refine Aa (AZ ho hd rfl ?_);refine Aa (AZ ho hd rfl ?_);refine Aa (BC Ě ĕ ?_);show d4 _ _ (match items[i]? with | some x=>(do zn (.ref it) 1 (wv ((i:Int)+1));ret x) | none=>_) _ _ s;rw [hx];refine Aa (D5 ho hd (show 1 < 2 by decide) ?_);refine Af ⟨x,rfl,Af (q _ ⟨_,Cu _ ho (by rw [EZ (CW hd _)]),by rw [Obj.cls_mapFields];exact hc,by rw [CW hd];rfl⟩ (B7.update ..))⟩
def Qa {prog:f8}{w:lc}{A:kw}{E:bm->ce->Prop}{s:ce}{α:Type}{Q:α->ce->Prop} (hA:A.handled=bv)
  (q:∀(h':lw) (e:dL),(∀b o,s.heap.get? b=ap o->h'.get? b=ap o)->(∃o,h'.get? e=ap o/\o.cls=.type "StopIteration")->E (.ref e) {s with heap:=h'}):d4 (d5 prog w) A (Builtin.SmallTypes.stopIteration (α:=α)) Q E s:=by
 refine Aa ?_;refine Aa (CG ?_ (by show 0<=sizeLine;decide));refine Aa (Cq (a:=AY) rfl ?_);refine A2 ?_ (sizeOk_excFields ..);unfold raiseNew;refine Aa (wpAny_handled ?_);rw [hA];refine wpAny_throw (q _ _ (λb o e=>Ai _ (Ai _ e)) ⟨_,Aq _ rfl,rfl⟩)
def jw {prog:f8}{w:lc}{A:kw}{E:bm->ce->Prop}{s:ce}{it t:dL}{i:Nat}{items:Array bm}{Q:bm->ce->Prop} (hA:A.handled=bv) (h:s.heap.IsTupleIter it t i) (ht:s.heap.IsTuple t items) (hx:items[i]?=bv)
  (q:∀(h':lw) (e:dL),FH it s.heap h'->(∃o,h'.get? e=ap o/\o.cls=.type "StopIteration")->E (.ref e) {s with heap:=h'}):d4 (d5 prog w) A (Builtin.SmallTypes.nextOf (.ref it)) Q E s:=by
 unfold Builtin.SmallTypes.nextOf;refine Aa (AW h.typeIs Ce (Bc Ce h.typeIs DT ?_ (DE _)));obtain⟨o,ho,hc,hd⟩:=id h;obtain⟨ot,Ě,htc,n,ĕ⟩:=id ht;show d4 _ _ (field (.ref it) 0 >>= λseq=>_) _ _ s;refine Aa (AZ ho hd rfl ?_);refine Aa (AZ ho hd rfl ?_);refine Aa (BC Ě ĕ ?_);show d4 _ _ (match items[i]? with | some x=>(do zn (.ref it) 1 (wv ((i:Int)+1));ret x) | none=>(do rule _;zn (.ref it) 0 .none;Builtin.SmallTypes.stopIteration)) _ _ s;rw [hx];refine Aa (CF ?_);refine Aa (D5 ho hd (show 0 < 2 by decide) ?_);refine Qa (A:=A.in1) hA λh' e k ex=>q h' e (λb o n eb=>k b o ?_) ex;rw [(B7.update _ _ _).2 b n];exact eb
def Inv.rE {X:Cx}{Z:List (dL×Obj)}{σ:L2.St}{H:Hp}{s:ce}{h':lw}{t':Nat}{ch:List dL}{a:dL}{o:HO} (I:Inv X Z σ H s) (hf:∀b∈ch,uS X Z H b) (k:∀b u,b∉ch->s.heap.get? b=ap u->h'.get? b=ap u)
  (hp:s.heap.objs.size<=a) (new:bB X.prog X.w (upd H a o) h' a o):Inv X Z σ (upd H a o) {s with heap:=h',toks:=t'}:=by
 have hn:=I.bN.fresh hp;have Tc:∀b u,H b=ap u->b∉ch:=λb u e z=>by rw [(hf b z).1] at e;cases e
 have nL:X.env.locals∉ch:=λz=>(hf _ z).2.1 rfl;refine I.step (g':=s.gens) (d':=s.drawn) (ch:=ch) (λb hb=>⟨(hf b hb).2.2.2.1,(hf b hb).2.1,(hf b hb).2.2.2.2.1,(hf b hb).2.2.2.2.2⟩) (λb u _ _ hc e _=>k b u hc e) (λb u _ _ hc e _=>⟨u.slots,k b u hc e⟩)
  (λb u _ e n=>by rw [aF (AE (Az (Ar e) hp))];exact n) (λb u hc e=>⟨u,k b u hc e⟩) (λb xs e=>by rw [aF (bS e hn)];exact e) (λb u xs e=>by rw [aF (bS e hn)];exact e)
  (λb ps e=>⟨#[],by rw [aF (bS e hn),e];simp⟩) (λm hm=>?_) (λb u e=>?_) I.bare
 ·obtain⟨o',es,ep,ho,r⟩:=hm;exact⟨o',es,ep,k _ o' nL ho,r⟩
 ·by_cases hb:b=a
  ·subst hb;rw [aR] at e;cases e;exact new
  ·rw [aF hb] at e;refine (I.bN b u e).wA (λc v hc q=>k c v ?_ q) (λc q=>by rw [aF (bS q hn)];exact q) λc xs q=>by rw [aF (bS q hn)];exact q
   rcases hc with z | z
   ·rw [z];exact Tc b u e
   ·exact Tc c _ z
def Inv.vV {X:Cx}{Z:List (dL×Obj)}{σ:L2.St}{H:Hp}{s:ce}{h':lw}{t':Nat}{ch:List dL} (I:Inv X Z σ H s) (hf:∀b∈ch,uS X Z H b) (k:∀b u,b∉ch->s.heap.get? b=ap u->h'.get? b=ap u) :
  Inv X Z σ H {s with heap:=h',toks:=t'}:=by
 have Tc:∀b u,H b=ap u->b∉ch:=λb u e z=>by rw [(hf b z).1] at e;cases e
 have nL:X.env.locals∉ch:=λz=>(hf _ z).2.1 rfl;refine I.step (g':=s.gens) (d':=s.drawn) (ch:=ch) (λb hb=>⟨(hf b hb).2.2.2.1,(hf b hb).2.1,(hf b hb).2.2.2.2.1,(hf b hb).2.2.2.2.2⟩) (λb u _ _ hc e _=>k b u hc e) (λb u _ _ hc e _=>⟨u.slots,k b u hc e⟩)
  (λ_ _ _ _ n=>n) (λb u hc e=>⟨u,k b u hc e⟩) (λ_ _ e=>e) (λ_ _ _ e=>e) (λb ps e=>⟨#[],by rw [e];simp⟩) (λm hm=>?_) (λb u e=>?_) I.bare
 ·obtain⟨o',es,ep,ho,r⟩:=hm;exact⟨o',es,ep,k _ o' nL ho,r⟩
 ·refine (I.bN b u e).wA (λc v hc q=>k c v ?_ q) (λ_ q=>q) λ_ _ q=>q;rcases hc with z | z
  ·rw [z];exact Tc b u e
  ·exact Tc c _ z
def kS {xs:List V}{us:List bm} (h:Vals xs us):∀{i:Nat}{x:V},xs[i]?=ap x->∃u,us[i]?=ap u/\RelV x u:=by
 induction h with
 | nil=>intro i x e;simp at e
 | cons r t ih=>
  intro i x e;cases i with
  | zero=>simp at e;subst e;exact⟨_,rfl,r⟩
  | succ i=>exact ih (by simpa using e)
def qu {prog:f8}{w:lc}{A:kw}{E:bm->ce->Prop}{s:ce}{e it t:dL}{i:Nat}{Ë:bm}{items:Array bm}{x:bm}{Q:bm->ce->Prop} (LV:e≠it) (ï:t≠e) (RD:t≠it)
  (hz:IsEnum s.heap e it i Ë) (hi:s.heap.IsTupleIter it t i) (ht:s.heap.IsTuple t items) (hx:items[i]?=ap x)
  (q:∀(h':lw) (tk:Nat),IsEnumOut h' e it (i+1:Nat) x s.heap.objs.size->h'.IsTupleIter it t (i+1)->IsPair h' s.heap.objs.size (.int i s.toks) x->(∀c o,c≠e->c≠it->s.heap.get? c=ap o->h'.get? c=ap o)->Q (.ref s.heap.objs.size) {s with heap:=h',toks:=tk}) :
  d4 (d5 prog w) A (Db.«enumerate.__next__» {pos:=[.ref e]}) (λfin s'=>∃v,fin=FK (FJ v)/\Q v s') E s:=by
 show d4 _ _ (field (.ref e) 2 >>= λr=>_) _ _ s;refine Aa (AZ hz rfl rfl ?_);refine Aa (iK hi ht hx λh1 j1 b1=>?_);have z1:=(b1.2 _ LV).trans hz;refine Aa (AZ z1 rfl rfl ?_);refine Aa (AZ z1 rfl rfl ?_);refine Aa (wpAny_mkInt ?_);refine Aa (A8 z1 (show 3 < 6 by decide) λh2 z2 b2=>?_);refine Aa (A8 z2 (show 4 < 6 by decide) λh3 z3 b3=>?_);have sz3:=b3.1.trans (b2.1.trans b1.1);have Ï:∀b,b≠e->b≠it->h3.get? b=s.heap.get? b:=λb n1 n2=>(b3.2 b n1).trans ((b2.2 b n1).trans (b1.2 b n2));refine Aa (CG ?_ (by show 2<=sizeLine;decide));have kp:∀b o,h3.get? b=ap o->(h3.push {cls:=.type "tuple",data:=.seq [DW i s.toks,x].toArray}).get? b=ap o:=λb o e=>Ai _ e;have Vt:(h3.push {cls:=.type "tuple",data:=.seq [DW i s.toks,x].toArray}).get? h3.objs.size=ap {cls:=.type "tuple",data:=.seq #[.int i s.toks,x]}:=Aq _ rfl;generalize h3.push {cls:=.type "tuple",data:=.seq [DW i s.toks,x].toArray}=h4 at kp Vt ⊢;have z4:h4.get? e=ap {cls:=.type "enumerate",data:=.fields #[.none,.bool false,.ref it,wv (i+1),.none,Ë]}:=kp _ _ z3;refine Aa ?_;refine Aa (AZ z4 rfl rfl ?_);refine Af ?_;refine Aa (CF ?_);refine Aa (AZ z4 rfl rfl ?_);refine Aa (A8 z4 (show 5 < 6 by decide) λh5 z5 b5=>?_);refine Aa ?_;refine Aa (A8 z5 (show 0 < 6 by decide) λh6 z6 b6=>?_);refine A8 z6 (show 1 < 6 by decide) λh7 z7 b7=>?_;refine Aa (Dz ?_);have Wg:∀b,b≠e->h7.get? b=h4.get? b:=λb n=>(b7.2 b n).trans ((b6.2 b n).trans (b5.2 b n));have ne:s.heap.objs.size≠e:=λz=>by have:=Ar hz;rw [<- z] at this;exact Ba _ this
 refine Af ⟨.ref h3.objs.size,rfl,?_⟩;rw [sz3] at z7 Vt ⊢;refine q h7 _ ?_ ?_ ?_ ?_
 ·exact z7
 ·obtain⟨o,eo,p⟩:=j1;refine⟨o,?_,p⟩;rw [Wg _ (BA LV)];exact kp _ _ ((b3.2 _ (BA LV)).trans ((b2.2 _ (BA LV)).trans eo))
 ·rw [IsPair,Wg _ ne];exact Vt
 ·intro c o n1 n2 ec;rw [Wg _ n1];exact kp _ _ ((Ï _ n1 n2).trans ec)
def tH {prog:f8}{w:lc}{A:kw}{E:bm->ce->Prop}{s:ce}{e it t:dL}{i:Nat}{Ë:bm}{items:Array bm}{Q:PySem.Fin->ce->Prop} (hA:A.handled=bv)
  (hz:IsEnum s.heap e it i Ë) (hi:s.heap.IsTupleIter it t i) (ht:s.heap.IsTuple t items) (hx:items[i]?=bv)
  (q:∀(h':lw) (x:dL),(∀c o,c≠it->s.heap.get? c=ap o->h'.get? c=ap o)->(∃o,h'.get? x=ap o/\o.cls=.type "StopIteration")->E (.ref x) {s with heap:=h'}) :
  d4 (d5 prog w) A (Db.«enumerate.__next__» {pos:=[.ref e]}) Q E s:=by
 show d4 _ _ (field (.ref e) 2 >>= λr=>_) _ _ s;refine Aa (AZ hz rfl rfl ?_);exact Aa (jw hA hi ht hx λh' x k ex=>q h' x (λc o n e'=>k c o n e') ex)
def nK {prog:f8}{w:lc}{A:kw}{E:bm->ce->Prop}{s:ce}{e it t:dL}{i:Nat}{Ë:bm}{items:Array bm}{x:bm}{Q:Option bm->ce->Prop} (LV:e≠it) (ï:t≠e) (RD:t≠it)
  (hz:IsEnum s.heap e it i Ë) (hi:s.heap.IsTupleIter it t i) (ht:s.heap.IsTuple t items) (hx:items[i]?=ap x)
  (q:∀(h':lw) (tk:Nat),IsEnumOut h' e it (i+1:Nat) x s.heap.objs.size->h'.IsTupleIter it t (i+1)->IsPair h' s.heap.objs.size (.int i s.toks) x->(∀c o,c≠e->c≠it->s.heap.get? c=ap o->h'.get? c=ap o)->Q (ap (.ref s.heap.objs.size)) {s with heap:=h',toks:=tk}) :
  d4 (d5 prog w) A (pyNext (.ref e)) Q E s:=by
 have ty:s.TypeIs (.ref e) "enumerate":=⟨_,hz,rfl⟩;refine Aa (CT (AW ty Cv (Bc Cv ty EB ?_ (Ep _))));exact qu LV ï RD hz hi ht hx λh' tk a b c d=>Af (q h' tk a b c d)
def o5 {prog:f8}{w:lc}{A:kw}{E:bm->ce->Prop}{s:ce}{e it t:dL}{i:Nat}{Ë:bm}{items:Array bm}{Q:Option bm->ce->Prop} (hA:A.handled=bv)
  (hz:IsEnum s.heap e it i Ë) (hi:s.heap.IsTupleIter it t i) (ht:s.heap.IsTuple t items) (hx:items[i]?=bv)
  (q:∀h':lw,(∀c o,c≠it->s.heap.get? c=ap o->h'.get? c=ap o)->Q bv {s with heap:=h'}) :
  d4 (d5 prog w) A (pyNext (.ref e)) Q E s:=by
 have ty:s.TypeIs (.ref e) "enumerate":=⟨_,hz,rfl⟩;refine Aa (CT (AW ty Cv (Bc Cv ty EB ?_ (Ep _))));refine tH (A:=A.in1) hA hz hi ht hx λh' x k ex=>?_;obtain⟨o,eo,hc⟩:=ex;refine Aa (Dn (T:="StopIteration") ⟨o,eo,hc⟩ isSubtype_stop ?_);exact Af (q h' k)
def qf (t:dL) (items:Array bm):Meets (Db.«enumerate.__new__» {pos:=[.type "enumerate",.ref t]}) (λ_ R s=>s.heap.IsTuple t items/\
  ∀h':lw,IsEnum h' (s.heap.objs.size+1) s.heap.objs.size (0:Nat) .none->h'.IsTupleIter s.heap.objs.size t 0->(∀b o,s.heap.get? b=ap o->h'.get? b=ap o)->R (.ok (.ret (.ref (s.heap.objs.size+1)))) {s with heap:=h'}):=
 .of_wp λprog w A R s h=>by
  obtain⟨h1,q⟩:=h;refine Aa ?_;refine Aa (Cq (a:=true) rfl ?_);refine Aa (Cq sub_enumerate ?_);refine Af ?_;refine Aa ?_;refine Aa (wpAny_stack_any λst=>Af ?_);have fin:d4 (d5 prog w) A.in1 (pyIter (.ref t) >>= λit=>(Builtin.SmallTypes.newRecord (.type "enumerate") (Builtin.SmallTypes.ownedTupleFields++[it,wv 0,.none,.none]) >>= λr=>ret r)) (λfin s'=>∃v,fin=FK (FJ v)/\R (Except.ok (FJ v)) s') (λe s'=>R (Except.error e) s') s:=by
   refine Aa (D6 h1 ?_);have k1:∀b o,s.heap.get? b=ap o->(s.heap.push {cls:=.type "tuple_iterator",data:=.fields #[.ref t,.int 0 0]}).get? b=ap o:=λb o e=>Ai _ e;have g1:(s.heap.push {cls:=.type "tuple_iterator",data:=.fields #[.ref t,.int 0 0]}).get? s.heap.objs.size=ap {cls:=.type "tuple_iterator",data:=.fields #[.ref t,.int 0 0]}:=Aq _ rfl;have z1:(s.heap.push {cls:=.type "tuple_iterator",data:=.fields #[.ref t,.int 0 0]}).objs.size=s.heap.objs.size+1:=CD ..;generalize s.heap.push {cls:=.type "tuple_iterator",data:=.fields #[.ref t,.int 0 0]}=uC at k1 g1 z1 ⊢;show d4 _ _ (newObj (.type "enumerate") (.fields #[.none,.bool false,.ref s.heap.objs.size,wv 0,.none,.none]) >>= λr=>ret r) _ _ _;refine Aa (A2 ?_ (by simp [sizeOk];decide));have g2:(uC.push {cls:=.type "enumerate",data:=.fields #[.none,.bool false,.ref s.heap.objs.size,wv 0,.none,.none]}).get? uC.objs.size=ap {cls:=.type "enumerate",data:=.fields #[.none,.bool false,.ref s.heap.objs.size,wv 0,.none,.none]}:=Aq _ rfl;refine Af ⟨.ref uC.objs.size,rfl,?_⟩;rw [z1] at g2 ⊢;exact q _ g2 ⟨_,Ai _ g1,rfl,rfl⟩ λb o e=>Ai _ (k1 _ _ e)
  refine wpAny_ite_split (λ_=>?_) (λ_=>?_)
  ·exact Aa (Cq (a:=(AB t,bv)) rfl fin)
  ·exact Aa (Cq (a:=(AB t,bv)) rfl fin)
def HX {prog:f8}{w:lc}{A:kw}{E:bm->ce->Prop}{s:ce}{t:dL}{items:Array bm}{Q:bm->ce->Prop} (h1:s.heap.IsTuple t items)
  (q:∀h':lw,IsEnum h' (s.heap.objs.size+1) s.heap.objs.size (0:Nat) .none->h'.IsTupleIter s.heap.objs.size t 0->(∀b o,s.heap.get? b=ap o->h'.get? b=ap o)->Q (.ref (s.heap.objs.size+1)) {s with heap:=h'}) :
  d4 (d5 prog w) A (call (.type "enumerate") [.ref t]) Q E s:=
 callType_new F.called_enumerate (by decide) (F.typeCall_enumerate_1 _) (F.newCall_enumerate_1 _) (λo=>F.args_object_init_2 o _) F.entry_enumerate_new (qf t items) ⟨h1,λh' z i k=>⟨⟨_,z,rfl⟩,q h' z i k⟩⟩
def Ite (K:Ab) (a:dL):It where
 go:=λi H=>∃xs x,d7 K H a xs/\xs[i]?=ap x
 SU:=λi H v H'=>∃p x,v=.ref p/\H p=bv/\H'=upd H p (.tup [.int i,x])/\∀xs,d7 K H a xs->xs[i]?=ap x
 stop:=λi H=>∃xs,d7 K H a xs/\xs.length<=i
def J1 {P:f8}{w:lc}{K:Ab}{Ê:List ga}{kk:Nat}{pos:Pos}{e it t:dL} (LV:e≠it) (ï:t≠e) (RD:t≠it):Turn P w K (.Tuple Ê kk pos) (Ite K t) [e,it] e (λi h=>(∃Ë,IsEnum h e it (i:Nat) Ë)/\h.IsTupleIter it t i) where
 mem:=by simp
 obj:=λi h st b hb=>by
  simp only [Ax,Bq,or_false] at hb;rcases hb with rfl | rfl
  ·obtain⟨⟨_,e⟩,_⟩:=st;exact⟨_,e,λv z=>by cases z⟩
  ·obtain⟨_,⟨o,e,_,d⟩⟩:=st;exact⟨o,e,λv z=>by rw [d] at z;cases z⟩
 keep:=λi h h' st k=>⟨let ⟨o,e'⟩:=st.1;⟨o,k e (by simp) _ e'⟩,let ⟨o,e',p⟩:=st.2;⟨o,k it (by simp) _ e',p⟩⟩
 item:=by
  intro X hP hw hK hc i Z s σ H E I hf st hg;subst hP hw hK;obtain⟨xs,x,hx,gx⟩:=hg;obtain⟨ay,rx,tx,_⟩:=I.tuple hx;obtain⟨u,gu,ru⟩:=kS rx gx;obtain⟨⟨Ë,hz⟩,hi⟩:=st;refine nK LV ï RD hz hi tx (by simpa using gu) λh' tk zo j np k=>?_;refine⟨_,rfl,?_⟩;refine D7 zo λh2 z2 b2=>?_;have le:=Ar hz;have li:=let ⟨_,e',_⟩:=hi;Ar e';have lt:∀b∈[e,it],b < s.heap.objs.size:=λb hb=>by
   simp only [Ax,Bq,or_false] at hb;rcases hb with rfl | rfl
   ·exact le
   ·exact li
  have nz:s.heap.objs.size≠e:=λz=>Ba _ (by have:=le;rw [<- z] at this;exact this);have Zo:∀b o,b∉[e,it]->s.heap.get? b=ap o->h2.get? b=ap o:=λb o hb e'=>by
   have Hf:b≠e:=λq=>hb (by simp [q]);rw [b2.2 b Hf];exact k b o Hf (λq=>hb (by simp [q])) e'
  have Y8:h2.get? s.heap.objs.size=ap {cls:=.type "tuple",data:=.seq #[.int i s.toks,u]}:=(b2.2 _ nz).trans np;have ZV:=I.bN.fresh (Ao s.heap.objs.size);refine⟨.ref s.heap.objs.size,upd H s.heap.objs.size (.tup [.int i,x]),I.rE (t':=tk) hf Zo (Ao _) ⟨by show 2<=sizeLine;decide,[.int i s.toks,u],.cons ⟨_,rfl⟩ (.cons ru .nil),⟨_,Y8,rfl,_,rfl⟩⟩,rfl,⟨_,x,rfl,ZV,rfl,λxs' h'=>by rw [I.lS h' hx];exact gx⟩,⟨⟨_,z2⟩,let ⟨o,e',p⟩:=j;⟨o,(b2.2 _ (BA LV)).trans e',p⟩⟩,λb hb=>?_⟩;rw [aF (AE (lt b hb))];exact (hf b hb).1
 done:=by
  intro X hP hw hK hc i Z s σ H E I hf st hg;subst hP hw hK;obtain⟨xs,hx,hl⟩:=hg;obtain⟨ay,rx,tx,_⟩:=I.tuple hx;have el:=rx.length;obtain⟨⟨Ë,hz⟩,hi⟩:=st;refine o5 (I.ok.hd hc) hz hi tx (by simp;omega) λh' k=>⟨rfl,I.vV (t':=s.toks) hf λb o hb e'=>k b o (λz=>hb (by simp [z])) e'⟩
 self:=λA i s Q E st h=>let ⟨_,e'⟩:=st.1;C9 e' h
end L2
namespace My
open PySem PySem.Spec PyProof.Rows L2
def Pf (l:List V) (i:Nat):Ent->List V
 | .word _=>l
 | .pair a b=>(l.set a (.int i)).set b (.int i)
def ah:List Ent->Nat->List V->List V
 | [],_,l=>l
 | e::es,i,l=>ah es (i+1) (Pf l i e)
theorem yj:∀(es:List Ent) (e:Ent) (i:Nat) (l:List V),ah (es++[e]) i l=Pf (ah es i l) (i+es.length) e
 | [],e,i,l=>rfl
 | x::es,e,i,l=>by
  show ah (es++[e]) (i+1) (Pf l i x)=Pf (ah es (i+1) (Pf l i x)) (i+(es.length+1)) e;rw [yj es e];congr 1;omega
def SE (l:List V) (i:Nat) (e:Ent):(Pf l i e).length=l.length:=by cases e with
 | word=>rfl
 | pair=>show ((l.set _ _).set _ _).length=_;rw [BL,BL]
theorem Ib:∀(es:List Ent) (i:Nat) (l:List V),(ah es i l).length=l.length
 | [],_,_=>rfl
 | e::es,i,l=>by show (ah es (i+1) (Pf l i e)).length=_;rw [Ib es,SE]
end My
namespace L2
open PySem PySem.Spec PyProof.Rows
def YI (K:Ab):V->V->Hp->VK->Prop:=λo i H Q=>∃p xs k x,o=.ref p/\i=.int k/\dq K H p xs/\0<=k/\k < 1000/\xs[k.toNat]?=ap x/\Q x H
def N7 {X:Cx} (K:Ab) (hK:X.K=K):aaF X (YI K):=λZ s σ H o i ov iv Q I ro ri h=>by
 obtain⟨p,xs,k,x,rfl,rfl,hp,k0,k1,hx,q⟩:=h;subst hK;cases ro;obtain⟨t,rfl⟩:=ri;obtain⟨ay,r,pl,hz⟩:=I.list hp;obtain⟨u,gu,ru⟩:=kS r hx;exact wpAny_getItem_list pl.isList k0 ∅ (by simpa using gu) ⟨x,H,I,ru,q⟩
end L2
namespace My
open PySem PySem.Spec PyProof.Rows L2
def L1 {x y:Str}{c:Nat} (a:Part x 1) (b:Part y 6) (h0:97<=c) (h1:c < 123):Wd (x++⟨#[c]⟩++y):=by
 have q:=(a.append (Nd h0 h1)).append b;refine⟨?_,q.1,q.2⟩;rw [C5,C5];show 1<=x.length+1+y.length;omega
end My
namespace L2
open PySem PySem.Spec PyProof.Rows
def Itd (lo:Int) (n:Nat):It:=⟨λi _=>i < n,λi H x H'=>H'=H/\x=.int (lo-i),λi _=>n<=i⟩
def yI {P:f8}{w:lc}{K:Ab}{tg:ga} (it:dL) (lo:Int) (n:Nat):Turn P w K tg (Itd lo n) [it] it (λi h=>IsRangeIter h it (lo+(i:Nat)*(-1)) ((n:Int)-(i:Nat)) (-1)) where
 mem:=by simp
 obj:=λi h st b hb=>by
  have e:b=it:=by simpa using hb
  subst e;exact⟨_,st,λv z=>by
   have z':=z;cases z'⟩
 keep:=λi h h' st k=>k it (by simp) _ st
 item:=by
  intro X hP hw hK hc i Z s σ H E I hf st hg;subst hP hw hK;obtain⟨f0,f1,f2,f3,f4,f5⟩:=hf it (by simp);have W:=Walks.range (prog:=X.prog) (w:=X.w) (I.ok.hd hc) it lo (-1) n;refine W.item i s _ _ hg st λv h' tk hv nt kk=>?_;obtain⟨t,rfl⟩:=hv;have I1:Inv X Z σ H {s with heap:=h',toks:=tk}:=I.turned (λb o hb e=>kk b o (by simpa using hb) e) f0 f1 f3 f4 f5;refine⟨_,rfl,sU (s:={s with heap:=h',toks:=tk}) (n:="range_iterator") nt rfl rfl (by decide) ⟨.int (lo-i),H,I1,⟨t,?_⟩,⟨rfl,rfl⟩,nt,λb hb=>(hf b hb).1⟩⟩;rw [show lo+(i:Int)*(-1)=lo-i by omega]
 done:=by
  intro X hP hw hK hc i Z s σ H E I hf st hg;obtain⟨f0,f1,f2,f3,f4,f5⟩:=hf it (by simp);exact wpAny_pyNext_range_end (I.ok.hd hc) st (by have:n<=i:=hg;omega) λh' eb=>⟨rfl,I.turned (t':=s.toks) (λb o hb e=>eb b o hb e) f0 f1 f3 f4 f5⟩
 self:=λ_ _ _ _ _ st h=>wpAny_pyIter_rangeiter st h
section
variable {X:Cx}{tg:ga}
def Kf {Z:List (dL×Obj)}{σ:St}{H:Hp}{s:ce}{R:It->Hp->Prop}{E:bm->ce->Prop}{lo hi:Int}{t u v:Tok}{tk:Nat} (I:Inv X Z σ H s) (h1:-(2 ^ 62)<=lo) (h2:lo < 2 ^ 62) (h3:-(2 ^ 62)<=hi) (h4:hi < 2 ^ 62)
  (q:R (Itd lo (lo-hi).toNat) H):d4 (d5 X.prog X.w) X.A (pyIter (.ref s.heap.objs.size)) (PIE X Z σ tg R) E {s with heap:=s.heap.push {cls:=.type "range",data:=.fields #[.int lo t,.int hi u,.int (-1) v]},toks:=tk}:=by
 refine wpAny_pyIter_range (IsRange.new ..) (PySem.W.small_down h1 h2 h3 h4) ?_;have I1:Inv X Z σ H {s with heap:=s.heap.push {cls:=.type "range",data:=.fields #[.int lo t,.int hi u,.int (-1) v]},toks:=tk}:=I.kept λb o e=>Ai _ e;refine⟨(s.heap.push {cls:=.type "range",data:=.fields #[.int lo t,.int hi u,.int (-1) v]}).objs.size,[(s.heap.push {cls:=.type "range",data:=.fields #[.int lo t,.int hi u,.int (-1) v]}).objs.size],_,_,H,rfl,
  I1.kept (t':=tk) λb o e=>Ai _ e,yI _ lo (lo-hi).toNat,?_,λb hb=>?_,q⟩
 ·have e1:lo+((0:Nat):Int)*(-1)=lo:=by simp
  have e2:(((lo-hi).toNat:Nat):Int)-((0:Nat):Int)=Builtin.Range.rangeSize lo hi (-1):=by rw [PySem.W.rangeSize_down];split <;> omega
  show IsRangeIter _ _ (lo+((0:Nat):Int)*(-1)) ((((lo-hi).toNat:Nat):Int)-((0:Nat):Int)) (-1);rw [e1,e2];exact Aq _ rfl
 ·have e:b=(s.heap.push {cls:=.type "range",data:=.fields #[.int lo t,.int hi u,.int (-1) v]}).objs.size:=by simpa using hb
  subst e;exact I1.xE (Ao _) (I1.bN.fresh (Ao _))
def Zv (ta:TA):TI:=λσ H R=>ta σ H λvs H1=>∃i j:Int,vs=[.int i,.int j,.int (-1)]/\(-(2 ^ 62)<=i/\i < 2 ^ 62/\-(2 ^ 62)<=j/\j < 2 ^ 62)/\R (Itd i (i-j).toNat) H1
def Kj {a b c:ga}{ta:TA}{p pos:Pos} (hg:Gl X "range") (hm:X.mg "range"=bv) (ha:PA X [a,b,c] ta) (hs:ci [a,b,c] X.env=[(false,lm a X.env),(false,lm b X.env),(false,lm c X.env)]:=by rfl) (qU:ci [b,c] X.env=[(false,lm b X.env),(false,lm c X.env)]:=by rfl) :
  PI X tg (.Call (.Name "range" p) [a,b,c] [] pos) (Zv ta):=by
 intro Z s σ H R I h;refine Call_ (kd I hg hm boot_range (Bi (bH (ha pos Z s σ H _ I h) λus s1 ⟨vs,H1,I1,r1,q1⟩=>?_) (by rw [hs,qU]) (by rw [qU];rfl)));obtain⟨i,j,e,⟨q1,q2,q3,q4⟩,q⟩:=q1;subst e;cases r1 with
 | cons r rr=>
  cases rr with
  | cons r' rr=>
   cases rr with
   | cons r'' rr=>
    cases rr;obtain⟨t,rfl⟩:=r;obtain⟨t',rfl⟩:=r';obtain⟨t'',rfl⟩:=r'';refine call_range_3 (by decide) (Kf I1 q1 q2 q3 q4 q) (.inl ?_);unfold Builtin.divisionGoesByPylong;have e1:decide ((if ((-1:Int)==0)=true then 0 else (-1:Int).natAbs.log2 / 30+1) > 300)=false:=by decide
    simp only [e1,Fd]
end
def aaJ (K:Ab) (a:dL):It where
 go:=λi H=>∃xs x,dq K H a xs/\xs[i]?=ap x
 SU:=λi H v H'=>∃p x,v=.ref p/\H p=bv/\H'=upd H p (.tup [.int i,x])/\∀xs,dq K H a xs->xs[i]?=ap x
 stop:=λi H=>∃xs,dq K H a xs/\xs.length<=i
def Gm {P:f8}{w:lc}{K:Ab}{Ê:List ga}{kk:Nat}{pos:Pos}{e it t:dL} (LV:e≠it):Turn P w K (.Tuple Ê kk pos) (aaJ K t) [e,it] e (λi h=>(∃Ë,IsEnum h e it (i:Nat) Ë)/\h.IsListIter it t i) where
 mem:=by simp
 obj:=λi h st b hb=>by
  simp only [Ax,Bq,or_false] at hb;rcases hb with rfl | rfl
  ·obtain⟨⟨_,e⟩,_⟩:=st;exact⟨_,e,λv z=>by cases z⟩
  ·obtain⟨_,⟨o,e,_,d⟩⟩:=st;exact⟨o,e,λv z=>by rw [d] at z;cases z⟩
 keep:=λi h h' st k=>⟨let ⟨o,e'⟩:=st.1;⟨o,k e (by simp) _ e'⟩,let ⟨o,e',p⟩:=st.2;⟨o,k it (by simp) _ e',p⟩⟩
 item:=by
  intro X hP hw hK hc i Z s σ H E I hf st hg;subst hP hw hK;obtain⟨xs,x,hx,gx⟩:=hg;obtain⟨ay,rx,tx,_⟩:=I.list hx;obtain⟨u,gu,ru⟩:=kS rx gx;obtain⟨⟨Ë,hz⟩,hi⟩:=st;refine wpAny_pyNext_enum_item hz hi tx.isList (by simpa using gu) LV λh' zo j np _ k=>?_;refine⟨_,rfl,?_⟩;refine D7 zo λh2 z2 b2=>?_;have le:=Ar hz;have li:=let ⟨_,e',_⟩:=hi;Ar e';have lt:∀b∈[e,it],b < s.heap.objs.size:=λb hb=>by
   simp only [Ax,Bq,or_false] at hb;rcases hb with rfl | rfl
   ·exact le
   ·exact li
  have nz:s.heap.objs.size≠e:=λz=>Ba _ (by have:=le;rw [<- z] at this;exact this);have Zo:∀b o,b∉[e,it]->s.heap.get? b=ap o->h2.get? b=ap o:=λb o hb e'=>by
   have Hf:b≠e:=λq=>hb (by simp [q]);rw [b2.2 b Hf];exact k b o Hf (λq=>hb (by simp [q])) e'
  have Y8:h2.get? s.heap.objs.size=ap {cls:=.type "tuple",data:=.seq #[.int i s.toks,u]}:=(b2.2 _ nz).trans np;have ZV:=I.bN.fresh (Ao s.heap.objs.size);refine⟨.ref s.heap.objs.size,upd H s.heap.objs.size (.tup [.int i,x]),I.rE (t':=s.toks+1) hf Zo (Ao _) ⟨by show 2<=sizeLine;decide,[.int i s.toks,u],.cons ⟨_,rfl⟩ (.cons ru .nil),⟨_,Y8,rfl,_,rfl⟩⟩,rfl,⟨_,x,rfl,ZV,rfl,λxs' h'=>by rw [I.zm h' hx];exact gx⟩,⟨⟨_,z2⟩,let ⟨o,e',p⟩:=j;⟨o,(b2.2 _ (BA LV)).trans e',p⟩⟩,λb hb=>?_⟩;rw [aF (AE (lt b hb))];exact (hf b hb).1
 done:=by
  intro X hP hw hK hc i Z s σ H E I hf st hg;subst hP hw hK;obtain⟨xs,hx,hl⟩:=hg;obtain⟨ay,rx,tx,_⟩:=I.list hx;have el:=rx.length;obtain⟨⟨Ë,hz⟩,hi⟩:=st;refine wpAny_pyNext_enum_end (I.ok.hd hc) hz hi tx.isList (by simp;omega) λh' k=>⟨rfl,I.vV (t':=s.toks) hf λb o hb e'=>k b o (λz=>hb (by simp [z])) e'⟩
 self:=λA i s Q E st h=>let ⟨_,e'⟩:=st.1;C9 e' h
end L2
namespace My
open PySem PySem.Spec PyProof.Rows L2
def en:Tr->Nat->Nat->Ent
 | .leaf x,_,_=>.word x
 | .node l r,o,j=>if j < l.size then en l o j else if j < l.size+r.size then en r (o+l.size) (j-l.size) else .pair (o+l.size-1) (o+l.size+r.size-1)
def up:Tr->Nat->Nat->List Nat->List Nat
 | .leaf _,o,_,ab=>o::ab
 | .node l r,o,j,ab=>if j < l.size then up l o j ((o+l.size+r.size)::ab) else if j < l.size+r.size then up r (o+l.size) (j-l.size) ((o+l.size+r.size)::ab) else (o+l.size+r.size)::ab
def kN:Tr->Nat->Nat->V->V
 | .leaf _,_,_,p=>p
 | .node l r,o,j,p=>if j < l.size then kN l o j (.int (o+l.size+r.size:Nat)) else if j < l.size+r.size then kN r (o+l.size) (j-l.size) (.int (o+l.size+r.size:Nat)) else p
def be:Tr->Nat->Nat->List Nat
 | .leaf _,o,_=>[o]
 | .node l r,o,j=>if j < l.size then be l o j else if j < l.size+r.size then be r (o+l.size) (j-l.size) else be l o (l.size-1)++be r (o+l.size) (r.size-1)
theorem gm:∀(t:Tr) (o j:Nat),j < t.size->(t.nd o)[j]?=ap (en t o j)
 | .leaf x,o,j,h=>by
  have:j=0:=by have:j < 1:=h;omega
  subst this;rfl
 | .node l r,o,j,h=>by
  have es:(Tr.node l r).size=l.size+r.size+1:=rfl;have hn:(Tr.node l r).nd o=l.nd o++r.nd (o+l.size)++[.pair (o+l.size-1) (o+l.size+r.size-1)]:=rfl;have ln:=l.bz o;have rn:=r.bz (o+l.size);unfold en;by_cases c1:j < l.size
  ·rw [if_pos c1,hn,A4,AD ∅];exact gm l o j c1
  ·rw [if_neg c1];by_cases c2:j < l.size+r.size
   ·rw [if_pos c2,hn,A4,Aw ∅,AD ∅,ln];exact gm r _ _ ∅
   ·rw [if_neg c2,hn,Aw (by rw [Ae];omega),Ae,ln,rn];have:j-(l.size+r.size)=0:=by omega
    rw [this];rfl
theorem O5:∀(t:Tr) (o j:Nat),j < t.size->(∃x,en t o j=.word x/\be t o j=[o+j])\/∃a b,en t o j=.pair (o+a) (o+b)/\a < j/\b < j/\be t o j=be t o a++be t o b
 | .leaf x,o,j,h=>by
  have:j=0:=by have:j < 1:=h;omega
  subst this;exact .inl ⟨x,rfl,rfl⟩
 | .node l r,o,j,h=>by
  have es:(Tr.node l r).size=l.size+r.size+1:=rfl;have lp:=l.size_pos;have rp:=r.size_pos;by_cases c1:j < l.size
  ·have e1:en (.node l r) o j=en l o j:=by rw [en,if_pos c1]
   have e2:∀k,k < l.size->be (.node l r) o k=be l o k:=λk hk=>by rw [be,if_pos hk]
   rw [e1];rcases O5 l o j c1 with⟨x,q1,q2⟩ | ⟨a,b,q1,q2,q3,q4⟩
   ·exact .inl ⟨x,q1,by rw [e2 j c1];exact q2⟩
   ·exact .inr ⟨a,b,q1,q2,q3,by rw [e2 j c1,e2 a ∅,e2 b ∅];exact q4⟩
  ·by_cases c2:j < l.size+r.size
   ·have e1:en (.node l r) o j=en r (o+l.size) (j-l.size):=by rw [en,if_neg c1,if_pos c2]
    have e2:∀k,k < r.size->be (.node l r) o (l.size+k)=be r (o+l.size) k:=λk hk=>by
     rw [be,if_neg ∅,if_pos ∅];congr 1;omega
    have ej:j=l.size+(j-l.size):=by omega
    rw [e1];rcases O5 r (o+l.size) (j-l.size) ∅ with⟨x,q1,q2⟩ | ⟨a,b,q1,q2,q3,q4⟩
    ·refine .inl ⟨x,q1,?_⟩;rw [ej,e2 _ ∅,q2];congr 1;omega
    ·refine .inr ⟨l.size+a,l.size+b,?_,by omega,by omega,?_⟩
     ·rw [q1,Bb,Bb]
     ·rw [e2 a ∅,e2 b ∅,ej,e2 _ ∅,q4]
   ·have ej:j=l.size+r.size:=by omega
    refine .inr ⟨l.size-1,l.size+r.size-1,?_,by omega,by omega,?_⟩
    ·rw [en,if_neg c1,if_neg c2];congr 1 <;> omega
    ·rw [be,if_neg c1,if_neg c2,be,if_pos ∅,be,if_neg ∅,if_pos ∅];congr 2;omega
theorem rC:∀(t:Tr) (o j:Nat) (p:V) (ab:List Nat),j < t.size->(j=t.size-1/\kN t o j p=p/\up t o j ab=(o+j)::ab)\/∃a,j < a/\a < t.size/\kN t o j p=.int (o+a:Nat)/\up t o j ab=(o+j)::up t o a ab
 | .leaf x,o,j,p,ab,h=>by
  have:j=0:=by have:j < 1:=h;omega
  subst this;exact .inl ⟨rfl,rfl,rfl⟩
 | .node l r,o,j,p,ab,h=>by
  have es:(Tr.node l r).size=l.size+r.size+1:=rfl;have lp:=l.size_pos;have rp:=r.size_pos;have er:up (.node l r) o (l.size+r.size) ab=(o+l.size+r.size)::ab:=by rw [up,if_neg ∅,if_neg ∅]
  by_cases c1:j < l.size
  ·have e1:kN (.node l r) o j p=kN l o j (.int (o+l.size+r.size:Nat)):=by rw [kN,if_pos c1]
   have e2:∀k,k < l.size->up (.node l r) o k ab=up l o k ((o+l.size+r.size)::ab):=λk hk=>by rw [up,if_pos hk]
   rw [e1,e2 j c1];rcases rC l o j (.int (o+l.size+r.size:Nat)) ((o+l.size+r.size)::ab) c1 with⟨q1,q2,q3⟩ | ⟨a,q1,q2,q3,q4⟩
   ·refine .inr ⟨l.size+r.size,by omega,by omega,by rw [q2,Bb],by rw [q3,er]⟩
   ·exact .inr ⟨a,q1,by omega,q3,by rw [q4,e2 a q2]⟩
  ·by_cases c2:j < l.size+r.size
   ·have e1:kN (.node l r) o j p=kN r (o+l.size) (j-l.size) (.int (o+l.size+r.size:Nat)):=by rw [kN,if_neg c1,if_pos c2]
    have e2:∀k,k < r.size->up (.node l r) o (l.size+k) ab=up r (o+l.size) k ((o+l.size+r.size)::ab):=λk hk=>by
     rw [up,if_neg ∅,if_pos ∅];congr 1;omega
    obtain⟨i,rfl⟩:∃i,j=l.size+i:=⟨j-l.size,by omega⟩;have ei:l.size+i-l.size=i:=by omega
    rw [e1,e2 i ∅,ei];rcases rC r (o+l.size) i (.int (o+l.size+r.size:Nat)) ((o+l.size+r.size)::ab) ∅ with⟨q1,q2,q3⟩ | ⟨a,q1,q2,q3,q4⟩
    ·refine .inr ⟨l.size+r.size,by omega,by omega,by rw [q2,Bb],by rw [q3,er,Bb]⟩
    ·exact .inr ⟨l.size+a,by omega,by omega,by rw [q3,Bb],by rw [q4,e2 a q2,Bb]⟩
   ·have ej:j=l.size+r.size:=by omega
    refine .inl ⟨by omega,by rw [kN,if_neg c1,if_neg c2],?_⟩;rw [ej,er,Bb]
def mL:Tr->Nat->V->List V
 | .leaf _,_,p=>[p]
 | .node l r,o,p=>mL l o (.int (o+l.size+r.size:Nat))++mL r (o+l.size) (.int (o+l.size+r.size:Nat))++[p]
theorem kz:∀(t:Tr) (o:Nat) (p:V),(mL t o p).length=t.size
 | .leaf _,_,_=>rfl
 | .node l r,o,p=>by
  unfold mL;rw [Ae,Ae,kz l,kz r];rfl
def JS (t:Tr) (o:Nat) (p q:V) (A B:List V):(A++mL t o p++B).set (A.length+t.size-1) q=A++mL t o q++B:=by
 have key:∃I,mL t o p=I++[p]/\mL t o q=I++[q]:=by
  cases t with
  | leaf _=>exact⟨[],rfl,rfl⟩
  | node l r=>exact⟨_,rfl,rfl⟩
 obtain⟨I,e1,e2⟩:=key;have h1:=kz t o p;rw [e1,Ae] at h1;have iC:I.length+1=t.size:=h1;rw [e1,e2];have ei:A.length+t.size-1=(A++I).length:=by rw [Ae];omega
 rw [ei,show A++(I++[p])++B=(A++I)++p::B by simp,E1 _ _ (Ao _),B9];simp
theorem Pe:∀(es fs:List Ent) (i:Nat) (l:List V),ah (es++fs) i l=ah fs (i+es.length) (ah es i l)
 | [],fs,i,l=>rfl
 | e::es,fs,i,l=>by
  show ah (es++fs) (i+1) (Pf l i e)=ah fs (i+(es.length+1)) (ah es (i+1) (Pf l i e));rw [Pe es fs];congr 1;omega
theorem Ic:∀(t:Tr) (A B:List V),ah (t.nd A.length) A.length (A++Am t.size .aX++B)=A++mL t A.length .aX++B
 | .leaf x,A,B=>rfl
 | .node l r,A,B=>by
  have es:(Tr.node l r).size=l.size+r.size+1:=rfl;have hn:(Tr.node l r).nd A.length=l.nd A.length++r.nd (A.length+l.size)++[.pair (A.length+l.size-1) (A.length+l.size+r.size-1)]:=rfl;have ln:=l.bz A.length;have rn:=r.bz (A.length+l.size);have h1:=Ic l A (Am r.size .aX++([V.aX]++B));have e0:A++Am (Tr.node l r).size V.aX++B=A++Am l.size .aX++(Am r.size .aX++([V.aX]++B)):=by
   rw [es,<- Dh,<- Dh];simp only [A4];rfl
  rw [hn,yj,Pe,e0,h1,ln];have la:(A++mL l A.length V.aX).length=A.length+l.size:=by rw [Ae,kz]
  have h2:=Ic r (A++mL l A.length V.aX) ([V.aX]++B);rw [la] at h2;have e1:A++mL l A.length V.aX++(Am r.size V.aX++([V.aX]++B))=A++mL l A.length V.aX++Am r.size V.aX++([V.aX]++B):=by simp [A4]
  rw [e1,h2,Ae,ln,rn];show ((_:List V).set (A.length+l.size-1) _).set (A.length+l.size+r.size-1) _=_;have s1:=JS l A.length .aX (.int (A.length+(l.size+r.size):Nat)) A (mL r (A.length+l.size) V.aX++([V.aX]++B));have e2:A++mL l A.length V.aX++mL r (A.length+l.size) V.aX++([V.aX]++B)=A++mL l A.length V.aX++(mL r (A.length+l.size) V.aX++([V.aX]++B)):=by simp [A4]
  rw [e2,s1];have lb:(A++mL l A.length (V.int (A.length+(l.size+r.size):Nat))).length=A.length+l.size:=by rw [Ae,kz]
  have s2:=JS r (A.length+l.size) .aX (.int (A.length+(l.size+r.size):Nat)) (A++mL l A.length (V.int (A.length+(l.size+r.size):Nat))) ([V.aX]++B);rw [lb] at s2;have e3:A++mL l A.length (V.int (A.length+(l.size+r.size):Nat))++(mL r (A.length+l.size) V.aX++([V.aX]++B))=A++mL l A.length (V.int (A.length+(l.size+r.size):Nat))++mL r (A.length+l.size) V.aX++([V.aX]++B):=by simp [A4]
  rw [e3,s2];have e4:mL (.node l r) A.length .aX=mL l A.length (.int (A.length+l.size+r.size:Nat))++mL r (A.length+l.size) (.int (A.length+l.size+r.size:Nat))++[.aX]:=rfl;rw [e4,Bb A.length l.size r.size];simp [A4]
theorem yh:∀(t:Tr) (o j:Nat) (p:V),j < t.size->(mL t o p)[j]?=ap (kN t o j p)
 | .leaf x,o,j,p,h=>by
  have:j=0:=by have:j < 1:=h;omega
  subst this;rfl
 | .node l r,o,j,p,h=>by
  have es:(Tr.node l r).size=l.size+r.size+1:=rfl;have ln:=kz l o (.int (o+l.size+r.size:Nat));have rn:=kz r (o+l.size) (.int (o+l.size+r.size:Nat));unfold mL kN;by_cases c1:j < l.size
  ·rw [if_pos c1,A4,AD ∅];exact yh l _ _ _ c1
  ·rw [if_neg c1];by_cases c2:j < l.size+r.size
   ·rw [if_pos c2,A4,Aw ∅,AD ∅,ln];exact yh r _ _ _ ∅
   ·rw [if_neg c2,Aw (by rw [Ae];omega),Ae,ln,rn];have:j-(l.size+r.size)=0:=by omega
    rw [this];rfl
def WY (t:Tr) {j:Nat} (h:j < t.size):(ah (t.nd 0) 0 (Am t.size .aX))[j]?=ap (kN t 0 j .aX):=by
 have q:=Ic t [] [];have e:([]:List V)++Am t.size .aX++[]=Am t.size .aX:=by simp
 have e2:([]:List V)++mL t ([]:List V).length .aX++[]=mL t 0 .aX:=by simp
 rw [e,e2] at q;have q':ah (t.nd 0) 0 (Am t.size .aX)=mL t 0 .aX:=q;rw [q'];exact yh t 0 j .aX h
end My
namespace PL
section
open PySem PySem.Spec PyProof.Rows L2
variable {K:Ab}
def T9 (K:Ab) (H:Hp) (a:dL) (xs:List V):Prop:=(∃o,H a=ap (.cU o (.lst xs)))\/
  ∃(o:Obj) (ay:Array bm) (n:Nat),K.lookup a=ap o/\o.cls=.type "list"/\o.dict=bv/\o.data=.seq ay n/\ay.size<=sizeLine/\Vals xs ay.toList
def T9.sq {H:Hp}{a:dL}{xs:List V} (h:T9 K H a xs):dq K H a xs:=h.elim (λh=>.inl (.inr h)) .inr
structure bF (K:Ab) (H H':Hp):Prop where
 t:∀p vs,H p=ap (.tup vs)->H' p=ap (.tup vs)
 z:∀p o u,H p=ap (.cU o u)->H' p=ap (.cU o u)
def bF.f {H H':Hp} (t:bF K H H') (p:dL) (vs:List V) (h:T9 K H p vs):T9 K H' p vs:=h.elim (λ⟨o,h⟩=>.inl ⟨o,t.z _ _ _ h⟩) .inr
def bF.refl (H:Hp):bF K H H:=⟨λ_ _ h=>h,λ_ _ _ h=>h⟩
def bF.trans {H H1 H2:Hp} (a:bF K H H1) (b:bF K H1 H2):bF K H H2:=⟨λp vs h=>b.t p vs (a.t p vs h),λp o w h=>b.z p o w (a.z p o w h)⟩
def _root_.L2.kO.eO {H H':Hp} (s:kO H H'):bF K H H':=⟨λp vs h=>s _ _ h,λp o u h=>s _ _ h⟩
inductive PV where
 | aX | bl (b:Bool) | int (i:Int) | str (x:Str) | tup (l:List PV) | ref (n:Nat) | ty (n:String) | cl (l:List PV) | dv (ks vs:List PV)
def kP:Key->PV
 | .inl i=>.int i
 | .inr x=>.str x
inductive PO where
 | lst (xs:List PV) | dk (kvs:List (Key×PV)) | dt (kvs:List (List Key×PV)) | opq (φ:List V->Prop)
abbrev PH:=List PO
abbrev yB:=List (Option PV)
mutual
inductive VR (K:Ab) (ι:List dL) (H:Hp):V->PV->Prop
 | aX:VR K ι H .aX .aX
 | bl (b:Bool):VR K ι H (.bl b) (.bl b)
 | int (i:Int):VR K ι H (.int i) (.int i)
 | str (x:Str):VR K ι H (.str x) (.str x)
 | ty (n:String):VR K ι H (.ty n) (.ty n)
 | tup {p:dL}{vs:List V}{l:List PV} (h:H p=ap (.tup vs)) (r:aN K ι H vs l):VR K ι H (.ref p) (.tup l)
 | ref {n:Nat}{a:dL} (h:ι[n]?=ap a):VR K ι H (.ref a) (.ref n)
 | cl {a:dL}{vs:List V}{l:List PV} (h:T9 K H a vs) (r:aN K ι H vs l):VR K ι H (.ref a) (.cl l)
 | dk {a:dL}{o:Obj}{kvs:List (Key×V)}{ks l:List PV} (h:H a=ap (.cU o (.dK kvs))) (e:ks=kvs.map λkv=>kP kv.1) (r:aN K ι H (kvs.map (·.2)) l):VR K ι H (.ref a) (.dv ks l)
 | dt {a:dL}{o:Obj}{kvs:List (List Key×V)}{ks l:List PV} (h:H a=ap (.cU o (.dT kvs))) (e:ks=kvs.map λkv=>.tup (kv.1.map kP)) (r:aN K ι H (kvs.map (·.2)) l):VR K ι H (.ref a) (.dv ks l)
inductive aN (K:Ab) (ι:List dL) (H:Hp):List V->List PV->Prop
 | nil:aN K ι H [] []
 | cons {v:V}{p:PV}{vs:List V}{ps:List PV} (r:VR K ι H v p) (t:aN K ι H vs ps):aN K ι H (v::vs) (p::ps)
end
section
variable {ι ι':List dL}{H H':Hp}
mutual
theorem VR.mono (ht:bF K H H') (hi:∀(n:Nat) (a:dL),ι[n]?=ap a->ι'[n]?=ap a):∀{v:V}{p:PV},VR K ι H v p->VR K ι' H' v p
 | _,_,.aX=>.aX
 | _,_,.bl b=>.bl b
 | _,_,.int i=>.int i
 | _,_,.str x=>.str x
 | _,_,.ty n=>.ty n
 | _,_,.tup h r=>.tup (ht.t _ _ h) (aN.mono ht hi r)
 | _,_,.cl h r=>.cl (ht.f _ _ h) (aN.mono ht hi r)
 | _,_,.dk h e r=>.dk (ht.z _ _ _ h) e (aN.mono ht hi r)
 | _,_,.dt h e r=>.dt (ht.z _ _ _ h) e (aN.mono ht hi r)
 | _,_,.ref h=>.ref (hi _ _ h)
theorem aN.mono (ht:bF K H H') (hi:∀(n:Nat) (a:dL),ι[n]?=ap a->ι'[n]?=ap a):∀{vs:List V}{ps:List PV},aN K ι H vs ps->aN K ι' H' vs ps
 | _,_,.nil=>.nil
 | _,_,.cons r t=>.cons (VR.mono ht hi r) (aN.mono ht hi t)
end
theorem aN.length:∀{vs:List V}{ps:List PV},aN K ι H vs ps->vs.length=ps.length
 | _,_,.nil=>rfl
 | _,_,.cons _ t=>by rw [An,An,aN.length t]
theorem aN.get:∀{vs:List V}{ps:List PV}{i:Nat}{p:PV},aN K ι H vs ps->ps[i]?=ap p->∃v,vs[i]?=ap v/\VR K ι H v p
 | _,_,_,_,.nil,e=>by simp at e
 | _,_,0,_,.cons r _,e=>by simp at e;subst e;exact⟨_,rfl,r⟩
 | _,_,i+1,p,.cons _ t,e=>by
  obtain⟨v,h1,h2⟩:=aN.get (i:=i) (p:=p) t (by simpa using e);exact⟨v,by simpa using h1,h2⟩
theorem aN.Z3:∀{vs:List V}{ps:List PV}{i:Nat}{v:V},aN K ι H vs ps->vs[i]?=ap v->∃p,ps[i]?=ap p/\VR K ι H v p
 | _,_,_,_,.nil,e=>by simp at e
 | _,_,0,_,.cons r _,e=>by simp at e;subst e;exact⟨_,rfl,r⟩
 | _,_,i+1,p,.cons _ t,e=>by
  obtain⟨v,h1,h2⟩:=aN.Z3 (i:=i) (v:=p) t (by simpa using e);exact⟨v,by simpa using h1,h2⟩
theorem aN.set {v:V}{p:PV} (r:VR K ι H v p):∀{vs:List V}{ps:List PV} (i:Nat),aN K ι H vs ps->aN K ι H (vs.set i v) (ps.set i p)
 | _,_,_,.nil=>.nil
 | _,_,0,.cons _ t=>.cons r t
 | _,_,i+1,.cons q t=>.cons q (aN.set r i t)
theorem aN.append:∀{xs ys:List V}{us ws:List PV},aN K ι H xs us->aN K ι H ys ws->aN K ι H (xs++ys) (us++ws)
 | _,_,_,_,.nil,s=>s
 | _,_,_,_,.cons r t,s=>.cons r (aN.append t s)
theorem aN.take:∀{xs:List V}{us:List PV} (n:Nat),aN K ι H xs us->aN K ι H (xs.take n) (us.take n)
 | _,_,0,_=>.nil
 | _,_,_+1,.nil=>.nil
 | _,_,n+1,.cons r t=>.cons r (aN.take n t)
theorem aN.drop:∀{xs:List V}{us:List PV} (n:Nat),aN K ι H xs us->aN K ι H (xs.drop n) (us.drop n)
 | _,_,0,r=>r
 | _,_,_+1,.nil=>.nil
 | _,_,n+1,.cons _ t=>aN.drop n t
theorem aN.reverse:∀{xs:List V}{us:List PV},aN K ι H xs us->aN K ι H xs.reverse us.reverse
 | _,_,.nil=>.nil
 | _,_,.cons r t=>by rw [CA,CA];exact (aN.reverse t).append (.cons r .nil)
def aN.one {v:V}{p:PV} (r:VR K ι H v p):aN K ι H [v] [p]:=.cons r .nil
end
structure Go (ι ι':List dL) (H H':Hp):Prop where
 ext:∃m,ι'=ι++m
 new:∀a,a∈ι'->a∉ι->H a=bv
 keep:∀a o,a∉ι->H a=ap o->H' a=ap o
def Go.refl (ι:List dL) (H:Hp):Go ι ι H H:=⟨⟨[],by simp⟩,λa h n=>absurd h n,λ_ _ _ h=>h⟩
def OR (K:Ab) (ι:List dL) (H:Hp) (a:dL):PO->Prop
 | .lst xs=>∃vs,H a=ap (.lst vs)/\aN K ι H vs xs
 | .dk kvs=>∃vs:List (Key×V),H a=ap (.dK vs)/\vs.map (·.1)=kvs.map (·.1)/\aN K ι H (vs.map (·.2)) (kvs.map (·.2))
 | .dt kvs=>∃vs:List (List Key×V),H a=ap (.dT vs)/\vs.map (·.1)=kvs.map (·.1)/\aN K ι H (vs.map (·.2)) (kvs.map (·.2))
 | .opq φ=>∃vs,H a=ap (.lst vs)/\φ vs
structure HR (K:Ab) (ι:List dL) (H:Hp) (h:PH):Prop where
 nd:ι.Nodup
 len:ι.length=h.length
 obj:∀(n:Nat) (a:dL) (o:PO),ι[n]?=ap a->h[n]?=ap o->OR K ι H a o
def i8 {α:Type}{l:List α}{x y:α}{n:Nat} (h:(l++[x])[n]?=ap y):l[n]?=ap y\/(n=l.length/\y=x):=by
 by_cases hn:n < l.length
 ·rw [AD hn] at h;exact .inl h
 ·rw [Aw ∅] at h;obtain⟨k,hk⟩:∃k,k=n-l.length:=⟨_,rfl⟩;rw [<- hk] at h;cases k with
  | zero=>simp at h;exact .inr ⟨by omega,h.symm⟩
  | succ k=>simp at h
end
section
open PySem PySem.Spec PyProof.Rows L2
variable {K:Ab}
abbrev QV:=PV->PH->Prop
structure ME where
 run:yB->PH->QV->Prop
 mono:∀{ps h}{Q Q':QV},(∀v h',Q v h'->Q' v h')->run ps h Q->run ps h Q'
structure MT where
 run:yB->PH->(Bool->PH->Prop)->Prop
 mono:∀{ps h}{Q Q':Bool->PH->Prop},(∀v h',Q v h'->Q' v h')->run ps h Q->run ps h Q'
structure MA where
 run:yB->PH->(List PV->PH->Prop)->Prop
 mono:∀{ps h}{Q Q':List PV->PH->Prop},(∀v h',Q v h'->Q' v h')->run ps h Q->run ps h Q'
structure ML where
 run:yB->PH->(List PV->PH->Prop)->Prop
 mono:∀{ps h}{Q Q':List PV->PH->Prop},(∀v h',Q v h'->Q' v h')->run ps h Q->run ps h Q'
structure Src where
 items:List PV
 ok:PH->Prop
 fz:Bool
structure MI where
 run:yB->PH->(Src->PH->Prop)->Prop
 mono:∀{ps h}{Q Q':Src->PH->Prop},(∀v h',Q v h'->Q' v h')->run ps h Q->run ps h Q'
structure PD where
 nx:yB->PH->Prop
 rt:QV
 bk:yB->PH->Prop
 ct:yB->PH->Prop
structure PD.Le (D D':PD):Prop where
 nx:∀ps h,D.nx ps h->D'.nx ps h
 rt:∀v h,D.rt v h->D'.rt v h
 bk:∀ps h,D.bk ps h->D'.bk ps h
 ct:∀ps h,D.ct ps h->D'.ct ps h
structure MS where
 run:PD->yB->PH->Prop
 mono:∀{D D' ps h},PD.Le D D'->run D ps h->run D' ps h
structure MG where
 run:PV->yB->PH->(yB->PH->Prop)->Prop
 mono:∀{v ps h}{Q Q':yB->PH->Prop},(∀ps h,Q ps h->Q' ps h)->run v ps h Q->run v ps h Q'
def pQ (K:Ab) (ι:List dL) (H:Hp) (Q:VK):QV:=λp h'=>∀ι' v H',Go ι ι' H H'->HR K ι' H' h'->VR K ι' H' v p->Q v H'
def PE.imp {X:Cx}{e:ga}{t t':TE} (h:PE X e t) (f:∀σ H Q,t' σ H Q->t σ H Q):PE X e t':=λZ s σ H Q I q=>h Z s σ H Q I (f _ _ _ q)
def PT.imp {X:Cx}{e:ga}{t t':TT} (h:PT X e t) (f:∀σ H Q,t' σ H Q->t σ H Q):PT X e t':=λZ s σ H Q I q=>h Z s σ H Q I (f _ _ _ q)
def PW.imp {X:Cx}{e:ga}{t t':TT} (h:PW X e t) (f:∀σ H Q,t' σ H Q->t σ H Q):PW X e t':=λw Z s σ H Q I q=>h w Z s σ H Q I (f _ _ _ q)
def PA.imp {X:Cx}{e:List ga}{t t':TA} (h:PA X e t) (f:∀σ H Q,t' σ H Q->t σ H Q):PA X e t':=λpos Z s σ H Q I q=>h pos Z s σ H Q I (f _ _ _ q)
def PS.imp {X:Cx}{e:ul}{t t':TS} (h:PS X e t) (f:∀D σ H,t' D σ H->t D σ H):PS X e t':=λZ s σ H D I q=>h Z s σ H D I (f _ _ _ q)
def rg.imp {X:Cx}{e:List ul}{t t':TS} (h:rg X e t) (f:∀D σ H,t' D σ H->t D σ H):rg X e t':=λZ s σ H D I q=>h Z s σ H D I (f _ _ _ q)
def PG.imp {X:Cx}{e:ga}{t t':TG} (h:PG X e t) (f:∀v σ H Q,t' v σ H Q->t v σ H Q):PG X e t':=λZ s σ H v u Q I r q=>h Z s σ H v u Q I r (f _ _ _ _ q)
def PI.imp {X:Cx}{tg e:ga}{t t':TI} (h:PI X tg e t) (f:∀σ H Q,t' σ H Q->t σ H Q):PI X tg e t':=λZ s σ H R I q=>h Z s σ H R I (f _ _ _ q)
section
abbrev P2:=PV->PV->PH->QV->Prop
structure M2 where
 f:P2
 mono:∀{x y h}{Q Q':QV},(∀v h',Q v h'->Q' v h')->f x y h Q->f x y h Q'
def M2.Ok (K:Ab) (r:R2) (m:M2):Prop:=∀{ι H h u v x y Q},HR K ι H h->VR K ι H u x->VR K ι H v y->m.f x y h (pQ K ι H Q)->r u v H Q
end
end
section
open PySem PySem.Spec PyProof.Rows L2
variable {K:Ab}
section
def lA {ι:List dL}{H:Hp}:∀{vs:List V}{l:List PV},aN K ι H vs l->(!l.isEmpty)=!vs.isEmpty
 | _,_,.nil=>rfl
 | _,_,.cons _ _=>rfl
structure MQ where
 run:yB->PH->(Src->PH->Prop)->Prop
 mono:∀{ps h}{Q Q':Src->PH->Prop},(∀v h',Q v h'->Q' v h')->run ps h Q->run ps h Q'
end
end
open PySem PySem.Spec PyProof.Rows L2
section
structure MGs where
 run:List PV->yB->PH->(yB->PH->Prop)->Prop
 mono:∀{v ps h}{Q Q':yB->PH->Prop},(∀ps h,Q ps h->Q' ps h)->run v ps h Q->run v ps h Q'
end
section
variable {K:Ab}
section
structure vP where
 f:List PV->PH->QV->Prop
 mono:∀{l h}{Q Q':QV},(∀v h',Q v h'->Q' v h')->f l h Q->f l h Q'
def vP.Ok (K:Ab) (r:List V->Hp->VK->Prop) (m:vP):Prop:=∀{ι H h vs l Q},HR K ι H h->aN K ι H vs l->m.f l h (pQ K ι H Q)->r vs H Q
end
end
section
variable {K:Ab}
def aI (g:Int->Int->PV):M2:=⟨λx y h Q=>match x,y with | .int i,.int j=>Q (g i j) h | _,_=>False,λf q=>by
 revert q
 split
 ·exact f _ _
 ·exact λz=>z⟩
def W2 (C:Int->Int->Prop) (g:Int->Int->PV):M2:=⟨λx y h Q=>match x,y with | .int i,.int j=>C i j/\Q (g i j) h | _,_=>False,λf q=>by
 revert q
 split
 ·exact λq=>⟨q.1,f _ _ q.2⟩
 ·exact λz=>z⟩
def FY {g:Int->Int->PV}{g':Int->Int->V} (hg:∀ι H i j,VR K ι H (g' i j) (g i j)):M2.Ok K (Qs g') (aI g):=by
 intro ι H h u v x y Q hr hu hv q;unfold aI at q;dsimp only at q;revert q
 split
 ·intro q;cases hu;cases hv;exact⟨_,_,rfl,rfl,q ι _ H (Go.refl _ _) hr (hg _ _ _ _)⟩
 ·exact Bm
def yk {C:Int->Int->Prop}{g:Int->Int->PV}{g':Int->Int->V} (hg:∀ι H i j,VR K ι H (g' i j) (g i j)):M2.Ok K (rI C g') (W2 C g):=by
 intro ι H h u v x y Q hr hu hv q;unfold W2 at q;dsimp only at q;revert q
 split
 ·intro q;cases hu;cases hv;exact⟨_,_,rfl,rfl,q.1,q.2 ι _ H (Go.refl _ _) hr (hg _ _ _ _)⟩
 ·exact Bm
def mS:=aI λi j=>.int (i-j)
def o9:=W2 wE λi j=>.int (i*j)
def oDiv:=W2 SS λi j=>.int (i / j)
def oMod:=W2 (λ_ j=>0 < j) λi j=>.int (i % j)
def za:=W2 Pn λi j=>.int (i ^ j.toNat)
def oLt:=aI λi j=>.bl (decide (i < j))
def oLe:=aI λi j=>.bl (decide (i<=j))
def Y7:=aI λi j=>.bl (decide (j < i))
def oGe:=aI λi j=>.bl (decide (j<=i))
section
variable {ι:List dL}{H:Hp}
def aN.j7:∀{vs:List V}{l:List PV},aN K ι H vs l->(vs=[]↔l=[])
 | _,_,.nil=>by simp
 | _,_,.cons _ _=>by simp
end
mutual
def PV.dat:PV->Bool
 | .tup l=>uJ l
 | .ref _=>false
 | .ty _=>false
 | .cl _=>false
 | .dv _ _=>false
 | _=>true
def uJ:List PV->Bool
 | []=>true
 | x::l=>x.dat&&uJ l
end
end
section
variable {K:Ab}
section
def PV.mE:PV->Bool
 | .aX=>true
 | _=>false
def Kp:M2:=⟨λx y h Q=>match y with | .aX=>Q (.bl x.mE) h | _=>False,λf q=>by
 revert q
 split
 ·exact f _ _
 ·exact λz=>z⟩
def KA {ι:List dL}{H:Hp}{v:V}{x:PV} (h:VR K ι H v x):decide (v=.aX)=x.mE:=by cases h <;> simp [PV.mE]
def Q1:M2.Ok K (λx y H Q=>y=.aX/\Q (.bl (decide (x=.aX))) H) Kp:=by
 intro ι H h u v x y Q hr hu hv q;cases hv with
 | aX=>exact⟨rfl,q ι _ H (Go.refl _ _) hr (by rw [KA hu];exact .bl _)⟩
 | _=>exact q.elim
end
end
section
variable {K:Ab}
section
def Mw {v v':V}{w:bm} (h:RelV v w) (h':RelV v' w):v=v':=Option.some.inj (h.abs.symm.trans h'.abs)
end
section
variable {X:Cx}{a b c e:ga}
def mIx (a:MQ) (b:ME):ME:=⟨λps h Q=>a.run ps h λS h1=>b.run ps h1 λy h2=>match y with
 | .int k=>S.ok h2/\match ck S.items k with | some v=>Q v h2 | none=>False
 | _=>False,λf q=>a.mono (λ_ _ q=>b.mono (λ_ _ q=>by
  revert q
  split
  ·rintro⟨q0,q⟩;refine⟨q0,?_⟩;revert q
   split
   ·exact f _ _
   ·exact λz=>z
  ·exact λz=>z) q) q⟩
def aN.ck {ι:List dL}{H:Hp}{vs:List V}{l:List PV} (r:aN K ι H vs l) {k:Int}{p:PV} (e:L2.ck l k=ap p):∃v,L2.ck vs k=ap v/\VR K ι H v p:=by
 unfold L2.ck at e ⊢;rw [r.length];cases z:nX l.length k with
 | none=>rw [z] at e;cases e
 | some j=>
  rw [z] at e;exact r.get e
def Ni:M2:=⟨λx y h Q=>match x,y with
 | .str z,.int k=>z.length<=sizeLine/\match L2.ck z.cps.toList k with | some c=>Q (.str ⟨#[c]⟩) h | none=>False
 | _,_=>False,λf q=>by
  revert q
  split
  ·rintro⟨q0,q⟩;refine⟨q0,?_⟩;revert q
   split
   ·exact f _ _
   ·exact λz=>z
  ·exact λz=>z⟩
def Q0:M2.Ok K UR Ni:=by
 intro ι H h u v x y Q hr hu hv q;unfold Ni at q;dsimp only at q;revert q
 split
 ·rename_i z k;rintro⟨q0,q⟩;cases hu;cases hv;cases e:L2.ck z.cps.toList k with
  | none=>rw [e] at q;exact q.elim
  | some c=>rw [e] at q;exact⟨z,k,c,rfl,rfl,q0,e,q ι _ H (Go.refl _ _) hr (.str _)⟩
 ·exact Bm
def cV:vP:=⟨λl h Q=>match l with
 | [.str y]=>y.length<=sizeLine/\Q (.int y.length) h
 | [.tup l]=>Q (.int l.length) h
 | [.cl l]=>Q (.int l.length) h
 | [.ref n]=>match h[n]? with
  | some (.lst xs)=>Q (.int xs.length) h
  | _=>False
 | _=>False,λf q=>by
  revert q
  split
  ·exact λq=>⟨q.1,f _ _ q.2⟩
  ·exact f _ _
  ·exact f _ _
  ·split
   ·exact f _ _
   ·exact λz=>z
  ·exact λz=>z⟩
def Sv (K:Ab):vP.Ok K (UQ K) cV:=by
 intro ι H h vs l Q hr hv q;unfold cV at q;dsimp only at q;revert q
 split
 ·intro q;cases hv with
  | cons x t=>cases t;cases x;exact⟨_,_,rfl,⟨q.1,rfl⟩,q.2 ι _ H (Go.refl _ _) hr (.int _)⟩
 ·intro q;cases hv with
  | cons x t=>
   cases t;cases x with
   | tup e r=>exact⟨_,_,rfl,.inr ⟨_,d7.of e,r.length.symm⟩,q ι _ H (Go.refl _ _) hr (.int _)⟩
 ·intro q;cases hv with
  | cons x t=>
   cases t;cases x with
   | cl e r=>exact⟨_,_,rfl,.inl ⟨_,e.sq,r.length.symm⟩,q ι _ H (Go.refl _ _) hr (.int _)⟩
 ·rename_i n;cases hv with
  | cons x t=>
   cases t;cases x with
   | @ref _ a e=>
   split
   ·rename_i xs hn;intro q;obtain⟨ws,e1,e2⟩:=hr.obj n a _ e hn;exact⟨_,_,rfl,.inl ⟨ws,dq.of e1,e2.length.symm⟩,q ι _ H (Go.refl _ _) hr (.int _)⟩
   ·exact Bm
 ·exact Bm
inductive Kd where
 | str | tup | int | bool
def Kd.name:Kd->String
 | .str=>"str" | .tup=>"tuple" | .int=>"int" | .bool=>"bool"
def Kd.is:Kd->PV->Bool
 | .str,.str _=>true
 | .tup,.tup _=>true
 | .int,.int _=>true
 | .int,.bl _=>true
 | .bool,.bl _=>true
 | _,_=>false
def YH (K:Ab):List V->Hp->VK->Prop:=λxs H Q=>∃x c t b,xs=[x,.ty c]/\(mC K H x t\/(t=.type "tuple"/\∃a vs,x=.ref a/\d7 K H a vs))/\Bu K t (.type c)=ap b/\Q (.bl b) H
def Lx (K:Ab) (hK:X.K=K):bZ X (.builtin "isinstance") (YH K):=by
 subst hK;intro Z s σ H xs us Q I r h;obtain⟨x,c,t,b,rfl,ty | ⟨rfl,a,vs,rfl,hT⟩,e,q⟩:=h
 ·exact pV Z s σ H _ us Q I r ⟨x,c,t,b,rfl,ty,e,q⟩
 ·obtain⟨u,w,rfl,r1,r2⟩:=vals2 r;cases r1;cases r2;obtain⟨ay,_,⟨o,h1,h2,_⟩,_⟩:=I.tuple hT;exact Bf Fq I.uy ⟨o,h1,h2⟩ e (λz=>nomatch z) λtk=>⟨.bl b,H,I.tok _,rfl,q⟩
def qT (K:Ab):(∀k:Kd,Bu K (.type "NoneType") (.type k.name)=ap false)/\(∀k:Kd,Bu K (.type "list") (.type k.name)=ap false)/\(∀k:Kd,Bu K (.type "dict") (.type k.name)=ap false):=
 ⟨λk=>by cases k <;> kernel_rfl,λk=>by cases k <;> kernel_rfl,λk=>by cases k <;> kernel_rfl⟩
def VL (K:Ab) (b:Bool) (k:Kd):Bu K (.type "bool") (.type k.name)=ap (k.is (.bl b)):=by cases k <;> kernel_rfl
def Ro (K:Ab) (b:Int) (k:Kd):Bu K (.type "int") (.type k.name)=ap (k.is (.int b)):=by cases k <;> kernel_rfl
def Rn (K:Ab) (b:Str) (k:Kd):Bu K (.type "str") (.type k.name)=ap (k.is (.str b)):=by cases k <;> kernel_rfl
def Rm (K:Ab) (b:List PV) (k:Kd):Bu K (.type "tuple") (.type k.name)=ap (k.is (.tup b)):=by cases k <;> kernel_rfl
def O8:vP:=⟨λl h Q=>match l with | [.int i]=>Q (.int (if i < 0 then -i else i)) h | _=>False,λf q=>by
 revert q
 split
 ·exact f _ _
 ·exact λz=>z⟩
def Sx:vP.Ok K (λxs H Q=>∃i,xs=[.int i]/\Q (.int (if i < 0 then -i else i)) H) O8:=by
 intro ι H h vs l Q hr hv q;unfold O8 at q;dsimp only at q;revert q
 split
 ·intro q;cases hv with
  | cons x t=>cases t;cases x;exact⟨_,rfl,q ι _ H (Go.refl _ _) hr (.int _)⟩
 ·exact Bm
def qA:vP:=⟨λl h Q=>match l with | [.int i]=>Q (.int i) h | [.bl k]=>Q (.int (if k then 1 else 0)) h | _=>False,λf q=>by
 revert q
 split
 ·exact f _ _
 ·exact f _ _
 ·exact λz=>z⟩
def Sw:vP.Ok K (λxs H Q=>(∃i,xs=[.int i]/\Q (.int i) H)\/∃k,xs=[.bl k]/\Q (.int (if k then 1 else 0)) H) qA:=by
 intro ι H h vs l Q hr hv q;unfold qA at q;dsimp only at q;revert q
 split
 ·intro q;cases hv with
  | cons x t=>cases t;cases x;exact .inl ⟨_,rfl,q ι _ H (Go.refl _ _) hr (.int _)⟩
 ·intro q;cases hv with
  | cons x t=>cases t;cases x;exact .inr ⟨_,rfl,q ι _ H (Go.refl _ _) hr (.int _)⟩
 ·exact Bm
def O7:vP:=⟨λl h Q=>match l with | [.int i,.int j]=>Q (.int (if j > i then j else i)) h | _=>False,λf q=>by
 revert q
 split
 ·exact f _ _
 ·exact λz=>z⟩
def O6:vP:=⟨λl h Q=>match l with | [.int i,.int j]=>Q (.int (if j < i then j else i)) h | _=>False,λf q=>by
 revert q
 split
 ·exact f _ _
 ·exact λz=>z⟩
def Su:vP.Ok K (λxs H Q=>∃i j,xs=[.int i,.int j]/\Q (.int (if j > i then j else i)) H) O7:=by
 intro ι H h vs l Q hr hv q;unfold O7 at q;dsimp only at q;revert q
 split
 ·intro q;cases hv with
  | cons x t=>cases t with
   | cons y t=>cases t;cases x;cases y;exact⟨_,_,rfl,q ι _ H (Go.refl _ _) hr (.int _)⟩
 ·exact Bm
def Ss:vP.Ok K (λxs H Q=>∃i j,xs=[.int i,.int j]/\Q (.int (if j < i then j else i)) H) O6:=by
 intro ι H h vs l Q hr hv q;unfold O6 at q;dsimp only at q;revert q
 split
 ·intro q;cases hv with
  | cons x t=>cases t with
   | cons y t=>cases t;cases x;cases y;exact⟨_,_,rfl,q ι _ H (Go.refl _ _) hr (.int _)⟩
 ·exact Bm
end
end
section
variable {K:Ab}
section
variable {X:Cx}{b e:ga}
def MB (K:Ab):List V->Hp->VK->Prop:=λxs H Q=>∃p ys,xs=[.ref p]/\((dq K H p ys/\kL H (.tup ys) Q)\/(d7 K H p ys/\Q (.ref p) H))
def Lu (K:Ab) (hK:X.K=K):bZ X (.type "tuple") (MB K):=by
 subst hK;exact uK.mono λxs H Q ⟨p,ys,e,h⟩=>⟨p,ys,e,h.imp (λ⟨h1,h2⟩=>⟨h1,λl hl=>h2.at l hl⟩) λz=>z⟩
theorem pM {ι:List dL}{H:Hp}:∀{bs:List Bool}{vs:List V},aN K ι H vs (bs.map PV.bl)->vs=bs.map V.bl
 | [],_,h=>by cases h;rfl
 | b::bs,_,h=>by
  cases h with
  | cons x t=>cases x;rw [pM t];rfl
structure MQL where
 run:yB->PH->(Src->PH->Prop)->Prop
 mono:∀{ps h}{Q Q':Src->PH->Prop},(∀v h',Q v h'->Q' v h')->run ps h Q->run ps h Q'
structure MO where
 run:yB->PH->(Option Int->PH->Prop)->Prop
 mono:∀{ps h}{Q Q':Option Int->PH->Prop},(∀v h',Q v h'->Q' v h')->run ps h Q->run ps h Q'
def PO.imp {e:Option ga}{t t':TO} (h:L2.PO X e t) (f:∀σ H Q,t' σ H Q->t σ H Q):L2.PO X e t':=λZ s σ H Q I q=>h Z s σ H Q I (f _ _ _ q)
def gJ (xs:List PV) (lo hi:Option Int):List PV:=(xs.drop (HT.dW xs.length 0 lo)).take (HT.dW xs.length xs.length hi-HT.dW xs.length 0 lo)
def aN.cut {ι:List dL}{H:Hp}{vs:List V}{l:List PV} (r:aN K ι H vs l) (lo hi:Option Int):aN K ι H (yb vs lo hi) (gJ l lo hi):=by
 unfold yb gJ;rw [r.length];exact (r.drop _).take _
end
end
section
variable {K:Ab}
section
variable {X:Cx}{a c e:ga}{p:Pos}
def kF (lo:Int) (n:Nat):List PV:=(AA n).map λ(i:Nat)=>.int (lo+(i:Int))
def jG (lo:Int) (n:Nat):(kF lo n).length=n:=by unfold kF;simp
def pA {lo:Int}{n i:Nat}{p:PV} (h:(kF lo n)[i]?=ap p):i < n/\p=.int (lo+i):=by
 unfold kF at h;rw [Ak] at h;cases z:(AA n)[i]? with
 | none=>rw [z] at h;cases h
 | some k=>
  rw [z] at h;obtain⟨h1,h2⟩:=Al.mp z;simp at h1 h2;subst h2;exact⟨h1,(Option.some.inj h).symm⟩
def gn (lo:Int) (n:Nat):List PV:=(AA n).map λ(i:Nat)=>.int (lo-(i:Int))
def vE (lo:Int) (n:Nat):(gn lo n).length=n:=by unfold gn;simp
def vF {lo:Int}{n i:Nat}{p:PV} (h:(gn lo n)[i]?=ap p):i < n/\p=.int (lo-i):=by
 unfold gn at h;rw [Ak] at h;cases z:(AA n)[i]? with
 | none=>rw [z] at h;cases h
 | some k=>
  rw [z] at h;obtain⟨h1,h2⟩:=Al.mp z;simp at h1 h2;subst h2;exact⟨h1,(Option.some.inj h).symm⟩
def Qg (i:Int):Prop:=-(2 ^ 62)<=i/\i < 2 ^ 62
def aa5 (m:MA):MI:=⟨λps h Q=>m.run ps h λl h1=>match l with | [.int j]=>Qg j/\Q ⟨kF 0 j.toNat,λ_=>True,false⟩ h1 | _=>False,λf q=>m.mono (λl h1 q=>by
 revert q
 split
 ·exact λq=>⟨q.1,f _ _ q.2⟩
 ·exact λz=>z) q⟩
def dZ (k:Nat):List PV->List PV
 | []=>[]
 | x::l=>.tup [.int (k:Int),x]::dZ (k+1) l
theorem cS:∀(k:Nat) (l:List PV),(dZ k l).length=l.length
 | _,[]=>rfl
 | k,x::l=>by rw [dZ,An,An,cS]
theorem gN:∀{k:Nat}{l:List PV}{i:Nat}{p:PV},(dZ k l)[i]?=ap p->∃x,l[i]?=ap x/\p=.tup [.int ((k+i:Nat):Int),x]
 | _,[],_,_,h=>by simp [dZ] at h
 | k,x::l,0,p,h=>by simp [dZ] at h;subst h;exact⟨x,rfl,by simp⟩
 | k,x::l,i+1,p,h=>by
  obtain⟨y,h1,h2⟩:=gN (k:=k+1) (l:=l) (i:=i) (p:=p) (by simpa [dZ] using h);exact⟨y,by simpa using h1,by rw [h2,show k+1+i=k+(i+1) by omega]⟩
def V1 (K:Ab) (t1:TE):TI:=λσ H R=>t1 σ H λx H1=>∃a,x=.ref a/\(((∃xs,dq K H1 a xs)/\R (aaJ K a) H1)\/((∃xs,d7 K H1 a xs)/\R (Ite K a) H1))
def MU {X:Cx} (K:Ab) (hK:X.K=K) {e1:ga}{t1:TE}{Ê:List ga}{kk:Nat}{tp p1 p2:Pos} (hg:Gl X "enumerate") (hm:X.mg "enumerate"=bv) (h1:PE X e1 t1)
  (F5:ci [e1] X.env=(false,lm e1 X.env)::ci [] X.env:=by rfl):PI X (.Tuple Ê kk tp) (.Call (.Name "enumerate" p1) [e1] [] p2) (V1 K t1):=by
 subst hK;intro Z s σ H R I h;refine BF (kd I hg hm boot_enumerate ?_ (by decide) (by decide));refine Bi ?_ F5 rfl;rw [F5];refine Cf (bH (h1 Z s σ H _ I h) λu1 s1 ⟨x,H1,I1,r1,a,ex,hh⟩=>Cy ?_);subst ex;cases r1;have d1:s1.heap.objs.size+1≠s1.heap.objs.size:=Nat.succ_ne_self _;rcases hh with⟨⟨xs,hx⟩,q⟩ | ⟨⟨xs,hx⟩,q⟩
 ·obtain⟨ay,rx,tx,_⟩:=I1.list hx;refine call_enumerate_list tx.isList λh' ze hi _ k=>?_;refine C9 ze ?_;refine⟨_,_,_,_,H1,rfl,I1.kept (t':=s1.toks) k,Gm d1,⟨⟨_,ze⟩,hi⟩,λc hc=>?_,q⟩;have Ù:s1.heap.objs.size<=c:=by
   simp only [Ax,Bq,or_false] at hc;rcases hc with rfl | rfl
   ·exact Bz _ _
   ·exact Ao _
  exact I1.xE Ù (I1.bN.fresh Ù)
 ·obtain⟨ay,rx,tx,_⟩:=I1.tuple hx;have l1:=let ⟨_,e,_⟩:=tx;Ar e;refine HX tx λh' ze hi k=>?_;refine C9 ze ?_;refine⟨_,_,_,_,H1,rfl,I1.kept (t':=s1.toks) k,J1 d1 (AE (Az l1 (Bz _ 1))) (AE l1),⟨⟨_,ze⟩,hi⟩,λc hc=>?_,q⟩;have Ù:s1.heap.objs.size<=c:=by
   simp only [Ax,Bq,or_false] at hc;rcases hc with rfl | rfl
   ·exact Bz _ _
   ·exact Ao _
  exact I1.xE Ù (I1.bN.fresh Ù)
def f7:List PV->List PV->List PV
 | x::l,y::m=>.tup [x,y]::f7 l m
 | _,_=>[]
theorem rk:∀{l m:List PV}{i:Nat}{p:PV},(f7 l m)[i]?=ap p->∃x y,l[i]?=ap x/\m[i]?=ap y/\p=.tup [x,y]
 | [],m,i,p,h=>by simp [f7] at h
 | x::l,[],i,p,h=>by simp [f7] at h
 | x::l,y::m,0,p,h=>by simp [f7] at h;subst h;exact⟨x,y,rfl,rfl,rfl⟩
 | x::l,y::m,i+1,p,h=>by
  obtain⟨u,w,h1,h2,h3⟩:=rk (l:=l) (m:=m) (i:=i) (p:=p) (by simpa [f7] using h);exact⟨u,w,by simpa using h1,by simpa using h2,h3⟩
end
end
section
variable {K:Ab}
section
def Tt:M2:=aI λi j=>.int (i+j)
def Zt {g:Int->Int->Int}:M2.Ok K (ipI g) (aI λi j=>.int (g i j)):=by
 intro ι H h u v x y Q hr hu hv q;unfold aI at q;dsimp only at q;revert q
 split
 ·intro q;cases hu;cases hv;exact⟨_,_,rfl,rfl,q ι _ H (Go.refl _ _) hr (.int _)⟩
 ·exact Bm
end
end
section
variable {X:Cx}{K:Ab}{b:ga}{p:Pos}
section
structure JC (X:Cx) (K:Ab) (op:CmpOp) (b:ga) (m:M2):Prop where
 p:∃r,iA X (nn op) r/\M2.Ok K r m
 k:pc op b=false
def nW:JC X K .Lt b oLt:=⟨⟨_,Y0,FY λ_ _ _ _=>.bl _⟩,mU _⟩
def zw:JC X K .LtE b oLe:=⟨⟨_,Y1,FY λ_ _ _ _=>.bl _⟩,mU _⟩
def Tq:JC X K .Gt b Y7:=⟨⟨_,Y2,FY λ_ _ _ _=>.bl _⟩,mU _⟩
def Zr:JC X K .GtE b oGe:=⟨⟨_,Y3,FY λ_ _ _ _=>.bl _⟩,mU _⟩
def G9:JC X K .Is b Kp:=⟨⟨_,Vj,Q1⟩,mU _⟩
def agj:M2:=⟨λx y h Q=>match x,y with | .str i,.str j=>Q (.bl (decide (i.cps.toList < j.cps.toList))) h | _,_=>False,λf q=>by
 revert q
 split
 ·exact f _ _
 ·exact λz=>z⟩
def Q2:M2:=⟨λx y h Q=>match x,y with | .str i,.str j=>Q (.bl (!(Builtin.Str.occurrences j i 0 j.length 1).isEmpty)) h | _,_=>False,λf q=>by
 revert q
 split
 ·exact f _ _
 ·exact λz=>z⟩
def VU (hk:pc .In b=false):JC X K .In b Q2:=⟨⟨_,Km,by
 intro ι H h u v x y Q hr hu hv q;unfold Q2 at q;dsimp only at q;revert q
 split
 ·intro q;cases hu;cases hv;exact⟨_,_,rfl,rfl,q ι _ H (Go.refl _ _) hr (.bl _)⟩
 ·exact Bm⟩,hk⟩
end
end
theorem Fl:∀{l:List PV},uJ l=true↔∀x∈l,x.dat=true
 | []=>by simp [uJ]
 | x::l=>by rw [uJ,Av,Fl];simp
section
variable {K:Ab}
section
variable {X:Cx}{a b c e:ga}
def OE {ι:List dL}{H:Hp}{vs:List V}{l:List PV} (h:aN K ι H vs l):vs.isEmpty=l.isEmpty:=by cases h <;> rfl
def aN.rep {ι:List dL}{H:Hp}{vs:List V}{l:List PV} (h:aN K ι H vs l):∀k:Nat,aN K ι H (Am k vs).flatten (Am k l).flatten
 | 0=>.nil
 | k+1=>by
  rw [Br,Br,BZ,BZ];exact h.append (h.rep k)
def MC:V->List V->Hp->VK->Prop:=λx vs H Q=>∃(l:dL) (ns:List Int) (k:Int),x=.ref l/\vs=[.int k]/\H l=ap (.lst (ns.map V.int))/\k∈ns/\yG H l (.lst ((ns.erase k).map V.int)) (Q .aX)
theorem ints_get:∀{us:List bm}{ns:List Int},Da us ns->∀(i:Nat) (hi:i < us.length),∃n t,ns[i]?=ap n/\us[i]=.int n t
 | _,_,.nil,i,hi=>by simp at hi
 | _,_,.cons _ _ r,i,hi=>by
  cases i with
  | zero=>exact⟨_,_,rfl,rfl⟩
  | succ i=>exact ints_get r i (by simpa using hi)
theorem NR {k:Int}:∀{ns:List Int}{m:Nat},ns[m]?=ap k->ns.idxOf k<=m
 | [],m,h=>by simp at h
 | a::ns,0,h=>by
  have:a=k:=by simpa using h
  subst this;simp
 | a::ns,m+1,h=>by
  have:=NR (ns:=ns) (m:=m) (by simpa using h);rw [List.idxOf_cons];by_cases c:a=k
  ·have:(a==k)=true:=by simpa using c
   rw [this];exact Bj _
  ·have c2:(a==k)=false:=by simpa using c
   rw [c2];exact Nat.succ_le_succ this
theorem vv {α β:Type} (f:α->β):∀(l:List α) (j:Nat),(l.eraseIdx j).map f=(l.map f).eraseIdx j
 | [],_=>rfl
 | a::l,0=>rfl
 | a::l,j+1=>by
  show f a::(l.eraseIdx j).map f=f a::(l.map f).eraseIdx j;rw [vv f l j]
def isK (k:Int):bm->Bool
 | .int a _=>a==k
 | _=>false
def uh {vs:List V}{us:List bm} (r:Vals vs us):∀j,Vals (vs.eraseIdx j) (us.eraseIdx j):=by
 induction r with
 | nil=>intro j;exact .nil
 | cons h r ih=>
  intro j;cases j with
  | zero=>exact r
  | succ j=>exact .cons h (ih j)
def GP:LY X "list.remove" MC:=by
 intro Z s σ H x vs v us Q I rx rv h;obtain⟨l,ns,k,rfl,rfl,hH,hk,q⟩:=h;cases rx;obtain⟨u,rfl,ru⟩:=rv.one;obtain⟨t,rfl⟩:=ru;obtain⟨z,ay,n,r,hl,e⟩:=I.pe hH;have hi:=intsAre_of r;have Á:ns.length=ay.length:=by rw [Ah] at hl;omega
 have hj:=BG hk;have hej:ns.erase k=ns.eraseIdx (ns.idxOf k):=by rw [List.erase_eq_eraseIdx_of_idxOf rfl]
 refine xz F.slot_list_remove ⟨_,e,rfl⟩ F.entry_list_remove (F.args_list_remove_2 _ _) (MeetsSeq.list_remove l ay.toArray n (.int k t) (isK k) (λy hy=>?_) (ns.idxOf k) (by rw [Aj];omega) ?_ (λm hm mi=>?_) (by rw [Aj];omega)) ⟨e,?_⟩
 ·have V3:y∈ay:=by simpa using hy
  obtain⟨i,ZT⟩:=CH V3;obtain⟨h1,h2⟩:=Al.mp ZT;obtain⟨n',t',g1,g2⟩:=ints_get hi i h1;rw [<- h2,g2];exact MeetsSeq.EqGives.int _ _ _ _
 ·have h1:ns.idxOf k < ay.length:=by omega
  obtain⟨n',t',g1,g2⟩:=ints_get hi (ns.idxOf k) h1;have g3:ns[ns.idxOf k]?=ap k:=by rw [Ad hj,List.getElem_idxOf hj]
  rw [g3] at g1;cases g1;rw [DA,g2];simp [isK]
 ·have h1:m < ay.length:=by rw [Aj] at hm;exact hm
  obtain⟨n',t',g1,g2⟩:=ints_get hi m h1;rw [DA,g2];have:n'≠k:=λz=>by
   subst z;have:=NR g1;omega
  simp [isK,this]
 ·refine⟨.aX,_,I.GZ (its':=ay.eraseIdx (ns.idxOf k)) (ys:=(ns.erase k).map V.int) hH e (by simp [Array.toList_eraseIdxIfInBounds,<- Ez]) ?_ ?_,rfl,q.at⟩
  ·rw [hej,vv];exact uh r _
  ·rw [hej,Ah,List.length_eraseIdx]
   split <;> omega
theorem nZ {ι:List dL}{H:Hp}:∀{ns:List Int}{vs:List V},aN K ι H vs (ns.map PV.int)->vs=ns.map V.int
 | [],_,h=>by cases h;rfl
 | b::bs,_,h=>by
  cases h with
  | cons x t=>cases x;rw [nZ t];rfl
theorem n6 (ι:List dL) (H:Hp):∀ns:List Int,aN K ι H (ns.map V.int) (ns.map PV.int)
 | []=>.nil
 | n::ns=>.cons (.int n) (n6 ι H ns)
def UN (K:Ab):List V->Hp->VK->Prop:=λxs H Q=>∃(p:dL) (ns:List Int),xs=[.ref p]/\dq K H p (ns.map V.int)/\ns.length < 64/\∀ms:List Int,ms.Perm ns->ms.Pairwise (·<=·)->kL H (.lst (ms.map V.int)) Q
def HU (K:Ab) (hK:X.K=K):bZ X (.builtin "sorted") (UN K):=by
 subst hK;intro Z s σ H xs us Q I r h;obtain⟨p,ns,rfl,hq,Z2,q⟩:=h;obtain⟨u,rfl,rx⟩:=vals1 r;cases rx;obtain⟨ay,r',pl,hz⟩:=I.list hq;have hi:=intsAre_of r';have hl:=r'.length;rw [Ah] at hl hz;refine PyProof.Rows.sorted_ints pl.isList hi ∅ λout ms a1 a2 a3=>?_;obtain⟨e,he⟩:=sortedAll_at s.heap ay out;refine⟨.ref (s.heap.objs.size+1),_,I.laid (t':=s.toks) (λ_ _=>sortedAll_old) (E8 _) (show bB X.prog X.w _ _ _ (.lst (ms.map V.int)) from⟨?_,out.toList,e,oT a1,?_⟩),rfl,(q ms a2 a3).at _ (I.bN.fresh (E8 _))⟩
 ·rw [Ah,a2.length_eq];exact hz
 ·rw [Array.toArray_toList];exact he
end
end
end PL
namespace L2
open PySem PySem.Spec PyProof.Rows
def m5 {prog:f8}{w:lc}{A:kw}{E:bm->ce->Prop}{s:ce}{a:dL}{o:Obj}{xs:Array bm}{k:Nat}{name:Str}{Q:Option bm->ce->Prop}
  (hx:s.heap.get? a=ap o) (hc:o.cls=.type "list") (n9:o.data=.seq xs k) (hd:o.dict=bv) (ZM:Ge (.type "list") name=pure bv) (ZL:(["__module__","__name__","__qualname__","__doc__","__annotations__"]:List Str).contains name=false) (hA:A.handled=bv)
  (h:∀h' tk e,Heap.NewExcOf s.heap h' e "AttributeError"->Q bv {s with heap:=h',toks:=tk}) (hsz:name.length+100<=sizeLine:=by size_fits) :
  d4 (d5 prog w) A (getAttr? (.ref a) name) Q E s:=by
 obtain⟨c,dct,dat,sl⟩:=o;simp only at hc n9 hd;subst hc n9 hd;obtain⟨hp,g,d,tk,os⟩:=s;have hT:∀ä,(⟨hp,g,d,ä,os⟩:ce).TypeIs (.ref a) "list":=λ_=>⟨_,hx,rfl⟩;have f1:=sub_AttributeError;have f3:=CS.lookup;have f4:=CS.bind (.ref a);have f5:=am_list_getattr_none
 repeat (any_goals (first | assumption | exact hT _ | ((with_reducible show d4 _ _ (call (Value.builtin "list.__getattribute__") _ _) _ _ _);refine xz CS (hT _) am_entry_list_getattribute (F.args_list_getattribute_2 _ _) (meets_getattribute_miss_list a xs k sl name _ ZM ZL hsz) ⟨hx,hA,λh' ä e vm=>?_⟩) | wp_step))
 obtain⟨t',u',he⟩:=vm.there;unfold getattributeRaised
 repeat (any_goals (first | assumption | wp_step))
 exact h _ _ _ vm.of
def iT:entryFor table "dict.update.loop"=ap Db.«dict.update.loop»:=entryFor_of_fast (by kernel_rfl)
def iJ:plainId "dict.update.loop"=true:=by decide +kernel
section
variable {prog:f8}{w:lc}{K:Type} [DecidableEq K] {knd:KeyKind prog w K}{A:kw}{R:Result->ce->Prop}
def yw (knd:KeyKind prog w K) (h:lw) (it d:dL) (v:bm) (x:List K×dL×bm):Prop:=
 ∃pa o n,v=.ref pa/\pa≠it/\pa≠d/\x.2.1≠it/\x.2.1≠d/\h.get? pa=ap o/\o.cls=.type "tuple"/\o.data=.seq #[.ref x.2.1,x.2.2] n/\(pr knd).is h x.1 x.2.1
def vY {h h':lw}{k:List K}{b:dL} (x:(pr knd).is h k b) (kp:∀o,h.get? b=ap o->h'.get? b=ap o):(pr knd).is h' k b:=by
 obtain⟨o,ay,n,h1,h2⟩:=x;exact⟨o,ay,n,kp _ h1,h2⟩
def yw.keep {h h':lw}{it d:dL}{v:bm}{x:List K×dL×bm} (p:yw knd h it d v x) (kp:∀b o,b≠it->b≠d->h.get? b=ap o->h'.get? b=ap o):yw knd h' it d v x:=by
 obtain⟨pa,o,n,e,n1,n2,n3,n4,h1,h2,h3,h4⟩:=p;exact⟨pa,o,n,e,n1,n2,n3,n4,kp _ _ n1 n2 h1,h2,h3,vY h4 λo q=>kp _ _ n3 n4 q⟩
def xY {h h':lw}{it d:dL}{xs:List (List K×dL×bm)} (m:h.DictOfH (pr knd) d xs) (hd:d≠it) (hx:∀x∈xs,x.2.1≠it) (kp:∀b o,b≠it->h.get? b=ap o->h'.get? b=ap o):h'.DictOfH (pr knd) d xs:=by
 obtain⟨o,es,ep,ho,hc,Ģ,he,his,hn⟩:=m;exact⟨o,es,ep,kp _ _ hd ho,hc,Ģ,he,λx q=>vY (his x q) λo z=>kp _ _ (hx x q) z,hn⟩
def yK {xs:List (List K×dL×bm)}{k:List K}{b:dL}{v:bm}{it:dL} (hx:∀x∈xs,x.2.1≠it) (hb:b≠it):∀x∈FS xs k b v,x.2.1≠it:=by
 intro x q;unfold FS at q
 split at q
 ·obtain⟨y,hy,rfl⟩:=Ay.mp q;have e:(putAt k v y).2.1=y.2.1:=by unfold putAt;split <;> rfl
  rw [e];exact hx y hy
 ·rcases A5.mp q with q | q
  ·exact hx x q
  ·rw [Bh.mp q];exact hb
def yL {xs:List (List K×dL×bm)}{k:List K}{b:dL}{v:bm}:(FS xs k b v).length<=xs.length+1:=by
 unfold FS
 split <;> simp
def yF (hA:A.handled=bv) (hu:A.units+1 < sn) {d it l:dL}{items:Array bm} (hz:items.size+items.size<=sizeLine) (ġ:d≠it) (hli:l≠it) (hld:l≠d) :
  ∀(k i:Nat) (ys xs:List (List K×dL×bm)) (s:ce),items.size-i=k->i<=items.size->ys.length=items.size-i->xs.length<=i->s.heap.IsListIter it l i->s.heap.IsList l items->s.heap.DictOfH (pr knd) d xs->(∀x∈xs,x.2.1≠it)->
   (∀j x,ys[j]?=ap x->∃v,items[i+j]?=ap v/\yw knd s.heap it d v x)->
   (∀h' tk,h'.DictOfH (pr knd) d (ys.foldl (λa y=>FS a y.1 y.2.1 y.2.2) xs)->(∀b o,b≠it->b≠d->s.heap.get? b=ap o->h'.get? b=ap o)->R (.ok (.ret .none)) {s with heap:=h',toks:=tk})->
   GE (d5 prog w) A (.builtin "dict.update.loop" ⟨[.ref d,.ref it,wv i,.none],[]⟩) R s:=by
 intro k
 induction k with
 | zero=>
  intro i ys xs s hk hi hy hxl Ö hl hd hx hp q;have e0:ys=[]:=Cr ∅;subst e0;refine codeAny_builtin iT ?_;refine Aa (wpAny_pyNext_list_end (A:=A.in1) hA Ö hl (by rw [EL];omega) λh' ex=>?_);have kp:=ex;exact Aa (Af (Af (q h' s.toks (xY hd ġ hx kp) λb o n1 _ e=>kp b o n1 e)))
 | succ k ih=>
  intro i ys xs s hk hi hy hxl Ö hl hd hx hp q
  match ys,hy,hp,q with
  | [],hy,_,_=>exact absurd hy (by simp only [AU];omega)
  | y::ys,hy,hp,q=>
  obtain⟨v,hv,pa⟩:=hp 0 y rfl;refine codeAny_builtin iT ?_;refine Aa (wpAny_pyNext_list_item Ö hl (by simpa using hv) λh1 ady sb=>?_);have Rl:∀b o,b≠it->s.heap.get? b=ap o->h1.get? b=ap o:=λb o hb e=>(sb.2 b hb).trans e;have pa1:=pa.keep λb o n1 _ e=>Rl b o n1 e;have ZY:=xY hd ġ hx Rl;have Ĝ:h1.IsList l items:=let ⟨o,e,p⟩:=hl;⟨o,Rl _ _ hli e,p⟩;obtain⟨p,o,n,rfl,n1,n2,n3,n4,g1,g2,g3,g4⟩:=pa1;refine Aa (A9 (Aa (wpAny_tryCatch ?_)));refine Aa (B8 (T:="tuple") ⟨_,g1,g2⟩ ?_);refine Aa (BC g1 g3 (Af ?_));refine A9 (wpAny_dictSet_heap (knd:=pr knd) (FM hu) g4 ZY (λh2 Ð sb2=>?_) ∅);have ĉ:∀b o,b≠d->h1.get? b=ap o->h2.get? b=ap o:=λb o hb e=>(sb2.2 b hb).trans e;refine Af ⟨plainId_quiet iJ _,?_⟩;have kp:∀b o,b≠it->b≠d->s.heap.get? b=ap o->h2.get? b=ap o:=λb o a1 a2 e=>ĉ _ _ a2 (Rl _ _ a1 e);refine ih (i+1) ys (FS xs y.1 y.2.1 y.2.2) _ ∅ ∅ (by rw [An] at hy;omega) (Bp yL ∅) ?_ ?_ Ð (yK hx n3) (λj x hj=>?_) (λh' tk dd k3=>?_)
  ·obtain⟨o',e1,e2⟩:=ady;exact⟨o',ĉ _ _ (BA ġ) e1,e2⟩
  ·obtain⟨o',e1,e2⟩:=Ĝ;exact⟨o',ĉ _ _ hld e1,e2⟩
  ·obtain⟨v',h3,h4⟩:=hp (j+1) x hj;exact⟨v',by rw [show i+1+j=i+(j+1) by omega];exact h3,h4.keep kp⟩
  ·exact q h' tk dd λb o a1 a2 e=>k3 b o a1 a2 (kp b o a1 a2 e)
end
def xc:Ge (.type "list") (B6 "keys")=pure bv:=am_miss_of_fast (by decide +kernel)
section
variable {prog:f8}{w:lc}{K:Type} [DecidableEq K] {knd:KeyKind prog w K}{A:kw}{E:bm->ce->Prop}{s:ce}
def qz {l:dL}{o:Obj}{items:Array bm}{n:Nat}{ys:List (List K×dL×bm)}{Q:bm->ce->Prop} (hA:A.handled=bv) (hu:A.units+2 < sn) (ho:s.heap.get? l=ap o) (hc:o.cls=.type "list") (n9:o.data=.seq items n) (hd:o.dict=bv)
  (hz:items.size+items.size<=sizeLine) (hy:ys.length=items.size)
  (hp:∀(j:Nat) (x:List K×dL×bm),ys[j]?=ap x->∃(pa:dL) (op:Obj) (m:Nat),items[j]?=ap (AB pa)/\s.heap.get? pa=ap op/\op.cls=.type "tuple"/\op.data=.seq #[AB x.2.1,x.2.2] m/\(pr knd).is s.heap x.1 x.2.1)
  (q:∀h' tk,(∀b o,s.heap.get? b=ap o->h'.get? b=ap o)->h'.DictOfH (pr knd) s.heap.objs.size (ys.foldl (λa y=>FS a y.1 y.2.1 y.2.2) [])->Q (.ref s.heap.objs.size) {s with heap:=h',toks:=tk}) :
  d4 (d5 prog w) A (call (.type "dict") [.ref l]) Q E s:=by
 refine callType_codes (Q₁:=λobj s₁=>obj=.ref s.heap.objs.size/\s₁={s with heap:=s.heap.push {cls:=.type "dict",data:=.dict #[]}}) F.kt_called_dict (F.kt_typeCall_dict_1 _) F.entry_dict_init (kt_code_dict_new _ ⟨rfl,rfl⟩) ?_;rintro obj s₁ ⟨rfl,rfl⟩;have ë:∀b o,s.heap.get? b=ap o->(s.heap.push {cls:=.type "dict",data:=.dict #[]}).get? b=ap o:=λb o e=>Ai _ e;have RI:(s.heap.push {cls:=.type "dict",data:=.dict #[]}).DictOf knd s.heap.objs.size []:=Heap.DictOf.new s.heap;have ZK:(s.heap.push {cls:=.type "dict",data:=.dict #[]}).DictOfH (pr knd) s.heap.objs.size []:=⟨_,#[],0,Aq _ rfl,⟨rfl,rfl,rfl⟩,rfl,rfl,λx hx=>absurd hx (Bq),Fb⟩;have ls:∀b o,s.heap.get? b=ap o->b≠s.heap.objs.size:=λb o e z=>by subst z;exact Ba _ (Ar e)
 refine⟨RI.typeIs,F.args_dict_init_2 _ _,?_⟩;refine Aa ?_;refine Aa (wpAny_notOrdered_dict RI.typeIs ?_);refine Af ?_;refine Aa (B8 (T:="list") ⟨_,ë _ _ ho,hc⟩ ?_);refine Aa (m5 (ë _ _ ho) hc n9 hd xc (by decide +kernel) hA (λh1 tk e nx=>?_) (by decide));refine Aa (CF (Aa ?_));refine Cz (items:=items) ⟨_,nx.keeps _ _ (ë _ _ ho),hc,n,n9⟩ ?_;have hsz:=Ar (nx.keeps _ _ (Aq s.heap rfl));have Rl:∀b o,s.heap.get? b=ap o->(h1.push {cls:=.type "list_iterator",data:=.fields #[.ref l,.int 0 0]}).get? b=ap o:=λb o e=>Ai _ (nx.keeps _ _ (ë _ _ e));have ni:∀b o,s.heap.get? b=ap o->b≠h1.objs.size:=λb o e z=>by
  have h3:=Ar e;subst z;exact Ba _ (Nat.lt_trans h3 hsz)
 refine Af ⟨plainId_quiet iJ _,?_⟩;refine yF (A:=A.in1) (knd:=knd) hA (by show A.units+1+1 < _;omega) (items:=items) (d:=s.heap.objs.size) (it:=h1.objs.size) (l:=l) hz (AE hsz) (ni _ _ ho) (ls _ _ ho) items.size 0 ys [] _ (EE _) (Bj _) (by rw [hy];rfl) (Ao _)
  ⟨_,Aq _ rfl,rfl,rfl⟩ ⟨_,Rl _ _ ho,hc,n,n9⟩ ?_ (λx hx=>nomatch hx) (λj x hj=>?_) (λh' ä dd kp=>?_)
 ·refine xY (it:=h1.objs.size) ZK (AE hsz) (λx hx=>nomatch hx) λb o _ e=>Ai _ (nx.keeps _ _ e)
 ·obtain⟨pa,op,m,e1,e2,e3,e4,e5⟩:=hp j x hj;have kb:∃ob,s.heap.get? x.2.1=ap ob:=let ⟨ob,_,_,z,_⟩:=e5;⟨ob,z⟩;obtain⟨ob,eb⟩:=kb;exact⟨.ref pa,by rw [AR];exact e1,pa,op,m,rfl,ni _ _ e2,ls _ _ e2,ni _ _ eb,ls _ _ eb,Rl _ _ e2,e3,e4,vY e5 λo z=>Rl _ _ z⟩
 ·exact⟨rfl,q h' ä (λb o e=>kp b o (ni _ _ e) (ls _ _ e) (Rl _ _ e)) dd⟩
end
structure Pz where
 pa:dL
 k:List Key
 b:dL
 v:V
def Pz.At (H:Hp) (z:Pz):Prop:=H z.pa=ap (.tup [.ref z.b,z.v])/\H z.b=ap (.tup (z.k.map kV))
def UT (K:Ab):List V->Hp->VK->Prop:=λxs H Q=>∃(p:dL) (zs:List Pz),xs=[.ref p]/\dq K H p (zs.map λz=>.ref z.pa)/\(∀z∈zs,z.At H)/\(zs.map (·.k)).Nodup/\zs.length<=1000/\kL H (.dT (zs.map λz=>(z.k,z.v))) Q
theorem pS {K:Type} [DecidableEq K]:∀(ys xs:List (K×dL×bm)),((xs++ys).map (·.1)).Nodup->ys.foldl (λa y=>FS a y.1 y.2.1 y.2.2) xs=xs++ys
 | [],xs,_=>by simp
 | y::ys,xs,h=>by
  have hn:atKey xs y.1=bv:=by
   cases e:atKey xs y.1 with
   | none=>rfl
   | some p=>
    exfalso;rw [A6,Au] at h;have h2:=(CB.mp h).2.2;have hm:y.1∈xs.map (·.1):=by
     by_cases hc:y.1∈xs.map (·.1)
     ·exact hc
     ·rw [atKey_none_of_get (λj q hj=>?_)] at e
      ·cases e
      ·exact hc (Ay.mpr ⟨_,Bo hj,rfl⟩)
    exact h2 _ hm _ Bv rfl
  rw [List.foldl_cons,storedH_new hn,pS ys (xs++[(y.1,y.2.1,y.2.2)]) (by simpa using h)];simp
section
variable {X:Cx}
def HY (K:Ab) (hK:X.K=K) (hc:X.calm=true) (hu:X.A.units+2 < sn):bZ X (.type "dict") (UT K):=by
 subst hK;intro Z s σ H xs us Q I r h;obtain⟨p,zs,rfl,hq,hz,hn,hl,q⟩:=h;obtain⟨u,rfl,rx⟩:=vals1 r;cases rx;obtain⟨ay,rv,pl,hsz⟩:=I.list hq;obtain⟨o,n,ho,Pw,hd,n9⟩:=pl;have ã:∀(zs:List Pz) (ay:List bm),(∀z∈zs,z.At H)->Vals (zs.map λz=>V.ref z.pa) ay->∃ys:List (List Key×dL×bm),ys.map (·.1)=zs.map (·.k)/\KT H (zs.map λz=>(z.k,z.v)) ys/\
   ∀(j:Nat) (x:List Key×dL×bm),ys[j]?=ap x->∃(pa:dL) (op:Obj) (m:Nat),ay[j]?=ap (AB pa)/\s.heap.get? pa=ap op/\op.cls=.type "tuple"/\op.data=.seq #[AB x.2.1,x.2.2] m/\(pr (cu X.prog X.w)).is s.heap x.1 x.2.1:=by
  intro zs
  induction zs with
  | nil=>intro ay _ _;exact⟨[],rfl,.nil,λj x h=>by simp at h⟩
  | cons z zs ih=>
   intro ay ha hv;cases hv with
   | @cons _ u _ us ru rus=>
   cases ru;obtain⟨ys,e1,e2,e3⟩:=ih us (λy hy=>ha y (AX _ hy)) rus;obtain⟨a1,a2⟩:=ha z Bv;obtain⟨_,its',r',op,h1,h2,m,h3⟩:=(show bB X.prog X.w H s.heap z.pa (.tup [.ref z.b,z.v]) from I.bN _ _ a1);obtain⟨w,rfl,iB⟩:∃w,its'=[AB z.b,w]/\RelV z.v w:=by
    cases r' with
    | cons q1 q2=>cases q1;cases q2 with
     | cons q3 q4=>cases q4;exact⟨_,rfl,q3⟩
   refine⟨(z.k,z.b,w)::ys,by rw [Au,Au,e1],.cons ⟨rfl,a2,iB⟩ e2,λj x hj=>?_⟩;cases j with
   | zero=>
    cases hj;exact⟨z.pa,op,m,rfl,h1,h2,h3,sD I.bN a2⟩
   | succ j=>exact e3 j x hj
 obtain⟨ys,e1,e2,e3⟩:=ã zs ay hz rv;have Á:=rv.length;rw [Ah] at Á;have í:ys.length=zs.length:=by have:=congrArg BV e1;simpa using this
 have hs:(1000:Nat)+1000<=sizeLine:=by decide
 refine qz (knd:=cu X.prog X.w) (items:=ay.toArray) (ys:=ys) (I.ok.hd hc) hu ho Pw n9 hd (by rw [Aj];omega) (by rw [Aj];omega) (λj x hj=>?_) (λh' tk kp dd=>?_)
 ·obtain⟨pa,op,m,g1,g2⟩:=e3 j x hj;exact⟨pa,op,m,by rw [E2];exact g1,g2⟩
 ·rw [pS ys [] (by rw [EW,e1];exact hn),EW] at dd;obtain⟨od,es,ep,ñ,h2,h3,h4,_,h5⟩:=dd;have adJ:=beq_eq_false_iff_ne.mpr (BA (AE I.big));have fr:=I.bN.fresh (Ao s.heap.objs.size);refine⟨.ref s.heap.objs.size,_,I.laid (t':=tk) kp (Ao _) (show bB X.prog X.w (upd H s.heap.objs.size (.dT (zs.map λz=>(z.k,z.v)))) h' _ (.dT _) from⟨?_,adJ,ys,?_,od,es,ep,ñ,h2,h3,h4,h5⟩),rfl,q.at _ fr⟩
  ·rw [Ah];exact Bp hl (by decide)
  ·refine e2.keeps λc xs ec=>?_;rw [aF (λz=>by subst z;rw [fr] at ec;cases ec)];exact ec
end
section
variable {prog:f8}{w:lc}{A:kw}{E:bm->ce->Prop}{s:ce}
def SI (h:lw) (d:dL) (es:Array Gc) (ep:Nat):Prop:=∃o,h.get? d=ap o/\o.ExactDict/\o.data=.dict es ep
def Nl {it d:dL}{i ep:Nat}{es:Array Gc}{Q:Option bm->ce->Prop} (Ö:s.heap.IsKeyIter it d i es.size ep) (hm:SI s.heap d es ep) (hi:i < es.size)
  (q:∀h',h'.IsKeyIter it d (i+1) es.size ep->B7 it s.heap h'->Q (ap es[i].key) {s with heap:=h'}):d4 (d5 prog w) A (pyNext (.ref it)) Q E s:=by
 have ty:=Ö.typeIs;obtain⟨o,ho,hc,hd⟩:=id Ö;obtain⟨od,RH,-,Pt⟩:=hm;have ZR:(s.heap.update it (Obj.mapFields (·.setIfInBounds 1 (wv ((i:Int)+1))))).IsKeyIter it d (i+1) es.size ep:=⟨_,Cu _ ho (EZ (CW hd _)),(Obj.cls_mapFields ..).trans hc,by rw [CW hd];simp [wv]⟩;refine Aa (CT (AW (name:=B6 "__next__") ty BD (Bc BD ty Du ?_ (Dl _))));refine Aa (Af (Aa (Aa ?_)))
 first | refine Aa (BS ty (Af ?_)) | refine Aa (Cm ty (Af ?_))
 refine Aa (wpAny_fieldsOf ho hd ?_);show d4 _ _ (if (AB d==AY)=true then _ else _) _ _ s;rw [if_neg (λz:(AB d==AY)=true=>AV z)];refine Aa (Af (Aa (Ef RH Pt ?_)));rw [if_neg (by simp)];refine Aa (Af (Aa (ES RH Pt ?_)));rw [if_neg (by simp)];refine Af ?_;have i0:¬((i:Int) < 0):=by omega
 simp only [i0,if_false,A3,CM hi];refine Aa ?_
 first | refine Aa (BS ty (Af ?_)) | refine Aa (Cm ty (Af ?_))
 refine Aa (wpAny_isOneOf_keyiter ty ?_);show d4 _ _ (zn (.ref it) 1 (wv ((i:Int)+1)) >>= _) _ _ s;refine Aa (D5 ho hd (by simp) (Aa (A9 (Aa (wpAny_isOneOf_keyiter (s:={s with heap:=s.heap.update it (Obj.mapFields (·.setIfInBounds 1 (wv ((i:Int)+1))))}) ZR.typeIs ?_)))));exact Af (Af ⟨_,rfl,Af (q _ ZR (B7.update ..))⟩)
def R9 {it d:dL}{i ep:Nat}{es:Array Gc}{Q:Option bm->ce->Prop} (hh:A.handled=bv) (Ö:s.heap.IsKeyIter it d i es.size ep) (hm:SI s.heap d es ep) (hi:es.size<=i)
  (q:∀h',FH it s.heap h'->Q bv {s with heap:=h'}):d4 (d5 prog w) A (pyNext (.ref it)) Q E s:=by
 have ty:=Ö.typeIs;obtain⟨o,ho,hc,hd⟩:=id Ö;obtain⟨od,RH,-,Pt⟩:=hm;refine Aa (CT (AW (name:=B6 "__next__") ty BD (Bc BD ty Du ?_ (Dl _))));refine Aa (Af (Aa (Aa ?_)))
 first | refine Aa (BS ty (Af ?_)) | refine Aa (Cm ty (Af ?_))
 refine Aa (wpAny_fieldsOf ho hd ?_);show d4 _ _ (if (AB d==AY)=true then _ else _) _ _ s;rw [if_neg (λz:(AB d==AY)=true=>AV z)];refine Aa (Af (Aa (Ef RH Pt ?_)));rw [if_neg (by simp)];refine Aa (Af (Aa (ES RH Pt ?_)));rw [if_neg (by simp)];refine Af ?_;have i0:¬((i:Int) < 0):=by omega
 simp only [i0,if_false,A3,EL hi];refine Aa ?_
 first | refine Aa (BS ty (Af ?_)) | refine Aa (Cm ty (Af ?_))
 show d4 _ _ (zn (.ref it) 0 .none >>= _) _ _ s;refine Aa (D5 ho hd (by simp) ?_);refine Aa ?_;refine Aa (A2 (Aa (m:=firstArgMember _ _) (Cq (a:=AY) (by first | rfl | (simp only [firstArgMember];rfl)) (A2 ?_ (by size_fits)))) (by size_fits));unfold raiseNew;refine Aa (wpAny_handled ?_);rw [show A.in1.handled=bv from hh];refine Aa (Af (wpAny_throw ?_));refine Aa (Dn (T:="StopIteration") (b:=true) ⟨_,Aq _ rfl,rfl⟩ isSubtype_stop ?_);exact Af (q _ (((B7.update ..).extBut.push _).push _))
def NN {d:dL}{es:Array Gc}{ep:Nat}{Q:bm->ce->Prop} (hs:(d==u8)=false) (hm:SI s.heap d es ep)
  (q:Q (.ref s.heap.objs.size) {s with heap:=s.heap.push {cls:=.type "dict_keyiterator",data:=.fields #[.ref d,.int 0 0,.int es.size 0,.int ep 0]}}):d4 (d5 prog w) A (pyIter (.ref d)) Q E s:=by
 obtain⟨od,RH,hx,Pt⟩:=hm;have ty:s.TypeIs (.ref d) "dict":=⟨_,RH,hx.1⟩;refine wpAny_pyIter_slot ty F.slot_dict_iter (Bc F.slot_dict_iter ty F.entry_dict_iter ?_ (F.args_dict_iter_1 _));refine Aa ?_;refine Aa (wpAny_notOrdered_dict ty ?_);refine Af ?_;show d4 _ _ (Builtin.Dict.showsAll d >>= _) _ _ s;unfold Builtin.Dict.showsAll;rw [if_neg (by rw [hs];exact AV)];refine Aa (Af (Aa (Ef RH Pt (Aa (ES RH Pt ?_)))));exact Aa (A2 (Af ⟨_,rfl,"dict_keyiterator",_,⟨_,Aq _ rfl,rfl⟩,BD.lookup,q⟩))
end
section
variable {X:Cx}{Z:List (dL×Obj)}{σ:St}{H:Hp}{s:ce}{a:dL}{kvs:List (List Key×V)}
def Inv.freeze (I:Inv X Z σ H s) (e:H a=ap (.dT kvs)):∃o,Inv X Z σ (upd H a (.cU o (.dT kvs))) s:=by
 obtain⟨z,hs,xs,r,o,es,ep,h1,h2,h3,h4,h5⟩:=(show bB X.prog X.w H s.heap a (.dT kvs) from I.bN a _ e);refine⟨o,?_⟩;have q:=I.write (x:=a) (e:=a) (o:=.cU o (.dT kvs)) (h':=s.heap) (t':=s.toks) (by rw [e];exact Cd) (.inl rfl) (λb u _ z=>z) ⟨o,h1⟩
  ⟨h1,z,hs,xs,KT.keeps r λb ys eb=>by rw [aF (Jh eb e (λz=>nomatch z))];exact eb,o,es,ep,h1,h2,h3,h4,h5⟩
 exact q
def Inv.X5 {o:Obj}{u:HO} (I:Inv X Z σ H s) (e:H a=ap (.cU o u)) (h0:∀o u,X.H₀ a≠ap (.cU o u)) (hu:bB X.prog X.w (upd H a u) s.heap a u) (bN:mq X.prog X.w (upd H a u) s.heap):Inv X Z σ (upd H a u) s:=by
 have ne:∀b v,H b=v->v≠ap (.cU o u)->b≠a:=λb v q n z=>by subst z;exact n (q.symm.trans e)
 refine⟨I.ok,I.os,I.bare,⟨I.base.keep,I.base.slot,λb ob q n hx=>?_,I.base.there,λb xs q=>?_,λb ob xs q=>?_,λb ps q=>?_⟩,I.loc,I.cell,?_,λx c q=>?_,λp hp=>?_,bN,I.len⟩
 ·have:=I.base.free b ob q n hx;rw [aF (ne b _ this (by simp))];exact this
 ·have:=I.base.eM b xs q;rw [aF (ne b _ this (by simp))];exact this
 ·have:=I.base.qt b ob xs q;have hb:b≠a:=λz=>by subst z;exact h0 _ _ q
  rw [aF hb];exact this
 ·obtain⟨m,this⟩:=I.base.v8 b ps q;exact⟨m,by rw [aF (ne b _ this (by simp))];exact this⟩
 ·rw [aF (ne _ _ I.free (by simp))];exact I.free
 ·rw [aF (ne _ _ (I.kG x c q) (by simp))];exact I.kG x c q
 ·obtain⟨p1,p2,p3⟩:=I.pin p hp;exact⟨p1,by rw [aF (ne _ _ p2 (by simp))];exact p2,p3⟩
end
def aaK (a:dL) (o:Obj):It:=
 ⟨λi H=>∃kvs,H a=ap (.cU o (.dT kvs))/\i < kvs.length,λi H x H'=>H'=H/\∀kvs,H a=ap (.cU o (.dT kvs))->∃b k v,x=.ref b/\kvs[i]?=ap (k,v)/\H b=ap (.tup (k.map kV)),λi H=>∃kvs,H a=ap (.cU o (.dT kvs))/\kvs.length<=i⟩
def Ob {P:f8}{w:lc}{H:Hp}{h:lw}{a:dL}{o:Obj}{kvs:List (List Key×V)}{es:Array Gc}{ep:Nat} (x:bB P w H h a (.cU o (.dT kvs))) (hd:o.data=.dict es ep) :
  SI h a es ep/\es.size=kvs.length/\∀(i:Nat) (hi:i < es.size),∃b k v,es[i].key=.ref b/\kvs[i]?=ap (k,v)/\H b=ap (.tup (k.map kV)):=by
 obtain⟨e,z,hs,xs,r,o',ú,û,h1,h2,h3,h4,h5⟩:=x;rw [e] at h1;cases h1;rw [hd] at h3;cases h3;have hl:es.size=xs.length:=by have:=congrArg BV h4;simpa using this
 refine⟨⟨o,e,h2,hd⟩,hl.trans (Paired.length r).symm,λi hi=>?_⟩;have hx:xs[i]?=ap (xs[i]'∅):=Ad _;have pg:∀{l:List (List Key×V)}{m:List (List Key×dL×bm)}{i:Nat}{q:List Key×dL×bm},KT H l m->m[i]?=ap q->∃v,l[i]?=ap (q.1,v)/\H q.2.1=ap (.tup (q.1.map kV)):=by
  intro l m i q t
  induction t generalizing i with
  | nil=>intro h;simp at h
  | @cons p q' ps qs hq t ih=>
   intro h;cases i with
   | zero=>
    cases h;obtain⟨p1,p2⟩:=p;have e1:=hq.1;subst e1;exact⟨p2,rfl,hq.2.1⟩
   | succ i=>exact ih (by simpa using h)
 obtain⟨v,g1,g2⟩:=pg r hx;refine⟨_,_,v,?_,g1,g2⟩;have:es[i]=entryOfKey (pr (cu P w)) (xs[i]'∅):=by
  have h6:es.toList[i]?=ap (entryOfKey (pr (cu P w)) (xs[i]'∅)):=by rw [h4,Ak,hx];rfl
  rw [E3,CM hi] at h6;exact Option.some.inj h6
 rw [this];rfl
def J4 {P:f8}{w:lc}{K:Ab}{tg:ga} (a it:dL) (o:Obj) {es:Array Gc}{ep:Nat} (hd:o.data=.dict es ep):Turn P w K tg (aaK a o) [it] it (λi h=>h.IsKeyIter it a i es.size ep) where
 mem:=by simp
 obj:=λi h st b hb=>by
  have e:b=it:=by simpa using hb
  subst e;obtain⟨o,e,c,d⟩:=st;exact⟨o,e,λv z=>by rw [d] at z;cases z⟩
 keep:=λi h h' st k=>st.at λo e=>k it (by simp) o e
 item:=by
  intro X hP hw hK hc i Z s σ H E I hf st hg;subst hP hw hK;obtain⟨kvs,hq,hx⟩:=hg;obtain⟨ć,hl,ky⟩:=Ob (I.bN a _ hq) hd;obtain⟨b,k,v,k1,k2,k3⟩:=ky i ∅;obtain⟨f0,f1,f2,f3,f4,f5⟩:=hf it (by simp);refine Nl st ć ∅ λh' nt sb=>?_;have I1:Inv X Z σ H {s with heap:=h'}:=I.turned (t':=s.toks) (λb o hb e=>(sb.2 b hb).trans e) f0 f1 f3 f4 f5;obtain⟨oi,e,c,d⟩:=id nt;refine⟨_,rfl,sU (s:={s with heap:=h'}) e c d (by decide) ⟨.ref b,H,I1,k1,⟨rfl,λagz ñ=>?_⟩,nt,λb hb=>(hf b hb).1⟩⟩;rw [hq] at ñ;cases ñ;exact⟨b,k,v,rfl,k2,k3⟩
 done:=by
  intro X hP hw hK hc i Z s σ H E I hf st hg;obtain⟨kvs,hq,hx⟩:=hg;obtain⟨ć,hl,ky⟩:=Ob (I.bN a _ hq) hd;obtain⟨f0,f1,f2,f3,f4,f5⟩:=hf it (by simp);exact R9 (I.ok.hd hc) st ć ∅ λh' eb=>⟨rfl,I.turned (t':=s.toks) (λb o hb e=>eb b o hb e) f0 f1 f3 f4 f5⟩
 self:=λ_ _ _ _ _ st h=>wpAny_pyIter_keyiter st h
def V2 (tl:TE):TI:=λσ H R=>tl σ H λx H1=>∃a o kvs,x=.ref a/\H1 a=ap (.cU o (.dT kvs))/\R (aaK a o) H1
def MV {X:Cx}{tg l:ga}{tl:TE} (hl:PE X l tl):PI X tg l (V2 tl):=by
 intro Z s σ H R I h;refine bH (hl Z s σ H _ I h) λv s1 ⟨x,H1,I1,r1,q1⟩=>?_;obtain⟨a,o,kvs,e,hq,q⟩:=q1;subst e;cases r1;obtain⟨eo,z,hs,xs,r,o',es,ep,h1,h2,h3,h4,h5⟩:=(show bB X.prog X.w H1 s1.heap a (.cU o (.dT kvs)) from I1.bN a _ hq);rw [eo] at h1;cases h1;refine NN hs ⟨o,eo,h2,h3⟩ ?_;refine⟨s1.heap.objs.size,[s1.heap.objs.size],_,_,H1,rfl,I1.kept (t':=s1.toks) λb o e=>Ai _ e,J4 a _ o h3,⟨_,Aq _ rfl,rfl,rfl⟩,λb hb=>?_,q⟩;have e:b=s1.heap.objs.size:=by simpa using hb
 subst e;exact I1.xE (Ao _) (I1.bN.fresh (Ao _))
end L2
namespace FL
section
open PySem PySem.Spec PyProof.Rows L2 PL
variable {K:Ab}
structure W (α:Type) where
 run:(α->Prop)->Prop
 mono:∀{Q Q':α->Prop},(∀a,Q a->Q' a)->run Q->run Q'
namespace W
variable {α β γ:Type}
def ext' {a b:W α} (h:∀Q,a.run Q↔b.run Q):a=b:=by
 cases a;cases b;congr;funext Q;exact propext (h Q)
def ret (a:α):W α:=⟨λQ=>Q a,λh q=>h _ q⟩
def bind (w:W α) (k:α->W β):W β:=⟨λQ=>w.run λa=>(k a).run Q,λh q=>w.mono (λa q=>(k a).mono h q) q⟩
def fail:W α:=⟨λ_=>False,λ_ q=>q⟩
def fF (p:Prop) (w:W α):W α:=⟨λQ=>p/\w.run Q,λh q=>⟨q.1,w.mono h q.2⟩⟩
def any (p:α->Prop):W α:=⟨λQ=>∀a,p a->Q a,λh q a pa=>h a (q a pa)⟩
def Ng:Option α->W α
 | some a=>ret a
 | none=>fail
@[simp] theorem ai (a:α) (k:α->W β):bind (ret a) k=k a:=(rfl)
@[simp] theorem bind_assoc (w:W α) (f:α->W β) (g:β->W γ):bind (bind w f) g=bind w λa=>bind (f a) g:=(rfl)
@[simp] theorem aaC (w:W α):bind w ret=w:=(rfl)
@[simp] theorem Xw (k:α->W β):bind fail k=fail:=(rfl)
@[simp] theorem aj (a:α) (Q:α->Prop):(ret a).run Q=Q a:=(rfl)
@[simp] theorem run_bind (w:W α) (k:α->W β) (Q:β->Prop):(bind w k).run Q=w.run λa=>(k a).run Q:=(rfl)
@[simp] theorem YA (Q:α->Prop):(fail:W α).run Q=False:=(rfl)
@[simp] theorem aaV (p Q:α->Prop):(any p).run Q=∀a,p a->Q a:=(rfl)
@[simp] theorem Qo (p:Prop) (w:W α) (Q:α->Prop):(fF p w).run Q=(p/\w.run Q):=(rfl)
@[simp] theorem OZ (p:Prop) (w:W α) (k:α->W β):bind (fF p w) k=fF p (bind w k):=(rfl)
def aA {p:Prop}{w:W α} (h:p):fF p w=w:=ext' λQ=>⟨λq=>q.2,λq=>⟨h,q⟩⟩
@[simp] theorem aax {w:W α}:fF True w=w:=aA trivial
@[simp] theorem ax (a:α):Ng (ap a)=ret a:=(rfl)
@[simp] theorem Y6:Ng (bv:Option α)=fail:=(rfl)
end W
inductive SL where
 | val (v:PV) | adr (b:dL) | ol (q:Option dL) (l:List PV) | qM (bs:List dL) (ls:List (List PV)) | od (kvs:List (Key×PV)) | ot (kvs:List (List Key×PV)) | kK (φ:List V->Prop)
abbrev bh:=List (Option SL)
def SL.own:SL->Bool
 | .val _=>false
 | .adr _=>false
 | _=>true
def SL.inn:SL->List dL
 | .qM bs _=>bs
 | _=>[]
def SL.has (s:SL) (x a:dL):Prop:=a=x\/a∈s.inn
def iV (K:Ab) (H:Hp) (a:dL):SL->Prop
 | .val _=>False
 | .adr b=>a=b
 | .qM bs ls=>H a=ap (.lst (bs.map V.ref))/\a∉bs/\bs.Nodup/\bs.length=ls.length/\∀(j:Nat) (b:dL) (l:List PV),bs[j]?=ap b->ls[j]?=ap l->∃ws,H b=ap (.lst ws)/\aN K [] H ws l
 | .ol q l=>(∀b,q=ap b->a=b)/\∃vs,H a=ap (.lst vs)/\aN K [] H vs l
 | .od kvs=>∃vs:List (Key×V),H a=ap (.dK vs)/\vs.map (·.1)=kvs.map (·.1)/\aN K [] H (vs.map (·.2)) (kvs.map (·.2))
 | .ot kvs=>∃vs:List (List Key×V),H a=ap (.dT vs)/\vs.map (·.1)=kvs.map (·.1)/\aN K [] H (vs.map (·.2)) (kvs.map (·.2))
 | .kK φ=>∃vs,H a=ap (.lst vs)/\φ vs
def vO (K:Ab) (H:Hp) (u:V) (s:SL):Prop:=(∃v,s=.val v/\VR K [] H u v)\/∃a,u=.ref a/\iV K H a s
def dI (σ:L2.St) (fs:bh) (a:dL):Prop:=∃(i:Nat) (s:SL) (x:dL),fs[i]?=ap (ap s)/\s.own=true/\σ[i]?=ap (ap (.ref x))/\s.has x a
def eZ (σ:L2.St) (fs:bh) (φ:List V->Prop) (a:dL):Prop:=∃i:Nat,fs[i]?=ap (ap (.kK φ))/\σ[i]?=ap (ap (.ref a))
structure a6 (K:Ab) (H:Hp) (σ:L2.St) (fs:bh):Prop where
 len:σ.length=fs.length
 at':∀(i:Nat) (s:SL),fs[i]?=ap (ap s)->∃u,σ[i]?=ap (ap u)/\vO K H u s
 nd:∀(i j:Nat) (s t:SL) (x y a:dL),fs[i]?=ap (ap s)->fs[j]?=ap (ap t)->s.own=true->t.own=true->σ[i]?=ap (ap (.ref x))->σ[j]?=ap (ap (.ref y))->s.has x a->t.has y a->i=j
structure cP (σ:L2.St) (fs:bh) (H:Hp) (σ':L2.St) (bP:bh) (H':Hp):Prop where
 keep:∀a o,H a=ap o->¬dI σ fs a->H' a=ap o/\¬dI σ' bP a
 there:∀a,H' a=bv->H a=bv
 pk:∀a φ,eZ σ fs φ a->eZ σ' bP φ a\/(¬dI σ' bP a/\∃vs,H' a=ap (.lst vs)/\φ vs)
structure c7 (σ:L2.St) (fs:bh) (H H':Hp):Prop where
 keep:∀a o,H a=ap o->(∀φ,¬eZ σ fs φ a)->H' a=ap o
 there:∀a,H' a=bv->H a=bv
section
variable {σ σ' σ1 σ2:L2.St}{fs bP RP dU:bh}{H H' H1 H2:Hp}
def eZ.wX {φ:List V->Prop}{a:dL} (p:eZ σ fs φ a):dI σ fs a:=let ⟨i,e1,e2⟩:=p;⟨i,_,_,e1,rfl,e2,.inl rfl⟩
def c7.refl:c7 σ fs H H:=⟨λ_ _ h _=>h,λ_ h=>h⟩
def c7.trans (a:c7 σ fs H H1) (b:c7 σ fs H1 H2):c7 σ fs H H2:=⟨λx o h n=>b.keep x o (a.keep x o h n) n,λx h=>a.there x (b.there x h)⟩
def c7.f (g:c7 σ fs H H'):cP σ fs H σ fs H':=⟨λa o h n=>⟨g.keep a o h λφ p=>n p.wX,n⟩,g.there,λa φ p=>.inl p⟩
def c7.pR (g:c7 σ fs H H') {a:dL}{o:HO} (h:H a=ap o) (n:¬dI σ fs a):H' a=ap o:=g.keep a o h λφ p=>n p.wX
def c7.same (h:kO H H'):c7 σ fs H H':=⟨λa o e _=>h a o e,λa e=>(by
 cases z:H a with
 | none=>rfl
 | some o=>rw [h a o z] at e;cases e)⟩
def iV.ex {a c:dL}{s:SL} (h:iV K H a s) (ho:s.own=true) (hc:s.has a c):∃o,H c=ap o/\(∀vs,o≠.tup vs)/\∀ob u,o≠.cU ob u:=by
 cases s with
 | val _=>exact h.elim
 | adr _=>cases ho
 | ol q l=>obtain⟨_,vs,e,_⟩:=h;rcases hc with rfl | hc;exact⟨_,e,by simp,by simp⟩;cases hc
 | qM bs ls=>
  obtain⟨e,_,_,hl,hb⟩:=h;rcases hc with rfl | hc
  ·exact⟨_,e,by simp,by simp⟩
  ·obtain⟨j,hj⟩:=CH (show c∈bs from hc);have h1:=(Al.mp hj).1;obtain⟨ws,e,_⟩:=hb j c _ hj (Ad (by rw [<- hl];exact h1));exact⟨_,e,by simp,by simp⟩
 | od l=>obtain⟨vs,e,_⟩:=h;rcases hc with rfl | hc;exact⟨_,e,by simp,by simp⟩;cases hc
 | ot l=>obtain⟨vs,e,_⟩:=h;rcases hc with rfl | hc;exact⟨_,e,by simp,by simp⟩;cases hc
 | kK l=>obtain⟨vs,e,_⟩:=h;rcases hc with rfl | hc;exact⟨_,e,by simp,by simp⟩;cases hc
def a6.ownAt (s:a6 K H σ fs) {i:Nat}{t:SL}{a:dL} (h1:fs[i]?=ap (ap t)) (h2:t.own=true) (h3:σ[i]?=ap (ap (.ref a))):iV K H a t:=by
 obtain⟨u,e,r⟩:=s.at' i t h1;rw [h3] at e;cases e;rcases r with⟨v,rfl,_⟩ | ⟨b,e,r⟩
 ·cases h2
 ·cases e;exact r
def a6.wX (s:a6 K H σ fs) {a:dL} (h:dI σ fs a):∃o,H a=ap o/\(∀vs,o≠.tup vs)/\∀ob u,o≠.cU ob u:=by
 obtain⟨i,t,x,h1,h2,h3,h4⟩:=h;exact (s.ownAt h1 h2 h3).ex h2 h4
def a6.noOwn (s:a6 K H σ fs) {a:dL} (h:H a=bv):¬dI σ fs a:=λz=>by
 obtain⟨o,e,_⟩:=s.wX z;rw [h] at e;cases e
def a6.Vr (s:a6 K H σ fs) {a:dL}{vs:List V} (h:H a=ap (.tup vs)):¬dI σ fs a:=λz=>by
 obtain⟨o,e,n,_⟩:=s.wX z;rw [h] at e;cases e;exact n vs rfl
def a6.Vs (s:a6 K H σ fs) {a:dL}{ob:Obj}{u:HO} (h:H a=ap (.cU ob u)):¬dI σ fs a:=λz=>by
 obtain⟨o,e,_,n⟩:=s.wX z;rw [h] at e;cases e;exact n ob u rfl
def cP.refl:cP σ fs H σ fs H:=⟨λ_ _ h n=>⟨h,n⟩,λ_ h=>h,λ_ _ h=>.inl h⟩
def cP.trans (a:cP σ fs H σ1 RP H1) (b:cP σ1 RP H1 σ2 dU H2):cP σ fs H σ2 dU H2:=
 ⟨λx o h n=>let ⟨h1,n1⟩:=a.keep x o h n;b.keep x o h1 n1,λx h=>a.there x (b.there x h),λx φ h=>(a.pk x φ h).elim (b.pk x φ) λ⟨n,vs,e,p⟩=>.inr (let ⟨h1,n1⟩:=b.keep x _ e n;⟨n1,vs,h1,p⟩)⟩
def cP.eM (g:cP σ fs H σ' bP H') (s:a6 K H σ fs):bF K H H':=
 ⟨λa vs h=>(g.keep a _ h (s.Vr h)).1,λa o u h=>(g.keep a _ h (s.Vs h)).1⟩
def VR.tk {u:V}{v:PV} (t:bF K H H') (r:VR K [] H u v):VR K [] H' u v:=r.mono t λ_ _ e=>e
def aN.tk {u:List V}{v:List PV} (t:bF K H H') (r:aN K [] H u v):aN K [] H' u v:=r.mono t λ_ _ e=>e
def cP.vr (g:cP σ fs H σ' bP H') (s:a6 K H σ fs) {u:V}{v:PV} (r:VR K [] H u v):VR K [] H' u v:=VR.tk (g.eM s) r
def c7.eM (g:c7 σ fs H H') (s:a6 K H σ fs):bF K H H':=g.f.eM s
def c7.vr (g:c7 σ fs H H') (s:a6 K H σ fs) {u:V}{v:PV} (r:VR K [] H u v):VR K [] H' u v:=VR.tk (g.eM s) r
def c7.LP (g:c7 σ fs H H') (s:a6 K H σ fs) {u:List V}{v:List PV} (r:aN K [] H u v):aN K [] H' u v:=aN.tk (g.eM s) r
def iV.mono {a:dL}{s:SL} (t:bF K H H') (e:∀c o,s.own=true->s.has a c->H c=ap o->H' c=ap o) (h:iV K H a s):iV K H' a s:=by
 cases s with
 | val _=>exact h
 | adr _=>exact h
 | ol _ l=>obtain⟨z,vs,q,r⟩:=h;exact⟨z,vs,e _ _ rfl (.inl rfl) q,aN.tk t r⟩
 | qM bs ls=>
  obtain⟨z,h1,h2,h3,h4⟩:=h;refine⟨e _ _ rfl (.inl rfl) z,h1,h2,h3,λj b l hb hl=>?_⟩;obtain⟨ws,q,r⟩:=h4 j b l hb hl;exact⟨ws,e _ _ rfl (.inr (Bo hb)) q,aN.tk t r⟩
 | od l=>obtain⟨vs,q,k,r⟩:=h;exact⟨vs,e _ _ rfl (.inl rfl) q,k,aN.tk t r⟩
 | ot l=>obtain⟨vs,q,k,r⟩:=h;exact⟨vs,e _ _ rfl (.inl rfl) q,k,aN.tk t r⟩
 | kK φ=>obtain⟨vs,q,k⟩:=h;exact⟨vs,e _ _ rfl (.inl rfl) q,k⟩
def vO.mono {u:V}{s:SL} (t:bF K H H') (e:∀x a o,u=.ref x->s.own=true->s.has x a->H a=ap o->H' a=ap o) (h:vO K H u s):vO K H' u s:=by
 rcases h with⟨v,q,r⟩ | ⟨a,q,r⟩
 ·exact .inl ⟨v,q,VR.tk t r⟩
 ·exact .inr ⟨a,q,r.mono t (λc o z y w=>e a c o q z y w)⟩
def a6.same (s:a6 K H σ fs) (h:kO H H'):a6 K H' σ fs:=⟨s.len,λi t e=>let ⟨u,h1,h2⟩:=s.at' i t e;⟨u,h1,h2.mono h.eO (λ_ a o _ _ _ z=>h a o z)⟩,s.nd⟩
def cP.same (h:kO H H') (s:a6 K H σ fs):cP σ fs H σ fs H':=⟨λa o e n=>⟨h a o e,n⟩,λa e=>(by
 cases z:H a with
 | none=>rfl
 | some o=>rw [h a o z] at e;cases e),λa φ p=>.inl p⟩
inductive jO:bh->bh->Prop
 | nil:jO [] []
 | drop {s:Option SL}{a b:bh} (h:jO a b):jO (s::a) (bv::b)
 | keep {s:Option SL}{a b:bh} (h:jO a b):jO (s::a) (s::b)
theorem jO.at {a b:bh} (h:jO a b):∀(i:Nat) (s:SL),b[i]?=ap (ap s)->a[i]?=ap (ap s):=by
 induction h with
 | nil=>intro i s e;simp at e
 | drop h ih=>intro i s e;cases i with | zero=>simp at e | succ i=>simp at e ⊢;exact ih i s e
 | keep h ih=>intro i s e;cases i with | zero=>simpa using e | succ i=>simp at e ⊢;exact ih i s e
def jO.length {a b:bh} (h:jO a b):a.length=b.length:=by induction h <;> simp_all
theorem jO.refl:∀a:bh,jO a a
 | []=>.nil
 | _::a=>.keep (jO.refl a)
def a6.le (s:a6 K H σ fs) (h:jO fs bP):a6 K H σ bP:=⟨s.len.trans h.length,λi t e=>s.at' i t (h.at i t e),λi j t u x y a e1 e2=>s.nd i j t u x y a (h.at i t e1) (h.at j u e2)⟩
def dI.le (h:jO fs bP) {a:dL} (o:dI σ bP a):dI σ fs a:=let ⟨i,t,x,e1,e2,e3⟩:=o;⟨i,t,x,h.at i t e1,e2,e3⟩
def cP.le (s:a6 K H σ fs) (h:jO fs bP):cP σ fs H σ bP H:=⟨λa o e n=>⟨e,λz=>n (z.le h)⟩,λ_ e=>e,λa φ p=>by
 obtain⟨i,e1,e2⟩:=p;by_cases c:dI σ bP a
 ·obtain⟨j,t,x,c1,c2,c3,c4⟩:=c;have ij:=s.nd i j _ t a x a e1 (h.at j t c1) rfl c2 e2 c3 (.inl rfl) c4;subst ij;have:=h.at i t c1;rw [e1] at this;cases this;exact .inl ⟨i,c1,e2⟩
 ·obtain⟨vs,q,r⟩:=s.ownAt e1 rfl e2;exact .inr ⟨c,vs,q,r⟩⟩
def bq {α:Type}{l:List (Option α)}{i j:Nat}{x y:α} (h:(l.set i (ap x))[j]?=ap (ap y)):(j=i/\y=x)\/(j≠i/\l[j]?=ap (ap y)):=by
 by_cases c:j=i
 ·subst c;rw [List.getElem?_set] at h;simp at h;exact .inl ⟨rfl,h.2.symm⟩
 ·rw [Bw (λz=>c z.symm)] at h;exact .inr ⟨c,h⟩
def cJ {α:Type}{l:List α}{i:Nat}{x:α} (h:i < l.length):(l.set i x)[i]?=ap x:=by rw [List.getElem?_set];simp [h]
def aK {α:Type}{l:List α}{i j:Nat}{x:α} (h:j≠i):(l.set i x)[j]?=l[j]?:=Bw (λz=>h z.symm)
def a6.put (s:a6 K H σ fs) {i:Nat}{u:V}{t:SL} (hr:vO K H u t) (hf:∀x a,u=.ref x->t.own=true->t.has x a->∀(j:Nat) (w:SL) (y:dL),j≠i->fs[j]?=ap (ap w)->w.own=true->σ[j]?=ap (ap (.ref y))->¬w.has y a):a6 K H (σ.set i (ap u)) (fs.set i (ap t)):=by
 refine⟨by simp [s.len],λj w e=>?_,λj k w x b1 b2 a e1 e2 o1 o2 q1 q2 z1 z2=>?_⟩
 ·rcases bq e with⟨rfl,rfl⟩ | ⟨n,e⟩
  ·have hl:j < σ.length:=by
    have:=(Al.mp e).1;rw [BL] at this;rw [s.len];exact this
   exact⟨u,cJ hl,hr⟩
  ·obtain⟨v,h1,h2⟩:=s.at' j w e;exact⟨v,by rw [aK n];exact h1,h2⟩
 ·rcases bq e1 with⟨y1,y2⟩ | ⟨n1,f1⟩ <;> rcases bq e2 with⟨y3,y4⟩ | ⟨n2,f2⟩
  ·exact y1.trans y3.symm
  ·subst y1;subst y2;rw [aK n2] at q2;have hl:j < σ.length:=by have:=(Al.mp q1).1;simpa using this
   rw [cJ hl] at q1;cases q1;exact absurd z2 (hf _ a rfl o1 z1 k x b2 n2 f2 o2 q2)
  ·subst y3;subst y4;rw [aK n1] at q1;have hl:k < σ.length:=by have:=(Al.mp q2).1;simpa using this
   rw [cJ hl] at q2;cases q2;exact absurd z1 (hf _ a rfl o2 z2 j w b1 n1 f1 o1 q1)
  ·rw [aK n1] at q1;rw [aK n2] at q2;exact s.nd j k w x b1 b2 a f1 f2 o1 o2 q1 q2 z1 z2
def a6.eN (s:a6 K H σ fs) {u:V}{v:PV} (hr:VR K [] H u v) (i:Nat):a6 K H (σ.set i (ap u)) (fs.set i (ap (.val v))):=s.put (.inl ⟨v,rfl,hr⟩) λ_ _ _ z=>by cases z
def y8 {i:Nat}{u:V}{t:SL}{a:dL} (o:dI (σ.set i (ap u)) (fs.set i (ap t)) a) (hl:σ.length=fs.length):dI σ fs a\/∃x,u=.ref x/\t.own=true/\t.has x a:=by
 obtain⟨j,w,x,e1,e2,e3,e4⟩:=o;rcases bq e1 with⟨rfl,rfl⟩ | ⟨n,e1⟩
 ·have h2:j < σ.length:=by have:=(Al.mp e3).1;simpa using this
  rw [cJ h2] at e3;cases e3;exact .inr ⟨x,rfl,e2,e4⟩
 ·rw [aK n] at e3;exact .inl ⟨j,w,x,e1,e2,e3,e4⟩
def IU (s:a6 K H σ fs) {i:Nat}{u:V}{t:SL}{φ:List V->Prop}{a:dL} (p:eZ σ fs φ a) (hu:∀x,u=.ref x->t.own=true->t.has x a->t=.kK φ):eZ (σ.set i (ap u)) (fs.set i (ap t)) φ a\/¬dI (σ.set i (ap u)) (fs.set i (ap t)) a:=by
 obtain⟨j,e1,e2⟩:=p;by_cases c:j=i
 ·subst c;by_cases c2:∃x,u=.ref x/\t.own=true/\t.has x a
  ·obtain⟨x,c3,c4,c5⟩:=c2;have hl:=(Al.mp e2).1;have LU:=(Al.mp e1).1;have et:=hu x c3 c4 c5;subst et;rcases c5 with rfl | c5
   ·exact .inl ⟨j,by rw [cJ LU],by rw [cJ hl,c3]⟩
   ·cases c5
  ·refine .inr λo=>?_;obtain⟨k,w,y,q1,q2,q3,q4⟩:=o;rcases bq q1 with⟨rfl,rfl⟩ | ⟨n,q1⟩
   ·have hl:=(Al.mp e2).1;rw [cJ hl] at q3;cases q3;exact c2 ⟨y,rfl,q2,q4⟩
   ·rw [aK n] at q3;exact n (s.nd k j w _ y a a q1 e1 q2 rfl q3 e2 q4 (.inl rfl))
 ·exact .inl ⟨j,by rw [aK c];exact e1,by rw [aK c];exact e2⟩
def cP.eN (s:a6 K H σ fs) (u:V) (v:PV) (i:Nat):cP σ fs H (σ.set i (ap u)) (fs.set i (ap (.val v))) H:=
 ⟨λa o e n=>⟨e,λz=>(y8 z s.len).elim n λ⟨_,_,z,_⟩=>by cases z⟩,λ_ e=>e,λa φ p=>(IU s p (λ_ _ z=>by cases z)).imp id λn=>⟨n,by
  obtain⟨j,e1,e2⟩:=p;obtain⟨vs,q,r⟩:=s.ownAt e1 rfl e2;exact⟨vs,q,r⟩⟩⟩
def a6.MJ (s:a6 K H σ fs) {a:dL}{t:SL} (hr:iV K H a t) (hn:∀c,t.has a c->¬dI σ fs c) (i:Nat):a6 K H (σ.set i (ap (.ref a))) (fs.set i (ap t)):=s.put (.inr ⟨a,rfl,hr⟩) λx c e _ hc j w y n e1 e2 e3 z=>by
 cases e;exact hn c hc ⟨j,w,y,e1,e2,e3,z⟩
def xx {t:SL} (hi:t.inn=[]) {a c:dL} (h:t.has a c):c=a:=by
 rcases h with h | h
 ·exact h
 ·rw [hi] at h;cases h
def a6.rR (s:a6 K H σ fs) {a:dL}{t:SL} (hr:iV K H a t) (hn:¬dI σ fs a) (i:Nat) (hi:t.inn=[]:=by rfl):a6 K H (σ.set i (ap (.ref a))) (fs.set i (ap t)):=s.MJ hr (λc hc=>by rw [xx hi hc];exact hn) i
def cP.MJ (s:a6 K H1 σ fs) (g:cP σ fs H σ fs H1) {a:dL}{t:SL} (hn:∀c,t.has a c->¬dI σ fs c) (h0:∀c,t.has a c->H c=bv) (i:Nat):cP σ fs H (σ.set i (ap (.ref a))) (fs.set i (ap t)) H1:=by
 refine⟨λb o e n=>⟨(g.keep b o e n).1,λz=>(y8 z s.len).elim n λ⟨x,z,_,y⟩=>?_⟩,g.there,λb φ p=>?_⟩
 ·cases z;rw [h0 b y] at e;cases e
 ·obtain⟨j,e1,e2⟩:=p;obtain⟨vs,q,r⟩:=s.ownAt e1 rfl e2;refine (IU (t:=t) s ⟨j,e1,e2⟩ (λx z o y=>?_)).imp id λn=>⟨n,vs,q,r⟩;cases z;exact absurd ⟨j,_,_,e1,rfl,e2,.inl rfl⟩ (hn b y)
def cP.rR (s:a6 K H1 σ fs) (g:cP σ fs H σ fs H1) {a:dL}{t:SL} (hn:¬dI σ fs a) (h0:H a=bv) (i:Nat) (hi:t.inn=[]:=by rfl):cP σ fs H (σ.set i (ap (.ref a))) (fs.set i (ap t)) H1:=cP.MJ s g (λc hc=>by rw [xx hi hc];exact hn) (λc hc=>by rw [xx hi hc];exact h0) i
def pO (s:a6 K H σ fs) {i:Nat}{t t':SL}{a c:dL} (e1:fs[i]?=ap (ap t)) (o:t.own=true) (np:∀φ,t≠.kK φ) (e2:σ[i]?=ap (ap (.ref a))) (hc:t.has a c) (Pw:t'.has a c) (uD:∀b,t'.has a b->t.has a b) (o':t'.own=true) (sx:oO c H H') (ht:bF K H H'->iV K H' a t'):a6 K H' σ (fs.set i (ap t'))/\cP σ fs H σ (fs.set i (ap t')) H':=by
 have oa:=s.ownAt e1 o e2;obtain⟨ob,q,n1,n2⟩:=oa.ex o hc;have tk:bF K H H':=⟨λb vs z=>sx b _ (λy=>by subst y;rw [q] at z;cases z;exact n1 _ rfl) z,λb o u z=>sx b _ (λy=>by subst y;rw [q] at z;cases z;exact n2 _ _ rfl) z⟩;have Xg:=ht tk;have hi:i < fs.length:=(Al.mp e1).1;have QN:∀b,dI σ (fs.set i (ap t')) b->dI σ fs b:=λb z=>by
  obtain⟨j,w,x,z1,z2,z3,z4⟩:=z;rcases bq z1 with⟨rfl,rfl⟩ | ⟨n,z1⟩
  ·rw [e2] at z3;cases z3;exact⟨j,t,a,e1,o,e2,uD b z4⟩
  ·exact⟨j,w,x,z1,z2,z3,z4⟩
 refine⟨⟨by simp [s.len],λj w e=>?_,λj k w x b1 b2 b z1 z2 o1 o2 q1 q2 y1 y2=>?_⟩,⟨λb ob e n=>⟨sx b ob (λz=>by subst z;exact n ⟨i,t,a,e1,o,e2,hc⟩) e,λz=>n (QN b z)⟩,λb e=>?_,λb φ p=>?_⟩⟩
 ·rcases bq e with⟨rfl,rfl⟩ | ⟨n,e⟩
  ·exact⟨_,e2,.inr ⟨a,rfl,Xg⟩⟩
  ·obtain⟨u,h1,h2⟩:=s.at' j w e;refine⟨u,h1,h2.mono tk (λx b ob eb ow hb z=>sx b ob (λy=>?_) z)⟩;subst y;subst eb;exact n (s.nd j i w t x a b e e1 ow o h1 e2 hb hc)
 ·have f:∀{j:Nat}{w:SL}{y:dL},(fs.set i (ap t'))[j]?=ap (ap w)->w.own=true->σ[j]?=ap (ap (.ref y))->w.has y b->∃w',fs[j]?=ap (ap w')/\w'.own=true/\w'.has y b:=λ{j w y} z ow qy hy=>by
   rcases bq z with⟨rfl,rfl⟩ | ⟨n,z⟩
   ·rw [e2] at qy;cases qy;exact⟨t,e1,o,uD b hy⟩
   ·exact⟨w,z,ow,hy⟩
  obtain⟨w',a1,a2,a3⟩:=f z1 o1 q1 y1;obtain⟨x',c1,c2,c3⟩:=f z2 o2 q2 y2;exact s.nd j k w' x' b1 b2 b a1 c1 a2 c2 q1 q2 a3 c3
 ·cases z:H b with
  | none=>rfl
  | some ob=>
   by_cases cc:b=c
   ·subst cc;obtain⟨o2,y,_⟩:=Xg.ex o' Pw;rw [e] at y;cases y
   ·rw [sx b ob cc z] at e;cases e
 ·obtain⟨j,p1,p2⟩:=p;have ji:j≠i:=λz=>by subst z;rw [e1] at p1;cases p1;exact np φ rfl
  exact .inl ⟨j,by rw [aK ji];exact p1,p2⟩
def mQ (s:a6 K H σ fs) {i:Nat}{t t':SL}{a:dL} (e1:fs[i]?=ap (ap t)) (o:t.own=true) (np:∀φ,t≠.kK φ) (e2:σ[i]?=ap (ap (.ref a))) (sx:oO a H H') (ht:bF K H H'->iV K H' a t') (hi:t'.inn=t.inn:=by rfl) (o':t'.own=true:=by rfl):a6 K H' σ (fs.set i (ap t'))/\cP σ fs H σ (fs.set i (ap t')) H':=
 pO s e1 o np e2 (.inl rfl) (.inl rfl) (λb h=>by unfold SL.has at h ⊢;rw [hi] at h;exact h) o' sx ht
end
end
section
open PySem PySem.Spec PyProof.Rows L2 PL
variable {K:Ab}
def fE (K:Ab) (fs:bh) (w:W PV):TE:=λσ H Q=>a6 K H σ fs/\w.run λv=>∀u H',c7 σ fs H H'->a6 K H' σ fs->VR K [] H' u v->Q u H'
def fT (K:Ab) (fs:bh) (w:W Bool):TT:=λσ H Q=>a6 K H σ fs/\w.run λb=>∀H',c7 σ fs H H'->a6 K H' σ fs->Q b H'
def fO (K:Ab) (fs:bh) (w:W (Option Int)):TO:=λσ H Q=>a6 K H σ fs/\w.run λb=>∀H',c7 σ fs H H'->a6 K H' σ fs->Q b H'
def fL (K:Ab) (fs:bh) (w:W (List PV)):TE:=λσ H Q=>a6 K H σ fs/\w.run λl=>∀a vs H',c7 σ fs H H'->a6 K H' σ fs->H a=bv->H' a=ap (.lst vs)->aN K [] H' vs l->Q (.ref a) H'
def W6 (K:Ab) (H:Hp) (u:V) (l:List PV):Prop:=∃a vs,u=.ref a/\(T9 K H a vs\/H a=ap (.tup vs))/\aN K [] H vs l
def SH (K:Ab) (σ:L2.St) (fs:bh) (H:Hp) (u:V) (l:List PV):Prop:=W6 K H u l\/∃a,u=.ref a/\((¬dI σ fs a/\∃vs,H a=ap (.lst vs)/\aN K [] H vs l)\/∃(i:Nat) (q:Option dL),fs[i]?=ap (ap (.ol q l))/\σ[i]?=ap (ap (.ref a)))
def fQ (K:Ab) (fs:bh) (w:W (List PV)):TE:=λσ H Q=>a6 K H σ fs/\w.run λl=>∀u H',c7 σ fs H H'->a6 K H' σ fs->SH K σ fs H' u l->Q u H'
def fI (K:Ab) (fs:bh) (w:W (List PV)):TE:=λσ H Q=>a6 K H σ fs/\w.run λl=>∀u H',c7 σ fs H H'->a6 K H' σ fs->W6 K H' u l->Q u H'
inductive AK where
 | v | p (φ:List V->Prop) | f (a:dL)
inductive fZ (K:Ab) (σ:L2.St) (fs:bh) (H:Hp):List V->List AK->List PV->Prop
 | nil:fZ K σ fs H [] [] []
 | v {u:V}{x:PV}{vs:List V}{ks:List AK}{l:List PV} (r:VR K [] H u x) (t:fZ K σ fs H vs ks l):fZ K σ fs H (u::vs) (.v::ks) (x::l)
 | p {a:dL}{φ:List V->Prop}{vs:List V}{ks:List AK}{l:List PV} (r:eZ σ fs φ a) (t:fZ K σ fs H vs ks l):fZ K σ fs H (.ref a::vs) (.p φ::ks) l
 | f {a:dL}{vs:List V}{ks:List AK}{l:List PV} (t:fZ K σ fs H vs ks l):fZ K σ fs H (.ref a::vs) (.f a::ks) l
def fA (K:Ab) (fs:bh) (ks:List AK) (w:W (List PV)):TA:=λσ H Q=>a6 K H σ fs/\w.run λl=>∀vs H',c7 σ fs H H'->a6 K H' σ fs->fZ K σ fs H' vs ks l->Q vs H'
structure EF (X:Cx) (K:Ab) (fs:bh) (e:ga) (w:W PV):Prop where p:PE X e (fE K fs w)
structure LF (X:Cx) (K:Ab) (fs:bh) (e:ga) (w:W (List PV)):Prop where p:PE X e (fL K fs w)
structure QF (X:Cx) (K:Ab) (fs:bh) (e:ga) (w:W (List PV)):Prop where p:PE X e (fQ K fs w)
structure IF (X:Cx) (K:Ab) (fs:bh) (e:ga) (w:W (List PV)):Prop where p:PE X e (fI K fs w)
structure TF (X:Cx) (K:Ab) (fs:bh) (e:ga) (w:W Bool):Prop where p:PT X e (fT K fs w)
structure oQ (X:Cx) (K:Ab) (fs:bh) (e:ga) (w:W Bool):Prop where p:PW X e (fT K fs w)
structure OF (X:Cx) (K:Ab) (fs:bh) (e:Option ga) (w:W (Option Int)):Prop where p:L2.PO X e (fO K fs w)
structure AF (X:Cx) (K:Ab) (fs:bh) (es:List ga) (ks:List AK) {R:Type} (B:(List PV->W R)->W R):Prop where
 p:∃w:W (List PV),PA X es (fA K fs ks w)/\∀k,B k=W.bind w k
section
variable {σ:L2.St}{fs:bh}{H H':Hp}
def W6.tk {u:V}{l:List PV} (t:bF K H H') (h:W6 K H u l):W6 K H' u l:=by
 obtain⟨a,vs,e,q,r⟩:=h;exact⟨a,vs,e,q.imp (t.f _ _) (t.t _ _),aN.tk t r⟩
def SH.go {u:V}{l:List PV} (h:SH K σ fs H u l) (s:a6 K H σ fs) (g:c7 σ fs H H'):SH K σ fs H' u l:=by
 rcases h with h | ⟨a,e,⟨n,vs,q,r⟩ | q⟩
 ·exact .inl (h.tk (g.eM s))
 ·exact .inr ⟨a,e,.inl ⟨n,vs,(g.pR q n),g.LP s r⟩⟩
 ·exact .inr ⟨a,e,.inr q⟩
def SH.sq {u:V}{l:List PV} (h:SH K σ fs H u l) (s:a6 K H σ fs):∃a vs,u=.ref a/\(dq K H a vs\/d7 K H a vs)/\aN K [] H vs l:=by
 rcases h with⟨a,vs,e,q,r⟩ | ⟨a,e,⟨n,vs,q,r⟩ | ⟨i,_,q1,q2⟩⟩
 ·exact⟨a,vs,e,q.elim (λq=>.inl q.sq) λq=>.inr (d7.of q),r⟩
 ·exact⟨a,vs,e,.inl (dq.of q),r⟩
 ·obtain⟨_,vs,q,r⟩:=s.ownAt q1 rfl q2;exact⟨a,vs,e,.inl (dq.of q),r⟩
end
section
variable {X:Cx}{a b c e o:ga}{es rest:List ga}{pos:Pos}{fs:bh}{w wa wb wc:W PV}
def ae (i:Nat) {x:Str}{v:PV} (hs:fs[i]?=ap (ap (.val v)):=by rfl) (hN:X.N[i]?=ap x:=by rfl) (hv:ym X.env.scope x:=by first | exact Cw rfl | exact Cn (Cw rfl) | exact Cn (Cn rfl)) (hd:(x==("__debug__":Str))=false:=by decide) (i6:(x==("__classdict__":Str))=false:=by decide):EF X K fs (.Name x pos) (.ret v):=
 ⟨PE.imp (dr hN hv hd i6) λσ H Q ⟨sr,q⟩=>by
  obtain⟨u,e1,r⟩:=sr.at' i _ hs;rcases r with⟨w,e,r⟩ | ⟨a,_,r⟩
  ·cases e;exact⟨u,e1,q u H .refl sr r⟩
  ·exact r.elim⟩
def Xx {v:V}{p:PV} (hv:∀H,VR K [] H v p) (h:PE X e (tC v)):EF X K fs e (.ret p):=⟨PE.imp h λσ H Q ⟨sr,q⟩=>q v H .refl sr (hv _)⟩
def ak {i j}:EF X K fs (.Constant (.int i) j pos) (.ret (.int i)):=Xx (λ_=>.int i) Va
def lO {b j}:EF X K fs (.Constant (.bool b) j pos) (.ret (.bl b)):=Xx (λ_=>.bl b) YW
def vB {j}:EF X K fs (.Constant .none j pos) (.ret .aX):=Xx (λ_=>.aX) U9
def d6 {x j}:EF X K fs (.Constant (.str x) j pos) (.ret (.str x)):=Xx (λ_=>.str x) U6
def xO {x:Str}{i:Int}{t:Tok} (hm:X.mg x=ap (.int i t)) (hg:Gl X x) (hd:(x==("__debug__":Str))=false:=by decide):EF X K fs (.Name x pos) (.ret (.int i)):=Xx (λ_=>.int i) (wQ hg hm ⟨_,rfl⟩ hd)
def tJ {x:Str}{i:Str}{t:Tok} (hm:X.mg x=ap (.str i t)) (hg:Gl X x) (hd:(x==("__debug__":Str))=false:=by decide):EF X K fs (.Name x pos) (.ret (.str i)):=Xx (λ_=>.str i) (wQ hg hm ⟨_,rfl⟩ hd)
def of2 (m:M2) (x y:PV):W PV:=⟨λQ=>m.f x y [] λz h=>h=[]/\Q z,λf q=>m.mono (λ_ _ q=>⟨q.1,f _ q.2⟩) q⟩
def hr0 (H:Hp):HR K [] H []:=⟨Fb,rfl,λn a o e _=>by simp at e⟩
def pq0 {σ:L2.St}{H:Hp}{Q:VK}{z:PV}{h:PH} (sr:a6 K H σ fs) (q:h=[]/\∀u H',c7 σ fs H H'->a6 K H' σ fs->VR K [] H' u z->Q u H'):pQ K [] H Q z h:=λι' v H' g r x=>by
 obtain⟨e,q⟩:=q;subst e;have:ι'=[]:=Cr r.len;subst this;have sm:kO H H':=λa o z=>g.keep a o (by simp) z;exact q v H' (c7.same sm) (sr.same sm) x
def wZ {r:R2}{m:M2} (hm:M2.Ok K r m) {σ:L2.St}{H:Hp}{Q:VK}{u v:V}{x y:PV} (sr:a6 K H σ fs) (hu:VR K [] H u x) (hv:VR K [] H v y) (q:(of2 m x y).run λz=>∀u H',c7 σ fs H H'->a6 K H' σ fs->VR K [] H' u z->Q u H'):r u v H Q:=
 hm (hr0 H) hu hv (m.mono (λz h q=>pq0 sr q) q)
def JB {r:R2}{m:M2} (hm:M2.Ok K r m):∀σ H Q,fE K fs (.bind wa λx=>.bind wb λy=>of2 m x y) σ H Q->S0 r (fE K fs wa) (fE K fs wb) σ H Q:=λσ H Q ⟨sr,q⟩=>
 ⟨sr,wa.mono (λx q1 u1 H1 g1 s1 v1=>⟨s1,wb.mono (λy q2 u2 H2 g2 s2 v2=>wZ hm s2 (g2.vr s1 v1) v2 ((of2 m x y).mono (λz q u3 H3 g3 s3 v3=>q u3 H3 ((g1.trans g2).trans g3) s3 v3) q2)) q1⟩) q⟩
def OH {op:Operator}{r:R2}{m:M2} (ho:iA X (tz op) r) (hm:M2.Ok K r m) (ha:EF X K fs a wa) (hb:EF X K fs b wb):EF X K fs (.BinOp a op b pos) (.bind wa λx=>.bind wb λy=>of2 m x y):=⟨PE.imp (IW ho ha.p hb.p) (JB hm)⟩
def lM (ha:EF X K fs a wa) (hb:EF X K fs b wb):EF X K fs (.BinOp a .Sub b pos) (.bind wa λx=>.bind wb λy=>of2 mS x y):=OH Ve (FY λ_ _ _ _=>.int _) ha hb
def pT (ha:EF X K fs a wa) (hb:EF X K fs b wb):EF X K fs (.BinOp a .Mult b pos) (.bind wa λx=>.bind wb λy=>of2 o9 x y):=OH QQ (yk λ_ _ _ _=>.int _) ha hb
def TZ (ha:EF X K fs a wa) (hb:EF X K fs b wb):EF X K fs (.BinOp a .FloorDiv b pos) (.bind wa λx=>.bind wb λy=>of2 oDiv x y):=OH QR (yk λ_ _ _ _=>.int _) ha hb
def mI (ha:EF X K fs a wa) (hb:EF X K fs b wb):EF X K fs (.BinOp a .Mod b pos) (.bind wa λx=>.bind wb λy=>of2 oMod x y):=OH Vi (yk λ_ _ _ _=>.int _) ha hb
def OG (ha:EF X K fs a wa) (hb:EF X K fs b wb):EF X K fs (.BinOp a .Pow b pos) (.bind wa λx=>.bind wb λy=>of2 za x y):=OH Vg (yk λ_ _ _ _=>.int _) ha hb
def mV:PV->W PV
 | .int i=>.ret (.int (-i))
 | _=>.fail
def jI (ha:EF X K fs a wa):EF X K fs (.UnaryOp .USub a pos) (.bind wa mV):=⟨PE.imp (YS Up ha.p) λσ H Q ⟨sr,q⟩=>⟨sr,wa.mono (λx q1 u1 H1 g1 s1 v1=>by
 cases v1 with
 | int i=>exact⟨_,rfl,q1 _ H1 g1 s1 (.int _)⟩
 | _=>exact q1.elim) q⟩⟩
def XC:PV->W Bool
 | .bl b=>.ret b
 | _=>.fail
def iu {op:CmpOp}{m:M2} (hc:JC X K op b m) (ha:EF X K fs a wa) (hb:EF X K fs b wb):EF X K fs (.Compare a [op] [b] pos) (.bind wa λx=>.bind wb λy=>of2 m x y):=let ⟨_,h1,h2⟩:=hc.p;⟨PE.imp (qJ h1 ha.p hb.p hc.k) (JB h2)⟩
def RX {w:W PV}:∀σ H Q,fT K fs (.bind w XC) σ H Q->(fE K fs w) σ H λx H'=>∃k,x=.bl k/\Q k H':=λσ H Q ⟨sr,q⟩=>⟨sr,w.mono (λx q1 u1 H1 g1 s1 v1=>by
 cases v1 with
 | bl b=>exact⟨b,rfl,q1 H1 g1 s1⟩
 | _=>exact q1.elim) q⟩
def cx {op:CmpOp}{m:M2} (hc:JC X K op b m) (ha:EF X K fs a wa) (hb:EF X K fs b wb):TF X K fs (.Compare a [op] [b] pos) (.bind wa λx=>.bind wb λy=>.bind (of2 m x y) XC):=let ⟨_,h1,h2⟩:=hc.p
 ⟨PT.imp (qI h1 ha.p hb.p hc.k) λσ H Q q=>JB h2 σ H _ (RX (w:=.bind wa λx=>.bind wb λy=>of2 m x y) σ H Q q)⟩
def lP (z:PV) (w:W PV):W PV:=match z with
 | .bl true=>w
 | .bl false=>.ret (.bl false)
 | _=>.fail
def zO {r r':R2}{m m':M2} (hm:M2.Ok K r m) (hm':M2.Ok K r' m'):∀σ H Q,fE K fs (.bind wa λx=>.bind wb λy=>.bind (of2 m x y) λz=>lP z (.bind wc λw=>of2 m' y w)) σ H Q->Gu r r' (fE K fs wa) (fE K fs wb) (fE K fs wc) σ H Q:=λσ H Q ⟨sr,q⟩=>
 ⟨sr,wa.mono (λx q1 u1 H1 g1 s1 v1=>⟨s1,wb.mono (λy q2 u2 H2 g2 s2 v2=>wZ hm s2 (g2.vr s1 v1) v2 ((of2 m x y).mono (λz q3 u3 H3 g3 s3 v3=>by
  have gg:=(g1.trans g2).trans g3;cases v3 with
  | bl k=>
   cases k with
   | true=>exact⟨true,rfl,by rw [if_pos rfl];exact⟨s3,wc.mono (λw q4 u4 H4 g4 s4 v4=>wZ hm' s4 ((g3.trans g4).vr s2 v2) v4 ((of2 m' y w).mono (λz q u5 H5 g5 s5 v5=>q u5 H5 ((gg.trans g4).trans g5) s5 v5) q4)) q3⟩⟩
   | false=>exact⟨false,rfl,by rw [if_neg AV];exact q3 _ H3 gg s3 (.bl _)⟩
  | _=>exact q3.elim) q2)) q1⟩) q⟩
def JK {op GI:CmpOp}{m m':M2} (hc:JC X K op b m) (Pw:JC X K GI c m') (ha:EF X K fs a wa) (hb:EF X K fs b wb) (hd:EF X K fs c wc) (hk:lastMarks [op,GI] [b,c]=false:=by with_unfolding_all rfl):EF X K fs (.Compare a [op,GI] [b,c] pos) (.bind wa λx=>.bind wb λy=>.bind (of2 m x y) λz=>lP z (.bind wc λw=>of2 m' y w)):=
 let ⟨_,h1,h2⟩:=hc.p;let ⟨_,h3,h4⟩:=Pw.p;⟨PE.imp (M7 h1 h3 ha.p hb.p hd.p hk) (zO h2 h4)⟩
def P6 {op GI:CmpOp}{m m':M2} (hc:JC X K op b m) (Pw:JC X K GI c m') (ha:EF X K fs a wa) (hb:EF X K fs b wb) (hd:EF X K fs c wc) (hk:lastMarks [op,GI] [b,c]=false:=by with_unfolding_all rfl):TF X K fs (.Compare a [op,GI] [b,c] pos) (.bind wa λx=>.bind wb λy=>.bind (of2 m x y) λz=>.bind (lP z (.bind wc λw=>of2 m' y w)) XC):=
 let ⟨_,h1,h2⟩:=hc.p;let ⟨_,h3,h4⟩:=Pw.p;⟨PT.imp (MM h1 h3 ha.p hb.p hd.p hk) λσ H Q q=>zO h2 h4 σ H _ (RX (w:=.bind wa λx=>.bind wb λy=>.bind (of2 m x y) λz=>lP z (.bind wc λw=>of2 m' y w)) σ H Q q)⟩
def LD (x:PV) (w:W PV):W PV:=match x with
 | .bl true=>w
 | .bl false=>.ret (.bl false)
 | _=>.fail
def orW (x:PV) (w:W PV):W PV:=match x with
 | .bl true=>.ret (.bl true)
 | .bl false=>w
 | _=>.fail
def Q5:PV->W PV
 | .bl b=>.ret (.bl (!b))
 | _=>.fail
def kH (ha:EF X K fs a wa) (hb:EF X K fs (.BoolOp .And (b::rest) pos) wb):EF X K fs (.BoolOp .And (a::b::rest) pos) (.bind wa λx=>LD x wb):=⟨PE.imp (Vc ha.p hb.p) λσ H Q ⟨sr,q⟩=>⟨sr,wa.mono (λx q1 u1 H1 g1 s1 v1=>by
 cases v1 with
 | bl k=>
  cases k with
  | true=>exact⟨true,rfl,by rw [if_pos rfl];exact⟨s1,wb.mono (λ_ q u H' g s v=>q u H' (g1.trans g) s v) q1⟩⟩
  | false=>exact⟨false,rfl,by rw [if_neg AV];exact q1 _ H1 g1 s1 (.bl _)⟩
 | _=>exact q1.elim) q⟩⟩
def aak (ha:EF X K fs a wa) (hb:EF X K fs (.BoolOp .Or (b::rest) pos) wb):EF X K fs (.BoolOp .Or (a::b::rest) pos) (.bind wa λx=>orW x wb):=⟨PE.imp (YT ha.p hb.p) λσ H Q ⟨sr,q⟩=>⟨sr,wa.mono (λx q1 u1 H1 g1 s1 v1=>by
 cases v1 with
 | bl k=>
  cases k with
  | true=>exact⟨true,rfl,by rw [if_pos rfl];exact q1 _ H1 g1 s1 (.bl _)⟩
  | false=>exact⟨false,rfl,by rw [if_neg AV];exact⟨s1,wb.mono (λ_ q u H' g s v=>q u H' (g1.trans g) s v) q1⟩⟩
 | _=>exact q1.elim) q⟩⟩
def lN {op} (h:EF X K fs a wa):EF X K fs (.BoolOp op [a] pos) wa:=⟨U7 h.p⟩
def TY (ha:EF X K fs a wa):EF X K fs (.UnaryOp .Not a pos) (.bind wa Q5):=⟨PE.imp (U8 ha.p) λσ H Q ⟨sr,q⟩=>⟨sr,wa.mono (λx q1 u1 H1 g1 s1 v1=>by
 cases v1 with
 | bl k=>exact⟨_,rfl,q1 _ H1 g1 s1 (.bl _)⟩
 | _=>exact q1.elim) q⟩⟩
variable {ta tb tc:W Bool}
def iH (h:TF X K fs a ta):oQ X K fs (.BoolOp .And [a] pos) ta:=⟨Qw h.p⟩
def f9 (h:TF X K fs a ta):oQ X K fs (.BoolOp .Or [a] pos) ta:=⟨UW h.p⟩
def kY (ha:TF X K fs a ta) (hb:oQ X K fs (.BoolOp .And (b::rest) pos) tb):oQ X K fs (.BoolOp .And (a::b::rest) pos) (.bind ta λk=>if k=true then tb else .ret false):=⟨PW.imp (UX ha.p hb.p) λσ H Q ⟨sr,q⟩=>⟨sr,ta.mono (λk q1 H1 g1 s1=>by
 cases k with
 | true=>exact uz ⟨s1,tb.mono (λ_ q H' g s=>q H' (g1.trans g) s) q1⟩
 | false=>exact uA (q1 H1 g1 s1)) q⟩⟩
def jk (ha:TF X K fs a ta) (hb:oQ X K fs (.BoolOp .Or (b::rest) pos) tb):oQ X K fs (.BoolOp .Or (a::b::rest) pos) (.bind ta λk=>if k=true then .ret true else tb):=⟨PW.imp (YO ha.p hb.p) λσ H Q ⟨sr,q⟩=>⟨sr,ta.mono (λk q1 H1 g1 s1=>by
 cases k with
 | true=>exact uz (q1 H1 g1 s1)
 | false=>exact uA ⟨s1,tb.mono (λ_ q H' g s=>q H' (g1.trans g) s) q1⟩) q⟩⟩
def oQ.t (h:oQ X K fs a ta):TF X K fs a ta:=⟨PW.pt h.p⟩
def eQ (ha:TF X K fs a ta):TF X K fs (.UnaryOp .Not a pos) (.bind ta λk=>.ret (!k)):=⟨PT.imp (UZ ha.p) λσ H Q ⟨sr,q⟩=>⟨sr,q⟩⟩
def Lf (hc:TF X K fs c tc) (ha:EF X K fs a wa) (hb:EF X K fs b wb):EF X K fs (.IfExp c a b pos) (.bind tc λk=>if k=true then wa else wb):=⟨PE.imp (yY hc.p ha.p hb.p) λσ H Q ⟨sr,q⟩=>⟨sr,tc.mono (λk q1 H1 g1 s1=>by
 cases k with
 | true=>exact uz ⟨s1,wa.mono (λ_ q u H' g s v=>q u H' (g1.trans g) s v) q1⟩
 | false=>exact uA ⟨s1,wb.mono (λ_ q u H' g s v=>q u H' (g1.trans g) s v) q1⟩) q⟩⟩
def Zj {la lb:W (List PV)} (hc:TF X K fs c tc) (ha:LF X K fs a la) (hb:LF X K fs b lb):LF X K fs (.IfExp c a b pos) (.bind tc λk=>if k=true then la else lb):=⟨PE.imp (yY hc.p ha.p hb.p) λσ H Q ⟨sr,q⟩=>⟨sr,tc.mono (λk q1 H1 g1 s1=>by
 cases k with
 | true=>exact uz ⟨s1,la.mono (λ_ q a vs H' g s n e v=>q a vs H' (g1.trans g) s (g1.there a n) e v) q1⟩
 | false=>exact uA ⟨s1,lb.mono (λ_ q a vs H' g s n e v=>q a vs H' (g1.trans g) s (g1.there a n) e v) q1⟩) q⟩⟩
def cF:PV->W Bool
 | .aX=>.ret false
 | .bl b=>.ret b
 | .int i=>.ret (i != 0)
 | .str y=>.fF (y.length<=sizeLine) (.ret ((y.length:Int) != 0))
 | .tup l=>.ret (!l.isEmpty)
 | .cl l=>.ret (!l.isEmpty)
 | _=>.fail
def bI (hK:X.K=K) (ha:EF X K fs a wa) (he:∀Æ,isTrue a X.env Æ=(do let v <- Æ;Gf a.pos;sB [v] (truthy v))):TF X K fs a (.bind wa cF):=⟨PT.imp (u0 K hK ha.p he) λσ H Q ⟨sr,q⟩=>⟨sr,wa.mono (λx q1 u1 H1 g1 s1 v1=>by
 cases v1 with
 | aX=>exact⟨false,rfl,q1 H1 g1 s1⟩
 | bl b=>exact⟨b,rfl,q1 H1 g1 s1⟩
 | int i=>exact⟨_,rfl,q1 H1 g1 s1⟩
 | str y=>exact⟨_,⟨q1.1,rfl⟩,q1.2 H1 g1 s1⟩
 | ty _=>exact q1.elim
 | dk _ _ _=>exact q1.elim
 | dt _ _ _=>exact q1.elim
 | ref _=>exact q1.elim
 | @tup p vs l e rs=>
  refine⟨!vs.isEmpty,.inr (.inl ⟨_,d7.of e,rfl⟩),?_⟩;rw [<- lA rs];exact q1 H1 g1 s1
 | @cl p vs l e rs=>
  refine⟨!vs.isEmpty,.inl ⟨_,e.sq,rfl⟩,?_⟩;rw [<- lA rs];exact q1 H1 g1 s1) q⟩⟩
def SX (hK:X.K=K) {wl:W (List PV)} (ha:QF X K fs a wl) (he:∀Æ,isTrue a X.env Æ=(do let v <- Æ;Gf a.pos;sB [v] (truthy v))):TF X K fs a (.bind wl λl=>.ret (!l.isEmpty)):=⟨PT.imp (u0 K hK ha.p he) λσ H Q ⟨sr,q⟩=>⟨sr,wl.mono (λl q1 u1 H1 g1 s1 v1=>by
 obtain⟨b,vs,rfl,h,rs⟩:=v1.sq s1;refine⟨!vs.isEmpty,?_,?_⟩
 ·exact h.elim (λh=>.inl ⟨_,h,rfl⟩) λh=>.inr (.inl ⟨_,h,rfl⟩)
 ·rw [<- lA rs];exact q1 H1 g1 s1) q⟩⟩
variable {R:Type}{ks:List AK}{B:(List PV->W R)->W R}
def ao:AF X K fs [] [] (R:=R) (λk=>k []):=⟨.ret [],PA.imp cY λσ H Q ⟨sr,q⟩=>q [] H .refl sr .nil,λk=>rfl⟩
def af (ha:EF X K fs e w) (hr:AF X K fs es ks B) (hs:ci (e::es) X.env=(false,lm e X.env)::ci es X.env:=by rfl):AF X K fs (e::es) (.v::ks) (λk=>.bind w λx=>B λl=>k (x::l)):=by
 obtain⟨wr,hp,hB⟩:=hr.p;refine⟨.bind w λx=>.bind wr λl=>.ret (x::l),PA.imp (bw ha.p hp hs) λσ H Q ⟨sr,q⟩=>?_,λk=>?_⟩
 ·exact⟨sr,w.mono (λx q1 u1 H1 g1 s1 v1=>⟨s1,wr.mono (λl q2 vs H2 g2 s2 v2=>q2 _ H2 (g1.trans g2) s2 (.v (g2.vr s1 v1) v2)) q1⟩) q⟩
 ·have:(λx=>B λl=>k (x::l))=λx=>W.bind wr λl=>k (x::l):=funext λx=>hB _;rw [this];rfl
def bj (i:Nat) {x:Str}{φ:List V->Prop} (hr:AF X K fs es ks B) (hs:fs[i]?=ap (ap (.kK φ)):=by rfl) (hN:X.N[i]?=ap x:=by rfl) (hv:ym X.env.scope x:=by first | exact Cw rfl | exact Cn (Cw rfl) | exact Cn (Cn rfl)) (hd:(x==("__debug__":Str))=false:=by decide) (i6:(x==("__classdict__":Str))=false:=by decide)
  (xt:ci (.Name x pos::es) X.env=(false,lm (.Name x pos) X.env)::ci es X.env:=by rfl):AF X K fs (.Name x pos::es) (.p φ::ks) B:=by
 obtain⟨wr,hp,hB⟩:=hr.p;refine⟨wr,PA.imp (bw (dr hN hv hd i6) hp xt) λσ H Q ⟨sr,q⟩=>?_,hB⟩;obtain⟨u,e1,r⟩:=sr.at' i _ hs;rcases r with⟨v,e,_⟩ | ⟨a,e,r⟩
 ·cases e
 ·subst e;exact⟨_,e1,sr,wr.mono (λl q2 vs H2 g2 s2 v2=>q2 _ H2 g2 s2 (.p ⟨i,hs,e1⟩ v2)) q⟩
theorem fZ.LP {σ:L2.St}{H:Hp}:∀{vs:List V}{n:Nat}{l:List PV},fZ K σ fs H vs (Am n .v) l->aN K [] H vs l/\l.length=n
 | _,0,_,.nil=>⟨.nil,rfl⟩
 | _,n+1,_,.v r t=>⟨.cons r (fZ.LP t).1,by rw [An,(fZ.LP t).2]⟩
def aaj {x1}{n:Nat}{B:(List PV->W PV)->W PV} (h:AF X K fs es (Am n .v) B) (hn:n<=1000:=by decide):EF X K fs (.Tuple es x1 pos) (B λl=>.ret (.tup l)):=by
 obtain⟨w,hp,hB⟩:=h.p;rw [hB];refine⟨PE.imp (QI hp) λσ H Q ⟨sr,q⟩=>⟨sr,w.mono (λl q1 vs H1 g1 s1 v1=>?_) q⟩⟩;obtain⟨v2,hl⟩:=v1.LP;refine⟨by rw [v2.length,hl];exact aU hn,λp H2 s2 e2 n2=>?_⟩;exact q1 _ H2 (g1.trans (c7.same s2)) (s1.same s2) (.tup e2 (aN.tk s2.eO v2))
def Th {n:Nat}{B:(List PV->W (List PV))->W (List PV)} (h:AF X K fs es (Am n .v) B) (hn:n<=1000:=by decide):LF X K fs (.List es pos) (B λl=>.ret l):=by
 obtain⟨w,hp,hB⟩:=h.p;rw [hB];refine⟨PE.imp (IX hp) λσ H Q ⟨sr,q⟩=>⟨sr,w.mono (λl q1 vs H1 g1 s1 v1=>?_) q⟩⟩;obtain⟨v2,hl⟩:=v1.LP;refine⟨by rw [v2.length,hl];exact aU hn,λp H2 s2 e2 n2=>?_⟩;exact q1 _ _ H2 (g1.trans (c7.same s2)) (s1.same s2) (g1.there p n2) e2 (aN.tk s2.eO v2)
end
end
end FL
open FL.W renaming bind→am,ret→bd,run_bind→db,aj→gt,ai→im,aA→r9,ax→ss,ext'→Ev
namespace L2
open PySem PySem.Spec PyProof.Rows
def Inv.qW {X:Cx}{Z:List (dL×Obj)}{σ:St}{H:Hp}{s:ce}{a:dL}{vs:List V} (I:Inv X Z σ H s) (e:H a=ap (.lst vs)):∃o,Inv X Z σ (upd H a (.cU o (.lst vs))) s:=by
 obtain⟨z,ay,n,r,h1⟩:=(show bB X.prog X.w H s.heap a (.lst vs) from I.bN a _ e);exact⟨_,I.write (x:=a) (e:=a) (o:=.cU _ (.lst vs)) (h':=s.heap) (t':=s.toks) (by rw [e];exact Cd) (.inl rfl) (λb u _ z=>z) ⟨_,h1⟩ ⟨h1,z,ay,n,r,h1⟩⟩
def vn {P:f8}{w:lc}{H:Hp}{h:lw}{a:dL}{vs:List V}{o:Obj} (ok:mq P w H h) (e:H a=ap (.cU o (.lst vs))):mq P w (upd H a (.lst vs)) h:=λb u q=>by
 have ne:∀c v,H c=ap v->v≠.cU o (.lst vs)->upd H a (.lst vs) c=ap v:=λc v z n=>by
  rw [aF (λy=>by subst y;rw [e] at z;cases z;exact n rfl)];exact z
 by_cases hb:b=a
 ·subst hb;rw [aR] at q;cases q;exact bB.wA (ok b _ e).2 (λ_ _ _ z=>z) (λc z=>ne c _ z (by simp)) λc xs z=>ne c _ z (by simp)
 ·rw [aF hb] at q;exact bB.wA (ok b _ q) (λ_ _ _ z=>z) (λc z=>ne c _ z (by simp)) λc xs z=>ne c _ z (by simp)
end L2
namespace FL
section
open PySem PySem.Spec PyProof.Rows L2 PL
variable {K:Ab}
section
variable {σ:L2.St}{fs:bh}{H H1:Hp}{a:dL}{vs:List V}
def lT (o':HO) (e:H a=ap (.lst vs)):bF K H (upd H a o'):=⟨λb ws q=>by rw [aF (Jh q e (by intro z;cases z))];exact q,λb o u q=>by rw [aF (Jh q e (by intro z;cases z))];exact q⟩
def a6.side (s:a6 K H σ fs) (n:¬dI σ fs a) (e:H a=ap (.lst vs)) (o':HO):a6 K (upd H a o') σ fs:=⟨s.len,λi t q=>by
 obtain⟨u,h1,h2⟩:=s.at' i t q;exact⟨u,h1,h2.mono (lT o' e) (λx b o eb ow hb z=>by subst eb;rw [aF (λy:b=a=>n ⟨i,t,x,q,ow,h1,y▸hb⟩)];exact z)⟩,s.nd⟩
def c7.side (g:c7 σ fs H H1) (h0:H a=bv) (o':HO):c7 σ fs H (upd H1 a o'):=⟨λb o e n=>by rw [aF (bS e h0)];exact g.keep b o e n,λb e=>by
 by_cases c:b=a
 ·subst c;exact h0
 ·rw [aF c] at e;exact g.there b e⟩
end
section
variable {X:Cx}{a b e:ga}{es:List ga}{pos p:Pos}{fs:bh}{w wa wb:W PV}{wl:W (List PV)}
def vC (h:LF X K fs e wl):EF X K fs e (.bind wl λl=>.ret (.cl l)):=⟨λZ s σ H Q I ⟨sr,q⟩=>by
 refine bH (h.p Z s σ H (λu H1=>∃a vs l,u=.ref a/\c7 σ fs H H1/\a6 K H1 σ fs/\H a=bv/\H1 a=ap (.lst vs)/\aN K [] H1 vs l/\∀u H',c7 σ fs H H'->a6 K H' σ fs->VR K [] H' u (.cl l)->Q u H') I ⟨sr,wl.mono (λl q1 a vs H1 g1 s1 n e v=>⟨a,vs,l,rfl,g1,s1,n,e,v,q1⟩) q⟩) λu s1 ⟨v,H1,I1,r1,a,vs,l,e,g1,Qn,n,ea,vr,q1⟩=>?_;subst e;obtain⟨ob,I2⟩:=I1.qW ea;exact⟨.ref a,_,I2,r1,q1 _ _ (g1.side n _) (Qn.side (λz=>sr.noOwn n z) ea _) (.cl (.inl ⟨ob,aR⟩) (aN.tk (lT _ ea) vr))⟩⟩
def aw:PV->W (List PV)
 | .tup l=>.ret l
 | .cl l=>.ret l
 | _=>.fail
def cp (h:EF X K fs e w):IF X K fs e (.bind w aw):=⟨PE.imp h.p λσ H Q ⟨sr,q⟩=>⟨sr,w.mono (λx q1 u1 H1 g1 s1 v1=>by
 cases v1 with
 | tup e r=>exact q1 _ H1 g1 s1 ⟨_,_,rfl,.inr e,r⟩
 | cl e r=>exact q1 _ H1 g1 s1 ⟨_,_,rfl,.inl e,r⟩
 | _=>exact q1.elim) q⟩⟩
def vk (h:LF X K fs e wl):IF X K fs e wl:=cp (vC h)
theorem IF.q (h:IF X K fs e wl):QF X K fs e wl:=⟨PE.imp h.p λσ H Q ⟨sr,q⟩=>⟨sr,wl.mono (λl q1 u1 H1 g1 s1 v1=>q1 u1 H1 g1 s1 (.inl v1)) q⟩⟩
def aq (h:EF X K fs e w):QF X K fs e (.bind w aw):=(cp h).q
def fh (h:LF X K fs e wl):QF X K fs e wl:=⟨PE.imp h.p λσ H Q ⟨sr,q⟩=>⟨sr,wl.mono (λl q1 a vs H1 g1 s1 n e v=>q1 _ H1 g1 s1 (.inr ⟨a,rfl,.inl ⟨sr.noOwn n,vs,e,v⟩⟩)) q⟩⟩
def cy (i:Nat) {x:Str}{q0:Option dL}{l:List PV} (hs:fs[i]?=ap (ap (.ol q0 l)):=by rfl) (hN:X.N[i]?=ap x:=by rfl) (hv:ym X.env.scope x:=by first | exact Cw rfl | exact Cn (Cw rfl) | exact Cn (Cn rfl)) (hd:(x==("__debug__":Str))=false:=by decide) (i6:(x==("__classdict__":Str))=false:=by decide):QF X K fs (.Name x pos) (.ret l):=
 ⟨PE.imp (dr hN hv hd i6) λσ H Q ⟨sr,q⟩=>by
  obtain⟨u,e1,r⟩:=sr.at' i _ hs;rcases r with⟨w,e,r⟩ | ⟨a,e,r⟩
  ·cases e
  ·subst e;exact⟨_,e1,q _ H .refl sr (.inr ⟨a,rfl,.inr ⟨i,q0,hs,e1⟩⟩)⟩⟩
def Jq (l:List PV):PV->W PV
 | .int i=>.Ng (ck l i)
 | _=>.fail
def aB (hK:X.K=K) (ha:QF X K fs a wl) (hb:EF X K fs b wb) (hs:rf b):EF X K fs (.Subscript a b pos) (.bind wl λl=>.bind wb λy=>Jq l y):=⟨PE.imp (M4 (Jp K hK) ha.p hb.p hs) λσ H Q ⟨sr,q⟩=>⟨sr,wl.mono (λl q1 u1 H1 g1 s1 v1=>⟨s1,wb.mono (λy q2 u2 H2 g2 s2 v2=>by
 cases v2 with
 | int i=>
  have q2:(W.Ng (ck l i)).run _:=q2;cases z:ck l i with
  | none=>rw [z] at q2;exact q2.elim
  | some x=>
   rw [z] at q2;obtain⟨ad,vs,rfl,h,rs⟩:=(v1.go s1 g2).sq s2;obtain⟨v,e1,e2⟩:=aN.ck rs z;have q3:=q2 v H2 (g1.trans g2) s2 e2;exact h.elim (λh=>.inl ⟨ad,vs,i,v,rfl,rfl,h,e1,q3⟩) λh=>.inr (.inl ⟨ad,vs,i,v,rfl,rfl,h,e1,q3⟩)
 | _=>exact q2.elim) q1⟩) q⟩⟩
def aap (ha:EF X K fs a wa) (hb:EF X K fs b wb) (hs:rf b):EF X K fs (.Subscript a b pos) (.bind wa λx=>.bind wb λy=>of2 Ni x y):=⟨PE.imp (M4 NM ha.p hb.p hs) (JB Q0)⟩
def qe (m:vP) (l:List PV):W PV:=⟨λQ=>m.f l [] λz h=>h=[]/\Q z,λf q=>m.mono (λ_ _ q=>⟨q.1,f _ q.2⟩) q⟩
section
variable {x:Str}{id:String}{r:List V->Hp->VK->Prop}{B:(List PV->W PV)->W PV}{n:Nat}
def Nh {m:vP} (hm:vP.Ok K r m) {σ:L2.St}{H:Hp}{Q:VK}{us:List V}{l:List PV} (sr:a6 K H σ fs) (hu:aN K [] H us l) (q:(qe m l).run λz=>∀u H',c7 σ fs H H'->a6 K H' σ fs->VR K [] H' u z->Q u H'):r us H Q:=hm (hr0 H) hu (m.mono (λz h q=>pq0 sr q) q)
def q8 {m:vP} (hc:bZ X (.builtin id) r) (hB:vP.Ok K r m) (hg:Gl X x) (hm:X.mg x=bv) (hv:re x=ap (.builtin id)) (ha:AF X K fs (e::es) (Am n .v) B) (hn:x≠"__name__":=by decide) (n8:(x==("__debug__":Str))=false:=by decide)
  (he:ci (e::es) X.env=(false,lm e X.env)::ci es X.env:=by rfl) (dR:(mo pos (ci es X.env)).any (·.1)=false:=by rfl):EF X K fs (.Call (.Name x p) (e::es) [] pos) (B (qe m)):=by
 obtain⟨w,hp,ħ⟩:=ha.p;rw [ħ];exact⟨PE.imp (fJ hc hg hm hv hp hn n8 he dR) λσ H Q ⟨sr,q⟩=>⟨sr,w.mono (λl q1 vs H1 g1 s1 v1=>Nh hB s1 v1.LP.1 ((qe m l).mono (λz q u H' g s v=>q u H' (g1.trans g) s v) q1)) q⟩⟩
def OP {m:vP} (hc:bZ X (.type id) r) (hB:vP.Ok K r m) (hg:Gl X x) (hm:X.mg x=bv) (hv:re x=ap (.type id)) (ha:AF X K fs (e::es) (Am n .v) B) (hn:x≠"__name__":=by decide) (n8:(x==("__debug__":Str))=false:=by decide)
  (he:ci (e::es) X.env=(false,lm e X.env)::ci es X.env:=by rfl) (dR:(mo pos (ci es X.env)).any (·.1)=false:=by rfl):EF X K fs (.Call (.Name x p) (e::es) [] pos) (B (qe m)):=by
 obtain⟨w,hp,ħ⟩:=ha.p;rw [ħ];exact⟨PE.imp (lV hc hg hm hv hp hn n8 he dR) λσ H Q ⟨sr,q⟩=>⟨sr,w.mono (λl q1 vs H1 g1 s1 v1=>Nh hB s1 v1.LP.1 ((qe m l).mono (λz q u H' g s v=>q u H' (g1.trans g) s v) q1)) q⟩⟩
def CQ (K:Ab) (r:List V->Hp->VK->Prop) (m:List PV->W PV):Prop:=∀{fs:bh}{σ:L2.St}{H:Hp}{Q:VK}{u:V}{l:List PV},a6 K H σ fs->SH K σ fs H u l->((m l).run λz=>∀u H',c7 σ fs H H'->a6 K H' σ fs->VR K [] H' u z->Q u H')->r [u] H Q
def CL (K:Ab) (r:List V->Hp->VK->Prop) (m:List PV->W (List PV)):Prop:=∀{fs:bh}{σ:L2.St}{H:Hp}{Q:VK}{u:V}{l:List PV},a6 K H σ fs->SH K σ fs H u l->((m l).run λz=>∀a vs H',c7 σ fs H H'->a6 K H' σ fs->H a=bv->H' a=ap (.lst vs)->aN K [] H' vs z->Q (.ref a) H')->r [u] H Q
def OQ {m:List PV->W PV} (hc:bZ X (.builtin id) r) (hB:CQ K r m) (hg:Gl X x) (hm:X.mg x=bv) (hv:re x=ap (.builtin id)) (ha:QF X K fs e wl) (hn:x≠"__name__":=by decide) (n8:(x==("__debug__":Str))=false:=by decide)
  (he:ci [e] X.env=(false,lm e X.env)::ci [] X.env:=by rfl) (dR:(mo pos (ci [] X.env)).any (·.1)=false:=by rfl):EF X K fs (.Call (.Name x p) [e] [] pos) (.bind wl m):=⟨PE.imp (fJ hc hg hm hv (bw ha.p cY he) hn n8 he dR) λσ H Q ⟨sr,q⟩=>⟨sr,wl.mono (λl q1 u H1 g1 s1 v1=>hB s1 v1 ((m l).mono (λz q u H' g s v=>q u H' (g1.trans g) s v) q1)) q⟩⟩
def Lh {m:List PV->W PV} (hc:bZ X (.type id) r) (hB:CQ K r m) (hg:Gl X x) (hm:X.mg x=bv) (hv:re x=ap (.type id)) (ha:QF X K fs e wl) (hn:x≠"__name__":=by decide) (n8:(x==("__debug__":Str))=false:=by decide)
  (he:ci [e] X.env=(false,lm e X.env)::ci [] X.env:=by rfl) (dR:(mo pos (ci [] X.env)).any (·.1)=false:=by rfl):EF X K fs (.Call (.Name x p) [e] [] pos) (.bind wl m):=⟨PE.imp (lV hc hg hm hv (bw ha.p cY he) hn n8 he dR) λσ H Q ⟨sr,q⟩=>⟨sr,wl.mono (λl q1 u H1 g1 s1 v1=>hB s1 v1 ((m l).mono (λz q u H' g s v=>q u H' (g1.trans g) s v) q1)) q⟩⟩
def aa7 {m:List PV->W (List PV)} (hc:bZ X (.builtin id) r) (hB:CL K r m) (hg:Gl X x) (hm:X.mg x=bv) (hv:re x=ap (.builtin id)) (ha:QF X K fs e wl) (hn:x≠"__name__":=by decide) (n8:(x==("__debug__":Str))=false:=by decide)
  (he:ci [e] X.env=(false,lm e X.env)::ci [] X.env:=by rfl) (dR:(mo pos (ci [] X.env)).any (·.1)=false:=by rfl):LF X K fs (.Call (.Name x p) [e] [] pos) (.bind wl m):=⟨PE.imp (fJ hc hg hm hv (bw ha.p cY he) hn n8 he dR) λσ H Q ⟨sr,q⟩=>⟨sr,wl.mono (λl q1 u H1 g1 s1 v1=>hB s1 v1 ((m l).mono (λz q a vs H' g s n e v=>q a vs H' (g1.trans g) s (g1.there a n) e v) q1)) q⟩⟩
def ND {m:List PV->W (List PV)} (hc:bZ X (.type id) r) (hB:CL K r m) (hg:Gl X x) (hm:X.mg x=bv) (hv:re x=ap (.type id)) (ha:QF X K fs e wl) (hn:x≠"__name__":=by decide) (n8:(x==("__debug__":Str))=false:=by decide)
  (he:ci [e] X.env=(false,lm e X.env)::ci [] X.env:=by rfl) (dR:(mo pos (ci [] X.env)).any (·.1)=false:=by rfl):LF X K fs (.Call (.Name x p) [e] [] pos) (.bind wl m):=⟨PE.imp (lV hc hg hm hv (bw ha.p cY he) hn n8 he dR) λσ H Q ⟨sr,q⟩=>⟨sr,wl.mono (λl q1 u H1 g1 s1 v1=>hB s1 v1 ((m l).mono (λz q a vs H' g s n e v=>q a vs H' (g1.trans g) s (g1.there a n) e v) q1)) q⟩⟩
end
def qi (l:List PV):W PV:=.ret (.int l.length)
def Rf (K:Ab):CQ K (UQ K) qi:=λ{fs σ H Q u l} s v q=>by
 obtain⟨a,vs,rfl,h,rs⟩:=v.sq s;refine⟨_,vs.length,rfl,?_,?_⟩
 ·exact h.elim (λh=>.inl ⟨_,h,rfl⟩) λh=>.inr ⟨_,h,rfl⟩
 ·rw [rs.length];exact q _ H .refl s (.int _)
def oU (l:List PV):W PV:=.ret (.tup l)
def PY (K:Ab):CQ K (MB K) oU:=λ{fs σ H Q u l} s v q=>by
 have fresh:∀{a:dL}{vs:List V},dq K H a vs->aN K [] H vs l->MB K [.ref a] H Q:=λ{a vs} h rs=>⟨a,vs,rfl,.inl ⟨h,λp H2 s2 e2 n2=>q _ H2 (c7.same s2) (s.same s2) (.tup e2 (aN.tk s2.eO rs))⟩⟩;rcases v with⟨a,vs,rfl,h | h,rs⟩ | ⟨a,rfl,⟨n,vs,h,rs⟩ | ⟨i,_,q1,q2⟩⟩
 ·exact fresh h.sq rs
 ·exact⟨a,vs,rfl,.inr ⟨d7.of h,q _ H .refl s (.tup h rs)⟩⟩
 ·exact fresh (dq.of h) rs
 ·obtain⟨_,vs,h,rs⟩:=s.ownAt q1 rfl q2;exact fresh (dq.of h) rs
end
end
section
open PySem PySem.Spec PyProof.Rows L2 PL
variable {K:Ab}
def yu (vs:List V) (ks:List AK) (φ:List V->Prop) (a:dL):Prop:=∃i:Nat,ks[i]?=ap (.p φ)/\vs[i]?=ap (.ref a)
structure GoC (vs:List V) (ks:List AK) (H H':Hp):Prop where
 keep:∀a o,H a=ap o->(∀φ,¬yu vs ks φ a)->H' a=ap o
 there:∀a,H' a=bv->H a=bv
 U3:∀a φ,yu vs ks φ a->∃ws,H' a=ap (.lst ws)/\φ ws
inductive jh (K:Ab) (H:Hp):List V->List AK->List PV->Prop
 | nil:jh K H [] [] []
 | v {u:V}{x:PV}{vs:List V}{ks:List AK}{l:List PV} (r:VR K [] H u x) (t:jh K H vs ks l):jh K H (u::vs) (.v::ks) (x::l)
 | p {a:dL}{φ:List V->Prop}{ws vs:List V}{ks:List AK}{l:List PV} (e:H a=ap (.lst ws)) (r:φ ws) (t:jh K H vs ks l):jh K H (.ref a::vs) (.p φ::ks) l
 | f {a:dL}{vs:List V}{ks:List AK}{l:List PV} (t:jh K H vs ks l):jh K H (.ref a::vs) (.f a::ks) l
def eF (K:Ab) (ks:List AK) (m:List PV->W PV):Sp:=λvs H Q _=>∃l,jh K H vs ks l/\(m l).run λv=>∀u H',GoC vs ks H H'->VR K [] H' u v->Q u H'
def gs (K:Ab) (ks:List AK) (m:List PV->W (List PV)):Sp:=λvs H Q _=>∃l,jh K H vs ks l/\(m l).run λz=>∀a ws H',GoC vs ks H H'->H a=bv->H' a=ap (.lst ws)->aN K [] H' ws z->Q (.ref a) H'
def PF (R:Type):Nat->Type
 | 0=>W R
 | n+1=>PV->PF R n
def cv {R:Type}:(n:Nat)->PF R n->List PV->W R
 | 0,m,[]=>m
 | n+1,m,x::l=>cv n (m x) l
 | 0,_,_::_=>.fail
 | _+1,_,[]=>.fail
section
variable {σ:L2.St}{fs:bh}{H H':Hp}{vs:List V}{ks:List AK}{l:List PV}
def fZ.kK (h:fZ K σ fs H vs ks l) {φ:List V->Prop}{a:dL} (p:yu vs ks φ a):eZ σ fs φ a:=by
 obtain⟨i,e1,e2⟩:=p
 induction h generalizing i with
 | nil=>simp at e1
 | v r t ih=>cases i with | zero=>simp at e1 | succ i=>exact ih i (by simpa using e1) (by simpa using e2)
 | p r t ih=>
  cases i with
  | zero=>simp at e1 e2;subst e1;subst e2;exact r
  | succ i=>exact ih i (by simpa using e1) (by simpa using e2)
 | f t ih=>cases i with | zero=>simp at e1 | succ i=>exact ih i (by simpa using e1) (by simpa using e2)
def fZ.c (h:fZ K σ fs H vs ks l) (s:a6 K H σ fs):jh K H vs ks l:=by
 induction h with
 | nil=>exact .nil
 | v r t ih=>exact .v r ih
 | p r t ih=>
  obtain⟨i,e1,e2⟩:=r;obtain⟨ws,q,x⟩:=s.ownAt e1 rfl e2;exact .p q x ih
 | f t ih=>exact .f ih
def GoC.caller (g:GoC vs ks H H') (h:fZ K σ fs H vs ks l) (s:a6 K H σ fs):a6 K H' σ fs/\c7 σ fs H H':=by
 have gf:c7 σ fs H H':=⟨λa o e n=>g.keep a o e λφ p=>n φ (h.kK p),g.there⟩;have tk:=gf.eM s;refine⟨⟨s.len,λi t e=>?_,s.nd⟩,gf⟩;obtain⟨u,h1,h2⟩:=s.at' i t e;refine⟨u,h1,?_⟩;rcases h2 with⟨v,q,r⟩ | ⟨a,q,r⟩
 ·exact .inl ⟨v,q,VR.tk tk r⟩
 ·subst q;refine .inr ⟨a,rfl,?_⟩;by_cases c:(∃φ,yu vs ks φ a)/\t.own=true
  ·obtain⟨⟨φ,p⟩,ow⟩:=c;obtain⟨j,e1,e2⟩:=h.kK p;have ij:=s.nd i j t _ a a a e e1 ow rfl h1 e2 (.inl rfl) (.inl rfl);subst ij;rw [e] at e1;cases e1;exact g.U3 a φ p
  ·refine r.mono tk (λb o ow hb z=>g.keep b o z λφ p=>?_);obtain⟨j,e1,e2⟩:=h.kK p;have ij:=s.nd i j t _ a b b e e1 ow rfl h1 e2 hb (.inl rfl);subst ij;rw [h1] at e2;cases e2;exact c ⟨⟨φ,p⟩,ow⟩
end
section
variable {X:Cx}{e:ga}{es:List ga}{pos p:Pos}{fs:bh}{k k':Nat}{ps:List Str}{x:Str}{ks:List AK}
def WC {m:List PV->W PV}{B:(List PV->W PV)->W PV} (G:SQ X.prog X.w X.K X.mg X.base x k ps (eF K ks m)) (hr:da k' X.A) (hk:k<=k') (hg:Gl X x) (ha:AF X K fs (e::es) ks B) (n8:(x==("__debug__":Str))=false:=by decide)
  (he:ci (e::es) X.env=(false,lm e X.env)::ci es X.env:=by rfl) (dR:(mo pos (ci es X.env)).any (·.1)=false:=by rfl):EF X K fs (.Call (.Name x p) (e::es) [] pos) (B m):=by
 obtain⟨w,hp,hB⟩:=ha.p;rw [hB];exact⟨PE.imp (M9 G hr hk hg hp n8 he dR) λσ H Q ⟨sr,q⟩=>⟨sr,w.mono (λl q1 vs H1 g1 s1 v1=>⟨l,v1.c s1,(m l).mono (λz q2 u H2 g2 r2=>let ⟨s2,g3⟩:=g2.caller v1 s1;q2 u H2 (g1.trans g3) s2 r2) q1⟩) q⟩⟩
def VG {m:List PV->W (List PV)}{B:(List PV->W (List PV))->W (List PV)} (G:SQ X.prog X.w X.K X.mg X.base x k ps (gs K ks m)) (hr:da k' X.A) (hk:k<=k') (hg:Gl X x) (ha:AF X K fs (e::es) ks B) (n8:(x==("__debug__":Str))=false:=by decide)
  (he:ci (e::es) X.env=(false,lm e X.env)::ci es X.env:=by rfl) (dR:(mo pos (ci es X.env)).any (·.1)=false:=by rfl):LF X K fs (.Call (.Name x p) (e::es) [] pos) (B m):=by
 obtain⟨w,hp,hB⟩:=ha.p;rw [hB];exact⟨PE.imp (M9 G hr hk hg hp n8 he dR) λσ H Q ⟨sr,q⟩=>⟨sr,w.mono (λl q1 vs H1 g1 s1 v1=>⟨l,v1.c s1,(m l).mono (λz q2 a ws H2 g2 n2 e2 r2=>let ⟨s2,g3⟩:=g2.caller v1 s1;q2 a ws H2 (g1.trans g3) s2 (g1.there a n2) e2 r2) q1⟩) q⟩⟩
end
end
section
open PySem PySem.Spec PyProof.Rows L2 PL
variable {K:Ab}
inductive End where
 | nx (fs:bh) | nc (fs:bh) | ct (fs:bh) | rt (v:PV) | rl (l:List PV) | bk (fs:bh) | ro (v:PV) (a:dL) (l:List PV)
def yx (σ:L2.St) (fs:bh) (H:Hp) (a:dL):Prop:=H a=bv\/∃(i:Nat) (s:SL) (x:dL),fs[i]?=ap (ap s)/\s.own=true/\(∀φ,s≠.kK φ)/\σ[i]?=ap (ap (.ref x))/\s.has x a
def bT (K:Ab) (x:Bool) (σ:L2.St) (fs:bh) (H:Hp) (D:Ends):End->Prop
 | .nx bP=>x=false->∀σ' H',cP σ fs H σ' bP H'->a6 K H' σ' bP->D.nx σ' H'
 | .nc bP=>∀σ' H',cP σ fs H σ' bP H'->a6 K H' σ' bP->(x=false->D.nx σ' H')/\D.ct σ' H'
 | .ct bP=>∀σ' H',cP σ fs H σ' bP H'->a6 K H' σ' bP->D.ct σ' H'
 | .bk bP=>∀σ' H',cP σ fs H σ' bP H'->a6 K H' σ' bP->D.bk σ' H'
 | .rt v=>∀u σ' bP H',cP σ fs H σ' bP H'->a6 K H' σ' bP->VR K [] H' u v->D.rt u H'
 | .ro v a l=>∀u σ' bP H',cP σ fs H σ' bP H'->a6 K H' σ' bP->(∃i:Nat,bP[i]?=ap (ap (.ol (ap a) l)))->VR K [] H' u v->D.rt u H'
 | .rl l=>∀a ws σ' bP H',cP σ fs H σ' bP H'->a6 K H' σ' bP->yx σ fs H a->H' a=ap (.lst ws)->aN K [] H' ws l->D.rt (.ref a) H'
def fS (K:Ab) (x:Bool) (fs:bh) {T:Type} (w:W T) (out:T->End):TS:=λD σ H=>a6 K H σ fs/\w.run λt=>bT K x σ fs H D (out t)
structure SF (X:Cx) (K:Ab) (x:Bool) (fs:bh) (Pp:List ul) {T:Type} (w:W T) (out:T->End):Prop where p:rg X Pp (fS K x fs w out)
section
variable {σ σ1:L2.St}{fs RP:bh}{H H1:Hp}{D:Ends}{x:Bool}
def yx.go {a:dL} (g:cP σ fs H σ1 RP H1) (s:a6 K H σ fs) (s1:a6 K H1 σ1 RP) (h:yx σ1 RP H1 a):yx σ fs H a:=by
 rcases h with h | ⟨i,t,x,e1,e2,np,e3,e4⟩
 ·exact .inl (g.there a h)
 ·cases z:H a with
  | none=>exact .inl z
  | some o=>
   by_cases c:dI σ fs a
   ·obtain⟨j,t',y,c1,c2,c3,c4⟩:=c;by_cases d:∃φ,t'=.kK φ
    ·obtain⟨φ,rfl⟩:=d;rcases c4 with rfl | c4
     ·rcases g.pk a φ ⟨j,c1,c3⟩ with⟨k,k1,k2⟩ | ⟨n,_⟩
      ·have:=s1.nd i k t _ x a a e1 k1 e2 rfl e3 k2 e4 (.inl rfl);subst this;rw [e1] at k1;cases k1;exact absurd rfl (np φ)
      ·exact absurd ⟨i,t,x,e1,e2,e3,e4⟩ n
     ·cases c4
    ·exact .inr ⟨j,t',y,c1,c2,λφ e=>d ⟨φ,e⟩,c3,c4⟩
   ·exact absurd ⟨i,t,x,e1,e2,e3,e4⟩ (g.keep a o z c).2
def bT.go (g:cP σ fs H σ1 RP H1) (s:a6 K H σ fs) (s1:a6 K H1 σ1 RP) {E:End} (h:bT K x σ fs H D E):bT K x σ1 RP H1 D E:=by
 cases E with
 | nx bP=>exact λhx σ' H' g' s'=>h hx σ' H' (g.trans g') s'
 | nc bP=>exact λσ' H' g' s'=>h σ' H' (g.trans g') s'
 | bk bP=>exact λσ' H' g' s'=>h σ' H' (g.trans g') s'
 | ct bP=>exact λσ' H' g' s'=>h σ' H' (g.trans g') s'
 | rt v=>exact λu σ' bP H' g' s' r=>h u σ' bP H' (g.trans g') s' r
 | ro v a l=>exact λu σ' bP H' g' s' o r=>h u σ' bP H' (g.trans g') s' o r
 | rl l=>exact λa ws σ' bP H' g' s' f e r=>h a ws σ' bP H' (g.trans g') s' (f.go g s s1) e r
def bT.exit {D':Ends} (h1:D'.rt=D.rt) (h2:D'.ct=D.ct) (h3:D'.bk=D.bk) {E:End} (h:bT K x σ fs H D E):bT K true σ fs H D' E:=by
 cases E with
 | nx bP=>exact λhx=>nomatch hx
 | nc bP=>exact λσ' H' g' s'=>⟨λhx=>(nomatch hx),h2▸(h σ' H' g' s').2⟩
 | bk bP=>exact λσ' H' g' s'=>h3▸h σ' H' g' s'
 | ct bP=>exact λσ' H' g' s'=>h2▸h σ' H' g' s'
 | rt v=>exact λu σ' bP H' g' s' r=>h1▸h u σ' bP H' g' s' r
 | ro v a l=>exact λu σ' bP H' g' s' o r=>h1▸h u σ' bP H' g' s' o r
 | rl l=>exact λa ws σ' bP H' g' s' f e r=>h1▸h a ws σ' bP H' g' s' f e r
end
section
variable {X:Cx}{a b c e o:ga}{pos p:Pos}{fs bP:bh}{st:ul}{Pp rest sa sb:List ul}{T T1:Type}{w wk:W T}{out:T->End}{we:W PV}{wl:W (List PV)}{x:Bool}
def End.Jt:End->Prop
 | .rt _=>True
 | .rl _=>True
 | .ro _ _ _=>True
 | _=>False
def bT.YZ {σ:L2.St}{H:Hp}{D D':Ends}{y:Bool}{E:End} (ho:E.Jt) (e:D'.rt=D.rt) (h:bT K x σ fs H D E):bT K y σ fs H D' E:=by
 cases E with
 | rt v=>exact λu σ' bP H' g s r=>e▸h u σ' bP H' g s r
 | rl v=>exact λa ws σ' bP H' g s f ea r=>e▸h a ws σ' bP H' g s f ea r
 | ro v a l=>exact λu σ' bP H' g s o r=>e▸h u σ' bP H' g s o r
 | _=>exact ho.elim
def yH (X:Cx) (K:Ab) (x:Bool) (rest:List ul) {T:Type} (out:T->End):TS:=λD σ H=>∃bP w',SF X K x bP rest w' out/\fS K x bP w' out D σ H
def Qp:rg X rest (yH X K x rest out):=λZ s σ H D I ⟨bP,w',h,q⟩=>h.p Z s σ H D I q
def Nm:rg X rest Uv:=λ_ _ _ _ _ _ h=>h.elim
def SF.step {t:TS} (h:PS X st t) (hq:∀D σ H,fS K x fs w out D σ H->t {D with nx:=yH X K x rest out D} σ H):SF X K x fs (st::rest) w out:=⟨rg.imp (yR h Qp) λD σ H q=>hq D σ H q⟩
def SF.last {t:TS} (h:PS X st t) (hq:∀D σ H,fS K x fs w out D σ H->t {D with nx:=λ_ _=>False} σ H):SF X K x fs (st::rest) w out:=⟨rg.imp (yR h Nm) λD σ H q=>hq D σ H q⟩
def SF.nil {t:T} (h:out t=.nx bP) (hl:jO fs bP):SF X K false fs [] (.ret t) out:=⟨rg.imp wK λD σ H ⟨sr,q⟩=>by
 have q:bT K false σ fs H D (out t):=q;rw [h] at q;exact q rfl σ H (cP.le sr hl) (sr.le hl)⟩
def SF.gc {t:T} (h:out t=.nc bP) (hl:jO fs bP):SF X K false fs [] (.ret t) out:=⟨rg.imp wK λD σ H ⟨sr,q⟩=>by
 have q:bT K false σ fs H D (out t):=q;rw [h] at q;exact (q σ H (cP.le sr hl) (sr.le hl)).1 rfl⟩
def SF.cont {t:T} (h:out t=.nc bP\/out t=.ct bP) (hl:jO fs bP):SF X K x fs (.Continue pos::rest) (.ret t) out:=SF.last yU λD σ H ⟨sr,q⟩=>by
 have q:bT K x σ fs H D (out t):=q;rcases h with h | h
 ·rw [h] at q;exact (q σ H (cP.le sr hl) (sr.le hl)).2
 ·rw [h] at q;exact q σ H (cP.le sr hl) (sr.le hl)
def SF.ret {k:PV->T} (he:EF X K fs e we) (h:∀v,out (k v)=.rt v):SF X K x fs (.Return (ap e) pos::rest) (.bind we λv=>.ret (k v)) out:=SF.last (wL he.p) λD σ H ⟨sr,q⟩=>⟨sr,we.mono (λv q1 u H1 g1 s1 v1=>by
 have q1:bT K x σ fs H D (out (k v)):=q1;rw [h] at q1;exact q1 u σ fs H1 g1.f s1 v1) q⟩
def SF.bC {out:PV->End} (he:EF X K fs e we) (h:∀v,out v=.rt v):SF X K x fs (.Return (ap e) pos::rest) we out:=SF.ret (k:=λv=>v) he h
def SF.acy {k:List PV->T} (he:LF X K fs e wl) (h:∀l,out (k l)=.rl l):SF X K x fs (.Return (ap e) pos::rest) (.bind wl λl=>.ret (k l)) out:=SF.last (wL he.p) λD σ H ⟨sr,q⟩=>⟨sr,wl.mono (λl q1 a ws H1 g1 s1 n e v1=>by
 have q1:bT K x σ fs H D (out (k l)):=q1;rw [h] at q1;exact q1 a ws σ fs H1 g1.f s1 (.inl n) e v1) q⟩
def SF.k8 {out:List PV->End} (he:LF X K fs e wl) (h:∀v,out v=.rl v):SF X K x fs (.Return (ap e) pos::rest) wl out:=SF.acy (k:=λv=>v) he h
def SF.Mv (i:Nat) {y:Str}{q0:Option dL}{l:List PV}{t:T} (hs:fs[i]?=ap (ap (.ol q0 l))) (h:out t=.rl l) (hN:X.N[i]?=ap y:=by rfl) (hv:ym X.env.scope y:=by first | exact Cw rfl | exact Cn (Cw rfl) | exact Cn (Cn rfl)) (hd:(y==("__debug__":Str))=false:=by decide) (i6:(y==("__classdict__":Str))=false:=by decide):SF X K x fs (.Return (ap (.Name y p)) pos::rest) (.ret t) out:=SF.last (wL (dr hN hv hd i6)) λD σ H ⟨sr,q⟩=>by
 have q:bT K x σ fs H D (out t):=q;rw [h] at q;obtain⟨u,e1,r⟩:=sr.at' i _ hs;rcases r with⟨v,e,_⟩ | ⟨a,e,r⟩
 ·cases e
 ·subst e;obtain⟨_,ws,q1,q2⟩:=r;exact⟨_,e1,q a ws σ fs H .refl sr (.inr ⟨i,_,_,hs,rfl,by simp,e1,.inl rfl⟩) q1 q2⟩
def SF.YB (i:Nat) {ad:dL}{l:List PV}{k:PV->T} (hs:fs[i]?=ap (ap (.ol (ap ad) l))) (he:EF X K fs e we) (h:∀v,out (k v)=.ro v ad l):SF X K x fs (.Return (ap e) pos::rest) (.bind we λv=>.ret (k v)) out:=SF.last (wL he.p) λD σ H ⟨sr,q⟩=>⟨sr,we.mono (λv q1 u H1 g1 s1 v1=>by
 have q1:bT K x σ fs H D (out (k v)):=q1;rw [h] at q1;exact q1 u σ fs H1 g1.f s1 ⟨i,hs⟩ v1) q⟩
def SF.expr {k:PV->W T} (he:EF X K fs e we) (hr:∀v,SF X K x fs rest (k v) out) (hs:o0 e bv pos.line X.env=pure false:=by rfl):SF X K x fs (.Expr e pos::rest) (.bind we k) out:=SF.step (nM he.p hs) λD σ H ⟨sr,q⟩=>
 ⟨sr,we.mono (λv q1 u H1 g1 s1 v1=>⟨fs,k v,hr v,s1,(k v).mono (λt q2=>q2.go g1.f sr s1) q1⟩) q⟩
def SF.set {i:Nat}{y:Str}{p':Pos}{k:PV->W T} (hN:X.N.Nodup) (hi:X.N[i]?=ap y) (hx:Loc X.env.scope y) (he:EF X K fs e we) (hr:∀v,SF X K x (fs.set i (ap (.val v))) rest (k v) out) (hs:o0 e (ap (.Name y p')) pos.line X.env=pure false:=by rfl)
  (hf:X.fn y=true\/X.env.scope.names.lookup y=ap .local:=by first | exact .inl rfl | exact .inr rfl | assumption):SF X K x fs (.Assign [.Name y p'] e pos::rest) (.bind we k) out:=SF.step (rS hN hi hx he.p hs hf) λD σ H ⟨sr,q⟩=>
 ⟨sr,we.mono (λv q1 u H1 g1 s1 v1=>⟨_,k v,hr v,s1.eN v1 i,(k v).mono (λt q2=>q2.go (g1.f.trans (cP.eN s1 u v i)) sr (s1.eN v1 i)) q1⟩) q⟩
def SF.acv {i:Nat}{y:Str}{p':Pos}{k:List PV->W T} (hN:X.N.Nodup) (hi:X.N[i]?=ap y) (hx:Loc X.env.scope y) (he:LF X K fs e wl) (hr:∀l,SF X K x (fs.set i (ap (.ol bv l))) rest (k l) out) (hs:o0 e (ap (.Name y p')) pos.line X.env=pure false:=by rfl)
  (hf:X.fn y=true\/X.env.scope.names.lookup y=ap .local:=by first | exact .inl rfl | exact .inr rfl | assumption):SF X K x fs (.Assign [.Name y p'] e pos::rest) (.bind wl k) out:=SF.step (rS hN hi hx he.p hs hf) λD σ H ⟨sr,q⟩=>by
 refine⟨sr,wl.mono (λl q1 a ws H1 g1 s1 n e v1=>?_) q⟩;have no:=sr.noOwn n;have s2:=s1.rR (t:=.ol bv l) ⟨by simp,ws,e,v1⟩ no i;exact⟨_,k l,hr l,s2,(k l).mono (λt q2=>q2.go (cP.rR s1 g1.f no n i) sr s2) q1⟩
def SF.cU (i:Nat) {q0:Option dL}{l:List PV} (hs:fs[i]?=ap (ap (.ol q0 l))) (hr:SF X K x (fs.set i (ap (.val (.cl l)))) Pp w out):SF X K x fs Pp w out:=⟨λZ s σ H D I ⟨sr,q⟩=>by
 obtain⟨u,e1,r⟩:=sr.at' i _ hs;rcases r with⟨v,e,_⟩ | ⟨a,e,_,ws,q1,q2⟩
 ·cases e
 ·subst e;obtain⟨ob,I2⟩:=I.qW q1;have tk:=lT (K:=K) (.cU ob (.lst ws)) q1;have sS:σ.set i (ap (.ref a))=σ:=BB λj=>by
   by_cases c:j=i
   ·subst c;rw [cJ ((Al.mp e1).1),e1]
   ·rw [aK c]
  have ow:∀b,dI σ (fs.set i (ap (.val (.cl l)))) b->dI σ fs b:=λb z=>by
   obtain⟨j,t,x,z1,z2,z3,z4⟩:=z;rcases bq z1 with⟨rfl,rfl⟩ | ⟨n,z1⟩
   ·cases z2
   ·exact⟨j,t,x,z1,z2,z3,z4⟩
  have na:¬dI σ (fs.set i (ap (.val (.cl l)))) a:=λz=>by
   obtain⟨j,t,x,z1,z2,z3,z4⟩:=z;rcases bq z1 with⟨rfl,rfl⟩ | ⟨n,z1⟩
   ·cases z2
   ·exact n (sr.nd j i t _ x a a z1 hs z2 rfl z3 e1 z4 (.inl rfl))
  have s2:a6 K (upd H a (.cU ob (.lst ws))) σ (fs.set i (ap (.val (.cl l)))):=by
   refine⟨by simp [sr.len],λj t z=>?_,λj k t u b1 b2 b z1 z2 o1 o2=>?_⟩
   ·rcases bq z with⟨rfl,rfl⟩ | ⟨n,z⟩
    ·exact⟨_,e1,.inl ⟨_,rfl,.cl (.inl ⟨ob,aR⟩) (aN.tk tk q2)⟩⟩
    ·obtain⟨u,h1,h2⟩:=sr.at' j t z;exact⟨u,h1,h2.mono tk (λx b o eb ow hb zz=>by
      subst eb;rw [aF (λy=>by subst y;exact n (sr.nd j i t _ x b b z hs ow rfl h1 e1 hb (.inl rfl)))];exact zz)⟩
   ·rcases bq z1 with⟨rfl,rfl⟩ | ⟨n1,z1⟩
    ·cases o1
    ·rcases bq z2 with⟨rfl,rfl⟩ | ⟨n2,z2⟩
     ·cases o2
     ·exact sr.nd j k t u b1 b2 b z1 z2 o1 o2
  have g2:cP σ fs H σ (fs.set i (ap (.val (.cl l)))) (upd H a (.cU ob (.lst ws))):=by
   refine⟨λb o z n=>⟨?_,λy=>n (ow b y)⟩,λb z=>?_,λb φ z=>?_⟩
   ·rw [aF (λy=>by subst y;exact n ⟨i,_,_,hs,rfl,e1,.inl rfl⟩)];exact z
   ·by_cases c:b=a
    ·subst c;rw [aR] at z;cases z
    ·rw [aF c] at z;exact z
   ·obtain⟨j,z1,z2⟩:=z;have:j≠i:=λy=>by subst y;rw [hs] at z1;cases z1
    exact .inl ⟨j,by rw [aK this];exact z1,z2⟩
  exact hr.p Z s σ _ D I2 ⟨s2,w.mono (λt q3=>q3.go g2 sr s2) q⟩⟩
variable {tc:W Bool}
def SF.V0 (hc:TF X K fs c tc) (ha:SF X K x fs sa w out) (hb:SF X K x fs sb wk out):SF X K x fs [.If c sa sb pos] (.bind tc λb=>if b=true then w else wk) out:=⟨rg.imp (Qx (MN hc.p ha.p hb.p)) λD σ H ⟨sr,q⟩=>⟨sr,tc.mono (λk q1 H1 g1 s1=>by
 cases k with
 | true=>exact uz ⟨s1,w.mono (λt q2=>q2.go g1.f sr s1) q1⟩
 | false=>exact uA ⟨s1,wk.mono (λt q2=>q2.go g1.f sr s1) q1⟩) q⟩⟩
def SF.sN (hc:TF X K fs c tc) (ha:SF X K true fs sa w out) (hb:SF X K x fs rest wk out):SF X K x fs (.If c sa [] pos::rest) (.bind tc λb=>if b=true then w else wk) out:=SF.step (MN hc.p ha.p wK) λD σ H ⟨sr,q⟩=>⟨sr,tc.mono (λk q1 H1 g1 s1=>by
 cases k with
 | true=>exact uz ⟨s1,w.mono (λt q2=>bT.exit (D:=D) (D':={D with nx:=yH X K x rest out D}) rfl rfl rfl (q2.go g1.f sr s1)) q1⟩
 | false=>exact uA ⟨fs,wk,hb,s1,wk.mono (λt q2=>q2.go g1.f sr s1) q1⟩) q⟩
def Xb (X:Cx) (K:Ab) (x:Bool) (rest:List ul) {T:Type} (w:W T) (out:T->End):End->Prop
 | .nx bP=>SF X K x bP rest w out
 | .nc bP=>False
 | .bk bP=>∃t,w=.ret t/\out t=.bk bP
 | .ct bP=>∃t,w=.ret t/\(out t=.ct bP\/out t=.nc bP)
 | .rt v=>∃t,w=.ret t/\out t=.rt v
 | .rl l=>∃t,w=.ret t/\out t=.rl l
 | .ro v a l=>∃t,w=.ret t/\out t=.ro v a l
def Xb.r {σ:L2.St}{H:Hp}{D:Ends}{E:End} (sr:a6 K H σ fs) (h:Xb X K x rest w out E) (q:w.run λt=>bT K x σ fs H D (out t)):bT K false σ fs H {D with nx:=yH X K x rest out D} E:=by
 cases E with
 | nx bP=>exact λ_ σ' H' g' s'=>⟨bP,w,h,s',w.mono (λt q2=>q2.go g' sr s') q⟩
 | nc bP=>exact h.elim
 | bk bP=>
  obtain⟨t,rfl,h⟩:=h;have q:bT K x σ fs H D (out t):=q;rw [h] at q;exact q
 | ct bP=>
  obtain⟨t,rfl,h⟩:=h;have q:bT K x σ fs H D (out t):=q;rcases h with h | h
  ·rw [h] at q;exact q
  ·rw [h] at q;exact λσ' H' g s=>(q σ' H' g s).2
 | rt v=>
  obtain⟨t,rfl,h⟩:=h;have q:bT K x σ fs H D (out t):=q;rw [h] at q;exact q
 | rl v=>
  obtain⟨t,rfl,h⟩:=h;have q:bT K x σ fs H D (out t):=q;rw [h] at q;exact q
 | ro v a l=>
  obtain⟨t,rfl,h⟩:=h;have q:bT K x σ fs H D (out t):=q;rw [h] at q;exact q
variable {w1 w2:W T1}{out1:T1->End}{k:T1->W T}
def SF.ifS (hc:TF X K fs c tc) (ha:SF X K false fs sa w1 out1) (hb:SF X K false fs sb w2 out1) (hr:∀t,Xb X K x rest (k t) out (out1 t)):SF X K x fs (.If c sa sb pos::rest) (.bind tc λb=>.bind (if b=true then w1 else w2) k) out:=SF.step (MN hc.p ha.p hb.p) λD σ H ⟨sr,q⟩=>⟨sr,tc.mono (λb q1 H1 g1 s1=>by
 have fin:∀t,(k t).run (λt=>bT K x σ fs H D (out t))->bT K false σ fs H {D with nx:=yH X K x rest out D} (out1 t):=λt q=>(hr t).r sr q;cases b with
 | true=>exact uz ⟨s1,w1.mono (λt q2=>(fin t q2).go g1.f sr s1) q1⟩
 | false=>exact uA ⟨s1,w2.mono (λt q2=>(fin t q2).go g1.f sr s1) q1⟩) q⟩
end
end
section
open PySem PySem.Spec PyProof.Rows L2 PL
variable {K:Ab}
def JF (K:Ab) (H:Hp) (J:It) (l:List PV):Prop:=l.length<=sizeLine/\∀H',bF K H H'->(∀(i:Nat) (p:PV),l[i]?=ap p->J.go i H'/\∀x H2,J.SU i H' x H2->kO H' H2/\VR K [] H2 x p)/\J.stop l.length H'
def JF.tk {H H':Hp}{J:It}{l:List PV} (t:bF K H H') (h:JF K H J l):JF K H' J l:=⟨h.1,λH2 t2=>h.2 H2 (bF.trans t t2)⟩
def fIt (K:Ab) (fs:bh) (w:W (List PV)):TI:=λσ H R=>a6 K H σ fs/\w.run λl=>∀J H',c7 σ fs H H'->a6 K H' σ fs->JF K H' J l->R J H'
structure rh (X:Cx) (K:Ab) (fs:bh) (tg e:ga) (w:W (List PV)):Prop where p:PI X tg e (fIt K fs w)
section
variable {X:Cx}{a b c e tg:ga}{pos p p1 p2:Pos}{fs:bh}{w wa wb wc:W PV}{wl:W (List PV)}
def SK {H:Hp}{ad:dL}{vs:List V}{l:List PV} (h:T9 K H ad vs) (r:aN K [] H vs l) (hz:l.length<=sizeLine):JF K H (Itl K ad) l:=⟨hz,λH' t=>by
 have e1:=(t.f _ _ h).sq;have e2:=aN.tk t r;refine⟨λi p hp=>?_,vs,e1,by rw [e2.length];exact Ao _⟩;obtain⟨v,h3,h4⟩:=e2.get hp;refine⟨⟨vs,v,e1,h3⟩,λx H3 y=>?_⟩;obtain⟨rfl,y⟩:=y;have:=y vs e1;rw [h3] at this;cases this;exact⟨kO.refl _,h4⟩⟩
def W9 {H:Hp}{ad:dL}{vs:List V}{l:List PV} (h:H ad=ap (.tup vs)) (r:aN K [] H vs l) (hz:l.length<=sizeLine):JF K H (Itt K ad) l:=⟨hz,λH' t=>by
 have e1:=d7.of (K:=K) (t.t _ _ h);have e2:=aN.tk t r;refine⟨λi p hp=>?_,vs,e1,by rw [e2.length];exact Ao _⟩;obtain⟨v,h3,h4⟩:=e2.get hp;refine⟨⟨vs,v,e1,h3⟩,λx H3 y=>?_⟩;obtain⟨rfl,y⟩:=y;have:=y vs e1;rw [h3] at this;cases this;exact⟨kO.refl _,h4⟩⟩
def cD (hK:X.K=K) (h:IF X K fs e wl):rh X K fs tg e wl:=⟨by
 subst hK;intro Z s σ H R I ⟨sr,q⟩;refine bH (h.p Z s σ H (λu H1=>∃l,W6 X.K H1 u l/\∀J,JF X.K H1 J l->R J H1) I ⟨sr,wl.mono (λl q1 u H1 g1 s1 v1=>⟨l,v1,λJ j=>q1 J H1 g1 s1 j⟩) q⟩) λv s1 ⟨x,H1,I1,r1,l,⟨ad,vs,e,hh,rs⟩,q1⟩=>?_;subst e;cases r1;rcases hh with hh | hh
 ·obtain⟨ay,rv,pl,hz⟩:=I1.list hh.sq;refine Cz pl.isList ?_;refine⟨s1.heap.objs.size,[s1.heap.objs.size],_,_,H1,rfl,I1.kept (t':=s1.toks) λb o e=>Ai _ e,J0 ad _,⟨_,Aq _ rfl,rfl,rfl⟩,λb hb=>?_,q1 _ (SK hh rs (by rw [<- rs.length];exact hz))⟩;have e:b=s1.heap.objs.size:=by simpa using hb
  subst e;exact I1.xE (Ao _) (I1.bN.fresh (Ao _))
 ·obtain⟨ay,rv,pl,hz⟩:=I1.tuple (d7.of hh);refine D6 (show s1.heap.IsTuple ad ay.toArray from pl) ?_;refine⟨s1.heap.objs.size,[s1.heap.objs.size],_,_,H1,rfl,I1.kept (t':=s1.toks) λb o e=>Ai _ e,Gi ad _,⟨_,Aq _ rfl,rfl,rfl⟩,λb hb=>?_,q1 _ (W9 hh rs (by rw [<- rs.length];exact hz))⟩;have e:b=s1.heap.objs.size:=by simpa using hb
  subst e;exact I1.xE (Ao _) (I1.bN.fresh (Ao _))⟩
def okN (i j:Int):Prop:=-(2 ^ 62)<=i/\i < 2 ^ 62/\-(2 ^ 62)<=j/\j < 2 ^ 62/\(j-i).toNat<=sizeLine
def jq:PV->W (List PV)
 | .int j=>.fF (okN 0 j) (.ret (kF 0 j.toNat))
 | _=>.fail
def IQ:PV->PV->PV->W (List PV)
 | .int i,.int j,.int k=>.fF (k = -1/\okN j i) (.ret (gn i (i-j).toNat))
 | _,_,_=>.fail
def Xa {H:Hp} (lo:Int) (n:Nat) (hz:n<=sizeLine):JF K H (Itr lo n) (kF lo n):=⟨by rw [jG];exact hz,λH' t=>⟨λi p hp=>by
  obtain⟨h1,rfl⟩:=pA hp;refine⟨h1,λx H2 y=>?_⟩;obtain⟨rfl,rfl⟩:=y;exact⟨kO.refl _,.int _⟩,by show n<=(kF lo n).length;rw [jG];exact Ao _⟩⟩
def eV (hg:Gl X "range") (hm:X.mg "range"=bv) (ha:EF X K fs a wa) (hs:ci [a] X.env=[(false,lm a X.env)]:=by rfl):rh X K fs tg (.Call (.Name "range" p) [a] [] pos) (.bind wa jq):=
 ⟨PI.imp (Kk hg hm (bw ha.p cY hs) hs) λσ H R ⟨sr,q⟩=>⟨sr,wa.mono (λx q1 u1 H1 g1 s1 v1=>by
  cases v1 with
  | int j=>exact⟨_,rfl,q1.1.2.2.1,q1.1.2.2.2.1,q1.2 _ H1 g1 s1 (Xa _ _ (by have:=q1.1.2.2.2.2;omega))⟩
  | _=>exact q1.elim) q⟩⟩
def Js (hg:Gl X "range") (hm:X.mg "range"=bv) (ha:EF X K fs a wa) (hb:EF X K fs b wb) (hc:EF X K fs c wc) (hs:ci [a,b,c] X.env=[(false,lm a X.env),(false,lm b X.env),(false,lm c X.env)]:=by rfl) (qU:ci [b,c] X.env=[(false,lm b X.env),(false,lm c X.env)]:=by rfl) (hs3:ci [c] X.env=[(false,lm c X.env)]:=by rfl):rh X K fs tg (.Call (.Name "range" p) [a,b,c] [] pos) (.bind wa λx=>.bind wb λy=>.bind wc λz=>IQ x y z):=
 ⟨PI.imp (Kj hg hm (bw ha.p (bw hb.p (bw hc.p cY hs3) (by rw [qU,hs3])) (by rw [hs,qU])) hs qU) λσ H R ⟨sr,q⟩=>⟨sr,wa.mono (λx q1 u1 H1 g1 s1 v1=>⟨s1,wb.mono (λy q2 u2 H2 g2 s2 v2=>⟨s2,wc.mono (λz q3 u3 H3 g3 s3 v3=>by
  cases v1 with
  | int i=>
   cases v2 with
   | int j=>
    cases v3 with
    | int k=>
     obtain⟨⟨rfl,k1,k2,k3,k4,k5⟩,q3⟩:=q3;refine⟨_,_,rfl,⟨k3,k4,k1,k2⟩,q3 _ H3 ((g1.trans g2).trans g3) s3 ⟨by rw [vE];exact k5,λH' t=>⟨λi p hp=>?_,?_⟩⟩⟩
     ·obtain⟨h1,rfl⟩:=vF hp;refine⟨h1,λx H2 y=>?_⟩;obtain⟨rfl,rfl⟩:=y;exact⟨kO.refl _,.int _⟩
     ·exact Nat.le_of_eq (vE _ _).symm
    | _=>exact q3.elim
   | _=>exact q3.elim
  | _=>exact q3.elim) q2⟩) q1⟩) q⟩⟩
def GA:PV->W (List PV)
 | .str z=>.fF (z.cps.size<=sizeLine) (.ret (z.cps.toList.map λc=>.str ⟨#[c]⟩))
 | _=>.fail
def VY (h:EF X K fs e w):rh X K fs tg e (.bind w GA):=⟨PI.imp (U5 h.p) λσ H R ⟨sr,q⟩=>⟨sr,w.mono (λx q1 u1 H1 g1 s1 v1=>by
 cases v1 with
 | str z=>
  refine⟨z,rfl,q1.2 _ H1 g1 s1 ⟨by simpa using q1.1,λH' t=>⟨λi p hp=>?_,?_⟩⟩⟩
  ·rw [Ak] at hp;cases e:z.cps.toList[i]? with
   | none=>rw [e] at hp;cases hp
   | some c=>
    rw [e] at hp;have ep:=(Option.some.inj hp).symm;subst ep;have hi:=(Al.mp e).1;have zB:i < z.cps.size:=by simpa using hi
    refine⟨zB,λx H2 y=>?_⟩;obtain⟨rfl,d,hd,rfl⟩:=y;have:z.cps[i]?=ap c:=by simpa using e
    rw [this] at hd;cases hd;exact⟨kO.refl _,.str _⟩
  ·show z.cps.size<=_;simp
 | _=>exact q1.elim) q⟩⟩
def nY (hK:X.K=K) {Ê:List ga}{kk:Nat}{tp:Pos} (hg:Gl X "enumerate") (hm:X.mg "enumerate"=bv) (h:IF X K fs e wl) (F5:ci [e] X.env=(false,lm e X.env)::ci [] X.env:=by rfl):rh X K fs (.Tuple Ê kk tp) (.Call (.Name "enumerate" p1) [e] [] p2) (.bind wl λl=>.fF (l.length<=sizeLine) (.ret (dZ 0 l))):=
 ⟨PI.imp (MU K hK hg hm h.p F5) λσ H R ⟨sr,q⟩=>⟨sr,wl.mono (λl q1 u1 H1 g1 s1 v1=>by
  obtain⟨ad,vs,rfl,hh,rs⟩:=v1;have yl:∀{H':Hp}{i:Nat}{x v:V}{y:PV}{pp:dL},H' pp=bv->VR K [] H' v y->kO H' (upd H' pp (.tup [.int (i:Int),v]))/\VR K [] (upd H' pp (.tup [.int (i:Int),v])) (.ref pp) (.tup [.int ((0+i:Nat):Int),y]):=λ{H' i x v y pp} hn h4=>
   have sm:=k7 hn (.tup [.int (i:Int),v])
   ⟨sm,.tup aR (.cons (by rw [AR];exact .int _) (.cons (VR.tk sm.eO h4) .nil))⟩
  refine⟨ad,rfl,?_⟩;rcases hh with hh | hh
  ·refine .inl ⟨⟨vs,hh.sq⟩,q1.2 _ H1 g1 s1 ⟨by rw [cS];exact q1.1,λH' t=>⟨λi p hp=>?_,vs,(t.f _ _ hh).sq,by rw [rs.length,cS];exact Ao _⟩⟩⟩;obtain⟨y,hy,rfl⟩:=gN hp;obtain⟨v,h3,h4⟩:=(aN.tk t rs).get hy;refine⟨⟨vs,v,(t.f _ _ hh).sq,h3⟩,λx H3 z=>?_⟩;obtain⟨pp,x0,rfl,hn,rfl,hz⟩:=z;have:=hz vs (t.f _ _ hh).sq;rw [h3] at this;cases this;exact yl (x:=.aX) hn h4
  ·refine .inr ⟨⟨vs,d7.of hh⟩,q1.2 _ H1 g1 s1 ⟨by rw [cS];exact q1.1,λH' t=>⟨λi p hp=>?_,vs,d7.of (t.t _ _ hh),by rw [rs.length,cS];exact Ao _⟩⟩⟩;obtain⟨y,hy,rfl⟩:=gN hp;obtain⟨v,h3,h4⟩:=(aN.tk t rs).get hy;refine⟨⟨vs,v,d7.of (t.t _ _ hh),h3⟩,λx H3 z=>?_⟩;obtain⟨pp,x0,rfl,hn,rfl,hz⟩:=z;have:=hz vs (d7.of (t.t _ _ hh));rw [h3] at this;cases this;exact yl (x:=.aX) hn h4) q⟩⟩
end
def rN:List Nat->List V->L2.St->L2.St
 | i::is,u::us,σ=>rN is us (σ.set i (ap u))
 | _,_,σ=>σ
def fG (K:Ab) (fs:bh) (is:List Nat) {T:Type} (wt:PV->W T) (dU:T->bh):TG:=λv σ H Q=>∃p,a6 K H σ fs/\VR K [] H v p/\(wt p).run λt=>∀us,cP σ fs H (rN is us σ) (dU t) H->a6 K H (rN is us σ) (dU t)->Q (rN is us σ) H
structure GF (X:Cx) (K:Ab) (fs:bh) (tg:ga) (is:List Nat) {T:Type} (wt:PV->W T) (dU:T->bh):Prop where p:PG X tg (fG K fs is wt dU)
def qE:PV->W (PV×PV)
 | .tup [a,b]=>.ret (a,b)
 | _=>.fail
def un3:PV->W (PV×PV×PV)
 | .tup [a,b,c]=>.ret (a,b,c)
 | _=>.fail
def X4:PV->W (PV×PV×PV×PV)
 | .tup [a,b,c,d]=>.ret (a,b,c,d)
 | _=>.fail
section
variable {X:Cx}{fs:bh}{tg:ga}
def Wi {i:Nat} (h:PG X tg (dJ i)):GF X K fs tg [i] .ret (λp=>fs.set i (ap (.val p))):=⟨PG.imp h λv σ H Q ⟨p,sr,r,q⟩=>q [v] (cP.eN sr v p i) (sr.eN r i)⟩
def RM {i j:Nat} (hK:X.K=K) (h:PG X tg (RN X.K 2 (mG (dJ i) (mG (dJ j) RO)))):GF X K fs tg [i,j] qE (λt=>(fs.set i (ap (.val t.1))).set j (ap (.val t.2))):=⟨PG.imp h λv σ H Q ⟨p,sr,r,q⟩=>by
 unfold qE at q
 split at q
 ·cases r with
  | tup e rs=>
   cases rs with
   | cons ra t=>
   cases t with
   | cons rb t=>
   cases t;have s1:=sr.eN ra i;exact⟨_,_,rfl,d7.of e,rfl,_,_,rfl,_,_,rfl,rfl,q [_,_] ((cP.eN sr _ _ i).trans (cP.eN s1 _ _ j)) (s1.eN rb j)⟩
 ·exact q.elim⟩
def g_3 {i j k:Nat} (hK:X.K=K) (h:PG X tg (RN X.K 3 (mG (dJ i) (mG (dJ j) (mG (dJ k) RO))))):GF X K fs tg [i,j,k] un3 (λt=>((fs.set i (ap (.val t.1))).set j (ap (.val t.2.1))).set k (ap (.val t.2.2))):=⟨PG.imp h λv σ H Q ⟨p,sr,r,q⟩=>by
 unfold un3 at q
 split at q
 ·cases r with
  | tup e rs=>
   cases rs with
   | cons ra t=>
   cases t with
   | cons rb t=>
   cases t with
   | cons rc t=>
   cases t;have s1:=sr.eN ra i;have s2:=s1.eN rb j;exact⟨_,_,rfl,d7.of e,rfl,_,_,rfl,_,_,rfl,_,_,rfl,rfl,q [_,_,_] (((cP.eN sr _ _ i).trans (cP.eN s1 _ _ j)).trans (cP.eN s2 _ _ k)) (s2.eN rc k)⟩
 ·exact q.elim⟩
def g_4 {i j k l:Nat} (hK:X.K=K) (h:PG X tg (RN X.K 4 (mG (dJ i) (mG (dJ j) (mG (dJ k) (mG (dJ l) RO)))))):GF X K fs tg [i,j,k,l] X4 (λt=>(((fs.set i (ap (.val t.1))).set j (ap (.val t.2.1))).set k (ap (.val t.2.2.1))).set l (ap (.val t.2.2.2))):=⟨PG.imp h λv σ H Q ⟨p,sr,r,q⟩=>by
 unfold X4 at q
 split at q
 ·cases r with
  | tup e rs=>
   cases rs with
   | cons ra t=>
   cases t with
   | cons rb t=>
   cases t with
   | cons rc t=>
   cases t with
   | cons rd t=>
   cases t;have s1:=sr.eN ra i;have s2:=s1.eN rb j;have s3:=s2.eN rc k;exact⟨_,_,rfl,d7.of e,rfl,_,_,rfl,_,_,rfl,_,_,rfl,_,_,rfl,rfl,q [_,_,_,_] ((((cP.eN sr _ _ i).trans (cP.eN s1 _ _ j)).trans (cP.eN s2 _ _ k)).trans (cP.eN s3 _ _ l)) (s3.eN rd l)⟩
 ·exact q.elim⟩
end
section
variable {S T:Type}
def dY:List PV->S->(PV->S->W S)->W S
 | [],s,_=>.ret s
 | x::r,s,f=>.bind (f x s) λs'=>dY r s' f
inductive Lp (S T:Type) where
 | go (s:S) | out (t:T)
def iD:List PV->S->(PV->S->W (Lp S T))->W (Lp S T)
 | [],s,_=>.ret (.go s)
 | x::r,s,f=>.bind (f x s) λo=>match o with
  | .go s'=>iD r s' f
  | .out t=>.ret (.out t)
def F6 {R:Type} (k:S->W T) (inj:R->T):Lp S R->W T
 | .go s=>k s
 | .out r=>.ret (inj r)
@[simp] theorem Wf {R:Type} (k:S->W T) (inj:R->T) (s:S):F6 k inj (.go s)=k s:=(rfl)
@[simp] theorem abt {R:Type} (k:S->W T) (inj:R->T) (r:R):F6 k inj (.out r)=.ret (inj r):=(rfl)
def Zg {R:Type} (hd:S->bh) (out:R->End):Lp S R->End
 | .go s=>.nc (hd s)
 | .out r=>out r
def mN (c:S->W Bool) (b:S->W S):Nat->S->W S
 | 0,_=>.fail
 | n+1,s=>.bind (c s) λk=>if k=true then .bind (b s) (mN c b n) else .ret s
def mM (c:S->W Bool) (b:S->W S) (s:S):W S:=⟨λQ=>∃n,(mN c b n s).run Q,λh ⟨n,q⟩=>⟨n,(mN c b n s).mono h q⟩⟩
def jR (c:S->W Bool) (b:S->W (Lp S T)):Nat->S->W (Lp S T)
 | 0,_=>.fail
 | n+1,s=>.bind (c s) λk=>if k=true then .bind (b s) (λo=>match o with
  | .go s'=>jR c b n s'
  | .out t=>.ret (.out t)) else .ret (.go s)
def rB (c:S->W Bool) (b:S->W (Lp S T)) (s:S):W (Lp S T):=⟨λQ=>∃n,(jR c b n s).run Q,λh ⟨n,q⟩=>⟨n,(jR c b n s).mono h q⟩⟩
end
section
variable {X:Cx}{c iter tg:ga}{body rest:List ul}{pos:Pos}{fs:bh}{S T T2:Type}{hd:S->bh}{s0:S}{wl:W (List PV)}{wt:PV->W T2}{is:List Nat}{dU:S->T2->bh}{k:S->W T}{out:T->End}{x:Bool}{R:Type}{inj:R->T}
def SF.for {f:PV->S->W S}{wb:T2->S->W S} (hp:EQ (d5 X.prog X.w) X.A X.env X.xe) (hc:X.calm=true) (hi:rh X K fs tg iter wl) (hl:jO fs (hd s0)) (hg:∀s,GF X K (hd s) tg is wt (dU s)) (hf:∀p s,f p s=.bind (wt p) λt=>wb t s)
  (hb:∀s t,SF X K false (dU s t) body (wb t s) λs'=>.nc (hd s')) (hr:∀s,SF X K x (hd s) rest (k s) out) (hs:∀x,ii iter X.env x=pure x:=by intro _;rfl) :
  SF X K x fs (.For tg iter body [] pos::rest) (.bind wl λl=>.bind (dY l s0 f) k) out:=by
 refine SF.step (MP (g:=λv σ H Q=>∃s,fG K (hd s) is wt (dU s) v σ H Q) (tb:=λD σ H=>∃s t,fS K false (dU s t) (wb t s) (λs'=>.nc (hd s')) D σ H) hp hc hi.p (λZ s σ H v u Q I r ⟨s1,q⟩=>(hg s1).p Z s σ H v u Q I r q) (λZ s σ H D I ⟨s1,t1,q⟩=>(hb s1 t1).p Z s σ H D I q) hs) λD σ H ⟨sr,q⟩=>?_;refine⟨sr,wl.mono (λl q1 J H1 g1 s1 jf=>?_) q⟩;refine⟨λi m σ' H'=>∃s,a6 K H' σ' (hd s)/\cP σ fs H σ' (hd s) H'/\JF K H' J l/\m=l.length-i/\i<=l.length/\(dY (l.drop i) s f).run λs'=>(k s').run λt=>bT K x σ fs H D (out t),⟨l.length,s0,s1.le hl,g1.f.trans (cP.le s1 hl),jf,by simp,Bj _,by simpa using q1⟩,?_⟩;rintro i m σ2 H2 ⟨s,s2,g2,Rq,rfl,hi,q2⟩;obtain⟨j1,j2⟩:=Rq.2 H2 (bF.refl H2);by_cases mi:i < l.length
 ·obtain⟨go,yl⟩:=j1 i _ (Ad mi);have ed:=Be mi;rw [ed] at q2;refine .inr ⟨go,λσ3 H3=>∃s',a6 K H3 σ3 (hd s')/\cP σ fs H σ3 (hd s') H3/\JF K H3 J l/\(dY (l.drop (i+1)) s' f).run λs'=>(k s').run λt=>bT K x σ fs H D (out t),λσ3 H3 ⟨s',a1,a2,a3,a4⟩=>⟨l.length-(i+1),by omega,s',a1,a2,a3,rfl,mi,a4⟩,λv H3 y=>?_⟩;obtain⟨sm,vx⟩:=yl v H3 y;have q2:(f l[i] s).run λs'=>(dY (l.drop (i+1)) s' f).run λs'=>(k s').run λt=>bT K x σ fs H D (out t):=q2;rw [hf] at q2;have s3:=s2.same sm;have g3:=g2.trans (cP.same sm s2);refine⟨s,_,s3,vx,(wt l[i]).mono (λt q4 us g4 s4=>?_) q2⟩;refine⟨s,t,s4,(wb t s).mono (λs' q5 σ5 H5 g5 s5=>?_) q4⟩;have fin:∃s',a6 K H5 σ5 (hd s')/\cP σ fs H σ5 (hd s') H5/\JF K H5 J l/\(dY (l.drop (i+1)) s' f).run λs'=>(k s').run λt=>bT K x σ fs H D (out t):=⟨s',s5,(g3.trans g4).trans g5,Rq.tk (bF.trans sm.eO (bF.trans (g4.eM s3) (g5.eM s4))),q5⟩;exact⟨λ_=>fin,fin⟩
 ·have e:i=l.length:=by omega
  subst e;rw [Ex] at q2;exact .inl ⟨j2,hd s,k s,hr s,s2,(k s).mono (λt q3=>q3.go g2 sr s2) q2⟩
def SF.iD {f:PV->S->W (Lp S R)}{wb:T2->S->W (Lp S R)} (hp:EQ (d5 X.prog X.w) X.A X.env X.xe) (hc:X.calm=true) (hi:rh X K fs tg iter wl) (hl:jO fs (hd s0)) (hg:∀s,GF X K (hd s) tg is wt (dU s)) (hf:∀p s,f p s=.bind (wt p) λt=>wb t s)
  (ho:∀t,(out (inj t)).Jt)
  (hb:∀s t,SF X K false (dU s t) body (wb t s) (Zg hd λr=>out (inj r))) (hr:∀s,SF X K x (hd s) rest (k s) out) (hs:∀x,ii iter X.env x=pure x:=by intro _;rfl) :
  SF X K x fs (.For tg iter body [] pos::rest) (.bind wl λl=>.bind (FL.iD l s0 f) (F6 k inj)) out:=by
 refine SF.step (MP (g:=λv σ H Q=>∃s,fG K (hd s) is wt (dU s) v σ H Q) (tb:=λD σ H=>∃s t,fS K false (dU s t) (wb t s) (Zg hd λr=>out (inj r)) D σ H) hp hc hi.p (λZ s σ H v u Q I r ⟨s1,q⟩=>(hg s1).p Z s σ H v u Q I r q) (λZ s σ H D I ⟨s1,t1,q⟩=>(hb s1 t1).p Z s σ H D I q) hs) λD σ H ⟨sr,q⟩=>?_;refine⟨sr,wl.mono (λl q1 J H1 g1 s1 jf=>?_) q⟩;have lo:∀(D':Ends) (y:Bool) (t:R),D'.rt=D.rt->bT K x σ fs H D (out (inj t))->bT K y σ fs H D' (out (inj t)):=λD' y t e h=>bT.YZ (ho t) e h;refine⟨λi m σ' H'=>∃s,a6 K H' σ' (hd s)/\cP σ fs H σ' (hd s) H'/\JF K H' J l/\m=l.length-i/\i<=l.length/\(FL.iD (l.drop i) s f).run λo=>(F6 k inj o).run λt=>bT K x σ fs H D (out t),⟨l.length,s0,s1.le hl,g1.f.trans (cP.le s1 hl),jf,by simp,Bj _,by simpa using q1⟩,?_⟩;rintro i m σ2 H2 ⟨s,s2,g2,Rq,rfl,hi,q2⟩;obtain⟨j1,j2⟩:=Rq.2 H2 (bF.refl H2);by_cases mi:i < l.length
 ·obtain⟨go,yl⟩:=j1 i _ (Ad mi);have ed:=Be mi;rw [ed] at q2;refine .inr ⟨go,λσ3 H3=>∃s',a6 K H3 σ3 (hd s')/\cP σ fs H σ3 (hd s') H3/\JF K H3 J l/\(FL.iD (l.drop (i+1)) s' f).run λo=>(F6 k inj o).run λt=>bT K x σ fs H D (out t),λσ3 H3 ⟨s',a1,a2,a3,a4⟩=>⟨l.length-(i+1),by omega,s',a1,a2,a3,rfl,mi,a4⟩,λv H3 y=>?_⟩;obtain⟨sm,vx⟩:=yl v H3 y;have q2:(f l[i] s).run λo=>(match o with | .go s'=>FL.iD (l.drop (i+1)) s' f | .out t=>bd (.out t)).run λo=>(F6 k inj o).run λt=>bT K x σ fs H D (out t):=q2;rw [hf] at q2;have s3:=s2.same sm;have g3:=g2.trans (cP.same sm s2);refine⟨s,_,s3,vx,(wt l[i]).mono (λt q4 us g4 s4=>?_) q2⟩;refine⟨s,t,s4,(wb t s).mono (λo q5=>?_) q4⟩;cases o with
  | out t5=>
   refine bT.go (g3.trans g4) sr s4 (lo _ false t5 ?_ q5);rfl
  | go s'=>
   intro σ5 H5 g5 s5;have fin:∃s',a6 K H5 σ5 (hd s')/\cP σ fs H σ5 (hd s') H5/\JF K H5 J l/\(FL.iD (l.drop (i+1)) s' f).run λo=>(F6 k inj o).run λt=>bT K x σ fs H D (out t):=⟨s',s5,(g3.trans g4).trans g5,Rq.tk (bF.trans sm.eO (bF.trans (g4.eM s3) (g5.eM s4))),q5⟩;exact⟨λ_=>fin,fin⟩
 ·have e:i=l.length:=by omega
  subst e;rw [Ex] at q2;exact .inl ⟨j2,hd s,k s,hr s,s2,(k s).mono (λt q3=>q3.go g2 sr s2) q2⟩
def SF.Iw {cw:S->W Bool}{b:S->W S} (hp:EQ (d5 X.prog X.w) X.A X.env X.xe) (hl:jO fs (hd s0)) (hc:∀s,TF X K (hd s) c (cw s)) (hb:∀s,SF X K false (hd s) body (b s) λs'=>.nc (hd s')) (hr:∀s,SF X K x (hd s) rest (k s) out) :
  SF X K x fs (.While c body [] pos::rest) (.bind (mM cw b s0) k) out:=by
 refine SF.step (yS (tc:=λσ H Q=>∃s,fT K (hd s) (cw s) σ H Q) (tb:=λD σ H=>∃s,fS K false (hd s) (b s) (λs'=>.nc (hd s')) D σ H) hp (λZ s σ H Q I ⟨s1,q⟩=>(hc s1).p Z s σ H Q I q) (λZ s σ H D I ⟨s1,q⟩=>(hb s1).p Z s σ H D I q)) λD σ H ⟨sr,n,q⟩=>?_;refine⟨λm σ' H'=>∃s,a6 K H' σ' (hd s)/\cP σ fs H σ' (hd s) H'/\(mN cw b m s).run λs'=>(k s').run λt=>bT K x σ fs H D (out t),⟨n,s0,sr.le hl,cP.le sr hl,q⟩,?_⟩;rintro m σ1 H1 ⟨s,s1,g1,q1⟩;cases m with
 | zero=>exact q1.elim
 | succ m=>
  refine⟨s,s1,(cw s).mono (λkk q2 H2 g2 s2=>?_) q1⟩;cases kk with
  | false=>
   refine uA ?_;exact⟨hd s,k s,hr s,s2,(k s).mono (λt q3=>q3.go (g1.trans g2.f) sr s2) q2⟩
  | true=>
   refine uz ?_;refine⟨λσ3 H3=>∃s,a6 K H3 σ3 (hd s)/\cP σ fs H σ3 (hd s) H3/\(mN cw b m s).run λs'=>(k s').run λt=>bT K x σ fs H D (out t),λσ3 H3 a=>⟨m,Dp m,a⟩,s,s2,(b s).mono (λs' q5 σ5 H5 g5 s5=>?_) q2⟩;have fin:∃s,a6 K H5 σ5 (hd s)/\cP σ fs H σ5 (hd s) H5/\(mN cw b m s).run λs'=>(k s').run λt=>bT K x σ fs H D (out t):=⟨s',s5,(g1.trans g2.f).trans g5,q5⟩;exact⟨λ_=>fin,fin⟩
def SF.rB {cw:S->W Bool}{b:S->W (Lp S R)} (hp:EQ (d5 X.prog X.w) X.A X.env X.xe) (hl:jO fs (hd s0)) (hc:∀s,TF X K (hd s) c (cw s)) (ho:∀t,(out (inj t)).Jt)
  (hb:∀s,SF X K false (hd s) body (b s) (Zg hd λr=>out (inj r))) (hr:∀s,SF X K x (hd s) rest (k s) out) :
  SF X K x fs (.While c body [] pos::rest) (.bind (FL.rB cw b s0) (F6 k inj)) out:=by
 refine SF.step (yS (tc:=λσ H Q=>∃s,fT K (hd s) (cw s) σ H Q) (tb:=λD σ H=>∃s,fS K false (hd s) (b s) (Zg hd λr=>out (inj r)) D σ H) hp (λZ s σ H Q I ⟨s1,q⟩=>(hc s1).p Z s σ H Q I q) (λZ s σ H D I ⟨s1,q⟩=>(hb s1).p Z s σ H D I q)) λD σ H ⟨sr,n,q⟩=>?_;have lo:∀(D':Ends) (y:Bool) (t:R),D'.rt=D.rt->bT K x σ fs H D (out (inj t))->bT K y σ fs H D' (out (inj t)):=λD' y t e h=>bT.YZ (ho t) e h;refine⟨λm σ' H'=>∃s,a6 K H' σ' (hd s)/\cP σ fs H σ' (hd s) H'/\(jR cw b m s).run λo=>(F6 k inj o).run λt=>bT K x σ fs H D (out t),⟨n,s0,sr.le hl,cP.le sr hl,q⟩,?_⟩;rintro m σ1 H1 ⟨s,s1,g1,q1⟩;cases m with
 | zero=>exact q1.elim
 | succ m=>
  refine⟨s,s1,(cw s).mono (λkk q2 H2 g2 s2=>?_) q1⟩;cases kk with
  | false=>
   refine uA ?_;exact⟨hd s,k s,hr s,s2,(k s).mono (λt q3=>q3.go (g1.trans g2.f) sr s2) q2⟩
  | true=>
   refine uz ?_;refine⟨λσ3 H3=>∃s,a6 K H3 σ3 (hd s)/\cP σ fs H σ3 (hd s) H3/\(jR cw b m s).run λo=>(F6 k inj o).run λt=>bT K x σ fs H D (out t),λσ3 H3 a=>⟨m,Dp m,a⟩,s,s2,(b s).mono (λo q5=>?_) q2⟩;cases o with
   | out t5=>
    refine bT.go (g1.trans g2.f) sr s2 (lo _ false t5 ?_ q5);rfl
   | go s'=>
    intro σ5 H5 g5 s5;have fin:∃s,a6 K H5 σ5 (hd s)/\cP σ fs H σ5 (hd s) H5/\(jR cw b m s).run λo=>(F6 k inj o).run λt=>bT K x σ fs H D (out t):=⟨s',s5,(g1.trans g2.f).trans g5,q5⟩;exact⟨λ_=>fin,fin⟩
end
end
section
open PySem PySem.Spec PyProof.Rows L2 PL
variable {K:Ab}
def kQ:List PV->(PV->W (Option PV))->W (List PV)
 | [],_=>.ret []
 | x::r,f=>.bind (f x) λo=>.bind (kQ r f) λl=>.ret (o.toList++l)
def mapW:List PV->(PV->W PV)->W (List PV)
 | [],_=>.ret []
 | x::r,f=>.bind (f x) λy=>.bind (mapW r f) λl=>.ret (y::l)
theorem w6 (f:PV->W PV):∀l,mapW l f=kQ l λp=>.bind (f p) λv=>.ret (ap v)
 | []=>rfl
 | x::r=>by
  show am (f x) (λy=>am (mapW r f) λl=>bd (y::l))=am (f x) λy=>am (kQ r _) λl=>bd (y::l);rw [w6 f r]
def cj (ix:List (Option Nat)) (fs:bh):bh:=ix.map λo=>match o with | some j=>(fs[j]?).getD bv | none=>bv
section
variable {σ:L2.St}{fs:bh}{H:Hp}{ix:List (Option Nat)}
def oG {i:Nat}{s:SL} (h:(cj ix fs)[i]?=ap (ap s)):∃j,ix[i]?=ap (ap j)/\fs[j]?=ap (ap s):=by
 unfold cj at h;rw [Ak] at h;cases q:ix[i]? with
 | none=>rw [q] at h;cases h
 | some o=>
  rw [q] at h;cases o with
  | none=>cases h
  | some j=>
   refine⟨j,rfl,?_⟩;have h:(fs[j]?).getD bv=ap s:=Option.some.inj h;cases z:fs[j]? with
   | none=>rw [z] at h;cases h
   | some y=>rw [z] at h;exact congrArg ap h
def mm {i j:Nat}{u:V} (h:ix[i]?=ap (ap j)) (e:σ[j]?=ap (ap u)):(oE ix σ)[i]?=ap (ap u):=by
 unfold oE;rw [Ak,h];show ap ((σ[j]?).getD bv)=_;rw [e];rfl
def a6.gq (s:a6 K H σ fs) (inj:∀i i' j:Nat,ix[i]?=ap (ap j)->ix[i']?=ap (ap j)->i=i'):a6 K H (oE ix σ) (cj ix fs):=by
 refine⟨by unfold oE cj;simp,λi t e=>?_,λi i' t u x y a e1 e2 o1 o2 q1 q2 z1 z2=>?_⟩
 ·obtain⟨j,h1,h2⟩:=oG e;obtain⟨u,h3,h4⟩:=s.at' j t h2;exact⟨u,mm h1 h3,h4⟩
 ·obtain⟨j,h1,h2⟩:=oG e1;obtain⟨j',iC,t4⟩:=oG e2;obtain⟨u1,h3,_⟩:=s.at' j t h2;obtain⟨u2,Hj,_⟩:=s.at' j' u t4;rw [mm h1 h3] at q1;rw [mm iC Hj] at q2;cases q1;cases q2;have:=s.nd j j' t u x y a h2 t4 o1 o2 h3 Hj z1 z2;subst this;exact inj i i' j h1 iC
structure SM (ix:List (Option Nat)) (σ:L2.St) (fs:bh) (σ':L2.St) (bP:bh):Prop where
 own:∀(i:Nat) (t:SL),bP[i]?=ap (ap t)->t.own=true->∃j,ix[i]?=ap (ap j)/\fs[j]?=ap (ap t)/\σ'[i]?=σ[j]?
def SM.wX {σ':L2.St}{bP:bh} (h:SM ix σ fs σ' bP) {a:dL} (o:dI σ' bP a):dI σ fs a:=by
 obtain⟨i,t,x,e1,e2,e3,e4⟩:=o;obtain⟨j,h1,h2,h3⟩:=h.own i t e1 e2;exact⟨j,t,x,h2,e2,h3▸e3,e4⟩
def SM.kK {σ':L2.St}{bP:bh} (h:SM ix σ fs σ' bP) {φ:List V->Prop}{a:dL} (o:eZ σ' bP φ a):eZ σ fs φ a:=by
 obtain⟨i,e1,e3⟩:=o;obtain⟨j,h1,h2,h3⟩:=h.own i _ e1 rfl;exact⟨j,h2,h3▸e3⟩
def SM.out {σ':L2.St}{bP:bh}{H1 H2:Hp} (h:SM ix σ fs σ' bP) (s:a6 K H1 σ fs) (g:c7 σ' bP H1 H2) (s2:a6 K H2 σ' bP):a6 K H2 σ fs/\c7 σ fs H1 H2:=by
 have gf:c7 σ fs H1 H2:=⟨λa o e n=>g.keep a o e λφ z=>n φ (h.kK z),g.there⟩;refine⟨⟨s.len,λj t e=>?_,s.nd⟩,gf⟩;obtain⟨u,h1,h2⟩:=s.at' j t e;refine⟨u,h1,?_⟩;have tk:=gf.eM s;rcases h2 with⟨v,q,r⟩ | ⟨a,q,r⟩
 ·exact .inl ⟨v,q,VR.tk tk r⟩
 ·subst q;refine .inr ⟨a,rfl,?_⟩;by_cases c:∃b,t.own=true/\t.has a b/\dI σ' bP b
  ·obtain⟨b,ow,hb,i,t',x,c1,c2,c3,c4⟩:=c;obtain⟨j',k1,k2,k3⟩:=h.own i t' c1 c2;have jj:=s.nd j j' t t' a x b e k2 ow c2 h1 (k3▸c3) hb c4;subst jj;rw [e] at k2;cases k2;exact s2.ownAt c1 c2 (k3.trans h1)
  ·exact r.mono tk (λb o ow hb z=>g.pR z λy=>c ⟨b,ow,hb,y⟩)
theorem rM:∀{is:List Nat}{us:List V}{σ:L2.St}{i:Nat},i∉is->(rN is us σ)[i]?=σ[i]?
 | [],us,σ,i,_=>by cases us <;> rfl
 | j::is,[],σ,i,_=>rfl
 | j::is,u::us,σ,i,h=>by
  rw [rN,rM (λz=>h (AX _ z))];exact aK (λz=>h (by rw [z];exact Bv))
end
section
variable {X:Cx}{É:List ga}{sc:nw}{N':List Str}{ix:List (Option Nat)}{fs:bh}{wl:W (List PV)}{T2:Type}{wt:PV->W T2}{is:List Nat}{mz:bh}{dU:T2->bh}{tf:T2->W Bool}{te:T2->W PV}{f:PV->W (Option PV)}
structure FF (X:Cx) (K:Ab) (fs:bh) (É:List ga) (w:W Bool):Prop where p:XG X É (fT K fs w)
def Og:FF X K fs [] (.ret true):=⟨λZ s σ H Q I ⟨sr,q⟩=>QH Z s σ H Q I (q H .refl sr)⟩
def xH {c:ga}{w:W Bool} (h:TF X K fs c w):FF X K fs [c] w:=⟨QG h.p⟩
def uR (is:List Nat) (mz:bh) (dU:T2->bh):Prop:=∀t,(dU t).length=mz.length/\∀(i:Nat) (s:SL),(dU t)[i]?=ap (ap s)->(i∈is/\s.own=false)\/(i∉is/\mz[i]?=ap (ap s))
def Oj (S:aG X.env.scope X.N sc N' ix) (hb:mz=cj ix fs) (hf:∀p,f p=.bind (wt p) λt=>.bind (tf t) λk=>if k=true then .bind (te t) λv=>.ret (ap v) else .ret bv) (hl:uR is mz dU) (hr:∀t,jO (dU t) mz) (uD:∀j∈is,ix[j]?=ap bv) :
  ∀σ H Q,fL K fs (.bind wl λl=>kQ l f) σ H Q->tLc ix (fIt K fs wl) (λv σ H Q=>fG K mz is wt dU v σ H Q) (λσ H Q=>∃t,fT K (dU t) (tf t) σ H Q) (λσ H Q=>∃t,fE K (dU t) (te t) σ H Q) σ H Q:=by
 subst hb;rintro σ H Q ⟨sr,q⟩;refine⟨sr,wl.mono (λl q1 J H1 g1 s1 jf D hD=>?_) q⟩;have inj:∀i i' j:Nat,ix[i]?=ap (ap j)->ix[i']?=ap (ap j)->i=i':=λi i' j h1 h2=>by
  have hi:i < N'.length:=by rw [<- S.len];exact (Al.mp h1).1
  have zB:i' < N'.length:=by rw [<- S.len];exact (Al.mp h2).1
  have e1:=(S.at h1 (Ad hi)).1;have e2:=(S.at h2 (Ad zB)).1;rw [e1] at e2;exact (Ew S.nd).mp (Option.some.inj e2)
 have nD:=s1.noOwn hD;refine⟨λi m σ' ys H'=>∃Å,a6 K H' σ fs/\c7 σ fs H H'/\a6 K H' σ' (cj ix fs)/\SM ix σ fs σ' (cj ix fs)/\JF K H' J l/\H' D=ap (.lst ys)/\aN K [] H' ys Å/\Å.length<=i/\m=l.length-i/\i<=l.length/\
  (kQ (l.drop i) f).run λr=>∀a vs H',c7 σ fs H H'->a6 K H' σ fs->H a=bv->H' a=ap (.lst vs)->aN K [] H' vs (Å++r)->Q (.ref a) H',⟨l.length,[],?_⟩,?_⟩
 ·have sm:=k7 hD (.lst []);refine⟨s1.same sm,g1.trans (c7.same sm),(s1.same sm).gq inj,⟨λi t e o=>?_⟩,jf.tk sm.eO,aR,.nil,Bj _,by simp,Bj _,by simpa using q1⟩;obtain⟨j,h1,h2⟩:=oG e;obtain⟨u,h3,_⟩:=s1.at' j t h2;exact⟨j,h1,h2,by rw [mm h1 h3,h3]⟩
 rintro i m σ2 ys H2 ⟨Å,sO,gO,s2,inn,Rq,hy,vy,Z0,rfl,hi,q2⟩;refine⟨hy,?_⟩;obtain⟨j1,j2⟩:=Rq.2 H2 (bF.refl H2);by_cases mi:i < l.length
 ·obtain⟨go,yl⟩:=j1 i _ (Ad mi);have ed:=Be mi;rw [ed] at q2;refine .inr ⟨go,λv H3 y=>?_⟩;obtain⟨sm,vx⟩:=yl v H3 y;have q2:(f l[i]).run λo=>(kQ (l.drop (i+1)) f).run λr=>∀a vs H',c7 σ fs H H'->a6 K H' σ fs->H a=bv->H' a=ap (.lst vs)->aN K [] H' vs (Å++(o.toList++r))->Q (.ref a) H':=q2;rw [hf] at q2;have s3:=s2.same sm;have sO3:=sO.same sm;have gO3:=gO.trans (c7.same sm);have hy3:=sm _ _ hy;have vy3:=aN.tk sm.eO vy;have jf3:=Rq.tk sm.eO;refine⟨_,s3,vx,(wt l[i]).mono (λt q4 us g4 s4=>?_) q2⟩;have Ry:SM ix σ fs (rN is us σ2) (dU t):=⟨λj u e o=>by
   rcases (hl t).2 j u e with⟨_,z⟩ | ⟨n,z⟩
   ·rw [z] at o;cases o
   ·obtain⟨j',k1,k2,k3⟩:=inn.own j u z o;exact⟨j',k1,k2,by rw [rM n];exact k3⟩⟩
  refine⟨t,s4,(tf t).mono (λkk q5 H5 g5 s5=>?_) q4⟩;obtain⟨sO5,adS⟩:=Ry.out sO3 g5 s5;have gO5:=gO3.trans adS;have tk5:=g5.eM s4;have nD4:¬dI (rN is us σ2) (dU t) D:=λz=>nD (Ry.wX z);have hy5:=g5.pR hy3 nD4;have vy5:=aN.tk tk5 vy3;have jf5:=jf3.tk (g5.eM s4);have Í:∀{H6:Hp},a6 K H6 (rN is us σ2) (dU t)->a6 K H6 (rN is us σ2) (cj ix fs)/\SM ix σ fs (rN is us σ2) (cj ix fs):=λ{H6} z=>⟨z.le (hr t),⟨λj u e o=>Ry.own j u ((hr t).at j u e) o⟩⟩;cases kk with
  | false=>
   refine uA ⟨l.length-(i+1),by omega,Å,sO5,gO5,(Í s5).1,(Í s5).2,jf5,hy5,vy5,by omega,rfl,mi,?_⟩;exact q5
  | true=>
   refine uz ⟨t,s5,(te t).mono (λv6 q6 u6 H6 g6 s6 v6'=>?_) q5⟩;obtain⟨sO6,adR⟩:=Ry.out sO5 g6 s6;have gO6:=gO5.trans adR;have tk6:=g6.eM s5;have ZA:=g6.pR hy5 nD4;have vy6:=aN.tk tk6 vy5;have tkD:=lT (K:=K) (.lst (ys++[u6])) ZA;have hD0:=g1.there D hD;refine⟨ZA,by rw [vy6.length];have:=Rq.1;omega,l.length-(i+1),by omega,Å++[v6],sO6.side nD ZA _,gO6.side hD0 _,((Í s6).1).side (λz=>nD ((Í s6).2.wX z)) ZA _,(Í s6).2,(jf5.tk (g6.eM s5)).tk (lT _ ZA),aR,aN.tk tkD (vy6.append (.cons v6' .nil)),by rw [Ae];simp;omega,rfl,mi,?_⟩;refine (kQ (l.drop (i+1)) f).mono (λr q7 a vs H7 g7 s7 n e v7=>q7 a vs H7 g7 s7 n e ?_) q6;simpa using v7
 ·have e:i=l.length:=by omega
  subst e;rw [Ex] at q2;exact .inl ⟨j2,q2 D ys H2 gO sO (g1.there D hD) hy (by simpa using vy)⟩
end
end
end FL
namespace L2
section
open PySem PySem.Spec PyProof.Rows
variable {X:Cx}
def qh (l:dL) (items:Array bm) (n:Nat) (b:dL) (cC:Array bm) (n2:Nat) (sl:Array (Option bm)) (hc0:¬(!items.isEmpty&&Builtin.List.listTooLong (items.size+cC.size))=true) (hc1:items.size<=sizeLine) (qU:items.size+cC.size<=sizeLine+1) :
  Meets (Db.«list.extend» ⟨[.ref l,.ref b],[]⟩) (λ_ R s=>s.heap.get? l=ap {cls:=.type "list",dict:=bv,data:=.seq items n,slots:=#[]}/\s.heap.get? b=ap {cls:=.type "list",dict:=bv,data:=.seq cC n2,slots:=sl}/\R (.ok (.ret AY)) {s with heap:=s.heap.update l (Bk λx=>x++cC),toks:=s.toks}):=
 .of_wp λprog w A R s h=>by
  obtain⟨hp,g,d,tk,os⟩:=s;obtain⟨hl,hb,h⟩:=h;have f1:=ED;have f2:=Dm;have f3:=DG;have f4:=Dw;have f5:=Dx;have Hf:(items++cC).size<=sizeLine+1:=by rw [Eh];exact qU
  wp_walk using (DH hl rfl (hz:=hc1) (_hz':=Hf)),BO hl,BO hb;exact⟨_,rfl,h⟩
def YJ (K:Ab):V->List V->Hp->VK->Prop:=λx vs H Q=>∃l b xs zs,x=.ref l/\vs=[.ref b]/\H l=ap (.lst xs)/\(dq K H b zs\/d7 K H b zs)/\xs.length+zs.length<=sizeLine/\yG H l (.lst (xs++zs)) (Q .aX)
def Q8 (K:Ab) (hK:X.K=K):LY X "list.extend" (YJ K):=by
 subst hK;intro Z s σ H x vs v us Q I rx rv h;obtain⟨l,b,xs,zs,rfl,rfl,hH,hB | hB,hz,q⟩:=h
 ·cases rx;obtain⟨u,rfl,ru⟩:=rv.one;cases ru;obtain⟨z,ay,n,r,hl,e⟩:=I.pe hH;obtain⟨cO,r2,⟨⟨cls,dd,data,sl⟩,n2,e2,hc,hd,n9⟩,z2⟩:=I.list hB;simp only at hc hd n9;subst hc hd n9;have LU:=r2.length;have hsz:ay.toArray.size+cO.toArray.size<=sizeLine:=by rw [Aj,Aj];omega
  have sQ:¬(!ay.toArray.isEmpty&&Builtin.List.listTooLong (ay.toArray.size+cO.toArray.size))=true:=by
   rw [jv hsz,CI];exact AV
  refine xz D3 ⟨_,e,rfl⟩ DN (Dv _ _)
   (qh l ay.toArray n b cO.toArray n2 sl sQ (by rw [Aj];omega) ∅) ⟨e,e2,?_⟩
  refine⟨.aX,_,I.GZ (its':=ay++cO) hH e (by simp) (r.append r2) ?_,rfl,q.at⟩;rw [Ae];omega
 ·exact zf Z s σ H _ _ v us Q I rx rv ⟨l,b,xs,zs,rfl,rfl,hH,hB,hz,q⟩
end
end L2
namespace FL
section
open PySem PySem.Spec PyProof.Rows L2 PL
variable {K:Ab}
section
variable {X:Cx}{Ä tg iter:ga}{É:List ga}{sc:nw}{N':List Str}{ix:List (Option Nat)}{pos:Pos}{fs:bh}{wl:W (List PV)}{T2:Type}{wt:PV->W T2}{is:List Nat}{dU:T2->bh}{tf:T2->W Bool}{te:T2->W PV}
def VF {f:PV->W (Option PV)} (hc:X.calm=true) (S:aG X.env.scope X.N sc N' ix) (hi:rh X K fs tg iter wl) (hg:∀cl C s2 H2 fp,GF (gq X sc N' cl C s2 H2 fp) K (cj ix fs) tg is wt dU) (ZU:∀cl C s2 H2 fp t,FF (gq X sc N' cl C s2 H2 fp) K (dU t) É (tf t)) (he:∀cl C s2 H2 fp t,EF (gq X sc N' cl C s2 H2 fp) K (dU t) Ä (te t))
  (hf:∀p,f p=.bind (wt p) λt=>.bind (tf t) λk=>if k=true then .bind (te t) λv=>.ret (ap v) else .ret bv) (hl:uR is (cj ix fs) dU/\∀t,jO (dU t) (cj ix fs)) (uD:∀j∈is,ix[j]?=ap bv) (hs:∀x,ii iter X.env x=pure x:=by intro _;rfl) :
  LF X K fs (.ListComp Ä [⟨tg,iter,É,0⟩] sc pos) (.bind wl λl=>kQ l f):=
 ⟨PE.imp (YU hc S hi.p (λcl C s2 H2 fp=>(hg cl C s2 H2 fp).p) (λcl C s2 H2 fp Z s σ H Q I ⟨t,q⟩=>(ZU cl C s2 H2 fp t).p Z s σ H Q I q) (λcl C s2 H2 fp Z s σ H Q I ⟨t,q⟩=>(he cl C s2 H2 fp t).p Z s σ H Q I q) hs) (Oj S rfl hf hl.1 hl.2 uD)⟩
def Tg {f:PV->W PV} (hc:X.calm=true) (S:aG X.env.scope X.N sc N' ix) (hi:rh X K fs tg iter wl) (hg:∀cl C s2 H2 fp,GF (gq X sc N' cl C s2 H2 fp) K (cj ix fs) tg is wt dU) (he:∀cl C s2 H2 fp t,EF (gq X sc N' cl C s2 H2 fp) K (dU t) Ä (te t))
  (hf:∀p,f p=.bind (wt p) te) (hl:uR is (cj ix fs) dU/\∀t,jO (dU t) (cj ix fs)) (uD:∀j∈is,ix[j]?=ap bv) (hs:∀x,ii iter X.env x=pure x:=by intro _;rfl) :
  LF X K fs (.ListComp Ä [⟨tg,iter,[],0⟩] sc pos) (.bind wl λl=>mapW l f):=by
 have:(λl=>mapW l f)=λl=>kQ l λp=>.bind (wt p) λt=>.bind (.ret true) λk=>if k=true then .bind (te t) λv=>.ret (ap v) else .ret bv:=funext λl=>by
  rw [w6];congr 1;funext p;rw [hf];rfl
 rw [this];exact VF (tf:=λ_=>.ret true) hc S hi hg (λ_ _ _ _ _ _=>Og) he (λp=>rfl) hl uD hs
def SF.S4 {rest:List ul}{T:Type}{out:T->End}{x:Bool}{k:List PV->W T}{f:PV->W (Option PV)}{i:Nat}{y:Str}{px kJ:Pos} (hc:X.calm=true) (hN:X.N.Nodup) (zB:X.N[i]?=ap y) (hx:X.env.scope.names.lookup y=ap .local) (S:aG X.env.scope X.N sc N' ix) (hi:rh X K fs tg iter wl) (hg:∀cl C s2 H2 fp,GF (gq X sc N' cl C s2 H2 fp) K (cj ix fs) tg is wt dU) (ZU:∀cl C s2 H2 fp t,FF (gq X sc N' cl C s2 H2 fp) K (dU t) É (tf t)) (he:∀cl C s2 H2 fp t,EF (gq X sc N' cl C s2 H2 fp) K (dU t) Ä (te t))
  (hf:∀p,f p=.bind (wt p) λt=>.bind (tf t) λk=>if k=true then .bind (te t) λv=>.ret (ap v) else .ret bv) (hl:uR is (cj ix fs) dU/\∀t,jO (dU t) (cj ix fs)) (uD:∀j∈is,ix[j]?=ap bv) (hr:∀l,SF X K x (fs.set i (ap (.ol bv l))) rest (k l) out)
  (qk:o0 (.ListComp Ä [⟨tg,iter,É,0⟩] sc pos) (ap (.Name y px)) kJ.line X.env=pure true:=by rfl) (hs:∀x,ii iter X.env x=pure x:=by intro _;rfl) :
  SF X K x fs (.Assign [.Name y px] (.ListComp Ä [⟨tg,iter,É,0⟩] sc pos) kJ::rest) (.bind (.bind wl λl=>kQ l f) k) out:=
 SF.step (yT hc hN zB hx S hi.p (λcl C s2 H2 fp=>(hg cl C s2 H2 fp).p) (λcl C s2 H2 fp Z s σ H Q I ⟨t,q⟩=>(ZU cl C s2 H2 fp t).p Z s σ H Q I q) (λcl C s2 H2 fp Z s σ H Q I ⟨t,q⟩=>(he cl C s2 H2 fp t).p Z s σ H Q I q) qk hs) λD σ H ⟨sr,q⟩=>
  Oj (K:=K) S rfl hf hl.1 hl.2 uD σ H _ ⟨sr,(am wl λl=>kQ l f).mono (λl q1 a ws H1 g1 s1 n e v1=>by
   have no:=sr.noOwn n;have s2:=s1.rR (t:=.ol bv l) ⟨by simp,ws,e,v1⟩ no i;exact⟨_,k l,hr l,s2,(k l).mono (λt q2=>q2.go (cP.rR s1 g1.f no n i) sr s2) q1⟩) q⟩
theorem xh:∀{l:bh}{i:Nat} (s:Option SL),l[i]?=ap bv->jO (l.set i s) l
 | [],_,_,h=>by simp at h
 | x::l,0,s,h=>by
  simp at h;subst h;exact .drop (jO.refl l)
 | x::l,i+1,s,h=>by
  rw [List.set_cons_succ];exact .keep (xh s (by simpa using h))
def jO.trans {a b c:bh} (h1:jO a b) (h2:jO b c):jO a c:=by
 induction h1 generalizing c with
 | nil=>exact h2
 | drop h ih=>cases h2 with | drop h2=>exact .drop (ih h2) | keep h2=>exact .drop (ih h2)
 | keep h ih=>cases h2 with | drop h2=>exact .drop (ih h2) | keep h2=>exact .keep (ih h2)
def sC {mz l:bh}{is:List Nat}{i:Nat}{v:PV} (hl:l.length=mz.length/\∀(j:Nat) (s:SL),l[j]?=ap (ap s)->(j∈is/\s.own=false)\/(j∉is/\mz[j]?=ap (ap s))) (hi:mz[i]?=ap bv) :
  (l.set i (ap (.val v))).length=mz.length/\∀(j:Nat) (s:SL),(l.set i (ap (.val v)))[j]?=ap (ap s)->(j∈is++[i]/\s.own=false)\/(j∉is++[i]/\mz[j]?=ap (ap s)):=by
 refine⟨by rw [BL];exact hl.1,λj s e=>?_⟩;rcases bq e with⟨rfl,rfl⟩ | ⟨n,e⟩
 ·exact .inl ⟨by simp,rfl⟩
 ·rcases hl.2 j s e with⟨h1,h2⟩ | ⟨h1,h2⟩
  ·exact .inl ⟨by simp [h1],h2⟩
  ·exact .inr ⟨by simp [h1,n],h2⟩
def Tf (mz:bh):mz.length=mz.length/\∀(j:Nat) (s:SL),mz[j]?=ap (ap s)->(j∈([]:List Nat)/\s.own=false)\/(j∉([]:List Nat)/\mz[j]?=ap (ap s)):=⟨rfl,λj s e=>.inr ⟨by simp,e⟩⟩
def Nz {mz:bh}{i:Nat} (hi:mz[i]?=ap bv):uR [i] mz (λp=>mz.set i (ap (.val p)))/\∀t,jO (mz.set i (ap (.val t))) mz:=⟨λt=>sC (is:=[]) (Tf mz) hi,λt=>xh _ hi⟩
def Mo {l:bh}{i j:Nat}{s:Option SL} (h:l[j]?=ap bv) (n:j≠i):(l.set i s)[j]?=ap bv:=by rw [aK n];exact h
def Ny {mz:bh}{i j:Nat} (hi:mz[i]?=ap bv) (hj:mz[j]?=ap bv) (n:j≠i):uR [i,j] mz (λt:PV×PV=>(mz.set i (ap (.val t.1))).set j (ap (.val t.2)))/\∀t:PV×PV,jO ((mz.set i (ap (.val t.1))).set j (ap (.val t.2))) mz:=
 ⟨λt=>sC (is:=[i]) (sC (is:=[]) (Tf mz) hi) hj,λt=>(xh _ (Mo hj n)).trans (xh _ hi)⟩
end
section
variable {X:Cx}{e:ga}{rest:List ul}{pos p Â bQ eP:Pos}{fs:bh}{T:Type}{out:T->End}{x:Bool}{we wi:W PV}{wl:W (List PV)}{q0:Option dL}{l:List PV}{y:Str}
def dg {σ:L2.St}{H:Hp}{i:Nat} (sr:a6 K H σ fs) (hs:fs[i]?=ap (ap (.ol q0 l))):∃a ws,σ[i]?=ap (ap (.ref a))/\H a=ap (.lst ws)/\aN K [] H ws l:=by
 obtain⟨u,e1,r⟩:=sr.at' i _ hs;rcases r with⟨v,e,_⟩ | ⟨a,e,z,ws,q1,q2⟩
 ·cases e
 ·subst e;exact⟨a,ws,e1,q1,q2⟩
def j5 {σ:L2.St}{H H':Hp}{i:Nat}{a:dL}{p0:List V}{l':List PV} (sr:a6 K H σ fs) (hs:fs[i]?=ap (ap (.ol q0 l))) (e1:σ[i]?=ap (ap (.ref a))) (sx:oO a H H') (h':H' a=ap (.lst p0)) (r:aN K [] H p0 l'):a6 K H' σ (fs.set i (ap (.ol q0 l')))/\cP σ fs H σ (fs.set i (ap (.ol q0 l'))) H':=
 mQ (t':=.ol q0 l') sr hs rfl (by simp) e1 sx λtk=>⟨(sr.ownAt hs rfl e1).1,p0,h',aN.tk tk r⟩
def lR (l:List PV) (v:PV):W (List PV):=.fF (l.length < sizeLine) (.ret (l++[v]))
theorem SF.append (i:Nat) {k:List PV->W T} (hs:fs[i]?=ap (ap (.ol q0 l))) (hK:X.K=K) (hN:X.N[i]?=ap y) (hv:ym X.env.scope y) (he:EF X K fs e we) (hr:∀l',SF X K x (fs.set i (ap (.ol q0 l'))) rest (k l') out)
  (hd:(y==("__debug__":Str))=false:=by decide) (i6:(y==("__classdict__":Str))=false:=by decide) (fW:sK (.Name y p) "append" X.env (lm (.Name y p) X.env)=lm (.Name y p) X.env:=by rfl)
  (sR:((mo bQ (ci [e] X.env)).all (λx=>!x.1)&&(backToKw bQ (Fk [] X.env)).all (λx=>x.1.isSome)
   && decide ([e].length+([]:List wT).length+(if ([]:List wT).isEmpty then 0 else 1) < 30))=true:=by rfl)
  (fV:(Â.endLine==bQ.line)=true:=by rfl) (xt:ci [e] X.env=(false,lm e X.env)::ci [] X.env:=by rfl) (ig:(mo bQ (ci [] X.env)).any (·.1)=false:=by rfl)
  (qk:o0 (.Call (.Attribute (.Name y p) "append" Â) [e] [] bQ) bv pos.line X.env=pure false:=by rfl) :
  SF X K x fs (.Expr (.Call (.Attribute (.Name y p) "append" Â) [e] [] bQ) pos::rest) (.bind we λv=>.bind (lR l v) k) out:=
 SF.step (nM (wR K hK BW Ek Ej sg (dr hN hv hd i6) (bw he.p cY xt) fW sR fV xt ig) qk) λD σ H ⟨sr,q⟩=>by
  obtain⟨a,ws,e1,h1,r1⟩:=dg sr hs;refine⟨_,e1,.inl ⟨rfl,_,dq.of h1⟩,sr,we.mono (λv q1 u H1 g1 s1 v1=>?_) q⟩;obtain⟨a',p0,nv,iC,yz⟩:=dg s1 hs;rw [e1] at nv;cases nv;refine⟨a,p0,u,rfl,rfl,iC,by rw [yz.length];exact q1.1,λH2 sx h2=>?_⟩;obtain⟨s2,g2⟩:=j5 s1 hs e1 sx h2 (yz.append (.one v1));exact⟨_,k _,hr _,s2,(k _).mono (λt q2=>q2.go (g1.f.trans g2) sr s2) q1.2⟩
def xI (l m:List PV):W (List PV):=.fF (l.length+m.length<=sizeLine) (.ret (l++m))
theorem SF.extend (i:Nat) {k:List PV->W T} (hs:fs[i]?=ap (ap (.ol q0 l))) (hK:X.K=K) (hN:X.N[i]?=ap y) (hv:ym X.env.scope y) (he:QF X K fs e wl) (hr:∀l',SF X K x (fs.set i (ap (.ol q0 l'))) rest (k l') out)
  (hd:(y==("__debug__":Str))=false:=by decide) (i6:(y==("__classdict__":Str))=false:=by decide) (fW:sK (.Name y p) "extend" X.env (lm (.Name y p) X.env)=lm (.Name y p) X.env:=by rfl)
  (sR:((mo bQ (ci [e] X.env)).all (λx=>!x.1)&&(backToKw bQ (Fk [] X.env)).all (λx=>x.1.isSome)
   && decide ([e].length+([]:List wT).length+(if ([]:List wT).isEmpty then 0 else 1) < 30))=true:=by rfl)
  (fV:(Â.endLine==bQ.line)=true:=by rfl) (xt:ci [e] X.env=(false,lm e X.env)::ci [] X.env:=by rfl) (ig:(mo bQ (ci [] X.env)).any (·.1)=false:=by rfl)
  (qk:o0 (.Call (.Attribute (.Name y p) "extend" Â) [e] [] bQ) bv pos.line X.env=pure false:=by rfl) :
  SF X K x fs (.Expr (.Call (.Attribute (.Name y p) "extend" Â) [e] [] bQ) pos::rest) (.bind wl λm=>.bind (xI l m) k) out:=
 SF.step (nM (wR K hK BW PySem.F.slot_list_extend PySem.F.type_list_extend (Q8 K hK) (dr hN hv hd i6) (bw he.p cY xt) fW sR fV xt ig) qk) λD σ H ⟨sr,q⟩=>by
  obtain⟨a,ws,e1,h1,r1⟩:=dg sr hs;refine⟨_,e1,.inl ⟨rfl,_,dq.of h1⟩,sr,wl.mono (λm q1 u H1 g1 s1 v1=>?_) q⟩;obtain⟨a',p0,nv,iC,yz⟩:=dg s1 hs;rw [e1] at nv;cases nv;obtain⟨b,zs,rfl,hb,rb⟩:=v1.sq s1;refine⟨a,b,p0,zs,rfl,rfl,iC,hb,by rw [yz.length,rb.length];exact q1.1,λH2 sx h2=>?_⟩;obtain⟨s2,g2⟩:=j5 s1 hs e1 sx h2 (yz.append rb);exact⟨_,k _,hr _,s2,(k _).mono (λt q2=>q2.go (g1.f.trans g2) sr s2) q1.2⟩
def wN (l:List PV):W (List PV×PV):=match l.getLast? with
 | some v=>.ret (l.dropLast,v)
 | none=>.fail
def Mk {l:List PV}{v:PV} (h:l.getLast?=ap v):l=l.dropLast++[v]:=by
 rw [List.getLast?_eq_some_iff] at h;obtain⟨ys,rfl⟩:=h;simp
theorem aN.snoc {H:Hp}:∀{ws:List V}{l:List PV}{v:PV},aN K [] H ws (l++[v])->∃Xd u,ws=Xd++[u]/\aN K [] H Xd l/\VR K [] H u v
 | _,[],_,.cons r .nil=>⟨[],_,rfl,.nil,r⟩
 | _,x::l,v,.cons r t=>by
  obtain⟨Xd,u,rfl,h1,h2⟩:=aN.snoc t;exact⟨_::Xd,u,rfl,.cons r h1,h2⟩
def SF.wO (i j:Nat) {z:Str}{p':Pos}{k:List PV×PV->W T} (hs:fs[i]?=ap (ap (.ol q0 l))) (ö:j≠i) (hK:X.K=K) (hN:X.N[i]?=ap y) (hv:ym X.env.scope y) (hNd:X.N.Nodup) (hj:X.N[j]?=ap z) (hx:Loc X.env.scope z) (hr:∀t:List PV×PV,SF X K x ((fs.set i (ap (.ol q0 t.1))).set j (ap (.val t.2))) rest (k t) out)
  (hd:(y==("__debug__":Str))=false:=by decide) (i6:(y==("__classdict__":Str))=false:=by decide) (fW:sK (.Name y p) "pop" X.env (lm (.Name y p) X.env)=lm (.Name y p) X.env:=by rfl) (fV:(Â.endLine==bQ.line)=true:=by rfl)
  (qk:o0 (.Call (.Attribute (.Name y p) "pop" Â) [] [] bQ) (ap (.Name z p')) pos.line X.env=pure false:=by rfl) (hf:X.fn z=true\/X.env.scope.names.lookup z=ap .local:=by first | exact .inl rfl | exact .inr rfl | assumption) :
  SF X K x fs (.Assign [.Name z p'] (.Call (.Attribute (.Name y p) "pop" Â) [] [] bQ) pos::rest) (.bind (wN l) k) out:=
 SF.step (rS hNd hj hx (QL K hK BW PySem.F.slot_list_pop PySem.F.type_list_pop Q7 (dr hN hv hd i6) fW fV) qk hf) λD σ H ⟨sr,q⟩=>by
  obtain⟨a,ws,e1,h1,r1⟩:=dg sr hs;have q:(wN l).run λt=>(k t).run λt=>bT K x σ fs H D (out t):=q;unfold wN at q;cases hl:l.getLast? with
  | none=>rw [hl] at q;exact q.elim
  | some v=>
   rw [hl] at q;have el:=Mk hl;rw [el] at r1;obtain⟨Xd,u,rfl,r0,ru⟩:=aN.snoc r1;refine⟨_,e1,.inl ⟨rfl,_,dq.of h1⟩,a,Xd,u,rfl,rfl,h1,λH2 sx h2=>?_⟩;obtain⟨s2,g2⟩:=j5 sr hs e1 sx h2 r0;have ru2:VR K [] H2 u v:=g2.vr sr ru;have s3:=s2.eN ru2 j;exact⟨_,k _,hr (l.dropLast,v),s3,(k _).mono (λt q2=>q2.go (g2.trans (cP.eN s2 _ _ j)) sr s3) q⟩
def gY (l:List PV) (i v:PV):W (List PV):=match i with
 | .int k=>match nX l.length k with
  | some j=>.ret (l.set j v)
  | none=>.fail
 | _=>.fail
def SF.GB (i:Nat) {ei:ga}{k:List PV->W T} (hs:fs[i]?=ap (ap (.ol q0 l))) (hN:X.N[i]?=ap y) (hv:ym X.env.scope y) (he:EF X K fs e we) (hi:EF X K fs ei wi) (hr:∀l',SF X K x (fs.set i (ap (.ol q0 l'))) rest (k l') out)
  (ha:∀v,xL (.Subscript (.Name y p) ei eP) X.env v=(do
   let ov <- sB [v] (lm (.Name y p) X.env)
   let iv <- sB [v,ov] (lm ei X.env)
   Gf eP
   sB [v,ov,iv] (Fa ov iv v)
   release [v,ov,iv] []):=by intro _;rfl)
  (hd:(y==("__debug__":Str))=false:=by decide) (i6:(y==("__classdict__":Str))=false:=by decide) (ZI:wP [.Subscript (.Name y p) ei eP] e pos.line X.env=pure false:=by rfl) (hw:wS [.Subscript (.Name y p) ei eP] e X.env=pure bv:=by rfl)
  (h1:(ww [.Subscript (.Name y p) ei eP] X.env).map (·.2)=[xL (.Subscript (.Name y p) ei eP) X.env]:=by rfl) :
  SF X K x fs (.Assign [.Subscript (.Name y p) ei eP] e pos::rest) (.bind we λv=>.bind wi λn=>.bind (gY l n v) k) out:=
 SF.step (wM he.p (MW (dr hN hv hd i6) hi.p oZ ha) ZI hw h1) λD σ H ⟨sr,q⟩=>by
  refine⟨sr,we.mono (λv q1 u H1 g1 s1 v1=>?_) q⟩;obtain⟨a,ws,e1,h1,r1⟩:=dg s1 hs;refine⟨_,e1,s1,wi.mono (λn q2 u2 H2 g2 s2 v2=>?_) q1⟩;obtain⟨a',p0,nv,iC,yz⟩:=dg s2 hs;rw [e1] at nv;cases nv;cases v2 with
  | int kk=>
   have q2:(match nX l.length kk with | some j=>bd (l.set j v) | none=>W.fail).run _:=q2;cases hj:nX l.length kk with
   | none=>rw [hj] at q2;exact q2.elim
   | some j=>
    rw [hj] at q2;refine⟨a,p0,kk,j,rfl,rfl,iC,by rw [yz.length];exact hj,λH3 sx h3=>?_⟩;obtain⟨s3,g3⟩:=j5 s2 hs e1 sx h3 (yz.set (g2.vr s1 v1) j);exact⟨_,k _,hr _,s3,(k _).mono (λt q3=>q3.go ((g1.trans g2).f.trans g3) sr s3) q2⟩
  | _=>exact q2.elim
end
end
section
open PySem PySem.Spec PyProof.Rows L2 PL
variable {K:Ab}
def iG:List AK->List PV->bh
 | [],_=>[]
 | .v::ks,x::l=>ap (.val x)::iG ks l
 | .v::_,[]=>[]
 | .p φ::ks,l=>ap (.kK φ)::iG ks l
 | .f a::ks,l=>ap (.adr a)::iG ks l
def jL (ks:List AK) (l:List PV) (n:Nat):bh:=iG ks l++Am (n-ks.length) bv
def jN (ks:List AK):Prop:=∀i j:Nat,(∃φ,ks[i]?=ap (.p φ))->(∃φ,ks[j]?=ap (.p φ))->i=j
theorem jS {R:Type}:∀{n:Nat}{m:PF R n}{l:List PV}{Q:R->Prop},(cv n m l).run Q->l.length=n
 | 0,_,[],_,_=>rfl
 | 0,_,_::_,_,h=>h.elim
 | n+1,_,[],_,h=>h.elim
 | n+1,m,x::l,Q,h=>by rw [An,jS (n:=n) (m:=m x) h]
section
variable {H H':Hp}{vs:List V}{ks:List AK}{l:List PV}
def jh.len (h:jh K H vs ks l):vs.length=ks.length:=by induction h <;> simp_all
def jh.slot (h:jh K H vs ks l):(iG ks l).length=vs.length/\∀(i:Nat) (s:SL),(iG ks l)[i]?=ap (ap s)->∃u,vs[i]?=ap u/\vO K H u s/\(s.own=true->∃φ,s=.kK φ/\ks[i]?=ap (.p φ)):=by
 induction h with
 | nil=>exact⟨rfl,λi s e=>by simp [iG] at e⟩
 | @v u x vs ks l r t ih=>
  refine⟨by simp [iG,ih.1],λi s e=>?_⟩;cases i with
  | zero=>simp [iG] at e;subst e;exact⟨u,rfl,.inl ⟨x,rfl,r⟩,λz=>by cases z⟩
  | succ i=>simp [iG] at e;obtain⟨w,h1,h2,h3⟩:=ih.2 i s e;exact⟨w,by simpa using h1,h2,by simpa using h3⟩
 | @p a φ ws vs ks l e0 r t ih=>
  refine⟨by simp [iG,ih.1],λi s e=>?_⟩;cases i with
  | zero=>simp [iG] at e;subst e;exact⟨_,rfl,.inr ⟨a,rfl,ws,e0,r⟩,λ_=>⟨φ,rfl,rfl⟩⟩
  | succ i=>simp [iG] at e;obtain⟨w,h1,h2,h3⟩:=ih.2 i s e;exact⟨w,by simpa using h1,h2,by simpa using h3⟩
 | @f a vs ks l t ih=>
  refine⟨by simp [iG,ih.1],λi s e=>?_⟩;cases i with
  | zero=>simp [iG] at e;subst e;exact⟨_,rfl,.inr ⟨a,rfl,rfl⟩,λz=>by cases z⟩
  | succ i=>simp [iG] at e;obtain⟨w,h1,h2,h3⟩:=ih.2 i s e;exact⟨w,by simpa using h1,h2,by simpa using h3⟩
def jh.U3 (h:jh K H vs ks l) {i:Nat}{φ:List V->Prop} (e:ks[i]?=ap (.p φ)):(iG ks l)[i]?=ap (ap (.kK φ)):=by
 induction h generalizing i with
 | nil=>simp at e
 | v r t ih=>cases i with | zero=>simp at e | succ i=>simp [iG];exact ih (by simpa using e)
 | p e0 r t ih=>cases i with | zero=>simp at e;subst e;rfl | succ i=>simp [iG];exact ih (by simpa using e)
 | f t ih=>cases i with | zero=>simp at e | succ i=>simp [iG];exact ih (by simpa using e)
def oH {n i:Nat}{s:SL} (h:(jL ks l n)[i]?=ap (ap s)):(iG ks l)[i]?=ap (ap s):=by
 unfold jL at h;by_cases c:i < (iG ks l).length
 ·rw [AD c] at h;exact h
 ·rw [Aw ∅,Bt] at h
  split at h <;> cases h
def lU {N:List Str}{i:Nat}{u:V} (h:vs[i]?=ap u):(L2.start N vs)[i]?=ap (ap u):=by
 unfold L2.start;rw [AD (by rw [Ah];exact (Al.mp h).1),Ak,h];rfl
def uW {N:List Str}{i:Nat}{u:V} (h:(L2.start N vs)[i]?=ap (ap u)):vs[i]?=ap u:=by
 unfold L2.start at h;by_cases c:i < vs.length
 ·rw [AD (by simpa using c),Ak] at h;cases z:vs[i]? with
  | none=>rw [z] at h;cases h
  | some q=>rw [z] at h;cases h;rfl
 ·rw [Aw (by simpa using c),Bt] at h
  split at h <;> cases h
def jh.beg (h:jh K H vs ks l) (one:jN ks) (N:List Str):a6 K H (L2.start N vs) (jL ks l N.length):=by
 obtain⟨hl,hs⟩:=h.slot;refine⟨?_,λi s e=>?_,λi j s t x y a e1 e2 o1 o2 q1 q2 z1 z2=>?_⟩
 ·unfold L2.start jL;rw [Ae,Ae,Ah,hl,A7,A7,h.len]
 ·obtain⟨u,h1,h2,_⟩:=hs i s (oH e);exact⟨u,lU h1,h2⟩
 ·obtain⟨_,_,_,h3⟩:=hs i s (oH e1);obtain⟨_,_,_,h4⟩:=hs j t (oH e2);obtain⟨φ,_,k1⟩:=h3 o1;obtain⟨ψ,_,k2⟩:=h4 o2;exact one i j ⟨φ,k1⟩ ⟨ψ,k2⟩
def jh.go (h:jh K H vs ks l) {N:List Str}{σ':L2.St}{bP:bh} (g:cP (L2.start N vs) (jL ks l N.length) H σ' bP H') (s':a6 K H' σ' bP):GoC vs ks H H':=by
 obtain⟨hl,hs⟩:=h.slot;refine⟨λa o e n=>(g.keep a o e λz=>?_).1,g.there,λa φ p=>?_⟩
 ·obtain⟨i,s,x,e1,e2,e3,e4⟩:=z;obtain⟨u,h1,h2,h3⟩:=hs i s (oH e1);obtain⟨φ,rfl,k⟩:=h3 e2;rcases e4 with rfl | e4
  ·exact n φ ⟨i,k,uW e3⟩
  ·cases e4
 ·obtain⟨i,e1,e2⟩:=p;have e3:=h.U3 e1;have hi:=(Al.mp e3).1;have e4:(jL ks l N.length)[i]?=ap (ap (.kK φ)):=by unfold jL;rw [AD hi];exact e3
  rcases g.pk a φ ⟨i,e4,lU e2⟩ with⟨j,k1,k2⟩ | ⟨_,k⟩
  ·exact s'.ownAt k1 rfl k2
  ·exact k
end
section
variable {P:f8}{w:lc}{mg:Str->Option bm}{base:lw}{x qual:Str}{st:ul}{f:dL}{fd:sw}{N ps:List Str}{k n:Nat}{ks:List AK}
def fnV {m:PF PV n} (Fn:PB K x qual st f fd) (S:ar N ps (ag st)) (qo:ks.length=ps.length) (one:jN ks)
  (Ã:∀l:List PV,l.length=n->∀(cQ:bm) (A:kw) (outer:List Env) (s:ce) (H:Hp) (E:XK),da k (A.deeper (ut qual (ag st) s.heap.objs.size f cQ))->SF (jJ mr P w K mg base N qual (ag st) f cQ A outer s H E).yA K false (jL ks l N.length) (bx st) (cv n m l) .rt) :
  gj P w K mg base mr (k+1) f fd ps (eF K ks (cv n m)):=by
 refine Fn.ok S (λvs H Q E h=>?_) (λcQ A outer s H vs Q E hr h=>?_)
 ·obtain⟨l,h,_⟩:=h;rw [h.len];exact qo
 obtain⟨l,h,q⟩:=h;refine⟨_,(Ã l (jS q) cQ A outer s H E hr).p,h.beg one N,(cv n m l).mono (λv q1 u σ' bP H' g s' r=>q1 u H' (h.go g s') r) q⟩
def fnL {m:PF (List PV) n} (Fn:PB K x qual st f fd) (S:ar N ps (ag st)) (qo:ks.length=ps.length) (one:jN ks)
  (Ã:∀l:List PV,l.length=n->∀(cQ:bm) (A:kw) (outer:List Env) (s:ce) (H:Hp) (E:XK),da k (A.deeper (ut qual (ag st) s.heap.objs.size f cQ))->SF (jJ mr P w K mg base N qual (ag st) f cQ A outer s H E).yA K false (jL ks l N.length) (bx st) (cv n m l) .rl) :
  gj P w K mg base mr (k+1) f fd ps (gs K ks (cv n m)):=by
 refine Fn.ok S (λvs H Q E h=>?_) (λcQ A outer s H vs Q E hr h=>?_)
 ·obtain⟨l,h,_⟩:=h;rw [h.len];exact qo
 obtain⟨l,h,q⟩:=h;have sr:=h.beg one N;refine⟨_,(Ã l (jS q) cQ A outer s H E hr).p,sr,(cv n m l).mono (λz q1 a ws σ' bP H' g s' fr e r=>q1 a ws H' (h.go g s') ?_ e r) q⟩;rcases fr with fr | ⟨i,t,x,e1,e2,np,e3,e4⟩
 ·exact fr
 ·obtain⟨_,_,_,h3⟩:=h.slot.2 i t (oH e1);obtain⟨φ,e,_⟩:=h3 e2;exact absurd e (np φ)
end
def dD:jN []:=λi j ⟨_,h⟩=>by simp at h
def gk {ks:List AK} (h:jN ks):jN (.v::ks):=λi j ⟨φ,a⟩ ⟨ψ,b⟩=>by
 cases i with
 | zero=>simp at a
 | succ i=>
  cases j with
  | zero=>simp at b
  | succ j=>rw [h i j ⟨φ,by simpa using a⟩ ⟨ψ,by simpa using b⟩]
def lh {ks:List AK}{fa:dL} (h:jN ks):jN (.f fa::ks):=λi j ⟨φ,a⟩ ⟨ψ,b⟩=>by
 cases i with
 | zero=>simp at a
 | succ i=>
  cases j with
  | zero=>simp at b
  | succ j=>rw [h i j ⟨φ,by simpa using a⟩ ⟨ψ,by simpa using b⟩]
def aH {n:Nat}{φ:List V->Prop}:jN (.p φ::Am n .v):=λi j ⟨χ,a⟩ ⟨ψ,b⟩=>by
 have z:∀{i:Nat}{χ:List V->Prop},(AK.p φ::Am n .v)[i]?=ap (.p χ)->i=0:=λ{i χ} a=>by
  cases i with
  | zero=>rfl
  | succ i=>
   have a:(Am n AK.v)[i]?=ap (.p χ):=by simpa using a
   rw [Bt] at a
   split at a <;> simp at a
 rw [z a,z b]
end
end FL
namespace L2
section
open PySem PySem.Spec PyProof.Rows
variable {X:Cx}
def YL (K:Ab):R2:=λx y H Q=>∃a b xs zs,x=.ref a/\y=.ref b/\dq K H a xs/\dq K H b zs/\xs.length+zs.length<=sizeLine/\kL H (.lst (xs++zs)) Q
def QT (K:Ab) (hK:X.K=K):iA X (tz .Add) (YL K):=by
 subst hK;intro Z s σ H x y v u Q I rx ry h;obtain⟨l,b,xs,zs,rfl,rfl,hH,hB,hz,q⟩:=h;cases rx;cases ry;obtain⟨ay,r,⟨⟨cls,dd,data,sl⟩,n,ho,hc,hd,n9⟩,_⟩:=I.list hH;obtain⟨cO,r2,⟨⟨WQ,Sk,data2,Pq⟩,n2,KH,N2,Ð,TC⟩,_⟩:=I.list hB;simp only at hc hd n9 N2 Ð TC;subst hc hd n9 N2 Ð TC;have e:ay.toArray++cO.toArray=(ay++cO).toArray:=by simp
 have hl:=r.length;have LU:=r2.length;refine concat_meets ⟨_,ho,rfl⟩ ⟨_,KH,rfl⟩ noFill_list_add seq_list_add PySem.F.slot_list_add PySem.F.entry_list_add (PySem.F.args_list_add_2 _ _) (list_addW l b ay.toArray cO.toArray n n2 bv bv sl Pq (by simp;omega)) ⟨ho,KH,?_⟩;rw [e];exact⟨.ref _,_,I.VB (t':=s.toks) (r.append r2) (by rw [Ae];omega),rfl,q.at _ I.fresh⟩
end
end L2
namespace FL
section
open PySem PySem.Spec PyProof.Rows L2 PL
variable {K:Ab}
section
variable {X:Cx}{a b c e o:ga}{pos p p1 p2 p3 p4:Pos}{fs:bh}{w wa wb:W PV}{wl wm:W (List PV)}
def yc (l m:List PV):W (List PV):=.fF (l.length+m.length<=sizeLine) (.ret (l++m))
def fQL (K:Ab) (fs:bh) (w:W (List PV)):TE:=λσ H Q=>a6 K H σ fs/\w.run λl=>∀u H',c7 σ fs H H'->a6 K H' σ fs->SH K σ fs H' u l->(∀ÿ,c7 σ fs H' ÿ->a6 K ÿ σ fs->∃a vs,u=.ref a/\dq K ÿ a vs/\aN K [] ÿ vs l)->Q u H'
structure F9 (X:Cx) (K:Ab) (fs:bh) (e:ga) (w:W (List PV)):Prop where p:PE X e (fQL K fs w)
def cB (h:LF X K fs e wl):F9 X K fs e wl:=⟨PE.imp h.p λσ H Q ⟨sr,q⟩=>⟨sr,wl.mono (λl q1 a vs H1 g1 s1 n e v=>q1 _ H1 g1 s1 (.inr ⟨a,rfl,.inl ⟨sr.noOwn n,vs,e,v⟩⟩) λH2 g2 s2=>⟨a,vs,rfl,dq.of (g2.pR e (sr.noOwn n)),g2.LP s1 v⟩) q⟩⟩
def GC (i:Nat) {x:Str}{q0:Option dL}{l:List PV} (hs:fs[i]?=ap (ap (.ol q0 l)):=by rfl) (hN:X.N[i]?=ap x:=by rfl) (hv:ym X.env.scope x:=by first | exact Cw rfl | exact Cn (Cw rfl) | exact Cn (Cn rfl)) (hd:(x==("__debug__":Str))=false:=by decide) (i6:(x==("__classdict__":Str))=false:=by decide):F9 X K fs (.Name x pos) (.ret l):=
 ⟨PE.imp (dr hN hv hd i6) λσ H Q ⟨sr,q⟩=>by
  obtain⟨a,ws,e1,h1,r1⟩:=dg sr hs;refine⟨_,e1,q _ H .refl sr (.inr ⟨a,rfl,.inr ⟨i,q0,hs,e1⟩⟩) λH2 g2 s2=>?_⟩;obtain⟨a',p0,nv,iC,yz⟩:=dg s2 hs;rw [e1] at nv;cases nv;exact⟨a,p0,rfl,dq.of iC,yz⟩⟩
def GY:PV->W (List PV)
 | .cl l=>.ret l
 | _=>.fail
def wJ (h:EF X K fs e w):F9 X K fs e (.bind w GY):=⟨PE.imp h.p λσ H Q ⟨sr,q⟩=>⟨sr,w.mono (λx q1 u1 H1 g1 s1 v1=>by
 cases v1 with
 | cl e r=>exact q1 _ H1 g1 s1 (.inl ⟨_,_,rfl,.inl e,r⟩) λH2 g2 s2=>⟨_,_,rfl,((g2.eM s1).f _ _ e).sq,g2.LP s1 r⟩
 | _=>exact q1.elim) q⟩⟩
def vh (hK:X.K=K) (ha:F9 X K fs a wl) (hb:F9 X K fs b wm):LF X K fs (.BinOp a .Add b pos) (.bind wl λl=>.bind wm λm=>yc l m):=⟨PE.imp (IW (QT K hK) ha.p hb.p) λσ H Q ⟨sr,q⟩=>⟨sr,wl.mono (λl q1 u1 H1 g1 s1 _ v1=>⟨s1,wm.mono (λm q2 u2 H2 g2 s2 _ v2=>by
 obtain⟨a,vs,rfl,h1,r1⟩:=v1 H2 g2 s2;obtain⟨b,ws,rfl,h2,r2⟩:=v2 H2 .refl s2;refine⟨a,b,vs,ws,rfl,rfl,h1,h2,by rw [r1.length,r2.length];exact q2.1,λp H3 s3 h3 n3=>?_⟩;have gg:=g1.trans g2;exact q2.2 p _ H3 (gg.trans (c7.same s3)) (s2.same s3) (gg.there p n3) h3 (aN.tk s3.eO (r1.append r2))) q1⟩) q⟩⟩
def Jg {σ:L2.St}{H H1:Hp}{Q:VK}{vs:List V}{l:List PV} (g1:c7 σ fs H H1) (s1:a6 K H1 σ fs) (r:aN K [] H1 vs l) (q:∀a vs H',c7 σ fs H H'->a6 K H' σ fs->H a=bv->H' a=ap (.lst vs)->aN K [] H' vs l->Q (.ref a) H'):kL H1 (.lst vs) Q:=λp H2 s2 h2 n2=>q p vs H2 (g1.trans (c7.same s2)) (s1.same s2) (g1.there p n2) h2 (aN.tk s2.eO r)
def Nv (K:Ab):CL K (MD K) .ret:=λ{fs σ H Q u l} s v q=>by
 obtain⟨a,vs,rfl,h,rs⟩:=v.sq s;exact⟨a,vs,rfl,h,Jg .refl s rs q⟩
def VE (hK:X.K=K) (hg:Gl X "list") (hm:X.mg "list"=bv) (ha:QF X K fs e wl) (he:ci [e] X.env=(false,lm e X.env)::ci [] X.env:=by rfl) (dR:(mo pos (ci [] X.env)).any (·.1)=false:=by rfl):LF X K fs (.Call (.Name "list" p) [e] [] pos) wl:=ND (m:=.ret) (HV K hK) (Nv K) hg hm boot_list ha (by decide) (by decide) he dR
def fD (hK:X.K=K) (hg:Gl X "tuple") (hm:X.mg "tuple"=bv) (ha:QF X K fs e wl) (he:ci [e] X.env=(false,lm e X.env)::ci [] X.env:=by rfl) (dR:(mo pos (ci [] X.env)).any (·.1)=false:=by rfl):EF X K fs (.Call (.Name "tuple" p) [e] [] pos) (.bind wl oU):=Lh (Lu K hK) (PY K) hg hm boot_tuple ha (by decide) (by decide) he dR
def pH (hK:X.K=K) (hg:Gl X "len") (hm:X.mg "len"=bv) (ha:QF X K fs e wl) (he:ci [e] X.env=(false,lm e X.env)::ci [] X.env:=by rfl) (dR:(mo pos (ci [] X.env)).any (·.1)=false:=by rfl):EF X K fs (.Call (.Name "len" p) [e] [] pos) (.bind wl qi):=OQ (vH K hK) (Rf K) hg hm boot_len ha (by decide) (by decide) he dR
def Pg {R:Type} (ha:EF X K fs e w) (he:ci [e] X.env=(false,lm e X.env)::ci [] X.env):AF X K fs [e] (Am 1 .v) (R:=R) (λk=>.bind w λx=>k [x]):=af ha ao he
def cz (hK:X.K=K) (hg:Gl X "len") (hm:X.mg "len"=bv) (ha:EF X K fs e w) (he:ci [e] X.env=(false,lm e X.env)::ci [] X.env:=by rfl) (dR:(mo pos (ci [] X.env)).any (·.1)=false:=by rfl):EF X K fs (.Call (.Name "len" p) [e] [] pos) (.bind w λx=>qe cV [x]):=q8 (n:=1) (vH K hK) (Sv K) hg hm boot_len (Pg ha he) (by decide) (by decide) he dR
def aas (hg:Gl X "abs") (hm:X.mg "abs"=bv) (ha:EF X K fs e w) (he:ci [e] X.env=(false,lm e X.env)::ci [] X.env:=by rfl) (dR:(mo pos (ci [] X.env)).any (·.1)=false:=by rfl):EF X K fs (.Call (.Name "abs" p) [e] [] pos) (.bind w λx=>qe O8 [x]):=q8 (n:=1) O3 Sx hg hm boot_abs (Pg ha he) (by decide) (by decide) he dR
def oo (hg:Gl X "int") (hm:X.mg "int"=bv) (ha:EF X K fs e w) (he:ci [e] X.env=(false,lm e X.env)::ci [] X.env:=by rfl) (dR:(mo pos (ci [] X.env)).any (·.1)=false:=by rfl):EF X K fs (.Call (.Name "int" p) [e] [] pos) (.bind w λx=>qe qA [x]):=OP (n:=1) Lz Sw hg hm boot_int (Pg ha he) (by decide) (by decide) he dR
def aan (hc:X.calm=true) (hg:Gl X "max") (hm:X.mg "max"=bv) (ha:EF X K fs a wa) (hb:EF X K fs b wb) (he:ci [a,b] X.env=(false,lm a X.env)::ci [b] X.env:=by rfl) (V8:ci [b] X.env=(false,lm b X.env)::ci [] X.env:=by rfl) (dR:(mo pos (ci [b] X.env)).any (·.1)=false:=by rfl):EF X K fs (.Call (.Name "max" p) [a,b] [] pos) (.bind wa λx=>.bind wb λy=>qe O7 [x,y]):=q8 (n:=2) (Lw hc) Su hg hm boot_max (af ha (af hb ao V8) he) (by decide) (by decide) he dR
def aam (hc:X.calm=true) (hg:Gl X "min") (hm:X.mg "min"=bv) (ha:EF X K fs a wa) (hb:EF X K fs b wb) (he:ci [a,b] X.env=(false,lm a X.env)::ci [b] X.env:=by rfl) (V8:ci [b] X.env=(false,lm b X.env)::ci [] X.env:=by rfl) (dR:(mo pos (ci [b] X.env)).any (·.1)=false:=by rfl):EF X K fs (.Call (.Name "min" p) [a,b] [] pos) (.bind wa λx=>.bind wb λy=>qe O6 [x,y]):=q8 (n:=2) (Lv hc) Ss hg hm boot_min (af ha (af hb ao V8) he) (by decide) (by decide) he dR
def Zi (hK:X.K=K) (hc:X.calm=true) (Ġ:Gl X "list") (ě:X.mg "list"=bv) (ğ:Gl X "reversed") (Xm:X.mg "reversed"=bv) (he:F9 X K fs e wl)
  (F5:ci [.Call (.Name "reversed" p3) [e] [] p4] X.env=(false,lm (.Call (.Name "reversed" p3) [e] [] p4) X.env)::ci [] X.env:=by rfl) (qU:ci [e] X.env=(false,lm e X.env)::ci [] X.env:=by rfl) :
  LF X K fs (.Call (.Name "list" p1) [.Call (.Name "reversed" p3) [e] [] p4] [] p2) (.bind wl λl=>.ret l.reverse):=⟨PE.imp (GG K hK hc Ġ ě ğ Xm he.p F5 qU) λσ H Q ⟨sr,q⟩=>⟨sr,wl.mono (λl q1 u1 H1 g1 s1 _ v1=>by
 obtain⟨a,vs,rfl,h1,r1⟩:=v1 H1 .refl s1;exact⟨a,vs,rfl,h1,Jg g1 s1 r1.reverse q1⟩) q⟩⟩
def XA:List PV->W (List Bool)
 | []=>.ret []
 | .bl b::r=>.bind (XA r) λl=>.ret (b::l)
 | _=>.fail
theorem ye:∀{l:List PV}{Q:List Bool->Prop},(XA l).run Q->∃bs:List Bool,l=bs.map PV.bl/\Q bs
 | [],Q,h=>⟨[],rfl,h⟩
 | .bl b::r,Q,h=>by
  obtain⟨bs,e,q⟩:=ye (l:=r) h;exact⟨b::bs,by rw [e];rfl,q⟩
 | .aX::r,Q,h=>h.elim
 | .int _::r,Q,h=>h.elim
 | .str _::r,Q,h=>h.elim
 | .tup _::r,Q,h=>h.elim
 | .ref _::r,Q,h=>h.elim
 | .ty _::r,Q,h=>h.elim
 | .cl _::r,Q,h=>h.elim
@[simp] theorem yf:∀bs:List Bool,XA (bs.map PV.bl)=.ret bs
 | []=>rfl
 | b::bs=>by
  show am (XA (bs.map PV.bl)) _=_;rw [yf bs];rfl
def uN (l:List PV):W PV:=.bind (XA l) λbs=>.ret (.bl (bs.all id))
def Pd (l:List PV):W PV:=.bind (XA l) λbs=>.ret (.bl (bs.any id))
def vD (hK:X.K=K) (hc:X.calm=true) (hg:Gl X "all") (hm:X.mg "all"=bv) (ha:F9 X K fs e wl) (he:ci [e] X.env=(false,lm e X.env)::ci [] X.env:=by rfl) (dR:(mo pos (ci [] X.env)).any (·.1)=false:=by rfl):EF X K fs (.Call (.Name "all" p) [e] [] pos) (.bind wl uN):=⟨PE.imp (fJ (LB K hK hc) hg hm boot_all (bw ha.p cY he) (by decide) (by decide) he dR) λσ H Q ⟨sr,q⟩=>⟨sr,wl.mono (λl q1 u1 H1 g1 s1 _ v1=>by
 obtain⟨bs,e,q2⟩:=ye (l:=l) q1;obtain⟨a,vs,rfl,h1,r1⟩:=v1 H1 .refl s1;rw [e] at r1;have:=pM r1;subst this;exact⟨a,bs,rfl,h1,q2 _ H1 g1 s1 (.bl _)⟩) q⟩⟩
def aar (hK:X.K=K) (hc:X.calm=true) (hg:Gl X "any") (hm:X.mg "any"=bv) (ha:F9 X K fs e wl) (he:ci [e] X.env=(false,lm e X.env)::ci [] X.env:=by rfl) (dR:(mo pos (ci [] X.env)).any (·.1)=false:=by rfl):EF X K fs (.Call (.Name "any" p) [e] [] pos) (.bind wl Pd):=⟨PE.imp (fJ (LA K hK hc) hg hm boot_any (bw ha.p cY he) (by decide) (by decide) he dR) λσ H Q ⟨sr,q⟩=>⟨sr,wl.mono (λl q1 u1 H1 g1 s1 _ v1=>by
 obtain⟨bs,e,q2⟩:=ye (l:=l) q1;obtain⟨a,vs,rfl,h1,r1⟩:=v1 H1 .refl s1;rw [e] at r1;have:=pM r1;subst this;exact⟨a,bs,rfl,h1,q2 _ H1 g1 s1 (.bl _)⟩) q⟩⟩
def dM (k:Kd) (x:PV):W PV:=match x with
 | .ref _=>.fail
 | .ty _=>.fail
 | x=>.ret (.bl (k.is x))
def S7 (K:Ab):List V->Hp->VK->Prop:=λxs H Q=>∃x c t b,xs=[x,.ty c]/\(mC K H x t\/(t=.type "tuple"/\∃a vs,x=.ref a/\d7 K H a vs)\/(t=.type "list"/\∃a vs,x=.ref a/\dq K H a vs)\/(t=.type "dict"/\∃a,x=.ref a/\IsD H a))/\Bu K t (.type c)=ap b/\Q (.bl b) H
def Ly (hK:X.K=K):bZ X (.builtin "isinstance") (S7 K):=by
 subst hK;intro Z s σ H xs us Q I r h;obtain⟨x,c,t,b,rfl,ty | ty | ⟨rfl,a,vs,rfl,hL⟩ | ⟨rfl,a,rfl,hD⟩,e,q⟩:=h
 ·exact pV Z s σ H _ us Q I r ⟨x,c,t,b,rfl,ty,e,q⟩
 ·exact Lx X.K rfl Z s σ H _ us Q I r ⟨x,c,t,b,rfl,.inr ty,e,q⟩
 ·obtain⟨u,w,rfl,r1,r2⟩:=vals2 r;cases r1;cases r2;obtain⟨ay,_,⟨o,n,h1,h2,_⟩,_⟩:=I.list hL;exact Bf Ec I.uy ⟨o,h1,h2⟩ e (λz=>nomatch z) λtk=>⟨.bl b,H,I.tok _,rfl,q⟩
 ·obtain⟨u,w,rfl,r1,r2⟩:=vals2 r;cases r1;cases r2;have:∃o,s.heap.get? a=ap o/\o.cls=.type "dict":=by
   rcases hD with⟨kvs,e⟩ | ⟨kvs,e⟩
   ·obtain⟨_,_,vs,_,o,_,_,h1,h2,_⟩:=tN I.bN e;exact⟨o,h1,h2.1⟩
   ·obtain⟨_,_,xs,_,o,_,_,h1,h2,_⟩:=tM I.bN e;exact⟨o,h1,h2.1⟩
  obtain⟨o,h1,h2⟩:=this;exact Bf Ed I.uy ⟨o,h1,h2⟩ e (λz=>nomatch z) λtk=>⟨.bl b,H,I.tok _,rfl,q⟩
def cW (hK:X.K=K) (k:Kd) {x:Str} (hg:Gl X "isinstance") (hm:X.mg "isinstance"=bv) (ha:EF X K fs a wa) (hgx:Gl X x) (hmx:X.mg x=bv) (hv:re x=ap (.type k.name)) (hn:x≠"__name__":=by decide) (hd:(x==("__debug__":Str))=false:=by decide)
  (he:ci [a,.Name x p2] X.env=(false,lm a X.env)::ci [.Name x p2] X.env:=by rfl) (V8:ci [Expr.Name x p2] X.env=(false,lm (.Name x p2) X.env)::ci [] X.env:=by rfl)
  (dR:(mo pos (ci [Expr.Name x p2] X.env)).any (·.1)=false:=by rfl):EF X K fs (.Call (.Name "isinstance" p) [a,.Name x p2] [] pos) (.bind wa (dM k)):=
 ⟨PE.imp (fJ (Ly hK) hg hm boot_isinstance (bw ha.p (bw (QM (v:=.ty k.name) hgx hmx hv rfl hn hd) cY V8) he) (by decide) (by decide) he dR) λσ H Q ⟨sr,q⟩=>⟨sr,wa.mono (λx q1 u1 H1 g1 s1 v1=>by
  have fin:∀{t:bm}{y:PV},mC K H1 u1 t->Bu K t (.type k.name)=ap (k.is y)->Q (.bl (k.is y)) H1->S7 K [u1,.ty k.name] H1 Q:=λty e q=>⟨_,_,_,_,rfl,.inl ty,e,q⟩;cases v1 with
  | aX=>exact fin (y:=.aX) .aX (by rw [(qT K).1 k];cases k <;> rfl) (q1 _ H1 g1 s1 (.bl _))
  | bl b=>exact fin (.bl b) (VL K b k) (q1 _ H1 g1 s1 (.bl _))
  | int b=>exact fin (.int b) (Ro K b k) (q1 _ H1 g1 s1 (.bl _))
  | str b=>exact fin (.str b) (Rn K b k) (q1 _ H1 g1 s1 (.bl _))
  | ty n=>exact q1.elim
  | ref n=>exact q1.elim
  | @dk a o kvs ks l e k1 r=>exact⟨_,_,_,_,rfl,.inr (.inr (.inr ⟨rfl,_,rfl,.inl ⟨_,.inr ⟨_,e⟩⟩⟩)),(show _=ap (k.is (.dv ks l)) by rw [(qT K).2.2 k];cases k <;> rfl),q1 _ H1 g1 s1 (.bl _)⟩
  | @dt a o kvs ks l e k1 r=>exact⟨_,_,_,_,rfl,.inr (.inr (.inr ⟨rfl,_,rfl,.inr ⟨_,.inr ⟨_,e⟩⟩⟩)),(show _=ap (k.is (.dv ks l)) by rw [(qT K).2.2 k];cases k <;> rfl),q1 _ H1 g1 s1 (.bl _)⟩
  | @cl p vs l e r=>exact⟨_,_,_,_,rfl,.inr (.inr (.inl ⟨rfl,_,_,rfl,e.sq⟩)),(show _=ap (k.is (.cl l)) by rw [(qT K).2.1 k];cases k <;> rfl),q1 _ H1 g1 s1 (.bl _)⟩
  | @tup p vs l e r=>exact⟨_,_,_,_,rfl,.inr (.inl ⟨rfl,_,_,rfl,d7.of e⟩),Rm K _ k,q1 _ H1 g1 s1 (.bl _)⟩) q⟩⟩
def yP (l:List PV):PV->W (List PV)
 | .int k=>.fF (-(2 ^ 63)<=k/\k < 2 ^ 63/\l.length*k.toNat<=sizeLine) (.ret (Am k.toNat l).flatten)
 | _=>.fail
def NC (ha:LF X K fs a wl) (hb:EF X K fs b wb):LF X K fs (.BinOp a .Mult b pos) (.bind wl λl=>.bind wb λy=>yP l y):=⟨PE.imp (IW Vf ha.p hb.p) λσ H Q ⟨sr,q⟩=>⟨sr,wl.mono (λl q1 a vs H1 g1 s1 n e v=>⟨s1,wb.mono (λy q2 u2 H2 g2 s2 v2=>by
 cases v2 with
 | int k=>
  have no:=sr.noOwn n;have e2:=(g2.pR e no);have r2:=g2.LP s1 v;refine⟨a,k,vs,rfl,rfl,e2,q2.1.1,q2.1.2.1,by rw [r2.length];exact q2.1.2.2,λp hp=>?_⟩;have sm:=k7 hp (.lst (Am k.toNat vs).flatten);have gg:=g1.trans g2;exact q2.2 p _ _ (gg.trans (c7.same sm)) (s2.same sm) (gg.there p hp) aR (aN.tk sm.eO (r2.rep k.toNat))
 | _=>exact q2.elim) q1⟩) q⟩⟩
def part:PV->W (Option Int)
 | .int i=>.ret (ap i)
 | _=>.fail
def cM:OF X K fs bv (.ret bv):=⟨PO.imp QC λσ H Q ⟨sr,q⟩=>q H .refl sr⟩
def cR (h:EF X K fs e w):OF X K fs (ap e) (.bind w part):=⟨PO.imp (QB h.p) λσ H Q ⟨sr,q⟩=>⟨sr,w.mono (λx q1 u1 H1 g1 s1 v1=>by
 cases v1 with
 | int i=>exact⟨_,rfl,q1 H1 g1 s1⟩
 | _=>exact q1.elim) q⟩⟩
def iR (h:F9 X K fs e wl) {neg:Bool}:∀σ H Q,fE K fs (.bind wl λl=>.ret (.bl (if neg then !l.isEmpty else l.isEmpty))) σ H Q->S0 (λx y H Q=>∃p q xs,x=.ref p/\y=.ref q/\dq K H p xs/\dq K H q []/\Q (.bl (if neg then !xs.isEmpty else xs.isEmpty)) H) (fQL K fs wl) (fL K fs (.ret [])) σ H Q:=λσ H Q ⟨sr,q⟩=>
 ⟨sr,wl.mono (λl q1 u1 H1 g1 s1 _ v1=>⟨s1,λa2 vs2 H2 g2 s2 n2 e2 r2=>by
  cases r2;obtain⟨a,vs,rfl,h1,r1⟩:=v1 H2 g2 s2;refine⟨a,a2,vs,rfl,rfl,h1,dq.of e2,?_⟩;rw [OE r1];exact q1 _ H2 (g1.trans g2) s2 (.bl _)⟩) q⟩
def Jm:LF X K fs (.List [] pos) (.ret []):=Th (n:=0) ao
def aaq (hK:X.K=K) (hu:X.A.units+200 < sn) (h:F9 X K fs e wl) (hk:pc .Eq (.List [] p2)=false:=by rfl):EF X K fs (.Compare e [.Eq] [.List [] p2] pos) (.bind wl λl=>.ret (.bl l.isEmpty)):=⟨PE.imp (qJ (rX K hK ∅) h.p Jm.p hk) (iR (neg:=false) h)⟩
def aal (hK:X.K=K) (hu:X.A.units+200 < sn) (h:F9 X K fs e wl) (hk:pc .NotEq (.List [] p2)=false:=by rfl):EF X K fs (.Compare e [.NotEq] [.List [] p2] pos) (.bind wl λl=>.ret (.bl (!l.isEmpty))):=⟨PE.imp (qJ (rV K hK ∅) h.p Jm.p hk) (iR (neg:=true) h)⟩
def X7 (hK:X.K=K) (hu:X.A.units+200 < sn) (h:F9 X K fs e wl) (hk:pc .Eq (.List [] p2)=false:=by rfl):TF X K fs (.Compare e [.Eq] [.List [] p2] pos) (.bind wl λl=>.ret l.isEmpty):=⟨PT.imp (qI (rX K hK ∅) h.p Jm.p hk) λσ H Q q=>iR (neg:=false) h σ H _ (RX (w:=.bind wl λl=>.ret (.bl l.isEmpty)) σ H Q q)⟩
def Mb (hK:X.K=K) (hu:X.A.units+200 < sn) (h:F9 X K fs e wl) (hk:pc .NotEq (.List [] p2)=false:=by rfl):TF X K fs (.Compare e [.NotEq] [.List [] p2] pos) (.bind wl λl=>.ret (!l.isEmpty)):=⟨PT.imp (qI (rV K hK ∅) h.p Jm.p hk) λσ H Q q=>iR (neg:=true) h σ H _ (RX (w:=.bind wl λl=>.ret (.bl (!l.isEmpty))) σ H Q q)⟩
def sI:List PV->W (List Int)
 | []=>.ret []
 | .int i::r=>.bind (sI r) λl=>.ret (i::l)
 | _=>.fail
theorem pw:∀{l:List PV}{Q:List Int->Prop},(sI l).run Q->∃ns:List Int,l=ns.map PV.int/\Q ns
 | [],Q,h=>⟨[],rfl,h⟩
 | .int b::r,Q,h=>by
  obtain⟨bs,e,q⟩:=pw (l:=r) h;exact⟨b::bs,by rw [e];rfl,q⟩
 | .aX::r,Q,h=>h.elim
 | .bl _::r,Q,h=>h.elim
 | .str _::r,Q,h=>h.elim
 | .tup _::r,Q,h=>h.elim
 | .ref _::r,Q,h=>h.elim
 | .ty _::r,Q,h=>h.elim
 | .cl _::r,Q,h=>h.elim
@[simp] theorem pz:∀bs:List Int,sI (bs.map PV.int)=.ret bs
 | []=>rfl
 | b::bs=>by
  show am (sI (bs.map PV.int)) _=_;rw [pz bs];rfl
end
end
section
open PySem PySem.Spec PyProof.Rows L2 PL
variable {K:Ab}
abbrev b2 (m:M2) (wa wb:W PV):W PV:=.bind wa λx=>.bind wb λy=>of2 m x y
abbrev t2 (m:M2) (wa wb:W PV):W Bool:=.bind wa λx=>.bind wb λy=>.bind (of2 m x y) XC
abbrev c1 (m:vP) (w:W PV):W PV:=.bind w λx=>qe m [x]
abbrev aZ (wl:W (List PV)) (wb:W PV):W PV:=.bind wl λl=>.bind wb λy=>Jq l y
abbrev uj (a b:W Bool):W Bool:=.bind a λk=>if k=true then b else .ret false
abbrev J5 (a b:W Bool):W Bool:=.bind a λk=>if k=true then .ret true else b
abbrev jU (a:W Bool):W Bool:=.bind a λk=>.ret (!k)
abbrev c6 {α:Type} (t:W Bool) (a b:W α):W α:=.bind t λk=>if k=true then a else b
section
variable {X:Cx}{a b c e o iter tg:ga}{body rest:List ul}{pos p:Pos}{fs:bh}{S T T2:Type}{hd:S->bh}{s0:S}{w we:W PV}{wl:W (List PV)}{wt:PV->W T2}{is:List Nat}{dU:S->T2->bh}{k:S->W T}{out:T->End}{x:Bool}
def SF.xG {i:Nat}{f:PV->S->W S} (hp:EQ (d5 X.prog X.w) X.A X.env X.xe) (hc:X.calm=true) (hi:rh X K fs tg iter wl) (hl:jO fs (hd s0)) (hg:PG X tg (dJ i)) (hb:∀s p,SF X K false ((hd s).set i (ap (.val p))) body (f p s) λs'=>.nc (hd s')) (hr:∀s,SF X K x (hd s) rest (k s) out) (hs:∀x,ii iter X.env x=pure x:=by intro _;rfl) :
  SF X K x fs (.For tg iter body [] pos::rest) (.bind wl λl=>.bind (dY l s0 f) k) out:=SF.for (wt:=.ret) (wb:=λp s=>f p s) hp hc hi hl (λs=>Wi hg) (λ_ _=>rfl) hb hr hs
def SF.RS {wb:T2->S->W S} (hp:EQ (d5 X.prog X.w) X.A X.env X.xe) (hc:X.calm=true) (hi:rh X K fs tg iter wl) (hl:jO fs (hd s0)) (hg:∀s,GF X K (hd s) tg is wt (dU s)) (hb:∀s t,SF X K false (dU s t) body (wb t s) λs'=>.nc (hd s')) (hr:∀s,SF X K x (hd s) rest (k s) out) (hs:∀x,ii iter X.env x=pure x:=by intro _;rfl) :
  SF X K x fs (.For tg iter body [] pos::rest) (.bind wl λl=>.bind (dY l s0 λp s=>.bind (wt p) λt=>wb t s) k) out:=SF.for hp hc hi hl hg (λ_ _=>rfl) hb hr hs
def SF.Oc {i:Nat}{R:Type}{inj:R->T}{f:PV->S->W (Lp S R)} (hp:EQ (d5 X.prog X.w) X.A X.env X.xe) (hc:X.calm=true) (hi:rh X K fs tg iter wl) (hl:jO fs (hd s0)) (hg:PG X tg (dJ i)) (ho:∀t,(out (inj t)).Jt) (hb:∀s p,SF X K false ((hd s).set i (ap (.val p))) body (f p s) (Zg hd λr=>out (inj r))) (hr:∀s,SF X K x (hd s) rest (k s) out) (hs:∀x,ii iter X.env x=pure x:=by intro _;rfl) :
  SF X K x fs (.For tg iter body [] pos::rest) (.bind wl λl=>.bind (FL.iD l s0 f) (F6 k inj)) out:=SF.iD (wt:=.ret) (wb:=λp s=>f p s) hp hc hi hl (λs=>Wi hg) (λ_ _=>rfl) ho hb hr hs
def SF.UE {fs3:T2->bh}{k:T2->W T} (he:EF X K fs e we) (hg:GF X K fs tg is wt fs3) (hr:∀t,SF X K x (fs3 t) rest (k t) out) (hs:wP [tg] e pos.line X.env=pure false:=by rfl) (hw:wS [tg] e X.env=pure bv:=by rfl)
  (h1:(ww [tg] X.env).map (·.2)=[xL tg X.env]:=by rfl):SF X K x fs (.Assign [tg] e pos::rest) (.bind we λv=>.bind (wt v) k) out:=SF.step (wM he.p hg.p hs hw h1) λD σ H ⟨sr,q⟩=>
 ⟨sr,we.mono (λv q1 u H1 g1 s1 v1=>⟨v,s1,v1,(wt v).mono (λt q2 us g2 s2=>⟨_,k t,hr t,s2,(k t).mono (λt' q3=>q3.go (g1.f.trans g2) sr s2) q2⟩) q1⟩) q⟩
def SF.par {i j:Nat}{y z:Str}{wa wb:W PV}{px py pt U1:Pos}{kt k2:Nat}{k:PV->PV->W T} (hc:X.calm=true) (hN:X.N.Nodup) (hi:X.N[i]?=ap y) (hj:X.N[j]?=ap z) (ö:i≠j) (hx:X.env.scope.names.lookup y=ap .local) (hy:X.env.scope.names.lookup z=ap .local)
  (ha:EF X K fs a wa) (hb:EF X K fs b wb) (hr:∀u v,SF X K x ((fs.set i (ap (.val u))).set j (ap (.val v))) rest (k u v) out)
  (hw:wS [.Tuple [.Name y px,.Name z py] kt pt] (.Tuple [a,b] k2 U1) X.env=pure (ap [y,z]):=by rfl) (hs:wP [.Tuple [.Name y px,.Name z py] kt pt] (.Tuple [a,b] k2 U1) pos.line X.env=pure false:=by rfl)
  (he:ci [a,b] X.env=(false,lm a X.env)::ci [b] X.env:=by rfl) (V8:ci [b] X.env=(false,lm b X.env)::ci [] X.env:=by rfl) :
  SF X K x fs (.Assign [.Tuple [.Name y px,.Name z py] kt pt] (.Tuple [a,b] k2 U1) pos::rest) (.bind wa λu=>.bind wb λv=>k u v) out:=
 SF.step (U2 hc hN hi hj ö hx hy (bw ha.p (bw hb.p cY V8) he) hw hs) λD σ H ⟨sr,q⟩=>⟨sr,wa.mono (λu q1 u1 H1 g1 s1 v1=>⟨s1,wb.mono (λv q2 u2 H2 g2 s2 v2=>by
  have s3:=s2.eN (g2.vr s1 v1) i;have s4:=s3.eN v2 j;exact⟨_,_,rfl,_,k u v,hr u v,s4,(k u v).mono (λt q3=>q3.go (((g1.trans g2).f.trans (cP.eN s2 _ _ i)).trans (cP.eN s3 _ _ j)) sr s4) q2⟩) q1⟩) q⟩
def rH (v:PV):W PV:=.fF (v.dat=true) (.ret v)
def L9 (l:List PV):W (List PV):=.fF (uJ l=true) (.ret l)
mutual
theorem VR.kq {ι:List dL}{H H':Hp} (t:∀p vs,H p=ap (.tup vs)->H' p=ap (.tup vs)):∀{v:V}{q:PV},VR K ι H v q->q.dat=true->VR K [] H' v q
 | _,_,.aX,_=>.aX
 | _,_,.bl b,_=>.bl b
 | _,_,.int i,_=>.int i
 | _,_,.str x,_=>.str x
 | _,_,.ty n,h=>by rw [PV.dat] at h;cases h
 | _,_,.tup e r,h=>.tup (t _ _ e) (aN.kq t r (by rw [PV.dat] at h;exact h))
 | _,_,.cl e r,h=>by rw [PV.dat] at h;cases h
 | _,_,.dk _ _ _,h=>by rw [PV.dat] at h;cases h
 | _,_,.dt _ _ _,h=>by rw [PV.dat] at h;cases h
 | _,_,.ref e,h=>by rw [PV.dat] at h;cases h
theorem aN.kq {ι:List dL}{H H':Hp} (t:∀p vs,H p=ap (.tup vs)->H' p=ap (.tup vs)):∀{v:List V}{q:List PV},aN K ι H v q->uJ q=true->aN K [] H' v q
 | _,_,.nil,_=>.nil
 | _,_,.cons r s,h=>by
  rw [uJ,Av] at h;exact .cons (VR.kq t r h.1) (aN.kq t s h.2)
end
def bor {Z:List (dL×Obj)}{s:ce}{σ:L2.St}{H:Hp}{i:Nat}{q0:Option dL}{l:List PV} (I:Inv X Z σ H s) (sr:a6 K H σ fs) (hs:fs[i]?=ap (ap (.ol q0 l))):∃a ws ob,Inv X Z σ (upd H a (.cU ob (.lst ws))) s/\a6 K (upd H a (.cU ob (.lst ws))) σ (fs.set i (ap (.val (.cl l))))/\
  ∀σ' s' H1,Inv X Z σ' H1 s'->c7 σ (fs.set i (ap (.val (.cl l)))) (upd H a (.cU ob (.lst ws))) H1->a6 K H1 σ (fs.set i (ap (.val (.cl l))))->Inv X Z σ' (upd H1 a (.lst ws)) s'/\c7 σ fs H (upd H1 a (.lst ws))/\a6 K (upd H1 a (.lst ws)) σ fs/\(∀p vs,H1 p=ap (.tup vs)->upd H1 a (.lst ws) p=ap (.tup vs))/\∀p vs,p≠a->H1 p=ap (.lst vs)->upd H1 a (.lst ws) p=ap (.lst vs):=by
 obtain⟨a,ws,e1,h1,r1⟩:=dg sr hs;obtain⟨ob,I2⟩:=I.qW h1;have tk:=lT (K:=K) (.cU ob (.lst ws)) h1;have h0:∀o u,X.H₀ a≠ap (.cU o u):=λo u z=>by
  have:=I.base.qt a o u z;rw [h1] at this;cases this
 refine⟨a,ws,ob,I2,⟨by simp [sr.len],λj t z=>?_,λj k t u b1 b2 b z1 z2 o1 o2=>?_⟩,λσ' s' H1 J g s1=>?_⟩
 ·rcases bq z with⟨rfl,rfl⟩ | ⟨n,z⟩
  ·exact⟨_,e1,.inl ⟨_,rfl,.cl (.inl ⟨ob,aR⟩) (aN.tk tk r1)⟩⟩
  ·obtain⟨u,k1,k2⟩:=sr.at' j t z;exact⟨u,k1,k2.mono tk (λx b o eb ow hb zz=>by
    subst eb;rw [aF (λy=>by subst y;exact n (sr.nd j i t _ x b b z hs ow rfl k1 e1 hb (.inl rfl)))];exact zz)⟩
 ·rcases bq z1 with⟨rfl,rfl⟩ | ⟨n1,z1⟩
  ·cases o1
  ·rcases bq z2 with⟨rfl,rfl⟩ | ⟨n2,z2⟩
   ·cases o2
   ·exact sr.nd j k t u b1 b2 b z1 z2 o1 o2
 ·have pf:∀φ b,eZ σ (fs.set i (ap (.val (.cl l)))) φ b->eZ σ fs φ b:=λφ b ⟨j,z1,z3⟩=>by
   rcases bq z1 with⟨_,z⟩ | ⟨n,z1⟩
   ·cases z
   ·exact⟨j,z1,z3⟩
  have npa:∀φ,¬eZ σ fs φ a:=λφ ⟨j,z1,z3⟩=>by
   have:=sr.nd j i _ _ a a a z1 hs rfl rfl z3 e1 (.inl rfl) (.inl rfl);subst this;rw [hs] at z1;cases z1
  have e2:=g.keep a _ aR λφ p=>npa φ (pf φ a p);have hk:=vn J.bN e2;have ge:c7 σ fs H (upd H1 a (.lst ws)):=by
   refine⟨λb o z n=>?_,λb z=>?_⟩
   ·by_cases c:b=a
    ·subst c;rw [h1] at z;cases z;exact aR
    ·rw [aF c];exact g.keep b o (by rw [aF c];exact z) λφ p=>n φ (pf φ b p)
   ·by_cases c:b=a
    ·subst c;rw [aR] at z;cases z
    ·rw [aF c] at z;have:=g.there b z;rw [aF c] at this;exact this
  refine⟨J.X5 e2 h0 (hk a _ aR) hk,ge,⟨sr.len,λj t z=>?_,sr.nd⟩,λp vs z=>?_,λp vs n z=>by rw [aF n];exact z⟩
  ·obtain⟨u,k1,k2⟩:=sr.at' j t z;refine⟨u,k1,?_⟩;by_cases c:∃φ,t=.kK φ
   ·obtain⟨φ,rfl⟩:=c;have ji:j≠i:=λy=>by subst y;rw [hs] at z;cases z
    rcases k2 with⟨v,y,_⟩ | ⟨b,rfl,_⟩
    ·cases y
    ·obtain⟨vs,y1,y2⟩:=s1.ownAt (t:=.kK φ) (i:=j) (by rw [aK ji];exact z) rfl k1;refine .inr ⟨b,rfl,vs,?_,y2⟩;rw [aF (λy=>by subst y;exact npa φ ⟨j,z,k1⟩)];exact y1
   ·refine k2.mono (ge.eM sr) (λx b o eb ow hb zz=>ge.keep b o zz λφ ⟨j',p1,p3⟩=>?_);subst eb;have:=sr.nd j j' t _ x b b z p1 ow rfl k1 p3 hb (.inl rfl);subst this;rw [z] at p1;cases p1;exact c ⟨φ,rfl⟩
  ·rw [aF (λy=>by subst y;rw [e2] at z;cases z)];exact z
def T3 (i:Nat) {q0:Option dL}{l:List PV} (hs:fs[i]?=ap (ap (.ol q0 l))) (h:EF X K (fs.set i (ap (.val (.cl l)))) e w):EF X K fs e (.bind w rH):=⟨λZ s σ H Q I ⟨sr,q⟩=>by
 obtain⟨a,ws,ob,I2,s2,Í⟩:=bor I sr hs;refine bH (h.p Z s σ _ (λu H1=>∃v,c7 σ (fs.set i (ap (.val (.cl l)))) (upd H a (.cU ob (.lst ws))) H1/\a6 K H1 σ (fs.set i (ap (.val (.cl l))))/\VR K [] H1 u v/\v.dat=true/\∀u H',c7 σ fs H H'->a6 K H' σ fs->VR K [] H' u v->Q u H') I2 ⟨s2,w.mono (λv q1 u H1 g1 s1 v1=>⟨v,g1,s1,v1,q1.1,q1.2⟩) q⟩) λu s1 ⟨x,H1,I1,r1,v,g1,Qn,v1,d,q1⟩=>?_;obtain⟨I3,g3,s3,t3,_⟩:=Í σ s1 H1 I1 g1 Qn;exact⟨x,_,I3,r1,q1 x _ g3 s3 (VR.kq t3 v1 d)⟩⟩
end
end
section
open PySem PySem.Spec PyProof.Rows L2 PL
variable {K:Ab}
def Yr (K:Ab) (m:List PV->List PV->W (PV×List PV)):Sp:=λvs H Q _=>∃a Po ws lo l,vs=.ref a::Po/\H a=ap (.lst ws)/\aN K [] H ws lo/\aN K [] H Po l/\(m lo l).run λt=>∀u p0 H',oO a H H'->(∀b,H' b=bv->H b=bv)->H' a=ap (.lst p0)->aN K [] H' p0 t.2->VR K [] H' u t.1->Q u H'
section
variable {P:f8}{w:lc}{mg:Str->Option bm}{base:lw}{x qual:Str}{st:ul}{f:dL}{fd:sw}{N ps:List Str}{k n:Nat}{ks:List AK}
def O4 (a:dL) (lo l:List PV) (n:Nat):bh:=ap (.ol (ap a) lo)::(l.map λv=>ap (SL.val v))++Am (n-1-l.length) bv
def aN.slot {H:Hp}{vs:List V}{l:List PV} (r:aN K [] H vs l) {i:Nat}{s:SL} (h:(l.map λv=>ap (SL.val v))[i]?=ap (ap s)):∃u v,vs[i]?=ap u/\s=.val v/\VR K [] H u v:=by
 rw [Ak] at h;cases e:l[i]? with
 | none=>rw [e] at h;cases h
 | some v=>
  rw [e] at h;obtain⟨u,h1,h2⟩:=r.get e;cases h;exact⟨u,v,h1,rfl,h2⟩
def fnO {m:List PV->PF (PV×List PV) n} (Fn:PB K x qual st f fd) (S:ar N ps (ag st)) (hn:n+1=ps.length)
  (Ã:∀(a:dL) (lo l:List PV),l.length=n->∀(cQ:bm) (A:kw) (outer:List Env) (s:ce) (H:Hp) (E:XK),da k (A.deeper (ut qual (ag st) s.heap.objs.size f cQ))->SF (jJ mr P w K mg base N qual (ag st) f cQ A outer s H E).yA K false (O4 a lo l N.length) (bx st) (cv n (m lo) l) λt=>.ro t.1 a t.2) :
  gj P w K mg base mr (k+1) f fd ps (Yr K λlo l=>cv n (m lo) l):=by
 refine Fn.ok S (λvs H Q E h=>?_) (λcQ A outer s H vs Q E hr h=>?_)
 ·obtain⟨a,Po,ws,lo,l,rfl,_,_,r,q⟩:=h;rw [An,r.length,jS q];exact hn
 obtain⟨a,Po,ws,lo,l,rfl,ha,iB,r,q⟩:=h;have hl:=jS q;have hr2:=r.length;have RK:∀{i:Nat}{s:SL},(O4 a lo l N.length)[i]?=ap (ap s)->(i=0/\s=.ol (ap a) lo)\/∃j u v,i=j+1/\Po[j]?=ap u/\s=.val v/\VR K [] H u v:=λ{i s} e=>by
  unfold O4 at e;cases i with
  | zero=>simp at e;exact .inl ⟨rfl,e.symm⟩
  | succ j=>
   rw [List.cons_append,List.getElem?_cons_succ] at e;by_cases c:j < l.length
   ·rw [AD (by simpa using c)] at e;obtain⟨u,v,h1,h2,h3⟩:=aN.slot r e;exact .inr ⟨j,u,v,rfl,h1,h2,h3⟩
   ·rw [Aw (by simpa using c),Bt] at e
    split at e <;> cases e
 have sr:a6 K H (L2.start N (.ref a::Po)) (O4 a lo l N.length):=by
  refine⟨?_,λi s e=>?_,λi j s t x y b e1 e2 o1 o2 q1 q2 _ _=>?_⟩
  ·unfold L2.start O4;rw [Ae,Ah,A7,Ae,An,An,Ah,A7];omega
  ·rcases RK e with⟨rfl,rfl⟩ | ⟨j,u,v,rfl,h1,rfl,h3⟩
   ·exact⟨.ref a,lU rfl,.inr ⟨a,rfl,λb z=>Option.some.inj z,ws,ha,iB⟩⟩
   ·exact⟨u,lU (by simpa using h1),.inl ⟨v,rfl,h3⟩⟩
  ·rcases RK e1 with⟨rfl,rfl⟩ | ⟨j1,u,v,rfl,h1,rfl,h3⟩
   ·rcases RK e2 with⟨rfl,rfl⟩ | ⟨j1,u,v,rfl,h1,rfl,h3⟩
    ·rfl
    ·cases o2
   ·cases o1
 refine⟨_,(Ã a lo l hl cQ A outer s H E hr).p,sr,(cv n (m lo) l).mono (λt q1 u σ' bP H' g s' ho rv=>?_) q⟩;obtain⟨i,e⟩:=ho;obtain⟨u',e',r'⟩:=s'.at' i _ e;rcases r' with⟨v,z,_⟩ | ⟨b,rfl,hb,p0,h1,h2⟩
 ·cases z
 have hba:=hb a rfl;subst hba;refine q1 u p0 H' (λc o nc e=>(g.keep c o e λz=>?_).1) g.there h1 h2 rv;obtain⟨j,t',x,z1,z2,z3,z4⟩:=z;rcases RK z1 with⟨rfl,rfl⟩ | ⟨j1,u,v,rfl,_,rfl,_⟩
 ·have:=uW z3;simp at this;rcases z4 with rfl | z4
  ·exact nc this.symm
  ·cases z4
 ·cases z2
def fg (G:List Int->Prop):List V->Prop:=λws=>∃ns:List Int,ws=ns.map V.int/\G ns
def U4 {G:List Int->Prop}{m:List PV->List PV->W (PV×List PV)}{mp:List PV->W PV} (F:gj P w K mg base mr k f fd ps (Yr K m)) (hm:∀ns l Q,G ns->(mp l).run Q->(m (ns.map PV.int) l).run λt=>Q t.1/\∃Je:List Int,t.2=Je.map PV.int/\G Je) :
  gj P w K mg base mr k f fd ps (eF K (.p (fg G)::Am n .v) mp):=F.imp λvs H Q E h=>by
 obtain⟨l,ha,q⟩:=h;cases ha with
 | @p a φ ws vs ks l e r t=>
  obtain⟨ns,rfl,hG⟩:=r;have tv:∀{n:Nat}{vs:List V}{l:List PV},jh K H vs (Am n .v) l->aN K [] H vs l:=by
   intro n
   induction n with
   | zero=>intro vs l h;cases h;exact .nil
   | succ n ih=>intro vs l h;cases h with | v r t=>exact .cons r (ih t)
  refine⟨a,vs,ns.map V.int,ns.map PV.int,l,rfl,e,n6 _ _ ns,tv t,(m _ _).mono (λt q1 u p0 H' sx hth e' r' rv=>?_) (hm ns l _ hG q)⟩;obtain⟨q1,Je,et,hG'⟩:=q1;rw [et] at r';have:=nZ r';subst this;refine q1 u H' ⟨λb o eb nb=>sx b o (λz=>?_) eb,hth,λb φ p=>?_⟩ rv
  ·subst z;exact nb _ ⟨0,rfl,rfl⟩
  ·obtain⟨i,e1,e2⟩:=p;cases i with
   | zero=>simp at e1 e2;subst e1;subst e2;exact⟨_,e',Je,rfl,hG'⟩
   | succ i=>
    simp at e1;rw [Bt] at e1
    split at e1 <;> simp at e1
end
section
variable {X:Cx}{Pp:List ul}{fs:bh}{T:Type}{w:W T}{out:T->End}{x:Bool}
def YQ (G:List Int->Prop) (l:List PV) (w:W T):W T:=.fF (∃ns:List Int,l=ns.map PV.int/\G ns) w
def SF.kK (i:Nat) {l:List PV}{G:List Int->Prop} (hs:fs[i]?=ap (ap (.ol bv l))) (hr:SF X K x (fs.set i (ap (.kK (fg G)))) Pp w out):SF X K x fs Pp (YQ G l w) out:=⟨λZ s σ H D I ⟨sr,q⟩=>by
 obtain⟨⟨ns,el,hG⟩,q⟩:=q;obtain⟨a,ws,e1,h1,r1⟩:=dg sr hs;subst el;have:=nZ r1;subst this;obtain⟨s2,g2⟩:=mQ (t':=.kK (fg G)) sr hs rfl (by simp) e1 (λ_ _ _ z=>z:oO a H H) λtk=>⟨_,h1,ns,rfl,hG⟩;exact hr.p Z s σ H D I ⟨s2,w.mono (λt q2=>q2.go g2 sr s2) q⟩⟩
end
end
section
open PySem PySem.Spec PyProof.Rows L2 PL
variable {K:Ab}
abbrev chB (m m':M2) (wa wb wc:W PV):W PV:=.bind wa λx=>.bind wb λy=>.bind (of2 m x y) λz=>lP z (.bind wc λw=>of2 m' y w)
abbrev chT (m m':M2) (wa wb wc:W PV):W Bool:=.bind wa λx=>.bind wb λy=>.bind (of2 m x y) λz=>.bind (lP z (.bind wc λw=>of2 m' y w)) XC
abbrev qB (wa wb:W PV):W PV:=.bind wa λx=>LD x wb
abbrev orB (wa wb:W PV):W PV:=.bind wa λx=>orW x wb
abbrev K2 (wl:W (List PV)):W PV:=.bind wl λl=>.ret (.cl l)
abbrev G6 (t:W Bool) (w:W PV):W (Option PV):=.bind t λk=>if k=true then .bind w λv=>.ret (ap v) else .ret bv
section
variable {X:Cx}{c e Ä tg iter:ga}{es:List ga}{pos p:Pos}{fs:bh}{k k' n:Nat}{ps:List Str}{x:Str}{ks:List AK}{W':W PV}{WL:W (List PV)}
def Sd {m:List PV->W PV}{B:(List PV->W PV)->W PV} (G:SQ X.prog X.w X.K X.mg X.base x k ps (eF K ks m)) (hr:da k' X.A) (hk:k<=k') (hg:Gl X x) (ha:AF X K fs (e::es) ks B) (hW:W'=B m) (n8:(x==("__debug__":Str))=false:=by decide)
  (he:ci (e::es) X.env=(false,lm e X.env)::ci es X.env:=by rfl) (dR:(mo pos (ci es X.env)).any (·.1)=false:=by rfl):EF X K fs (.Call (.Name x p) (e::es) [] pos) W':=hW▸WC G hr hk hg ha n8 he dR
def Rk {m:List PV->W (List PV)}{B:(List PV->W (List PV))->W (List PV)} (G:SQ X.prog X.w X.K X.mg X.base x k ps (gs K ks m)) (hr:da k' X.A) (hk:k<=k') (hg:Gl X x) (ha:AF X K fs (e::es) ks B) (hW:WL=B m) (n8:(x==("__debug__":Str))=false:=by decide)
  (he:ci (e::es) X.env=(false,lm e X.env)::ci es X.env:=by rfl) (dR:(mo pos (ci es X.env)).any (·.1)=false:=by rfl):LF X K fs (.Call (.Name x p) (e::es) [] pos) WL:=hW▸VG G hr hk hg ha n8 he dR
def aM {x1}{B:(List PV->W PV)->W PV} (h:AF X K fs es (Am n .v) B) (hW:W'=B λl=>.ret (.tup l)) (hn:n<=1000:=by decide):EF X K fs (.Tuple es x1 pos) W':=hW▸aaj h hn
def bc {B:(List PV->W (List PV))->W (List PV)} (h:AF X K fs es (Am n .v) B) (hW:WL=B λl=>.ret l) (hn:n<=1000:=by decide):LF X K fs (.List es pos) WL:=hW▸Th h hn
variable {sc:nw}{N':List Str}{ix:List (Option Nat)}{wl:W (List PV)}{T2:Type}{wt:PV->W T2}{is:List Nat}{dU:T2->bh}{tf:T2->W Bool}{te:T2->W PV}
def gh {i:Nat}{f:PV->W PV} (hc:X.calm=true) (S:aG X.env.scope X.N sc N' ix) (hi:rh X K fs tg iter wl) (hg:∀cl C s2 H2 fp,PG (gq X sc N' cl C s2 H2 fp) tg (dJ i)) (he:∀cl C s2 H2 fp t,EF (gq X sc N' cl C s2 H2 fp) K ((cj ix fs).set i (ap (.val t))) Ä (f t)) (h0:ix[i]?=ap bv) (hs:∀x,ii iter X.env x=pure x:=by intro _;rfl) :
  LF X K fs (.ListComp Ä [⟨tg,iter,[],0⟩] sc pos) (.bind wl λl=>mapW l f):=
 have h1:(cj ix fs)[i]?=ap bv:=by unfold cj;rw [Ak,h0];rfl
 Tg hc S hi (λcl C s2 H2 fp=>Wi (hg cl C s2 H2 fp)) he (λ_=>rfl) (Nz h1) (λj hj=>by rw [Bh] at hj;subst hj;exact h0) hs
def zq {i:Nat}{tf:PV->W Bool}{te:PV->W PV} (hc:X.calm=true) (S:aG X.env.scope X.N sc N' ix) (hi:rh X K fs tg iter wl) (hg:∀cl C s2 H2 fp,PG (gq X sc N' cl C s2 H2 fp) tg (dJ i)) (hf:∀cl C s2 H2 fp t,TF (gq X sc N' cl C s2 H2 fp) K ((cj ix fs).set i (ap (.val t))) c (tf t)) (he:∀cl C s2 H2 fp t,EF (gq X sc N' cl C s2 H2 fp) K ((cj ix fs).set i (ap (.val t))) Ä (te t)) (h0:ix[i]?=ap bv) (hs:∀x,ii iter X.env x=pure x:=by intro _;rfl) :
  LF X K fs (.ListComp Ä [⟨tg,iter,[c],0⟩] sc pos) (.bind wl λl=>kQ l λp=>G6 (tf p) (te p)):=
 have h1:(cj ix fs)[i]?=ap bv:=by unfold cj;rw [Ak,h0];rfl
 VF (wt:=.ret) (tf:=tf) (te:=te) hc S hi (λcl C s2 H2 fp=>Wi (hg cl C s2 H2 fp)) (λcl C s2 H2 fp t=>xH (hf cl C s2 H2 fp t)) he (λ_=>rfl) (Nz h1) (λj hj=>by rw [Bh] at hj;subst hj;exact h0) hs
def G7 (hc:X.calm=true) (S:aG X.env.scope X.N sc N' ix) (hi:rh X K fs tg iter wl) (hg:∀cl C s2 H2 fp,GF (gq X sc N' cl C s2 H2 fp) K (cj ix fs) tg is wt dU) (he:∀cl C s2 H2 fp t,EF (gq X sc N' cl C s2 H2 fp) K (dU t) Ä (te t))
  (hl:uR is (cj ix fs) dU/\∀t,jO (dU t) (cj ix fs)) (uD:∀j∈is,ix[j]?=ap bv) (hs:∀x,ii iter X.env x=pure x:=by intro _;rfl) :
  LF X K fs (.ListComp Ä [⟨tg,iter,[],0⟩] sc pos) (.bind wl λl=>mapW l λp=>.bind (wt p) te):=Tg hc S hi hg he (λ_=>rfl) hl uD hs
def Ti (hc:X.calm=true) (S:aG X.env.scope X.N sc N' ix) (hi:rh X K fs tg iter wl) (hg:∀cl C s2 H2 fp,GF (gq X sc N' cl C s2 H2 fp) K (cj ix fs) tg is wt dU) (hf:∀cl C s2 H2 fp t,TF (gq X sc N' cl C s2 H2 fp) K (dU t) c (tf t)) (he:∀cl C s2 H2 fp t,EF (gq X sc N' cl C s2 H2 fp) K (dU t) Ä (te t))
  (hl:uR is (cj ix fs) dU/\∀t,jO (dU t) (cj ix fs)) (uD:∀j∈is,ix[j]?=ap bv) (hs:∀x,ii iter X.env x=pure x:=by intro _;rfl) :
  LF X K fs (.ListComp Ä [⟨tg,iter,[c],0⟩] sc pos) (.bind wl λl=>kQ l λp=>.bind (wt p) λt=>G6 (tf t) (te t)):=VF hc S hi hg (λcl C s2 H2 fp t=>xH (hf cl C s2 H2 fp t)) he (λ_=>rfl) hl uD hs
variable {rest:List ul}{T:Type}{out:T->End}{x0:Bool}{kk:List PV->W T}{i:Nat}{y:Str}{px kJ:Pos}
def SF.Mn {j:Nat}{tf:PV->W Bool}{te:PV->W PV} (hc:X.calm=true) (hN:X.N.Nodup) (zB:X.N[i]?=ap y) (hx:X.env.scope.names.lookup y=ap .local) (S:aG X.env.scope X.N sc N' ix) (hi:rh X K fs tg iter wl) (hg:∀cl C s2 H2 fp,PG (gq X sc N' cl C s2 H2 fp) tg (dJ j)) (hf:∀cl C s2 H2 fp t,TF (gq X sc N' cl C s2 H2 fp) K ((cj ix fs).set j (ap (.val t))) c (tf t)) (he:∀cl C s2 H2 fp t,EF (gq X sc N' cl C s2 H2 fp) K ((cj ix fs).set j (ap (.val t))) Ä (te t)) (h0:ix[j]?=ap bv) (hr:∀l,SF X K x0 (fs.set i (ap (.ol bv l))) rest (kk l) out)
  (qk:o0 (.ListComp Ä [⟨tg,iter,[c],0⟩] sc pos) (ap (.Name y px)) kJ.line X.env=pure true:=by rfl) (hs:∀x,ii iter X.env x=pure x:=by intro _;rfl) :
  SF X K x0 fs (.Assign [.Name y px] (.ListComp Ä [⟨tg,iter,[c],0⟩] sc pos) kJ::rest) (.bind (.bind wl λl=>kQ l λp=>G6 (tf p) (te p)) kk) out:=
 have h1:(cj ix fs)[j]?=ap bv:=by unfold cj;rw [Ak,h0];rfl
 SF.S4 (wt:=.ret) (tf:=tf) (te:=te) hc hN zB hx S hi (λcl C s2 H2 fp=>Wi (hg cl C s2 H2 fp)) (λcl C s2 H2 fp t=>xH (hf cl C s2 H2 fp t)) he (λ_=>rfl) (Nz h1) (λm hj=>by rw [Bh] at hj;subst hj;exact h0) hr qk hs
def Q9 {wt:PV->W T2}{te:T2->W PV}:(λl=>mapW l λp=>.bind (wt p) te)=λl=>kQ l λp=>.bind (wt p) λt=>.bind (.ret true) λk=>if k=true then .bind (te t) λv=>.ret (ap v) else .ret bv:=funext λl=>by
 rw [w6];rfl
def SF.Qj (hc:X.calm=true) (hN:X.N.Nodup) (zB:X.N[i]?=ap y) (hx:X.env.scope.names.lookup y=ap .local) (S:aG X.env.scope X.N sc N' ix) (hi:rh X K fs tg iter wl) (hg:∀cl C s2 H2 fp,GF (gq X sc N' cl C s2 H2 fp) K (cj ix fs) tg is wt dU) (he:∀cl C s2 H2 fp t,EF (gq X sc N' cl C s2 H2 fp) K (dU t) Ä (te t))
  (hl:uR is (cj ix fs) dU/\∀t,jO (dU t) (cj ix fs)) (uD:∀j∈is,ix[j]?=ap bv) (hr:∀l,SF X K x0 (fs.set i (ap (.ol bv l))) rest (kk l) out)
  (qk:o0 (.ListComp Ä [⟨tg,iter,[],0⟩] sc pos) (ap (.Name y px)) kJ.line X.env=pure true:=by rfl) (hs:∀x,ii iter X.env x=pure x:=by intro _;rfl) :
  SF X K x0 fs (.Assign [.Name y px] (.ListComp Ä [⟨tg,iter,[],0⟩] sc pos) kJ::rest) (.bind (.bind wl λl=>mapW l λp=>.bind (wt p) te) kk) out:=by
 rw [Q9];exact SF.S4 (tf:=λ_=>.ret true) hc hN zB hx S hi hg (λ_ _ _ _ _ _=>Og) he (λp=>rfl) hl uD hr qk hs
def SF.nJ {j:Nat}{f:PV->W PV} (hc:X.calm=true) (hN:X.N.Nodup) (zB:X.N[i]?=ap y) (hx:X.env.scope.names.lookup y=ap .local) (S:aG X.env.scope X.N sc N' ix) (hi:rh X K fs tg iter wl) (hg:∀cl C s2 H2 fp,PG (gq X sc N' cl C s2 H2 fp) tg (dJ j)) (he:∀cl C s2 H2 fp t,EF (gq X sc N' cl C s2 H2 fp) K ((cj ix fs).set j (ap (.val t))) Ä (f t)) (h0:ix[j]?=ap bv) (hr:∀l,SF X K x0 (fs.set i (ap (.ol bv l))) rest (kk l) out)
  (qk:o0 (.ListComp Ä [⟨tg,iter,[],0⟩] sc pos) (ap (.Name y px)) kJ.line X.env=pure true:=by rfl) (hs:∀x,ii iter X.env x=pure x:=by intro _;rfl) :
  SF X K x0 fs (.Assign [.Name y px] (.ListComp Ä [⟨tg,iter,[],0⟩] sc pos) kJ::rest) (.bind (.bind wl λl=>mapW l f) kk) out:=
 have h1:(cj ix fs)[j]?=ap bv:=by unfold cj;rw [Ak,h0];rfl
 SF.Qj (wt:=.ret) hc hN zB hx S hi (λcl C s2 H2 fp=>Wi (hg cl C s2 H2 fp)) he (Nz h1) (λm hj=>by rw [Bh] at hj;subst hj;exact h0) hr qk hs
end
def Jy {P:f8}{w:lc}{mg:Str->Option bm}{base:lw}{f:dL}{fd:sw}{ps:List Str}{k:Nat}{sp:Sp} (h:∀vs H Q E,¬sp vs H Q E):gj P w K mg base mr k f fd ps sp:=⟨λvs H Q E q=>(h _ _ _ _ q).elim,λA outer s H args us vs Q E _ _ _ _ q=>(h _ _ _ _ q).elim⟩
def Gy {ks:List AK}{n:Nat}{m:PF PV n} (h:∀l Q,l.length=n->¬(cv n m l).run Q):∀vs H Q E,¬eF K ks (cv n m) vs H Q E:=λvs H Q E ⟨l,_,q⟩=>h l _ (jS q) q
def Qe {ks:List AK}{n:Nat}{m:PF (List PV) n} (h:∀l Q,l.length=n->¬(cv n m l).run Q):∀vs H Q E,¬gs K ks (cv n m) vs H Q E:=λvs H Q E ⟨l,_,q⟩=>h l _ (jS q) q
def aL {k:Nat}{A:kw} (hr:da k A):A.units+200 < sn:=by have:=hr.un;omega
end
section
open PySem PySem.Spec PyProof.Rows L2 PL
variable {K:Ab}
mutual
def PV.kl:PV->Bool
 | .tup l=>fX l
 | .cl l=>fX l
 | .ref _=>false
 | .ty _=>false
 | .dv _ _=>false
 | _=>true
def fX:List PV->Bool
 | []=>true
 | x::l=>PV.kl x&&fX l
end
mutual
def PV.iE:PV->Nat
 | .tup l=>eJ l+1
 | .cl l=>eJ l+1
 | _=>0
def eJ:List PV->Nat
 | []=>0
 | x::l=>max (PV.iE x) (eJ l)
end
mutual
def kM:PV->PV->Bool
 | .aX,.aX=>true
 | .bl a,.bl b=>a==b
 | .bl a,.int b=>(if a then 1 else 0)==b
 | .int a,.bl b=>a==(if b then 1 else 0)
 | .int a,.int b=>a==b
 | .str a,.str b=>a==b
 | .tup l,.tup m=>gD l m
 | .cl l,.cl m=>gD l m
 | _,_=>false
def gD:List PV->List PV->Bool
 | [],[]=>true
 | x::l,y::m=>kM x y&&gD l m
 | _,_=>false
end
theorem tq:∀{l:List PV}{j:Nat}{x:PV},fX l=true->l[j]?=ap x->PV.kl x=true
 | [],_,_,_,e=>by simp at e
 | y::l,0,x,h,e=>by
  simp at e;subst e;rw [fX,Av] at h;exact h.1
 | y::l,j+1,x,h,e=>by
  rw [fX,Av] at h;exact tq h.2 (by simpa using e)
theorem vt:∀{l:List PV}{j:Nat}{x:PV},l[j]?=ap x->PV.iE x<=eJ l
 | [],_,_,e=>by simp at e
 | y::l,0,x,e=>by
  simp at e;subst e;rw [eJ];omega
 | y::l,j+1,x,e=>by
  have:=vt (l:=l) (j:=j) (x:=x) (by simpa using e);rw [eJ];omega
mutual
theorem zN:∀(x:PV),PV.kl x=true->kM x x=true
 | .aX,_=>by rw [kM]
 | .bl b,_=>by rw [kM];simp
 | .int i,_=>by rw [kM];simp
 | .str i,_=>by rw [kM];simp
 | .tup l,h=>by rw [kM];exact ml l (by rw [PV.kl] at h;exact h)
 | .cl l,h=>by rw [kM];exact ml l (by rw [PV.kl] at h;exact h)
 | .ref _,h=>by rw [PV.kl] at h;cases h
 | .ty _,h=>by rw [PV.kl] at h;cases h
 | .dv _ _,h=>by rw [PV.kl] at h;cases h
theorem ml:∀(l:List PV),fX l=true->gD l l=true
 | [],_=>by rw [gD]
 | x::l,h=>by
  rw [fX,Av] at h;rw [gD,zN x h.1,ml l h.2];rfl
end
def Oz (l m:List PV) (j:Nat):Bool:=match l[j]?,m[j]? with | some x,ap y=>kM x y | _,_=>true
theorem om:∀(l m:List PV),((AA (min l.length m.length)).all (Oz l m)&&l.length==m.length)=gD l m
 | [],[]=>by rw [gD];rfl
 | [],_::_=>by
  rw [gD]
  ·simp
  ·intros;simp_all
  ·intros;simp_all
 | _::_,[]=>by
  rw [gD]
  ·simp
  ·intros;simp_all
  ·intros;simp_all
 | x::l,y::m=>by
  rw [gD,<- om l m];have e:min (x::l).length (y::m).length=min l.length m.length+1:=by simp only [An];omega
  rw [e,Df,Fp,List.all_map];have e2:((x::l).length==(y::m).length)=(l.length==m.length):=by simp
  rw [e2,Bool.and_assoc];rfl
def Oh {l m:List PV} (h:l.length≠m.length):gD l m=false:=by
 rw [<- om];have:(l.length==m.length)=false:=by simpa using h
 rw [this,CI]
section
variable {X:Cx}{Z:List (dL×Obj)}{σ:L2.St}{H:Hp}{s:ce}
mutual
theorem VR.Od (I:Inv X Z σ H s):∀{v:V}{x y:PV},VR X.K [] H v x->VR X.K [] H v y->x=y
 | _,_,_,.aX,h=>by cases h;rfl
 | _,_,_,.bl b,h=>by cases h;rfl
 | _,_,_,.int b,h=>by cases h;rfl
 | _,_,_,.str b,h=>by cases h;rfl
 | _,_,_,.ty b,h=>by cases h;rfl
 | _,_,_,.ref e,h=>by simp at e
 | _,_,_,.tup e r,h=>by
  cases h with
  | tup e' r'=>
   have ee:=I.lS (d7.of e) (d7.of e');subst ee;rw [aN.Od I r r']
  | ref e=>simp at e
  | cl e' r'=>
   obtain⟨ay,_,⟨o,n,h1,h2,_⟩,_⟩:=I.list e'.sq;obtain⟨its',_,⟨o',iC,t4,_⟩,_⟩:=I.tuple (d7.of e);rw [h1] at iC;cases iC;rw [h2] at t4;simp at t4
  | dk e' _ _=>rw [e] at e';cases e'
  | dt e' _ _=>rw [e] at e';cases e'
 | _,_,_,.dk e k r,h=>by
  cases h with
  | dk e' k' r'=>rw [e] at e';cases e';rw [k,k',aN.Od I r r']
  | dt e' _ _=>rw [e] at e';cases e'
  | ref e=>simp at e
  | tup e' _=>rw [e] at e';cases e'
  | cl e' r'=>
   obtain⟨ay,_,⟨o,n,h1,h2,_⟩,_⟩:=I.list e'.sq;obtain⟨_,_,vs,_,o',_,_,iC,t4,_⟩:=tN I.bN (.inr ⟨_,e⟩);rw [h1] at iC;cases iC;have h3:=t4.1;rw [h2] at h3;simp at h3
 | _,_,_,.dt e k r,h=>by
  cases h with
  | dt e' k' r'=>rw [e] at e';cases e';rw [k,k',aN.Od I r r']
  | dk e' _ _=>rw [e] at e';cases e'
  | ref e=>simp at e
  | tup e' _=>rw [e] at e';cases e'
  | cl e' r'=>
   obtain⟨ay,_,⟨o,n,h1,h2,_⟩,_⟩:=I.list e'.sq;obtain⟨_,_,vs,_,o',_,_,iC,t4,_⟩:=tM I.bN (.inr ⟨_,e⟩);rw [h1] at iC;cases iC;have h3:=t4.1;rw [h2] at h3;simp at h3
 | _,_,_,.cl e r,h=>by
  cases h with
  | dk e' _ _=>
   obtain⟨ay,_,⟨o,n,h1,h2,_⟩,_⟩:=I.list e.sq;obtain⟨_,_,vs,_,o',_,_,iC,t4,_⟩:=tN I.bN (.inr ⟨_,e'⟩);rw [h1] at iC;cases iC;have h3:=t4.1;rw [h2] at h3;simp at h3
  | dt e' _ _=>
   obtain⟨ay,_,⟨o,n,h1,h2,_⟩,_⟩:=I.list e.sq;obtain⟨_,_,vs,_,o',_,_,iC,t4,_⟩:=tM I.bN (.inr ⟨_,e'⟩);rw [h1] at iC;cases iC;have h3:=t4.1;rw [h2] at h3;simp at h3
  | cl e' r'=>
   obtain⟨ay,k,⟨o,n,h1,h2,h3,h4⟩,_⟩:=I.list e.sq;obtain⟨its',k',⟨o',n',iC,t4,Hj,We⟩,_⟩:=I.list e'.sq;rw [h1] at iC;cases iC;rw [h4] at We;have:ay=its':=by injection We with a b;simpa using a
   subst this;have ee:=Vals.inj k k';subst ee;rw [aN.Od I r r']
  | ref e=>simp at e
  | tup e' r'=>
   obtain⟨ay,_,⟨o,n,h1,h2,_⟩,_⟩:=I.list e.sq;obtain⟨its',_,⟨o',iC,t4,_⟩,_⟩:=I.tuple (d7.of e');rw [h1] at iC;cases iC;rw [h2] at t4;simp at t4
theorem aN.Od (I:Inv X Z σ H s):∀{v:List V}{x y:List PV},aN X.K [] H v x->aN X.K [] H v y->x=y
 | _,_,_,.nil,h=>by cases h;rfl
 | _,_,_,.cons r t,h=>by
  cases h with
  | cons r' t'=>rw [VR.Od I r r',aN.Od I t t']
end
structure Cmp (A:kw) (s:ce) (w w':bm) (b:Bool):Prop where
 rc:SeqAt.RcAt A s w w' b
 ne:SeqAt.RcNeAt A s w w' (!b)
 eq:Dk A s w w' b
def aai (I:Inv X Z σ H s) {A:kw}{vs ws:List V}{l m:List PV}{ay its':List bm} (r:Vals vs ay) (r':Vals ws its') (r1:aN X.K [] H vs l) (r2:aN X.K [] H ws m)
  (ih:∀(j:Nat) (x y:PV) (v v':V) (w w':bm),l[j]?=ap x->m[j]?=ap y->VR X.K [] H v x->VR X.K [] H v' y->RelV v w->RelV v' w'->Dk A s w w' (kM x y)) :
  ∀j (g1:j < ay.toArray.size) (g2:j < its'.toArray.size),Dk A s ay.toArray[j] its'.toArray[j] (Oz l m j):=λj g1 g2=>by
 have h1:j < ay.length:=by simpa using g1
 have h2:j < its'.length:=by simpa using g2
 have hl:j < l.length:=by rw [<- r1.length,r.length];exact h1
 have hm:j < m.length:=by rw [<- r2.length,r'.length];exact h2
 obtain⟨v,v1,v2⟩:=r1.get (Ad hl);obtain⟨v',Ul,ā⟩:=r2.get (Ad hm);obtain⟨u,u1,u2⟩:=r.get v1;obtain⟨u',u1',u2'⟩:=r'.get Ul;rw [Ad h1] at u1;rw [Ad h2] at u1';cases u1;cases u1';unfold Oz;rw [Ad hl,Ad hm];have:=ih j _ _ v v' _ _ (Ad hl) (Ad hm) v2 ā u2 u2';simpa using this
inductive Sh (X:Cx) (H:Hp) (s:ce):PV->bm->Prop
 | aX:Sh X H s .aX .none
 | bl (b):Sh X H s (.bl b) (.bool b)
 | int (i t):Sh X H s (.int i) (.int i t)
 | str (x t):Sh X H s (.str x) (.str x t)
 | tup {p vs ay l} (e:VR X.K [] H (.ref p) (.tup l)) (k:Vals vs ay) (r:aN X.K [] H vs l) (h:s.heap.IsTuple p ay.toArray):Sh X H s (.tup l) (.ref p)
 | cl {p vs ay l} (e:VR X.K [] H (.ref p) (.cl l)) (k:Vals vs ay) (r:aN X.K [] H vs l) (h:s.heap.IsList p ay.toArray):Sh X H s (.cl l) (.ref p)
def Sh.of (I:Inv X Z σ H s) {v:V}{x:PV}{w:bm} (h:VR X.K [] H v x) (r:RelV v w) (d:PV.kl x=true):Sh X H s x w:=by
 cases h with
 | ref e=>simp at e
 | aX=>cases r;exact .aX
 | bl a=>cases r;exact .bl a
 | int a=>obtain⟨t,rfl⟩:=r;exact .int a t
 | str a=>obtain⟨t,rfl⟩:=r;exact .str a t
 | tup e q=>
  cases r;obtain⟨ay,k,ht,_⟩:=I.tuple (d7.of e);exact .tup (.tup e q) k q ht
 | cl e q=>
  cases r;obtain⟨ay,k,pl,_⟩:=I.list e.sq;exact .cl (.cl e q) k q pl.isList
 | _=>rw [PV.kl] at d;cases d
set_option maxHeartbeats 8000000 in
def WO (hK:X.K=K) (I:Inv X Z σ H s):∀(n:Nat) (x y:PV) (A:kw) (v v':V) (w w':bm),PV.iE x<=n->PV.kl x=true->PV.kl y=true->VR K [] H v x->VR K [] H v' y->RelV v w->RelV v' w'->A.units+n+1 < sn->Cmp A s w w' (kM x y):=by
 subst hK;intro n
 induction n using DL with
 | ind n ih=>
 intro x y A v v' w w' hd dx dy hv hv' r1 r2 hu;have a:=Sh.of I hv r1 dx;have b:=Sh.of I hv' r2 dy;clear hv hv' r1 r2;have el:∀{l m:List PV}{vs ws:List V}{ay cO:List bm},fX l=true->fX m=true->eJ l < n->Vals vs ay->Vals ws cO->aN X.K [] H vs l->aN X.K [] H ws m->ay.toArray.size=l.length/\cO.toArray.size=m.length/\∀j (g1:j < ay.toArray.size) (g2:j < cO.toArray.size),Dk A.in1 s ay.toArray[j] cO.toArray[j] (Oz l m j):=λd1 d2 hd k1 k2 r r'=>⟨by rw [Aj,<- k1.length,r.length],by rw [Aj,<- k2.length,r'.length],aai I (A:=A.in1) k1 k2 r r' λj x y v v' w w' hx hy vx vy rx ry=>(ih _ hd x y A.in1 v v' w w' (vt hx) (tq d1 hx) (tq d2 hy) vx vy rx ry (by show A.units+1+_+1 < _;omega)).eq⟩;have fin:∀{pa pb:dL}{l m:List PV},(pa=pb->l=m)->fX l=true->SeqAt.RcAt A s (.ref pa) (.ref pb) (gD l m)->Dk A s (.ref pa) (.ref pb) (gD l m):=λ{pa pb l m} h d q=>by
  by_cases Z1:pa=pb
  ·rw [h Z1,ml _ (h Z1▸d),Z1];exact FI _
  ·exact Fu Z1 q
 cases a <;> cases b
 case tup.tup pa vs ay l e k r ht pb ws cO m e2 k2 r2 Hg=>
  rw [PV.iE] at hd;obtain⟨z1,z2,ie⟩:=el dx dy ∅ k k2 r r2;have q1:=Fv ht Hg (A:=A) ∅ ie;have q2:=SeqAt.RcNeAt.tuples ht Hg (A:=A) ∅ ie;rw [z1,z2,om] at q1 q2;exact⟨q1,q2,fin (λz=>by subst z;have:=VR.Od I e e2;injection this) dx q1⟩
 case cl.cl pa vs ay l e k r ht pb ws cO m e2 k2 r2 Hg=>
  rw [PV.iE] at hd;obtain⟨z1,z2,ie⟩:=el dx dy ∅ k k2 r r2;by_cases hz:l.length=m.length
  ·have q1:=FE ht Hg (by rw [z1,z2];exact hz) (A:=A) ∅ ie;have q2:=Ft ht Hg (by rw [z1,z2];exact hz) (A:=A) ∅ ie;have ef:(AA l.length).all (Oz l m)=gD l m:=by rw [<- om,hz,Nat.min_self,beq_self_eq_true,CU]
   rw [z1,ef] at q1 q2;exact⟨q1,q2,fin (λz=>by subst z;have:=VR.Od I e e2;injection this) dx q1⟩
  ·have q1:=Ei (A:=A) ht Hg (by rw [z1,z2];simpa using hz) ∅;have q2:=DZ (A:=A) ht Hg (by rw [z1,z2];simpa using hz) ∅;have ef:=Oh hz;rw [<- ef] at q1;have q2:SeqAt.RcNeAt A s (.ref pa) (.ref pb) (!gD l m):=by rw [ef];exact q2
   exact⟨q1,q2,fin (λz=>by subst z;have:=VR.Od I e e2;injection this) dx q1⟩
 all_goals
  clear ih el fin;rw [kM] <;> try (intros;simp_all;done)
  refine⟨?_,?_,?_⟩ <;> (try simp only [A1,Fc]) <;> first | with_reducible exact .none_none | with_reducible exact .none_bool _ | with_reducible exact .none_int _ _ | with_reducible exact .none_str _ _ | with_reducible exact .none_tuple ‹_› ∅ | with_reducible exact .none_list ‹_› ∅ | with_reducible exact .bool_none _ | with_reducible exact .bool_str _ _ _ | with_reducible exact .bool_tuple _ ‹_› ∅ | with_reducible exact .bool_list _ ‹_› ∅ | with_reducible exact .int_none _ _ | with_reducible exact .int_str _ _ _ _ | with_reducible exact .int_tuple _ _ ‹_› ∅ | with_reducible exact .int_list _ _ ‹_› ∅ | with_reducible exact .str_none _ _ | with_reducible exact .str_bool _ _ _ | with_reducible exact .str_int _ _ _ _ | with_reducible exact .str_tuple _ _ ‹_› ∅ | with_reducible exact .str_list _ _ ‹_› ∅ | with_reducible exact .tuple_none ‹_› ∅ | with_reducible exact .tuple_bool _ ‹_› ∅ | with_reducible exact .tuple_int _ _ ‹_› ∅ | with_reducible exact .tuple_str _ _ ‹_› ∅ | with_reducible exact .tuple_list ‹_› ‹_› ∅ | with_reducible exact .list_none ‹_› ∅ | with_reducible exact .list_bool _ ‹_› ∅ | with_reducible exact .list_int _ _ ‹_› ∅ | with_reducible exact .list_str _ _ ‹_› ∅ | with_reducible exact .list_tuple ‹_› ‹_› ∅ | exact .same _ | exact .bool_bool _ _ | exact .bool_int _ _ _ | exact .int_bool _ _ _ | exact .int_int _ _ _ _ | exact .str_str _ _ _ _
end
end
section
open PySem PySem.Spec PyProof.Rows L2 PL
variable {K:Ab}
mutual
theorem VR.nQ {ι:List dL}{H:Hp}:∀{v:V}{q:PV},VR K ι H v q->PV.kl q=true->VR K [] H v q
 | _,_,.aX,_=>.aX
 | _,_,.bl b,_=>.bl b
 | _,_,.int i,_=>.int i
 | _,_,.str x,_=>.str x
 | _,_,.ty n,h=>by rw [PV.kl] at h;cases h
 | _,_,.dk _ _ _,h=>by rw [PV.kl] at h;cases h
 | _,_,.dt _ _ _,h=>by rw [PV.kl] at h;cases h
 | _,_,.tup e r,h=>.tup e (aN.nQ r (by rw [PV.kl] at h;exact h))
 | _,_,.cl e r,h=>.cl e (aN.nQ r (by rw [PV.kl] at h;exact h))
 | _,_,.ref e,h=>by rw [PV.kl] at h;cases h
theorem aN.nQ {ι:List dL}{H:Hp}:∀{v:List V}{q:List PV},aN K ι H v q->fX q=true->aN K [] H v q
 | _,_,.nil,_=>.nil
 | _,_,.cons r s,h=>by
  rw [fX,Av] at h;exact .cons (VR.nQ r h.1) (aN.nQ s h.2)
end
def K4 (x y:PV):Prop:=PV.kl x=true/\PV.kl y=true/\PV.iE x<=150
def dh:M2:=⟨λx y h Q=>K4 x y/\Q (.bl (kM x y)) h,λf q=>⟨q.1,f _ _ q.2⟩⟩
def uq:M2:=⟨λx y h Q=>K4 x y/\Q (.bl (!kM x y)) h,λf q=>⟨q.1,f _ _ q.2⟩⟩
def Qu (K:Ab) (neg:Bool):R2:=λu v H Q=>∃x y,VR K [] H u x/\VR K [] H v y/\K4 x y/\Q (.bl (if neg then !kM x y else kM x y)) H
section
variable {X:Cx}{b:ga}
def Vl (hK:X.K=K) (hu:X.A.units+200 < sn):iA X (nn .Eq) (Qu K false):=λZ s σ H u v w w' Q I r1 r2 ⟨x,y,h1,h2,⟨o1,o2,o3⟩,q⟩=>by
 exact ER (WO hK I 150 x y X.A u v w w' o3 o1 o2 h1 h2 r1 r2 ∅).rc ⟨.bl _,H,I,rfl,q⟩
def Vh (hK:X.K=K) (hu:X.A.units+200 < sn):iA X (nn .NotEq) (Qu K true):=λZ s σ H u v w w' Q I r1 r2 ⟨x,y,h1,h2,⟨o1,o2,o3⟩,q⟩=>by
 exact Ee (WO hK I 150 x y X.A u v w w' o3 o1 o2 h1 h2 r1 r2 ∅).ne ⟨.bl _,H,I,rfl,q⟩
def Q3:M2.Ok K (Qu K false) dh:=λ{ι H h u v x y Q} hr hu hv q=>⟨x,y,VR.nQ hu q.1.1,VR.nQ hv q.1.2.1,q.1,q.2 ι _ H (Go.refl _ _) hr (.bl _)⟩
def QZ:M2.Ok K (Qu K true) uq:=λ{ι H h u v x y Q} hr hu hv q=>⟨x,y,VR.nQ hu q.1.1,VR.nQ hv q.1.2.1,q.1,q.2 ι _ H (Go.refl _ _) hr (.bl _)⟩
def c9 (hK:X.K=K) (hu:X.A.units+200 < sn):JC X K .Eq b dh:=⟨⟨_,Vl hK hu,Q3⟩,mU _⟩
def zv (hK:X.K=K) (hu:X.A.units+200 < sn):JC X K .NotEq b uq:=⟨⟨_,Vh hK hu,QZ⟩,mU _⟩
end
end
end FL
namespace L2
open PySem PySem.Spec PyProof.Rows
def tX (b:Bool) (h:lw) (it a:dL) (k:Nat):Prop:=match b with
 | true=>h.IsListIter it a k
 | false=>h.IsTupleIter it a k
def jg (b:Bool) (h:lw) (a:dL) (xs:Array bm):Prop:=match b with
 | true=>h.IsList a xs
 | false=>h.IsTuple a xs
def tX.move {b:Bool}{h h':lw}{it a:dL}{k:Nat} (x:tX b h it a k) (g:∀o,h.get? it=ap o->h'.get? it=ap o):tX b h' it a k:=by
 cases b with
 | true=>obtain⟨o,e,p⟩:=(show h.IsListIter it a k from x);exact (show h'.IsListIter it a k from⟨o,g o e,p⟩)
 | false=>obtain⟨o,e,p⟩:=(show h.IsTupleIter it a k from x);exact (show h'.IsTupleIter it a k from⟨o,g o e,p⟩)
def jg.move {b:Bool}{h h':lw}{a:dL}{xs:Array bm} (x:jg b h a xs) (g:∀o,h.get? a=ap o->h'.get? a=ap o):jg b h' a xs:=by
 cases b with
 | true=>obtain⟨o,e,p⟩:=(show h.IsList a xs from x);exact (show h'.IsList a xs from⟨o,g o e,p⟩)
 | false=>obtain⟨o,e,p⟩:=(show h.IsTuple a xs from x);exact (show h'.IsTuple a xs from⟨o,g o e,p⟩)
def tX.obj {b:Bool}{h:lw}{it a:dL}{k:Nat} (x:tX b h it a k):∃o,h.get? it=ap o/\∀v,o.data≠.cell v:=by
 cases b with
 | true=>obtain⟨o,e,_,d⟩:=(show h.IsListIter it a k from x);exact⟨o,e,λv z=>by rw [d] at z;cases z⟩
 | false=>obtain⟨o,e,_,d⟩:=(show h.IsTupleIter it a k from x);exact⟨o,e,λv z=>by rw [d] at z;cases z⟩
def jg.lt {b:Bool}{h:lw}{a:dL}{xs:Array bm} (x:jg b h a xs):a < h.objs.size:=by
 cases b with
 | true=>obtain⟨o,e,p⟩:=(show h.IsList a xs from x);exact Ar e
 | false=>obtain⟨o,e,p⟩:=(show h.IsTuple a xs from x);exact Ar e
section
variable {prog:f8}{w:lc}{A:kw}{E:bm->ce->Prop}{s:ce}
def lj {b:Bool}{it t:dL}{i:Nat}{items:Array bm}{x:bm}{Q:bm->ce->Prop} (h:tX b s.heap it t i) (ht:jg b s.heap t items) (hx:items[i]?=ap x)
  (q:∀h':lw,tX b h' it t (i+1)->B7 it s.heap h'->Q x {s with heap:=h'}):d4 (d5 prog w) A (Builtin.SmallTypes.nextOf (.ref it)) Q E s:=by
 cases b with
 | true=>exact wpAny_nextOf_list_item h ht hx λh' a b=>q h' a b
 | false=>exact iK h ht hx q
def sf {b:Bool}{it t:dL}{i:Nat}{items:Array bm}{Q:bm->ce->Prop} (hA:A.handled=bv) (h:tX b s.heap it t i) (ht:jg b s.heap t items) (hx:items[i]?=bv)
  (q:∀(h':lw) (e:dL),FH it s.heap h'->(∃o,h'.get? e=ap o/\o.cls=.type "StopIteration")->E (.ref e) {s with heap:=h'}):d4 (d5 prog w) A (Builtin.SmallTypes.nextOf (.ref it)) Q E s:=by
 cases b with
 | true=>exact wpAny_nextOf_list_end hA h ht hx λh' e a b=>q h' e a b
 | false=>exact jw hA h ht hx q
def Ky:Bool->String
 | true=>"list_iterator"
 | false=>"tuple_iterator"
def uZ {b:Bool}{a:dL}{xs:Array bm}{Q:bm->ce->Prop} (h:jg b s.heap a xs) (q:Q (.ref s.heap.objs.size) {s with heap:=s.heap.push {cls:=.type (Ky b),data:=.fields #[.ref a,.int 0 0]}}):d4 (d5 prog w) A (pyIter (.ref a)) Q E s:=by
 cases b with
 | true=>exact Cz h q
 | false=>exact D6 h q
def IJ {b:Bool}{h:lw}{it a:dL} (e:h.get? it=ap {cls:=.type (Ky b),data:=.fields #[.ref a,.int 0 0]}):tX b h it a 0:=by
 cases b with
 | true=>exact (show h.IsListIter it a 0 from⟨_,e,rfl,rfl⟩)
 | false=>exact (show h.IsTupleIter it a 0 from⟨_,e,rfl,rfl⟩)
end
structure kC (b1 b2:Bool) (h:lw) (z TI TO i1 i2 a1 a2:dL) (f0:bm) (k1 k2:Nat):Prop where
 zip:IsZip h z TI TO f0
 ti:IsPair h TI (.ref i1) (.ref i2)
 to:∃a b,IsPair h TO a b
 it1:tX b1 h i1 a1 k1
 it2:tX b2 h i2 a2 k2
def rj {prog:f8}{w:lc}{A:kw}{E:bm->ce->Prop}{s:ce}{b1 b2:Bool}{z TI TO i1 i2 a1 a2:dL}{k1 k2:Nat}{xs ys:Array bm}{x y:bm}{Q:bm->ce->Prop} (hA:ZipApart z TI TO i1 i2 a1 a2)
  (hz:kC b1 b2 s.heap z TI TO i1 i2 a1 a2 .none k1 k2) (Tv:jg b1 s.heap a1 xs) (Hg:jg b2 s.heap a2 ys) (hx:xs[k1]?=ap x) (hy:ys[k2]?=ap y)
  (q:∀h':lw,kC b1 b2 h' z TI TO i1 i2 a1 a2 (wv s.heap.objs.size) (k1+1) (k2+1)->IsPair h' s.heap.objs.size x y->(∀c o,c≠z->c≠TO->c≠i1->c≠i2->s.heap.get? c=ap o->h'.get? c=ap o)->Q (.ref s.heap.objs.size) {s with heap:=h'}) :
  d4 (d5 prog w) A (Db.«zip.__next__» {pos:=[.ref z]}) (λfin s'=>∃v,fin=FK (FJ v)/\Q v s') E s:=by
 obtain⟨hz,RD,⟨ta,tb,Ĕ⟩,ø,ZT⟩:=hz;show d4 _ _ (field (.ref z) 2 >>= λr=>_) _ _ s;refine Aa (AZ hz rfl rfl ?_);refine Aa (AZ hz rfl rfl ?_);refine Aa (BC RD rfl ?_);refine Aa ?_;refine Aa (AZ hz rfl rfl ?_);refine Af ?_;refine Aa (CF ?_);refine Aa (AZ hz rfl rfl ?_);show d4 _ _ (zn (.ref z) 0 .ellipsis >>= λr=>_) _ _ s;refine Aa (A8 hz (show 0 < 5 by decide) λh1 z1 b1=>?_);show d4 _ _ ((forIn [(AB i1,0),(AB i2,1)] _ _) >>= λr=>_) _ _ _;refine Aa ?_;rw [B2];have uE:=b1.2;refine Aa ?_;refine Aa (El ?_);refine Aa (lj (ø.move λo e=>(uE _ hA.i1z).trans e) (Tv.move λo e=>(uE _ hA.l1z).trans e) hx λh2 j2 b2=>Af ?_);have N8:∀b,b≠z->b≠i1->h2.get? b=s.heap.get? b:=λb n1 n2=>(b2.2 b n2).trans (uE b n1);have Þ:=(N8 _ hA.TOz hA.TOi1).trans Ĕ;refine Aa (BC Þ rfl ?_);refine Aa (Dy Þ λh3 t3 b3=>?_);have Ï:∀b,b≠z->b≠i1->b≠TO->h3.get? b=s.heap.get? b:=λb n1 n2 n3=>(b3.2 b n3).trans (N8 b n1 n2);refine Aa (Dz (Af ?_));show d4 _ _ (forIn [(AB i2,1)] _ _) _ _ _;rw [B2];refine Aa ?_;refine Aa (El ?_);refine Aa (lj (ZT.move λo e=>(Ï _ hA.i2z hA.i12.symm hA.TOi2.symm).trans e) (Hg.move λo e=>(Ï _ hA.l2z hA.l2i1 hA.l2TO).trans e) hy λh4 j4 b4=>Af ?_);have to4:=(b4.2 _ hA.TOi2).trans t3;refine Aa (BC to4 rfl ?_);refine Aa (Dy to4 λh5 t5 b5=>?_);have to5:=t5;refine Aa (Dz (Af ?_));refine Af ?_;refine Aa (BC to5 rfl ?_);have Ą:=b5.1.trans (b4.1.trans (b3.1.trans (b2.1.trans b1.1)));refine Aa (CG ?_ (by show 2<=sizeLine;decide));have Z4:∀b,b≠z->b≠i1->b≠TO->b≠i2->h5.get? b=s.heap.get? b:=λb n1 n2 n3 n4=>(b5.2 b n3).trans ((b4.2 b n4).trans (Ï b n1 n2 n3));have z5:h5.get? z=ap {cls:=.type "zip",data:=.fields #[.ellipsis,.bool false,.bool false,.ref TI,.ref TO]}:=(b5.2 _ hA.TOz.symm).trans ((b4.2 _ hA.i2z.symm).trans ((b3.2 _ hA.TOz.symm).trans ((b2.2 _ hA.i1z.symm).trans z1)));have kp:∀b o,h5.get? b=ap o->(h5.push {cls:=.type "tuple",data:=.seq #[x,y]}).get? b=ap o:=λb o e=>Ai _ e;have acJ:(h5.push {cls:=.type "tuple",data:=.seq #[x,y]}).get? h5.objs.size=ap {cls:=.type "tuple",data:=.seq #[x,y]}:=Aq _ rfl;refine Aa ?_;show d4 _ _ (zn (.ref z) 0 (wv h5.objs.size) >>= λ_=>zn (.ref z) 1 (.bool false)) _ _ _;refine Aa (A8 (kp _ _ z5) (show 0 < 5 by decide) λh7 z7 b7=>?_);refine A8 z7 (show 1 < 5 by decide) λh8 z8 b8=>?_;have KR:∀b,b≠z->h8.get? b=(h5.push {cls:=.type "tuple",data:=.seq #[x,y]}).get? b:=λb n=>(b8.2 b n).trans (b7.2 b n);have nz:s.heap.objs.size≠z:=λe=>by have:=Ar hz;rw [<- e] at this;exact Ba _ this
 refine Af ⟨.ref h5.objs.size,rfl,?_⟩;rw [Ą];refine q h8 ⟨?_,?_,?_,?_,?_⟩ ?_ ?_
 ·rw [<- Ą];exact z8
 ·rw [IsPair,KR _ hA.TIz];exact kp _ _ ((Z4 _ hA.TIz hA.TIi1 hA.TITO hA.TIi2).trans RD)
 ·exact⟨x,y,by rw [IsPair,KR _ hA.TOz];exact kp _ _ to5⟩
 ·refine j2.move λo e=>?_;rw [KR _ hA.i1z];exact kp _ _ ((b5.2 _ hA.TOi1.symm).trans ((b4.2 _ hA.i12).trans ((b3.2 _ hA.TOi1.symm).trans e)))
 ·refine j4.move λo e=>?_;rw [KR _ hA.i2z];exact kp _ _ ((b5.2 _ hA.TOi2.symm).trans e)
 ·rw [IsPair,KR _ nz,<- Ą];exact acJ
 ·intro c o n1 n2 n3 n4 e;rw [KR _ n1];exact kp _ _ ((Z4 _ n1 n3 n2 n4).trans e)
def t6 {prog:f8}{w:lc}{A:kw}{E:bm->ce->Prop}{s:ce}{b1 b2:Bool}{z TI TO i1 i2 a1 a2:dL}{k1 k2:Nat}{xs ys:Array bm}{Q:PySem.Fin->ce->Prop} (hh:A.handled=bv) (hA:ZipApart z TI TO i1 i2 a1 a2)
  (hz:kC b1 b2 s.heap z TI TO i1 i2 a1 a2 .none k1 k2) (Tv:jg b1 s.heap a1 xs) (Hg:jg b2 s.heap a2 ys) (hx:xs[k1]?=bv\/ys[k2]?=bv)
  (q:∀(h':lw) (e:dL),(∀c o,c≠z->c≠TO->c≠i1->c≠i2->s.heap.get? c=ap o->h'.get? c=ap o)->(∃o,h'.get? e=ap o/\o.cls=.type "StopIteration")->E (.ref e) {s with heap:=h'}) :
  d4 (d5 prog w) A (Db.«zip.__next__» {pos:=[.ref z]}) Q E s:=by
 obtain⟨hz,RD,⟨ta,tb,Ĕ⟩,ø,ZT⟩:=hz;show d4 _ _ (field (.ref z) 2 >>= λr=>_) _ _ s;refine Aa (AZ hz rfl rfl ?_);refine Aa (AZ hz rfl rfl ?_);refine Aa (BC RD rfl ?_);refine Aa ?_;refine Aa (AZ hz rfl rfl ?_);refine Af ?_;refine Aa (CF ?_);refine Aa (AZ hz rfl rfl ?_);show d4 _ _ (zn (.ref z) 0 .ellipsis >>= λr=>_) _ _ s;refine Aa (A8 hz (show 0 < 5 by decide) λh1 z1 b1'=>?_);show d4 _ _ ((forIn [(AB i1,0),(AB i2,1)] _ _) >>= λr=>_) _ _ _;refine Aa ?_;rw [B2];have uE:=b1'.2;refine Aa ?_;refine Aa (El ?_);have fin:∀{h2:lw}{e:dL},h2.get? z=ap {cls:=.type "zip",data:=.fields #[.ellipsis,.bool false,.bool false,.ref TI,.ref TO]}->(∃o,h2.get? e=ap o/\o.cls=.type "StopIteration")->(∀c o,c≠z->c≠TO->c≠i1->c≠i2->s.heap.get? c=ap o->h2.get? c=ap o)->d4 (d5 prog w) A (zn (.ref z) 0 .none) (λ_ s'=>E (.ref e) s') (λ_ _=>True) {s with heap:=h2}:=λ{h2 e} z2 ex k=>by
  refine A8 z2 (show 0 < 5 by decide) λh3 z3 b3=>?_;refine q h3 e (λc o n1 n2 n3 n4 ec=>?_) ?_
  ·rw [b3.2 _ n1];exact k c o n1 n2 n3 n4 ec
  ·obtain⟨o,eo,hc⟩:=ex;by_cases he:e=z
   ·subst he;rw [z2] at eo;cases eo;exact absurd (show BN "zip"=BN "StopIteration" from hc) (by decide)
   ·exact⟨o,(b3.2 _ he).trans eo,hc⟩
 cases ZC:xs[k1]? with
 | none=>
  refine Aa (sf hh (ø.move λo e=>(uE _ hA.i1z).trans e) (Tv.move λo e=>(uE _ hA.l1z).trans e) ZC λh2 e k ex=>?_);have z2:h2.get? z=ap {cls:=.type "zip",data:=.fields #[.ellipsis,.bool false,.bool false,.ref TI,.ref TO]}:=k _ _ hA.i1z.symm z1;refine A8 z2 (show 0 < 5 by decide) λh3 z3 b3=>?_;refine q h3 e (λc o n1 n2 n3 n4 ec=>?_) ?_
  ·rw [b3.2 _ n1];exact k _ _ n3 ((uE _ n1).trans ec)
  ·obtain⟨o,eo,hc⟩:=ex;by_cases he:e=z
   ·subst he;rw [z2] at eo;cases eo;exact absurd (show BN "zip"=BN "StopIteration" from hc) (by decide)
   ·exact⟨o,(b3.2 _ he).trans eo,hc⟩
 | some x=>
  have hy:ys[k2]?=bv:=by
   rcases hx with h | h
   ·rw [ZC] at h;cases h
   ·exact h
  refine Aa (lj (ø.move λo e=>(uE _ hA.i1z).trans e) (Tv.move λo e=>(uE _ hA.l1z).trans e) ZC λh2 j2 b2'=>Af ?_);have N8:∀b,b≠z->b≠i1->h2.get? b=s.heap.get? b:=λb n1 n2=>(b2'.2 b n2).trans (uE b n1);have Þ:=(N8 _ hA.TOz hA.TOi1).trans Ĕ;refine Aa (BC Þ rfl ?_);refine Aa (Dy Þ λh3 t3 b3=>?_);have Ï:∀b,b≠z->b≠i1->b≠TO->h3.get? b=s.heap.get? b:=λb n1 n2 n3=>(b3.2 b n3).trans (N8 b n1 n2);refine Aa (Dz (Af ?_));refine Aa ?_;refine Aa (El ?_);show d4 _ _ (Builtin.SmallTypes.nextOf (.ref i2) >>= λv=>pure (ap v)) _ _ _;refine Aa (sf hh (ZT.move λo e=>(Ï _ hA.i2z hA.i12.symm hA.TOi2.symm).trans e) (Hg.move λo e=>(Ï _ hA.l2z hA.l2i1 hA.l2TO).trans e) hy λh4 e k ex=>?_);have z4:h4.get? z=ap {cls:=.type "zip",data:=.fields #[.ellipsis,.bool false,.bool false,.ref TI,.ref TO]}:=k _ _ hA.i2z.symm ((b3.2 _ hA.TOz.symm).trans ((b2'.2 _ hA.i1z.symm).trans z1));refine A8 z4 (show 0 < 5 by decide) λh5 z5 b5=>?_;refine q h5 e (λc o n1 n2 n3 n4 ec=>?_) ?_
  ·rw [b5.2 _ n1];exact k _ _ n4 ((Ï _ n1 n3 n2).trans ec)
  ·obtain⟨o,eo,hc⟩:=ex;by_cases he:e=z
   ·subst he;rw [z4] at eo;cases eo;exact absurd (show BN "zip"=BN "StopIteration" from hc) (by decide)
   ·exact⟨o,(b5.2 _ he).trans eo,hc⟩
def o4 {prog:f8}{w:lc}{A:kw}{E:bm->ce->Prop}{s:ce}{b1 b2:Bool}{z TI TO i1 i2 a1 a2:dL}{k1 k2:Nat}{xs ys:Array bm}{x y:bm}{Q:Option bm->ce->Prop} (hA:ZipApart z TI TO i1 i2 a1 a2)
  (hz:kC b1 b2 s.heap z TI TO i1 i2 a1 a2 .none k1 k2) (Tv:jg b1 s.heap a1 xs) (Hg:jg b2 s.heap a2 ys) (hx:xs[k1]?=ap x) (hy:ys[k2]?=ap y)
  (q:∀h':lw,kC b1 b2 h' z TI TO i1 i2 a1 a2 (wv s.heap.objs.size) (k1+1) (k2+1)->IsPair h' s.heap.objs.size x y->(∀c o,c≠z->c≠TO->c≠i1->c≠i2->s.heap.get? c=ap o->h'.get? c=ap o)->Q (ap (.ref s.heap.objs.size)) {s with heap:=h'}) :
  d4 (d5 prog w) A (pyNext (.ref z)) Q E s:=by
 have ty:s.TypeIs (.ref z) "zip":=⟨_,hz.zip,rfl⟩;refine Aa (CT (AW ty DC (Bc DC ty F.entry_zip_next ?_ (F.args_zip_next_1 _))));exact rj hA hz Tv Hg hx hy λh' a b c=>Af (q h' a b c)
def qd {prog:f8}{w:lc}{A:kw}{E:bm->ce->Prop}{s:ce}{b1 b2:Bool}{z TI TO i1 i2 a1 a2:dL}{k1 k2:Nat}{xs ys:Array bm}{Q:Option bm->ce->Prop} (hh:A.handled=bv) (hA:ZipApart z TI TO i1 i2 a1 a2)
  (hz:kC b1 b2 s.heap z TI TO i1 i2 a1 a2 .none k1 k2) (Tv:jg b1 s.heap a1 xs) (Hg:jg b2 s.heap a2 ys) (hx:xs[k1]?=bv\/ys[k2]?=bv)
  (q:∀h':lw,(∀c o,c≠z->c≠TO->c≠i1->c≠i2->s.heap.get? c=ap o->h'.get? c=ap o)->Q bv {s with heap:=h'}) :
  d4 (d5 prog w) A (pyNext (.ref z)) Q E s:=by
 have ty:s.TypeIs (.ref z) "zip":=⟨_,hz.zip,rfl⟩;refine Aa (CT (AW ty DC (Bc DC ty F.entry_zip_next ?_ (F.args_zip_next_1 _))));refine t6 (A:=A.in1) hh hA hz Tv Hg hx λh' e k ex=>?_;obtain⟨o,eo,hc⟩:=ex;refine Aa (Dn (T:="StopIteration") ⟨o,eo,hc⟩ isSubtype_stop ?_);exact Af (q h' k)
def sj (b1 b2:Bool) (a1 a2:dL) (xs ys:Array bm):Meets (Db.«zip.__new__» {pos:=[.type "zip",.ref a1,.ref a2]}) (λ_ R s=>jg b1 s.heap a1 xs/\jg b2 s.heap a2 ys/\
  ∀h':lw,kC b1 b2 h' (s.heap.objs.size+4) (s.heap.objs.size+2) (s.heap.objs.size+3) s.heap.objs.size (s.heap.objs.size+1) a1 a2 .none 0 0->(∀b o,s.heap.get? b=ap o->h'.get? b=ap o)->R (.ok (.ret (.ref (s.heap.objs.size+4)))) {s with heap:=h'}):=
 .of_wp λprog w A R s h=>by
  obtain⟨h1,h2,q⟩:=h;refine Aa ?_;refine Aa (Cq (a:=true) rfl ?_);refine Aa (Cq sub_zip ?_);refine Af ?_;refine Aa ?_;refine Aa ?_;rw [B2];refine Aa ?_;refine Aa (A9 (uZ h1 (Af ?_)));have k1:∀b o,s.heap.get? b=ap o->(s.heap.push {cls:=.type (Ky b1),data:=.fields #[.ref a1,.int 0 0]}).get? b=ap o:=λb o e=>Ai _ e;have g1:(s.heap.push {cls:=.type (Ky b1),data:=.fields #[.ref a1,.int 0 0]}).get? s.heap.objs.size=ap {cls:=.type (Ky b1),data:=.fields #[.ref a1,.int 0 0]}:=Aq _ rfl;have z1:(s.heap.push {cls:=.type (Ky b1),data:=.fields #[.ref a1,.int 0 0]}).objs.size=s.heap.objs.size+1:=CD ..;generalize s.heap.push {cls:=.type (Ky b1),data:=.fields #[.ref a1,.int 0 0]}=uC at k1 g1 z1 ⊢;show d4 _ _ (forIn [AB a2] _ _) _ _ _;rw [B2];refine Aa ?_;refine Aa (A9 (uZ (xs:=ys) (h2.move λo e=>k1 _ _ e) (Af ?_)));show d4 _ _ (forIn [] _ _) _ _ _;rw [List.forIn_nil];refine Af (Af ?_);have k2:∀b o,uC.get? b=ap o->(uC.push {cls:=.type (Ky b2),data:=.fields #[.ref a2,.int 0 0]}).get? b=ap o:=λb o e=>Ai _ e;have g2:(uC.push {cls:=.type (Ky b2),data:=.fields #[.ref a2,.int 0 0]}).get? uC.objs.size=ap {cls:=.type (Ky b2),data:=.fields #[.ref a2,.int 0 0]}:=Aq _ rfl;have z2:(uC.push {cls:=.type (Ky b2),data:=.fields #[.ref a2,.int 0 0]}).objs.size=uC.objs.size+1:=CD ..;show d4 _ _ (newTuple [.ref s.heap.objs.size,.ref uC.objs.size] >>= λr=>_) _ _ {s with heap:=uC.push {cls:=.type (Ky b2),data:=.fields #[.ref a2,.int 0 0]}};generalize uC.push {cls:=.type (Ky b2),data:=.fields #[.ref a2,.int 0 0]}=xv at k2 g2 z2 ⊢;refine Aa (CG ?_ (by show 2<=sizeLine;decide));have k3:∀b o,xv.get? b=ap o->(xv.push {cls:=.type "tuple",data:=.seq [AB s.heap.objs.size,AB uC.objs.size].toArray}).get? b=ap o:=λb o e=>Ai _ e;have g3:(xv.push {cls:=.type "tuple",data:=.seq [AB s.heap.objs.size,AB uC.objs.size].toArray}).get? xv.objs.size=ap {cls:=.type "tuple",data:=.seq #[.ref s.heap.objs.size,.ref uC.objs.size]}:=Aq _ rfl;have z3:(xv.push {cls:=.type "tuple",data:=.seq [AB s.heap.objs.size,AB uC.objs.size].toArray}).objs.size=xv.objs.size+1:=CD ..;show d4 _ _ (newTuple [.none,.none] >>= λr=>_) _ _ {s with heap:=xv.push {cls:=.type "tuple",data:=.seq [AB s.heap.objs.size,AB uC.objs.size].toArray}};generalize xv.push {cls:=.type "tuple",data:=.seq [AB s.heap.objs.size,AB uC.objs.size].toArray}=KG at k3 g3 z3 ⊢;refine Aa (CG ?_ (by show 2<=sizeLine;decide));have k4:∀b o,KG.get? b=ap o->(KG.push {cls:=.type "tuple",data:=.seq [AY,AY].toArray}).get? b=ap o:=λb o e=>Ai _ e;have g4:(KG.push {cls:=.type "tuple",data:=.seq [AY,AY].toArray}).get? KG.objs.size=ap {cls:=.type "tuple",data:=.seq #[.none,.none]}:=Aq _ rfl;have z4:(KG.push {cls:=.type "tuple",data:=.seq [AY,AY].toArray}).objs.size=KG.objs.size+1:=CD ..;show d4 _ _ (newObj (.type "zip") (.fields #[.none,.bool false,.bool false,.ref xv.objs.size,.ref KG.objs.size]) >>= λr=>_) _ _ {s with heap:=KG.push {cls:=.type "tuple",data:=.seq [AY,AY].toArray}};generalize KG.push {cls:=.type "tuple",data:=.seq [AY,AY].toArray}=Xl at k4 g4 z4 ⊢;refine Aa (A2 ?_ (by simp [sizeOk];decide));have k5:∀b o,Xl.get? b=ap o->(Xl.push {cls:=.type "zip",data:=.fields #[.none,.bool false,.bool false,.ref xv.objs.size,.ref KG.objs.size]}).get? b=ap o:=λb o e=>Ai _ e;have g5:(Xl.push {cls:=.type "zip",data:=.fields #[.none,.bool false,.bool false,.ref xv.objs.size,.ref KG.objs.size]}).get? Xl.objs.size=ap {cls:=.type "zip",data:=.fields #[.none,.bool false,.bool false,.ref xv.objs.size,.ref KG.objs.size]}:=Aq _ rfl;have e1:=z1;have e2:xv.objs.size=s.heap.objs.size+2:=by rw [z2,e1]
  have e3:KG.objs.size=s.heap.objs.size+3:=by rw [z3,e2]
  have e4:Xl.objs.size=s.heap.objs.size+4:=by rw [z4,e3]
  refine Af ⟨.ref Xl.objs.size,rfl,?_⟩;rw [e2,e3] at g5 k5 ⊢;rw [e4] at g5 ⊢;rw [e3] at g4;rw [e1,e2] at g3;rw [e1] at g2;refine q _ ⟨g5,k5 _ _ (k4 _ _ g3),⟨_,_,k5 _ _ g4⟩,IJ (k5 _ _ (k4 _ _ (k3 _ _ (k2 _ _ g1)))),IJ (k5 _ _ (k4 _ _ (k3 _ _ g2)))⟩ λb o e=>k5 _ _ (k4 _ _ (k3 _ _ (k2 _ _ (k1 _ _ e))))
def Ls {prog:f8}{w:lc}{A:kw}{E:bm->ce->Prop}{s:ce}{b1 b2:Bool}{a1 a2:dL}{xs ys:Array bm}{Q:bm->ce->Prop} (h1:jg b1 s.heap a1 xs) (h2:jg b2 s.heap a2 ys)
  (q:∀h':lw,kC b1 b2 h' (s.heap.objs.size+4) (s.heap.objs.size+2) (s.heap.objs.size+3) s.heap.objs.size (s.heap.objs.size+1) a1 a2 .none 0 0->(∀b o,s.heap.get? b=ap o->h'.get? b=ap o)->Q (.ref (s.heap.objs.size+4)) {s with heap:=h'}) :
  d4 (d5 prog w) A (call (.type "zip") [.ref a1,.ref a2]) Q E s:=
 callType_new F.called_zip (by decide) (F.typeCall_zip_2 _ _) (F.newCall_zip_2 _ _) (λo=>F.args_object_init_3 o _ _) F.entry_zip_new (sj b1 b2 a1 a2 xs ys) ⟨h1,h2,λh' z k=>⟨⟨_,z.zip,rfl⟩,q h' z k⟩⟩
def LX (b:Bool) (K:Ab) (H:Hp) (a:dL) (xs:List V):Prop:=match b with
 | true=>dq K H a xs
 | false=>d7 K H a xs
def Inv.Xe {X:Cx}{Z:List (dL×Obj)}{σ:L2.St}{H:Hp}{s:ce}{b:Bool}{a:dL}{xs:List V} (I:Inv X Z σ H s) (h:LX b X.K H a xs):∃ay:List bm,Vals xs ay/\jg b s.heap a ay.toArray/\xs.length<=sizeLine:=by
 cases b with
 | true=>obtain⟨ay,r,p,z⟩:=I.list (show dq X.K H a xs from h);exact⟨ay,r,p.isList,z⟩
 | false=>obtain⟨ay,r,p,z⟩:=I.tuple (show d7 X.K H a xs from h);exact⟨ay,r,p,z⟩
def Inv.II {X:Cx}{Z:List (dL×Obj)}{σ:L2.St}{H:Hp}{s:ce}{b:Bool}{a:dL}{xs ys:List V} (I:Inv X Z σ H s) (h:LX b X.K H a xs) (h':LX b X.K H a ys):xs=ys:=by
 cases b with
 | true=>
  obtain⟨ay,k,⟨o,n,h1,h2,h3,h4⟩,_⟩:=I.list (show dq X.K H a xs from h);obtain⟨its',k',⟨o',n',iC,t4,Hj,We⟩,_⟩:=I.list (show dq X.K H a ys from h');rw [h1] at iC;cases iC;rw [h4] at We;have:ay=its':=by injection We with a b;simpa using a
  subst this;exact Vals.inj k k'
 | false=>exact I.lS h h'
def aaI (b1 b2:Bool) (K:Ab) (a1 a2:dL):It where
 go:=λi H=>∃xs ys x y,LX b1 K H a1 xs/\LX b2 K H a2 ys/\xs[i]?=ap x/\ys[i]?=ap y
 SU:=λi H v H'=>∃p x y,v=.ref p/\H p=bv/\H'=upd H p (.tup [x,y])/\(∀xs,LX b1 K H a1 xs->xs[i]?=ap x)/\∀ys,LX b2 K H a2 ys->ys[i]?=ap y
 stop:=λi H=>∃xs ys,LX b1 K H a1 xs/\LX b2 K H a2 ys/\(xs.length<=i\/ys.length<=i)
def JZ {P:f8}{w:lc}{K:Ab}{b1 b2:Bool}{Ê:List ga}{kk:Nat}{pos:Pos}{z TI TO i1 i2 a1 a2:dL} (hA:ZipApart z TI TO i1 i2 a1 a2):Turn P w K (.Tuple Ê kk pos) (aaI b1 b2 K a1 a2) [z,TI,TO,i1,i2] z (λi h=>kC b1 b2 h z TI TO i1 i2 a1 a2 .none i i) where
 mem:=by simp
 obj:=λi h st b hb=>by
  simp only [Ax,Bq,or_false] at hb;rcases hb with rfl | rfl | rfl | rfl | rfl
  ·exact⟨_,st.zip,λv z=>by cases z⟩
  ·exact⟨_,st.ti,λv z=>by cases z⟩
  ·obtain⟨_,_,e⟩:=st.to;exact⟨_,e,λv z=>by cases z⟩
  ·exact st.it1.obj
  ·exact st.it2.obj
 keep:=λi h h' st k=>⟨k z (by simp) _ st.zip,k TI (by simp) _ st.ti,let ⟨a,b,e⟩:=st.to;⟨a,b,k TO (by simp) _ e⟩,st.it1.move λo e=>k i1 (by simp) _ e,st.it2.move λo e=>k i2 (by simp) _ e⟩
 item:=by
  intro X hP hw hK hc i Z s σ H E I hf st hg;subst hP hw hK;obtain⟨xs,ys,x,y,hx,hy,gx,gy⟩:=hg;obtain⟨ay,rx,tx,_⟩:=I.Xe hx;obtain⟨cO,ry,ty,_⟩:=I.Xe hy;obtain⟨u,gu,ru⟩:=kS rx gx;obtain⟨v,gv,rv⟩:=kS ry gy;refine o4 hA st tx ty (by simpa using gu) (by simpa using gv) λh' zt np k=>?_;refine⟨_,rfl,?_⟩;refine Aa (wpAny_load zt.zip ?_);show d4 _ _ (if ((["enumerate","zip","dict_itemiterator","dict_reverseitemiterator","odict_iterator","itertools.zip_longest","itertools.pairwise"].contains "zip"&&(ap (wv s.heap.objs.size)==ap (wv s.heap.objs.size)))=true) then (do rule "for.unpacks-the-owned-tuple";zn (.ref z) 0 .none) else pure ()) _ _ _;rw [if_pos (by rw [beq_self_eq_true];decide)];refine Aa (CF ?_);refine A8 zt.zip (show 0 < 5 by decide) λh2 z2 b2=>?_;have lt:∀b∈[z,TI,TO,i1,i2],b < s.heap.objs.size:=λb hb=>by
   simp only [Ax,Bq,or_false] at hb;rcases hb with rfl | rfl | rfl | rfl | rfl
   ·exact Ar st.zip
   ·exact Ar st.ti
   ·obtain⟨_,_,e⟩:=st.to;exact Ar e
   ·obtain⟨o,e,_⟩:=st.it1.obj;exact Ar e
   ·obtain⟨o,e,_⟩:=st.it2.obj;exact Ar e
  have nz:s.heap.objs.size≠z:=λe=>Ba _ (by have:=lt z (by simp);rw [<- e] at this;exact this);have Zo:∀b o,b∉[z,TI,TO,i1,i2]->s.heap.get? b=ap o->h2.get? b=ap o:=λb o hb e=>by
   have Hf:b≠z:=λq=>hb (by simp [q]);rw [b2.2 b Hf];exact k b o Hf (λq=>hb (by simp [q])) (λq=>hb (by simp [q])) (λq=>hb (by simp [q])) e
  have Y8:h2.get? s.heap.objs.size=ap {cls:=.type "tuple",data:=.seq #[u,v]}:=(b2.2 _ nz).trans np;have ZV:=I.bN.fresh (Ao s.heap.objs.size);refine⟨.ref s.heap.objs.size,upd H s.heap.objs.size (.tup [x,y]),I.rE (t':=s.toks) hf Zo (Ao _) ⟨by show 2<=sizeLine;decide,[u,v],.cons ru (.cons rv .nil),⟨_,Y8,rfl,_,rfl⟩⟩,rfl,⟨_,x,y,rfl,ZV,rfl,λxs' h'=>?_,λys' h'=>?_⟩,⟨z2,(b2.2 _ hA.TIz).trans zt.ti,let ⟨p,q,e⟩:=zt.to;⟨p,q,(b2.2 _ hA.TOz).trans e⟩,zt.it1.move λo e=>(b2.2 _ hA.i1z).trans e,zt.it2.move λo e=>(b2.2 _ hA.i2z).trans e⟩,λb hb=>?_⟩
  ·rw [I.II h' hx];exact gx
  ·rw [I.II h' hy];exact gy
  ·rw [aF (AE (lt b hb))];exact (hf b hb).1
 done:=by
  intro X hP hw hK hc i Z s σ H E I hf st hg;subst hP hw hK;obtain⟨xs,ys,hx,hy,hl⟩:=hg;obtain⟨ay,rx,tx,_⟩:=I.Xe hx;obtain⟨cO,ry,ty,_⟩:=I.Xe hy;have el:=rx.length;have el2:=ry.length;refine qd (I.ok.hd hc) hA st tx ty ?_ λh' k=>⟨rfl,I.vV (t':=s.toks) hf λb o hb e=>k b o (λz=>hb (by simp [z])) (λz=>hb (by simp [z])) (λz=>hb (by simp [z])) (λz=>hb (by simp [z])) e⟩;rcases hl with hl | hl
  ·exact .inl (by simp;omega)
  ·exact .inr (by simp;omega)
 self:=λA i s Q E st h=>wpAny_pyIter_zip st.zip h
def Zu (K:Ab) (t1 t2:TE):TI:=λσ H R=>t1 σ H λx H1=>t2 σ H1 λy H2=>∃b1 b2 a b,x=.ref a/\y=.ref b/\(∃xs,LX b1 K H2 a xs)/\(∃ys,LX b2 K H2 b ys)/\R (aaI b1 b2 K a b) H2
def QD {X:Cx} (K:Ab) (hK:X.K=K) {e1 e2:ga}{t1 t2:TE}{Ê:List ga}{kk:Nat}{tp p1 p2:Pos} (hg:Gl X "zip") (hm:X.mg "zip"=bv) (h1:PE X e1 t1) (h2:PE X e2 t2)
  (F5:ci [e1,e2] X.env=(false,lm e1 X.env)::ci [e2] X.env:=by rfl) (qU:ci [e2] X.env=(false,lm e2 X.env)::ci [] X.env:=by rfl) (dR:(mo p2 (ci [e2] X.env)).any (·.1)=false:=by rfl) :
  PI X (.Tuple Ê kk tp) (.Call (.Name "zip" p1) [e1,e2] [] p2) (Zu K t1 t2):=by
 subst hK;intro Z s σ H R I h;refine BF (kd I hg hm boot_zip ?_ (by decide) (by decide));refine Bi ?_ F5 dR;rw [F5,qU];refine Cf (bH (h1 Z s σ H _ I h) λu1 s1 ⟨x,H1,I1,r1,q1⟩=>?_);refine Cf (bH (h2 Z s1 σ H1 _ I1 q1) λu2 s2 ⟨y,H2,I2,r2,b1,b2,a,b,ex,ey,⟨xs,hx⟩,⟨ys,hy⟩,q⟩=>Cy ?_);subst ex;subst ey;cases r1;cases r2;obtain⟨ay,rx,tx,_⟩:=I2.Xe hx;obtain⟨cO,ry,ty,_⟩:=I2.Xe hy;have l1:=tx.lt;have l2:=ty.lt;refine Ls tx ty λh' zt k=>?_;refine wpAny_pyIter_zip zt.zip ?_;have dd:∀i j:Nat,i≠j->s2.heap.objs.size+i≠s2.heap.objs.size+j:=λi j n e=>n (Nat.add_left_cancel e);have na:∀i:Nat,a≠s2.heap.objs.size+i:=λi=>AE (Az l1 (Bz _ _));have nb:∀i:Nat,b≠s2.heap.objs.size+i:=λi=>AE (Az l2 (Bz _ _));have hA:ZipApart (s2.heap.objs.size+4) (s2.heap.objs.size+2) (s2.heap.objs.size+3) s2.heap.objs.size (s2.heap.objs.size+1) a b:=
  ⟨dd 2 4 (by decide),dd 3 4 (by decide),dd 0 4 (by decide),dd 1 4 (by decide),dd 2 3 (by decide),dd 2 0 (by decide),dd 2 1 (by decide),dd 3 0 (by decide),dd 3 1 (by decide),dd 0 1 (by decide),na 4,na 3,na 0,na 1,nb 4,nb 3,nb 0,nb 1⟩
 refine⟨_,_,_,_,H2,rfl,I2.kept (t':=s2.toks) k,JZ hA,zt,λc hc=>?_,q⟩;have Ù:s2.heap.objs.size<=c:=by
  simp only [Ax,Bq,or_false] at hc;rcases hc with rfl | rfl | rfl | rfl | rfl
  ·exact Bz _ _
  ·exact Bz _ _
  ·exact Bz _ _
  ·exact Ao _
  ·exact Bz _ _
 exact I2.xE Ù (I2.bN.fresh Ù)
section
variable {X:Cx}
def YC (K:Ab):V->Option Int->Option Int->Hp->VK->Prop:=λx lo hi H Q=>∃a xs,x=.ref a/\d7 K H a xs/\
 ((HT.dW xs.length 0 lo=0/\HT.dW xs.length xs.length hi=xs.length)->Q x H)/\(¬(HT.dW xs.length 0 lo=0/\HT.dW xs.length xs.length hi=xs.length)->kL H (.tup (yb xs lo hi)) Q)
def Qi (K:Ab) (hK:X.K=K):SlR X (YC K):=by
 subst hK;intro Z s σ H x v vl vu lo hi sl Q I rx hs pl pu h;obtain⟨a,xs,rfl,hT,qw,qn⟩:=h;by_cases c:HT.dW xs.length 0 lo=0/\HT.dW xs.length xs.length hi=xs.length
 ·have q:=qw c;cases rx;obtain⟨ay,r,ht,hz⟩:=I.tuple hT;have Á:ay.toArray.size=xs.length:=by rw [Aj];exact r.length.symm
  refine⟨"tuple",_,AQ.lookup,ht.typeIs,?_⟩;obtain⟨os,zA,TH,KL⟩:=id hs;have TL:s.TypeIs (.ref sl) "slice":=⟨os,zA,TH⟩;unfold FB
  try with_reducible refine A9 ?_
  first | refine Aa (Af ?_) | skip
  refine Aa (C8 ht.typeIs (by decide) ?_);refine Aa (AW (name:=B6 "__getitem__") ht.typeIs AQ
   (Bc AQ ht.typeIs entry_tuple_getitem ?_ (args_tuple_getitem _ _)))
  show d4 _ _ (Builtin.Tuple.tupleItemsOf (.ref a) >>= _) _ _ s;refine Aa (tupleItemsOf_ ht ?_);refine Aa (B8 TL ?_);refine Aa (HT.jo hs pl pu ?_);show d4 _ _ (if (((HT.dW ay.toArray.size 0 lo:Nat):Int)==0&&(1:Int)==1&&(HT.dW ay.toArray.size ay.toArray.size hi-HT.dW ay.toArray.size 0 lo)==ay.toArray.size)=true then _ else _) _ _ s;rw [if_pos (by rw [Á,c.1,c.2];simp)];refine Aa ?_
  first
   | refine Aa (B8 ht.typeIs (Af ?_))
   | refine B8 ht.typeIs (Af ?_)
  first
   | rw [if_pos (by decide)]
   | rw [if_pos rfl]
  refine Aa (CF (Af ⟨_,rfl,?_⟩));exact Af ⟨.ref a,H,I,rfl,q⟩
 ·exact UC Z s σ H _ v vl vu lo hi sl Q I rx hs pl pu ⟨a,xs,rfl,hT,c,λp hp=>(qn c).at p hp⟩
def YK (K:Ab):R2:=λx y H Q=>∃a b xs ys,x=.ref a/\y=.ref b/\d7 K H a xs/\d7 K H b ys/\xs.length+ys.length<=sizeLine/\
 (xs=[]->Q (.ref b) H)/\(xs≠[]->ys=[]->Q (.ref a) H)/\(xs≠[]->ys≠[]->kL H (.tup (xs++ys)) Q)
def QS (K:Ab) (hK:X.K=K):iA X (tz .Add) (YK K):=by
 subst hK;intro Z s σ H x y v u Q I rx ry h;obtain⟨a,b,xs,ys,rfl,rfl,ha,hb,hz,q0,q1,q2⟩:=h;by_cases c:xs=[]
 ·cases rx;cases ry;obtain⟨ay,r1,p1,_⟩:=I.tuple ha;obtain⟨cO,r2,p2,_⟩:=I.tuple hb;obtain⟨⟨cls,dd,data,sl⟩,ho,hc,n,hd⟩:=id p1;obtain⟨⟨WQ,Sk,data2,Pq⟩,KH,N2,n2,Ð⟩:=id p2;simp only at hc hd N2 Ð;subst hc hd N2 Ð;exact concat_meets ⟨_,ho,rfl⟩ ⟨_,KH,rfl⟩ noFill_tuple_add seq_tuple_add C7 CZ (CP _ _)
   (tuple_addW0 a b ay.toArray cO.toArray n n2 dd Sk sl Pq (by rw [r1.j7.mpr c];rfl)) ⟨ho,KH,.ref b,H,I,rfl,q0 c⟩
 ·exact Jd Z s σ H _ _ v u Q I rx ry ⟨a,b,xs,ys,rfl,rfl,ha,hb,c,hz,q1 c,λn p hp=>(q2 c n).at p hp⟩
end
end L2
namespace FL
section
open PySem PySem.Spec PyProof.Rows L2 PL
variable {K:Ab}
section
variable {X:Cx}{a b c e:ga}{pos p p1 p2:Pos}{fs:bh}{w wa wb:W PV}{wl wm:W (List PV)}
def addW:PV->PV->W PV
 | .int i,.int j=>.ret (.int (i+j))
 | .str a,.str b=>.fF (a.length+b.length<=sizeLine) (.ret (.str (a++b)))
 | .tup a,.tup b=>.fF (a.length+b.length<=sizeLine) (.ret (.tup (a++b)))
 | _,_=>.fail
def a7 (hK:X.K=K) (ha:EF X K fs a wa) (hb:EF X K fs b wb):EF X K fs (.BinOp a .Add b pos) (.bind wa λx=>.bind wb λy=>addW x y):=
 ⟨PE.imp (IW ((QU K hK).or (QS K hK)) ha.p hb.p) λσ H Q ⟨sr,q⟩=>⟨sr,wa.mono (λx q1 u1 H1 g1 s1 v1=>⟨s1,wb.mono (λy q2 u2 H2 g2 s2 v2=>by
  have Ul:=g2.vr s1 v1;cases Ul with
  | int i=>
   cases v2 with
   | int j=>exact .inl ⟨_,rfl,q2 _ H2 (g1.trans g2) s2 (.int _)⟩
   | _=>exact q2.elim
  | str i=>
   cases v2 with
   | str j=>exact .inl ⟨_,rfl,q2.1,q2.2 _ H2 (g1.trans g2) s2 (.str _)⟩
   | _=>exact q2.elim
  | @tup p vs l e r=>
   cases v2 with
   | @tup p' Po l' e' r'=>
    refine .inr ⟨p,p',vs,Po,rfl,rfl,d7.of e,d7.of e',by rw [r.length,r'.length];exact q2.1,λz=>?_,λ_ z=>?_,λ_ _ q H3 s3 h3 n3=>?_⟩
    ·have z':=(PL.aN.j7 r).mp z;subst z';exact q2.2 _ H2 (g1.trans g2) s2 (.tup e' r')
    ·have z':=(PL.aN.j7 r').mp z;subst z';have q2:=q2.2;rw [CV] at q2;exact q2 _ H2 (g1.trans g2) s2 (.tup e r)
    ·exact q2.2 _ H3 ((g1.trans g2).trans (c7.same s3)) (s2.same s3) (.tup h3 (aN.tk s3.eO (r.append r')))
   | _=>exact q2.elim
  | _=>exact q2.elim) q1⟩) q⟩⟩
theorem ny:∀(l m:List PV),(f7 l m).length=min l.length m.length
 | [],m=>by rw [f7];simp;intros;simp_all
 | x::l,[]=>by rw [f7];simp;intros;simp_all
 | x::l,y::m=>by rw [f7,An,ny l m];simp only [An];omega
def ub (l m:List PV):W (List PV):=.fF (l.length<=sizeLine) (.ret (f7 l m))
def S3 {H:Hp}{u:V}{l:List PV} (h:W6 K H u l):∃(b:Bool) (a:dL) (vs:List V),u=.ref a/\aN K [] H vs l/\∀H',bF K H H'->LX b K H' a vs:=by
 obtain⟨a,vs,e,h | h,r⟩:=h
 ·exact⟨true,a,vs,e,r,λH' t=>(t.f _ _ h).sq⟩
 ·exact⟨false,a,vs,e,r,λH' t=>d7.of (t.t _ _ h)⟩
def xo (hK:X.K=K) {Ê:List ga}{kk:Nat}{tp:Pos} (hg:Gl X "zip") (hm:X.mg "zip"=bv) (ha:IF X K fs a wl) (hb:IF X K fs b wm)
  (F5:ci [a,b] X.env=(false,lm a X.env)::ci [b] X.env:=by rfl) (qU:ci [b] X.env=(false,lm b X.env)::ci [] X.env:=by rfl) (dR:(mo p2 (ci [b] X.env)).any (·.1)=false:=by rfl) :
  rh X K fs (.Tuple Ê kk tp) (.Call (.Name "zip" p1) [a,b] [] p2) (.bind wl λl=>.bind wm λm=>ub l m):=
 ⟨PI.imp (QD K hK hg hm ha.p hb.p F5 qU dR) λσ H R ⟨sr,q⟩=>⟨sr,wl.mono (λl q1 u1 H1 g1 s1 v1=>⟨s1,wm.mono (λm q2 u2 H2 g2 s2 v2=>by
  obtain⟨b1,a1,vs,rfl,r1,x1⟩:=S3 (v1.tk (g2.eM s1));obtain⟨b2,a2,ws,rfl,r2,x2⟩:=S3 v2;have tr:bF K H2 H2:=bF.refl H2;refine⟨b1,b2,a1,a2,rfl,rfl,⟨vs,x1 H2 tr⟩,⟨ws,x2 H2 tr⟩,q2.2 _ H2 (g1.trans g2) s2 ⟨by rw [ny];have:=q2.1;omega,λH' t=>⟨λi pp hp=>?_,vs,ws,x1 H' t,x2 H' t,?_⟩⟩⟩
  ·obtain⟨x,y,hx,hy,rfl⟩:=rk hp;obtain⟨v,h3,h4⟩:=(aN.tk t r1).get hx;obtain⟨v',Hj,We⟩:=(aN.tk t r2).get hy;refine⟨⟨vs,ws,v,v',x1 H' t,x2 H' t,h3,Hj⟩,λz H3 yl=>?_⟩;obtain⟨p,x',y',rfl,hn,rfl,e1,e2⟩:=yl;have e1:=e1 vs (x1 H' t);have e2:=e2 ws (x2 H' t);rw [h3] at e1;rw [Hj] at e2;cases e1;cases e2;have sm:=k7 hn (.tup [v,v']);exact⟨sm,.tup aR (.cons (VR.tk sm.eO h4) (.cons (VR.tk sm.eO We) .nil))⟩
  ·rw [ny,r1.length,r2.length];omega) q1⟩) q⟩⟩
variable {el eh:Option ga}{lo hi:W (Option Int)}
def iX (x:PV) (i j:Option Int):W PV:=match x with
 | .tup l=>.ret (.tup (gJ l i j))
 | _=>.fail
def Lr {l:List PV}{i j:Option Int} (h:HT.dW l.length 0 i=0/\HT.dW l.length l.length j=l.length):gJ l i j=l:=by
 unfold gJ;rw [h.1,h.2];simp
def eY (hK:X.K=K) (he:EF X K fs e w) (hl:OF X K fs el lo) (hh:OF X K fs eh hi):EF X K fs (.Subscript e (.Slice el eh bv p2) pos) (.bind w λx=>.bind lo λi=>.bind hi λj=>iX x i j):=⟨PE.imp (MZ (Qi K hK) he.p hl.p hh.p) λσ H Q ⟨sr,q⟩=>⟨sr,w.mono (λx q1 u1 H1 g1 s1 v1=>⟨s1,lo.mono (λi q2 H2 g2 s2=>⟨s2,hi.mono (λj q3 H3 g3 s3=>by
 have Ul:=g3.vr s2 (g2.vr s1 v1);have gg:=(g1.trans g2).trans g3;cases Ul with
 | @tup p vs l e r=>
  have Á:=r.length;refine⟨p,vs,rfl,d7.of e,λc=>?_,λc q H4 s4 h4 n4=>?_⟩
  ·rw [Á] at c;have q3:(bd (PV.tup (gJ l i j))).run _:=q3;rw [Lr c] at q3;exact q3 _ H3 gg s3 (.tup e r)
  ·exact q3 _ H4 (gg.trans (c7.same s4)) (s3.same s4) (.tup h4 (aN.tk s4.eO (r.cut i j)))
 | _=>exact q3.elim) q2⟩) q1⟩) q⟩⟩
end
end
section
open PySem PySem.Spec PyProof.Rows L2 PL
variable {K:Ab}
section
variable {X:Cx}{Z:List (dL×Obj)}{σ:L2.St}{H:Hp}{s:ce}
open Classical in
noncomputable def K5 (K:Ab) (H:Hp) (x:PV) (w:bm):Bool:=decide (∃p v,RelV v w/\VR K [] H v p/\kM p x=true)
open Classical in
def OA (hK:X.K=K) (I:Inv X Z σ H s) {x p:PV}{v:V}{w:bm} (r:RelV v w) (h:VR K [] H v p):K5 K H x w=kM p x:=by
 subst hK;cases e:kM p x with
 | true=>exact decide_eq_true ⟨p,v,r,h,e⟩
 | false=>
  refine decide_eq_false ?_;rintro⟨p',v',r',h',e'⟩;have:=Mw r r';subst this;rw [VR.Od I h h',e'] at e;cases e
theorem xK (hK:X.K=K) (I:Inv X Z σ H s) {x:PV}:∀{vs:List V}{ay:List bm}{l:List PV},Vals vs ay->aN K [] H vs l->ay.map (K5 K H x)=l.map λy=>kM y x
 | _,_,_,.nil,.nil=>rfl
 | _,_,_,.cons r t,.cons q z=>by rw [Au,Au,OA hK I r q,xK hK I t z]
def RA (x:PV) (l:List PV):Prop:=PV.kl x=true/\fX l=true/\eJ l<=150
theorem tG (hK:X.K=K) (I:Inv X Z σ H s) {A:kw}{x:PV}{v:V}{w:bm} (hx:VR K [] H v x) (rx:RelV v w) (dx:PV.kl x=true) (hu:A.units+150+1 < sn) :
  ∀{vs:List V}{ay:List bm}{l:List PV},Vals vs ay->aN K [] H vs l->fX l=true->eJ l<=150->∀u∈ay,Dk A s u w (K5 K H x u)
 | _,_,_,.nil,.nil,_,_,u,hu=>by cases hu
 | _,_,_,.cons r t,.cons q z,d,dd,u,hm=>by
  rw [fX,Av] at d;rw [eJ] at dd;rcases Ax.mp hm with rfl | hm
  ·rw [OA hK I r q];exact (WO hK I 150 _ x A _ v _ w ∅ d.1 dx q hx r rx hu).eq
  ·exact tG hK I hx rx dx hu t z d.2 ∅ u hm
end
def pB (x:PV) (l:List PV):Bool:=l.any λy=>kM y x
def Qr (K:Ab) (neg:Bool):R2:=λx y H Q=>∃p vs l xp,y=.ref p/\(dq K H p vs\/d7 K H p vs)/\aN K [] H vs l/\VR K [] H x xp/\RA xp l/\Q (.bl (if neg then !pB xp l else pB xp l)) H
section
variable {X:Cx}
theorem any_map' {α:Type} (f:α->Bool):∀l:List α,l.any f=(l.map f).any id
 | []=>rfl
 | x::l=>by rw [Cb,Au,Cb,any_map' f l];rfl
def Vk (K:Ab) (hK:X.K=K) (hu:X.A.units+200 < sn):iA X (nn .In) (Qr K false):=by
 intro Z s σ H x y v u Q I rx ry h;obtain⟨p,vs,l,xp,rfl,hq,hl,hx,ok,q⟩:=h;cases ry;have ZG:X.A.in1.units+150+1 < sn:=by show X.A.units+1+150+1 < _;omega
 have fin:∀{ay:List bm},Vals vs ay->ay.toArray.any (K5 K H xp)=pB xp l:=λ{ay} r=>by
  rw [show ay.toArray.any (K5 K H xp)=ay.any (K5 K H xp) by simp,any_map',xK hK I r hl,<- any_map'];rfl
 rcases hq with hq | hq
 ·obtain⟨ay,r,pl,hz⟩:=I.list (show dq X.K H p vs by rw [hK];exact hq);refine SeqAt.in_listAt (K5 K H xp) pl.isList (λw hw=>tG hK I hx rx ok.1 ZG r hl ok.2.1 ok.2.2 w (by simpa using hw)) ⟨.bl _,H,I,rfl,?_⟩;rw [fin r];exact q
 ·obtain⟨ay,r,pl,hz⟩:=I.tuple (show d7 X.K H p vs by rw [hK];exact hq);refine SeqAt.in_tupleAt (K5 K H xp) pl (λw hw=>tG hK I hx rx ok.1 ZG r hl ok.2.1 ok.2.2 w (by simpa using hw)) ⟨.bl _,H,I,rfl,?_⟩;rw [fin r];exact q
def QP (K:Ab) (hK:X.K=K) (hu:X.A.units+200 < sn):iA X (nn .NotIn) (Qr K true):=by
 intro Z s σ H x y v u Q I rx ry h;obtain⟨p,vs,l,xp,rfl,hq,hl,hx,ok,q⟩:=h;cases ry;have ZG:X.A.in1.units+150+1 < sn:=by show X.A.units+1+150+1 < _;omega
 have fin:∀{ay:List bm},Vals vs ay->ay.toArray.any (K5 K H xp)=pB xp l:=λ{ay} r=>by
  rw [show ay.toArray.any (K5 K H xp)=ay.any (K5 K H xp) by simp,any_map',xK hK I r hl,<- any_map'];rfl
 rcases hq with hq | hq
 ·obtain⟨ay,r,pl,hz⟩:=I.list (show dq X.K H p vs by rw [hK];exact hq);refine SeqAt.notIn_listAt (K5 K H xp) pl.isList (λw hw=>tG hK I hx rx ok.1 ZG r hl ok.2.1 ok.2.2 w (by simpa using hw)) ⟨.bl _,H,I,rfl,?_⟩;rw [fin r];exact q
 ·obtain⟨ay,r,pl,hz⟩:=I.tuple (show d7 X.K H p vs by rw [hK];exact hq);refine SeqAt.notIn_tupleAt (K5 K H xp) pl (λw hw=>tG hK I hx rx ok.1 ZG r hl ok.2.1 ok.2.2 w (by simpa using hw)) ⟨.bl _,H,I,rfl,?_⟩;rw [fin r];exact q
end
end
end FL
namespace L2
section
open PySem PySem.Spec PyProof.Rows
variable {X:Cx}
theorem yX (xs:List bm):∀k≤xs.length,((AA k).filterMap λ(m:Nat)=>xs.toArray[(((xs.length:Int)-1)+(m:Int)*(-1)).toNat]?)=(xs.drop (xs.length-k)).reverse
 | 0,_=>by simp
 | k+1,h=>by
  have ih:=yX xs k ∅;rw [ET,List.filterMap_append,ih];have e:(((xs.length:Int)-1)+(k:Int)*(-1)).toNat=xs.length-(k+1):=by omega
  have h1:xs.length-(k+1) < xs.length:=by omega
  simp only [Bs,List.filterMap_nil,e];have e2:xs.toArray[xs.length-(k+1)]?=ap xs[xs.length-(k+1)]:=by simp [h1]
  rw [e2];have e3:xs.drop (xs.length-(k+1))=xs[xs.length-(k+1)]::xs.drop (xs.length-k):=by
   rw [Be h1];congr 2;omega
  rw [e3,CA]
section
variable {e st:ga}{te:TE}{tl th ts:TO}{lo hi:Option ga}{pos p2:Pos}
def Ya (K:Ab) (te:TE) (tl th ts:TO):TE:=λσ H Q=>te σ H λx H1=>tl σ H1 λl H2=>th σ H2 λu H3=>ts σ H3 λs H4=>∃a xs,x=.ref a/\d7 K H4 a xs/\l=bv/\u=bv/\s=ap (-1)/\kL H4 (.tup xs.reverse) Q
def QJ (K:Ab) (hK:X.K=K) (he:PE X e te) (hl:PO X lo tl) (hu:PO X hi th) (hs:PO X (ap st) ts):PE X (.Subscript e (.Slice lo hi (ap st) p2) pos) (Ya K te tl th ts):=by
 subst hK;intro Z s σ H Q I h;refine Subscript_ (bH (he Z s σ H _ I h) λv s1 ⟨x,H1,I1,r1,q1⟩=>?_);refine wpAny_Slice (bH (hl Z s1 σ H1 _ I1 q1) λvl s2 ⟨l,H2,I2,pl,q2⟩=>bH (hu Z s2 σ H2 _ I2 q2) λvu s3 ⟨u,H3,I3,pu,q3⟩=>bH (hs Z s3 σ H3 _ I3 q3) λvs s4 ⟨c,H4,I4,ps,a,xs,ea,hx,el,eu,ec,q⟩=>?_);subst ea;subst el;subst eu;subst ec;cases r1;cases pl;cases pu;cases ps with
 | int i t=>
 have I5:Inv X Z σ H4 {s4 with heap:=s4.heap.push {cls:=.type "slice",data:=.fields #[.none,.none,.int (-1) t]}}:=I4.kept (t':=s4.toks) λb ob q=>Ai _ q;obtain⟨ay,r,ht,hz⟩:=I5.tuple hx;have Á:=r.length;refine tail_any (ops:=[.ref a,.ref s4.heap.objs.size]) ht.typeIs AQ.lookup ?_ (by with_unfolding_all rfl);have hs:D2 {s4 with heap:=s4.heap.push {cls:=.type "slice",data:=.fields #[.none,.none,.int (-1) t]}}.heap s4.heap.objs.size .none .none (.int (-1) t):=D2.new ..;generalize {s4 with heap:=s4.heap.push {cls:=.type "slice",data:=.fields #[.none,.none,.int (-1) t]}}=s5 at I5 ht hs;obtain⟨os,zA,TH,KL⟩:=id hs;have TL:s5.TypeIs (.ref s4.heap.objs.size) "slice":=⟨os,zA,TH⟩;unfold FB
 try with_reducible refine A9 ?_
 first | refine Aa (Af ?_) | skip
 refine Aa (C8 ht.typeIs (by decide) ?_);refine Aa (AW (name:=B6 "__getitem__") ht.typeIs AQ
  (Bc AQ ht.typeIs entry_tuple_getitem ?_ (args_tuple_getitem _ _)))
 show d4 _ _ (Builtin.Tuple.tupleItemsOf (.ref a) >>= _) _ _ s5;refine Aa (tupleItemsOf_ ht ?_);refine Aa (B8 TL ?_);rw [if_pos (by decide)];have app:∀{Q:Int×Int×Nat->ce->Prop}{E:bm->ce->Prop}{A:kw} (n:Nat),Q ((n:Int)-1,-1,n) s5->d4 (d5 X.prog X.w) A (Builtin.Slice.sliceApplied (.ref s4.heap.objs.size) (pure (n:Int))) Q E s5:=λ{Q E A} n hq=>by
  unfold Builtin.Slice.sliceApplied Builtin.Slice.sliceFields;refine Aa (Aa (AZ zA KL (x:=.none) rfl (Aa (AZ zA KL (x:=.none) rfl (Aa (AZ zA KL (x:=.int (-1) t) rfl (Af ?_)))))));refine Aa (HT.gX (.int (-1) t) ?_);show d4 _ _ (if (((-1:Int))==0)=true then _ else _) _ _ s5;rw [if_neg (by decide)];refine Aa (HT.gX .none (Aa (HT.gX .none (Aa (Af ?_)))));show d4 _ _ (match Builtin.Slice.sliceAdjust bv bv (-1) (n:Int) with | (lo,hi)=>pure (lo,(-1:Int),Builtin.Slice.slicePlaces lo hi (-1))) _ _ s5;have e1:Builtin.Slice.sliceAdjust bv bv (-1) (n:Int)=((n:Int)-1,-1):=by unfold Builtin.Slice.sliceAdjust;simp
  rw [e1];have e2:Builtin.Slice.slicePlaces ((n:Int)-1) (-1) (-1)=n:=by
   unfold Builtin.Slice.slicePlaces;rw [if_neg (by decide)];by_cases h0:(n:Int)-1 > -1
   ·rw [if_pos h0];show (((n:Int)-1 - -1-1) / 1+1).toNat=n;rw [Int.ediv_one];omega
   ·rw [if_neg h0];show (0:Int).toNat=n;omega
  show d4 _ _ (pure ((n:Int)-1,(-1:Int),Builtin.Slice.slicePlaces ((n:Int)-1) (-1) (-1))) _ _ s5;rw [e2];exact Af hq
 refine Aa (app ay.toArray.size ?_);show d4 _ _ (if (((ay.toArray.size:Int)-1)==0&&(-1:Int)==1&&ay.toArray.size==ay.toArray.size)=true then _ else _) _ _ s5;rw [if_neg (by simp)];have hp:=yX ay ay.length (Ao _);rw [B9,List.drop_zero] at hp;have ę:((AA ay.toArray.size).filterMap λ(m:Nat)=>ay.toArray[(((ay.toArray.size:Int)-1)+(m:Int)*(-1)).toNat]?).toArray=ay.reverse.toArray:=by
  rw [Aj,hp]
 rw [ę];have hsz:sizeOk (.seq ay.reverse.toArray):=by
  show ay.reverse.toArray.size<=sizeLine;rw [Aj,B4];omega
 have fin:EP X Z σ Q (.ref s5.heap.objs.size) {s5 with heap:=s5.heap.push {cls:=.type "tuple",data:=.seq ay.reverse.toArray}}:=
  ⟨.ref s5.heap.objs.size,_,I5.laid (t':=s5.toks) (o:=.tup xs.reverse) (λb ob q=>Ai _ q) (Ao _) ⟨by rw [B4];exact hz,_,r.rQ,Fg _ _⟩,rfl,q.at _ (I5.bN.fresh (Ao _))⟩
 first
  | exact Aa (m:=Builtin.Tuple.tupleExact _) (A2 (Af ⟨_,rfl,Af fin⟩) hsz)
  | exact Aa (m:=Builtin.Tuple.tupleExact _) (A2 (Aa (Af (Af ⟨_,rfl,Af fin⟩))) hsz)
  | exact Aa (Aa (m:=Builtin.Tuple.tupleExact _) (A2 (Af (Af ⟨_,rfl,Af fin⟩)) hsz))
  | exact Aa (Aa (m:=Builtin.Tuple.tupleExact _) (A2 (Af ⟨_,rfl,Af fin⟩) hsz))
end
end
end L2
namespace FL
section
open PySem PySem.Spec PyProof.Rows L2 PL
variable {K:Ab}
section
variable {X:Cx}{a b c e:ga}{pos p p2:Pos}{fs:bh}{w wa:W PV}{wl:W (List PV)}
def sM (neg:Bool) (x:PV) (l:List PV):W Bool:=.fF (RA x l) (.ret (if neg then !pB x l else pB x l))
def XB (b:Bool):W PV:=.ret (.bl b)
def Wr {neg:Bool}:∀σ H Q,fE K fs (.bind wa λx=>.bind wl λl=>.bind (sM neg x l) XB) σ H Q->S0 (Qr K neg) (fE K fs wa) (fQ K fs wl) σ H Q:=λσ H Q ⟨sr,q⟩=>
 ⟨sr,wa.mono (λx q1 u1 H1 g1 s1 v1=>⟨s1,wl.mono (λl q2 u2 H2 g2 s2 v2=>by
  obtain⟨ad,vs,rfl,h,rs⟩:=v2.sq s2;exact⟨ad,vs,l,x,rfl,h,rs,g2.vr s1 v1,q2.1,q2.2 _ H2 (g1.trans g2) s2 (.bl _)⟩) q1⟩) q⟩
def Wq {neg:Bool}:∀σ H Q,fT K fs (.bind wa λx=>.bind wl λl=>sM neg x l) σ H Q->S0 (Qr K neg) (fE K fs wa) (fQ K fs wl) σ H λx H'=>∃k,x=.bl k/\Q k H':=λσ H Q ⟨sr,q⟩=>
 ⟨sr,wa.mono (λx q1 u1 H1 g1 s1 v1=>⟨s1,wl.mono (λl q2 u2 H2 g2 s2 v2=>by
  obtain⟨ad,vs,rfl,h,rs⟩:=v2.sq s2;exact⟨ad,vs,l,x,rfl,h,rs,g2.vr s1 v1,q2.1,_,rfl,q2.2 H2 (g1.trans g2) s2⟩) q1⟩) q⟩
def JJ (hK:X.K=K) (hu:X.A.units+200 < sn) (ha:EF X K fs a wa) (hb:QF X K fs b wl) (hk:pc .In b=false:=by rfl):EF X K fs (.Compare a [.In] [b] pos) (.bind wa λx=>.bind wl λl=>.bind (sM false x l) XB):=⟨PE.imp (qJ (Vk K hK hu) ha.p hb.p hk) (Wr (neg:=false))⟩
def wd (hK:X.K=K) (hu:X.A.units+200 < sn) (ha:EF X K fs a wa) (hb:QF X K fs b wl) (hk:pc .NotIn b=false:=by rfl):TF X K fs (.Compare a [.NotIn] [b] pos) (.bind wa λx=>.bind wl λl=>sM true x l):=⟨PT.imp (qI (QP K hK hu) ha.p hb.p hk) (Wq (neg:=true))⟩
abbrev RC (neg:Bool) (wa:W PV) (wl:W (List PV)):W PV:=.bind wa λx=>.bind wl λl=>.bind (sM neg x l) XB
abbrev RB (neg:Bool) (wa:W PV) (wl:W (List PV)):W Bool:=.bind wa λx=>.bind wl λl=>sM neg x l
def sortI (ns:List Int):List Int:=ns.mergeSort (λa b=>decide (a<=b))
def Mh {ms ns:List Int} (h1:ms.Perm ns) (h2:ms.Pairwise (·<=·)):ms=sortI ns:=by
 have h3:(sortI ns).Perm ns:=CN ns _;have h4:(sortI ns).Pairwise (λa b=>decide (a<=b)=true):=Es (λa b c=>by simp;omega) (λa b=>by simp;omega) ns;exact List.Perm.eq_of_pairwise (le:=λa b=>a<=b) (λa b _ _ h h'=>Int.le_antisymm h h') h2 (h4.imp (by simp)) (h1.trans h3.symm)
def wD (l:List PV):W (List PV):=.bind (sI l) λns=>.fF (ns.length < 64) (.ret ((sortI ns).map PV.int))
def Rj (hK:X.K=K) (hg:Gl X "sorted") (hm:X.mg "sorted"=bv) (ha:F9 X K fs e wl) (he:ci [e] X.env=(false,lm e X.env)::ci [] X.env:=by rfl) (dR:(mo pos (ci [] X.env)).any (·.1)=false:=by rfl):LF X K fs (.Call (.Name "sorted" p) [e] [] pos) (.bind wl wD):=⟨PE.imp (fJ (HU K hK) hg hm boot_sorted (bw ha.p cY he) (by decide) (by decide) he dR) λσ H Q ⟨sr,q⟩=>⟨sr,wl.mono (λl q1 u1 H1 g1 s1 _ v1=>by
 obtain⟨ns,el,hC,q2⟩:=pw (l:=l) q1;obtain⟨a,vs,rfl,h1,r1⟩:=v1 H1 .refl s1;rw [el] at r1;have:=nZ r1;subst this;refine⟨a,ns,rfl,h1,hC,λms a2 a3=>?_⟩;rw [Mh a2 a3];exact Jg g1 s1 (n6 _ _ _) q2) q⟩⟩
variable {el eh:Option ga}{st:ga}{lo hi ws:W (Option Int)}
def Ml (x:PV) (i j k:Option Int):W PV:=match x with
 | .tup l=>.fF (i=bv/\j=bv/\k=ap (-1)) (.ret (.tup l.reverse))
 | _=>.fail
def WB (hK:X.K=K) (he:EF X K fs e w) (hl:OF X K fs el lo) (hh:OF X K fs eh hi) (hs:OF X K fs (ap st) ws):EF X K fs (.Subscript e (.Slice el eh (ap st) p2) pos) (.bind w λx=>.bind lo λi=>.bind hi λj=>.bind ws λk=>Ml x i j k):=⟨PE.imp (QJ K hK he.p hl.p hh.p hs.p) λσ H Q ⟨sr,q⟩=>⟨sr,w.mono (λx q1 u1 H1 g1 s1 v1=>⟨s1,lo.mono (λi q2 H2 g2 s2=>⟨s2,hi.mono (λj q3 H3 g3 s3=>⟨s3,ws.mono (λk q4 H4 g4 s4=>by
 have Ul:=g4.vr s3 (g3.vr s2 (g2.vr s1 v1));have gg:=((g1.trans g2).trans g3).trans g4;cases Ul with
 | @tup p vs l e r=>
  have q4:(W.fF (i=bv/\j=bv/\k=ap (-1)) (bd (PV.tup l.reverse))).run _:=q4;exact⟨p,vs,rfl,d7.of e,q4.1.1,q4.1.2.1,q4.1.2.2,λq H5 s5 h5 n5=>q4.2 _ H5 (gg.trans (c7.same s5)) (s4.same s5) (.tup h5 (aN.tk s5.eO r.reverse))⟩
 | _=>exact q4.elim) q3⟩) q2⟩) q1⟩) q⟩⟩
end
end
section
open PySem PySem.Spec PyProof.Rows L2 PL
variable {K:Ab}
section
variable {X:Cx}{e:ga}{rest:List ul}{pos p Â bQ eP:Pos}{fs:bh}{T:Type}{out:T->End}{x:Bool}{we wi wa wb:W PV}{wl:W (List PV)}{q0:Option dL}{l:List PV}{y:Str}
def VX (l:List PV):PV->W PV
 | .int k=>.fF (0<=k/\k < 1000) (.Ng l[k.toNat]?)
 | _=>.fail
def SF.ad7 (i:Nat) {ei:ga}{op:Operator}{ti:TIp}{M:M2}{k:List PV->W T} (hs:fs[i]?=ap (ap (.ol q0 l))) (hK:X.K=K) (hN:X.N[i]?=ap y) (hv:ym X.env.scope y) (hi:EF X K fs ei wi) (he:EF X K fs e we) (ho:PIp X op ti) (hM:M2.Ok K ti M) (hr:∀l',SF X K x (fs.set i (ap (.ol q0 l'))) rest (k l') out)
  (hd:(y==("__debug__":Str))=false:=by decide) (i6:(y==("__classdict__":Str))=false:=by decide)
  (ha:∀ov iv new,augStore ei ov iv new=(do sB [new,ov,iv] (Fa ov iv new);release [new,ov,iv] [];pure .next):=by intros;rfl) :
  SF X K x fs (.AugAssign (.Subscript (.Name y p) ei eP) op e pos::rest) (.bind wi λn=>.bind (VX l n) λg=>.bind we λv=>.bind (of2 M g v) λr=>.bind (gY l n r) k) out:=
 SF.step (Qz (dr hN hv hd i6) hi.p (N7 K hK) he.p ho oZ ha) λD σ H ⟨sr,q⟩=>by
  obtain⟨a,ws,e1,h1,r1⟩:=dg sr hs;refine⟨_,e1,sr,wi.mono (λn q1 u1 H1 g1 s1 v1=>?_) q⟩;obtain⟨a',ws1,nv,iC,yz⟩:=dg s1 hs;rw [e1] at nv;cases nv;cases v1 with
  | int kk=>
   have q1:(0<=kk/\kk < 1000)/\(W.Ng l[kk.toNat]?).run _:=q1;obtain⟨⟨b1,b2⟩,q1⟩:=q1;cases hg:l[kk.toNat]? with
   | none=>rw [hg] at q1;exact q1.elim
   | some g=>
    rw [hg] at q1;obtain⟨u,hu,ru⟩:=yz.get hg;refine⟨a,ws1,kk,u,rfl,rfl,dq.of iC,b1,b2,hu,s1,we.mono (λv q2 u2 H2 g2 s2 v2=>?_) q1⟩;refine wZ hM s2 (g2.vr s1 ru) v2 ((of2 M g v).mono (λr q3 u3 H3 g3 s3 v3=>?_) q2);obtain⟨a',X1,T4,Hj,UU⟩:=dg s3 hs;rw [e1] at T4;cases T4;have q3:(match nX l.length kk with | some j=>bd (l.set j r) | none=>W.fail).run _:=q3;cases hj:nX l.length kk with
    | none=>rw [hj] at q3;exact q3.elim
    | some j=>
     rw [hj] at q3;refine⟨a,X1,kk,j,rfl,rfl,Hj,by rw [UU.length];exact hj,λH4 sx h4=>?_⟩;obtain⟨s4,g4⟩:=j5 s3 hs e1 sx h4 (UU.set v3 j);exact⟨_,k _,hr _,s4,(k _).mono (λt q4=>q4.go (((g1.trans g2).trans g3).f.trans g4) sr s4) q3⟩
  | _=>exact q1.elim
def Qh (l:List PV) (i j:PV) (m:List PV):W (List PV):=match i,j with
 | .int a,.int c=>.fF (0<=a/\a<=c/\c<=l.length/\l.length+m.length<=sizeLine) (.ret (l.take a.toNat++m++l.drop c.toNat))
 | _,_=>.fail
def SF.Ys (i:Nat) {lo hi:ga}{p2:Pos}{k:List PV->W T} (hs:fs[i]?=ap (ap (.ol q0 l))) (hN:X.N[i]?=ap y) (hv:ym X.env.scope y) (he:LF X K fs e wl) (hl:EF X K fs lo wa) (hh:EF X K fs hi wb) (hr:∀l',SF X K x (fs.set i (ap (.ol q0 l'))) rest (k l') out)
  (ha:∀v,xL (.Subscript (.Name y p) (.Slice (ap lo) (ap hi) bv p2) eP) X.env v=(do
   let ov <- sB [v] (lm (.Name y p) X.env)
   let iv <- sB [v,ov] (lm (.Slice (ap lo) (ap hi) bv p2) X.env)
   Gf eP
   sB [v,ov,iv] (Fa ov iv v)
   release [iv,v,ov] []):=by intro _;rfl)
  (hd:(y==("__debug__":Str))=false:=by decide) (i6:(y==("__classdict__":Str))=false:=by decide)
  (ZI:wP [.Subscript (.Name y p) (.Slice (ap lo) (ap hi) bv p2) eP] e pos.line X.env=pure false:=by rfl) (hw:wS [.Subscript (.Name y p) (.Slice (ap lo) (ap hi) bv p2) eP] e X.env=pure bv:=by rfl)
  (h1:(ww [.Subscript (.Name y p) (.Slice (ap lo) (ap hi) bv p2) eP] X.env).map (·.2)=[xL (.Subscript (.Name y p) (.Slice (ap lo) (ap hi) bv p2) eP) X.env]:=by rfl) :
  SF X K x fs (.Assign [.Subscript (.Name y p) (.Slice (ap lo) (ap hi) bv p2) eP] e pos::rest) (.bind wl λm=>.bind wa λa=>.bind wb λb=>.bind (Qh l a b m) k) out:=
 SF.step (wM he.p (MX (dr hN hv hd i6) hl.p hh.p ha) ZI hw h1) λD σ H ⟨sr,q⟩=>by
  refine⟨sr,wl.mono (λm q1 b vb H1 g1 s1 nb eb rb=>?_) q⟩;obtain⟨a,ws,e1,h1,r1⟩:=dg s1 hs;refine⟨_,e1,s1,wa.mono (λi1 q2 u2 H2 g2 s2 v2=>⟨s2,wb.mono (λj1 q3 u3 H3 g3 s3 v3=>?_) q2⟩) q1⟩;obtain⟨a',X1,T4,Hj,UU⟩:=dg s3 hs;rw [e1] at T4;cases T4;have ā:=g3.vr s2 v2;have no:¬dI σ fs b:=sr.noOwn nb;have eb3:=(g2.trans g3).pR eb no;have rb3:=(g2.trans g3).LP s1 rb;have ne:a≠b:=λz=>no ⟨i,_,a,hs,rfl,e1,.inl z.symm⟩;cases ā with
  | int aa=>
   cases v3 with
   | int cc=>
    have q3:(0<=aa/\aa<=cc/\cc<=l.length/\l.length+m.length<=sizeLine)/\(k (l.take aa.toNat++m++l.drop cc.toNat)).run _:=q3;obtain⟨⟨c1,c2,c3,c4⟩,q3⟩:=q3;refine⟨a,b,X1,vb,aa,cc,rfl,rfl,rfl,rfl,Hj,eb3,ne,c1,c2,by rw [UU.length];exact c3,by rw [UU.length,rb3.length];exact c4,?_⟩;have sx:oO a H3 (upd H3 a (.lst (X1.take aa.toNat++vb++X1.drop cc.toNat))):=λz o n hz=>by rw [aF n];exact hz
    obtain⟨s4,g4⟩:=j5 s3 hs e1 sx aR (((UU.take aa.toNat).append rb3).append (UU.drop cc.toNat));exact⟨_,k _,hr _,s4,(k _).mono (λt q4=>q4.go (((g1.trans g2).trans g3).f.trans g4) sr s4) q3⟩
   | _=>exact q3.elim
  | _=>exact q3.elim
def UL (l:List PV) (v:PV):W (List PV):=match v with
 | .int k=>.bind (sI l) λns=>.fF (k∈ns) (.ret ((ns.erase k).map PV.int))
 | _=>.fail
theorem SF.remove (i:Nat) {k:List PV->W T} (hs:fs[i]?=ap (ap (.ol q0 l))) (hK:X.K=K) (hN:X.N[i]?=ap y) (hv:ym X.env.scope y) (he:EF X K fs e we) (hr:∀l',SF X K x (fs.set i (ap (.ol q0 l'))) rest (k l') out)
  (hd:(y==("__debug__":Str))=false:=by decide) (i6:(y==("__classdict__":Str))=false:=by decide) (fW:sK (.Name y p) "remove" X.env (lm (.Name y p) X.env)=lm (.Name y p) X.env:=by rfl)
  (sR:((mo bQ (ci [e] X.env)).all (λx=>!x.1)&&(backToKw bQ (Fk [] X.env)).all (λx=>x.1.isSome)
   && decide ([e].length+([]:List wT).length+(if ([]:List wT).isEmpty then 0 else 1) < 30))=true:=by rfl)
  (fV:(Â.endLine==bQ.line)=true:=by rfl) (xt:ci [e] X.env=(false,lm e X.env)::ci [] X.env:=by rfl) (ig:(mo bQ (ci [] X.env)).any (·.1)=false:=by rfl)
  (qk:o0 (.Call (.Attribute (.Name y p) "remove" Â) [e] [] bQ) bv pos.line X.env=pure false:=by rfl) :
  SF X K x fs (.Expr (.Call (.Attribute (.Name y p) "remove" Â) [e] [] bQ) pos::rest) (.bind we λv=>.bind (UL l v) k) out:=
 SF.step (nM (wR K hK BW PySem.F.slot_list_remove PySem.F.type_list_remove GP (dr hN hv hd i6) (bw he.p cY xt) fW sR fV xt ig) qk) λD σ H ⟨sr,q⟩=>by
  obtain⟨a,ws,e1,h1,r1⟩:=dg sr hs;refine⟨_,e1,.inl ⟨rfl,_,dq.of h1⟩,sr,we.mono (λv q1 u H1 g1 s1 v1=>?_) q⟩;obtain⟨a',p0,nv,iC,yz⟩:=dg s1 hs;rw [e1] at nv;cases nv;cases v1 with
  | int kk=>
   obtain⟨ns,el,hk,q2⟩:=pw (l:=l) q1;subst el;have:=nZ yz;subst this;refine⟨a,ns,kk,rfl,rfl,iC,hk,λH2 sx h2=>?_⟩;obtain⟨s2,g2⟩:=j5 s1 hs e1 sx h2 (n6 _ _ (ns.erase kk));exact⟨_,k _,hr _,s2,(k _).mono (λt q3=>q3.go (g1.f.trans g2) sr s2) q2⟩
  | _=>exact q1.elim
end
end
section
open PySem PySem.Spec PyProof.Rows L2 PL
variable {K:Ab}
abbrev w2 (f:PV->PV->W PV) (wa wb:W PV):W PV:=.bind wa λx=>.bind wb λy=>f x y
structure Xc (P:f8) (w:lc) (K:Ab) (mg:Str->Option bm) (base:lw) (f:dL) (k:Nat) (ps:List Str) (sp:Sp) where
 fd:sw
 ok:gj P w K mg base mr k f fd ps sp
 bi:Binds K fd ps []
 kp:CC K (.ref f)=true
section
variable {X:Cx}{e:ga}{es:List ga}{pos p:Pos}{fs:bh}{k k':Nat}{ps:List Str}{x:Str}{ks:List AK}{R:Type}{B:(List PV->W R)->W R}{fa:dL}{W':W PV}
def ad9 (hg:Gl X x) (hm:X.mg x=ap (.ref fa)) (hr:AF X K fs es ks B) (hd:(x==("__debug__":Str))=false:=by decide) (xt:ci (.Name x pos::es) X.env=(false,lm (.Name x pos) X.env)::ci es X.env:=by rfl):AF X K fs (.Name x pos::es) (.f fa::ks) B:=by
 obtain⟨wr,hp,hB⟩:=hr.p;refine⟨wr,PA.imp (bw (wQ (v:=.ref fa) hg hm rfl hd) hp xt) λσ H Q ⟨sr,q⟩=>?_,hB⟩;exact⟨sr,wr.mono (λl q2 vs H2 g2 s2 v2=>q2 _ H2 g2 s2 (.f v2)) q⟩
def Se {m:List PV->W PV}{B:(List PV->W PV)->W PV} (i:Nat) (G:Xc X.prog X.w X.K X.mg X.base fa k ps (eF K ks m)) (hr:da k' X.A) (hk:k<=k') (hs:fs[i]?=ap (ap (.adr fa))) (ha:AF X K fs (e::es) ks B) (hW:W'=B m) (hN:X.N[i]?=ap x:=by rfl) (hv:ym X.env.scope x:=by first | exact Cw rfl | exact Cn (Cw rfl) | exact Cn (Cn rfl)) (hd:(x==("__debug__":Str))=false:=by decide) (i6:(x==("__classdict__":Str))=false:=by decide)
  (he:ci (e::es) X.env=(false,lm e X.env)::ci es X.env:=by rfl) (dR:(mo pos (ci es X.env)).any (·.1)=false:=by rfl):EF X K fs (.Call (.Name x p) (e::es) [] pos) W':=by
 subst hW;obtain⟨w,hp,hB⟩:=ha.p;rw [hB];refine⟨PE.imp (M8 (dvs:=[]) (ds:=[]) (E:=E0) G.ok (hr.mono hk) (dr hN hv hd i6) G.kp G.bi .nil S9 hp he dR) λσ H Q ⟨sr,q⟩=>?_⟩;obtain⟨u,e1,r⟩:=sr.at' i _ hs;rcases r with⟨v,e,_⟩ | ⟨a,e,r⟩
 ·cases e
 ·have r:a=fa:=r;subst r;subst e;refine⟨_,e1,rfl,sr,w.mono (λl q1 vs H1 g1 s1 v1=>?_) q⟩;show eF K ks m (vs++[]) H1 Q E0;rw [CV];exact⟨l,v1.c s1,(m l).mono (λz q2 u H2 g2 r2=>let ⟨s2,g3⟩:=g2.caller v1 s1;q2 u H2 (g1.trans g3) s2 r2) q1⟩
end
def G8:PV->W Key
 | .int i=>.ret (.inl i)
 | .str s=>.ret (.inr s)
 | _=>.fail
def qp (kvs:List (Key×PV)) (k:Key):Bool:=kvs.any λkv=>decide (kv.1=k)
def qq (kvs:List (Key×PV)) (k:Key):Option PV:=(kvs.find? λkv=>decide (kv.1=k)).map (·.2)
def putP (kvs:List (Key×PV)) (k:Key) (v:PV):List (Key×PV):=if qp kvs k=true then kvs.map (λkv=>if kv.1=k then (kv.1,v) else kv) else kvs++[(k,v)]
def di (K:Ab) (H:Hp) (vs:List (Key×V)) (kvs:List (Key×PV)):Prop:=vs.map (·.1)=kvs.map (·.1)/\aN K [] H (vs.map (·.2)) (kvs.map (·.2))
section
variable {H:Hp}
def di.cons_inv {p:Key×V}{vs:List (Key×V)}{q:Key×PV}{kvs:List (Key×PV)} (h:di K H (p::vs) (q::kvs)):p.1=q.1/\VR K [] H p.2 q.2/\di K H vs kvs:=by
 obtain⟨h1,h2⟩:=h;injection h1 with a b;cases h2 with
 | cons r t=>exact⟨a,r,b,t⟩
def di.mk {p:Key×V}{vs:List (Key×V)}{q:Key×PV}{kvs:List (Key×PV)} (e:p.1=q.1) (r:VR K [] H p.2 q.2) (h:di K H vs kvs):di K H (p::vs) (q::kvs):=⟨by rw [Au,Au,e,h.1],.cons r h.2⟩
theorem di.ind {C:List (Key×V)->List (Key×PV)->Prop} (h0:C [] []) (h1:∀p q vs kvs,p.1=q.1->VR K [] H p.2 q.2->di K H vs kvs->C vs kvs->C (p::vs) (q::kvs)):∀{vs kvs},di K H vs kvs->C vs kvs
 | [],[],_=>h0
 | [],_::_,h=>by simp [di] at h
 | _::_,[],h=>by simp [di] at h
 | p::vs,q::kvs,h=>let ⟨a,b,c⟩:=h.cons_inv;h1 p q vs kvs a b c (di.ind h0 h1 c)
def di.has {vs:List (Key×V)}{kvs:List (Key×PV)} (h:di K H vs kvs) (k:Key):(iW vs k).isSome=qp kvs k:=by
 rw [<- nB];refine di.ind (C:=λvs kvs=>(vs.any λkv=>decide (kv.1=k))=kvs.any λkv=>decide (kv.1=k)) rfl (λp q vs kvs e _ _ ih=>?_) h;rw [Cb,Cb,ih,e]
def di.get {vs:List (Key×V)}{kvs:List (Key×PV)} (h:di K H vs kvs) (k:Key) {v:PV} (g:qq kvs k=ap v):∃u,iW vs k=ap u/\VR K [] H u v:=by
 refine di.ind (C:=λvs kvs=>qq kvs k=ap v->∃u,iW vs k=ap u/\VR K [] H u v) (λg=>by simp [qq] at g) (λp q vs kvs e r _ ih g=>?_) h g;by_cases c:p.1=k
 ·rw [kT c];have c':=e▸c;have:qq (q::kvs) k=ap q.2:=by simp [qq,BE,c']
  rw [this] at g;cases g;exact⟨_,rfl,r⟩
 ·rw [kU c];have c':=e▸c;have:qq (q::kvs) k=qq kvs k:=by simp [qq,BE,c']
  exact ih (this▸g)
def di.put {vs:List (Key×V)}{kvs:List (Key×PV)} (h:di K H vs kvs) (k:Key) {u:V}{v:PV} (r:VR K [] H u v):di K H (putK vs k u) (putP kvs k v):=by
 have hh:(vs.any λkv=>decide (kv.1=k))=qp kvs k:=by rw [nB];exact h.has k
 unfold putK putP;rw [hh]
 split
 ·refine di.ind (C:=λvs kvs=>di K H (vs.map λkv=>if kv.1=k then (kv.1,u) else kv) (kvs.map λkv=>if kv.1=k then (kv.1,v) else kv)) ⟨rfl,.nil⟩ (λp q vs kvs e rr _ ih=>?_) h;rw [Au,Au];by_cases c:p.1=k
  ·rw [if_pos c,if_pos (e▸c)];exact di.mk e r ih
  ·rw [if_neg c,if_neg (e▸c)];exact di.mk e rr ih
 ·refine di.ind (C:=λvs kvs=>di K H (vs++[(k,u)]) (kvs++[(k,v)])) ⟨rfl,.cons r .nil⟩ (λp q vs kvs e rr _ ih=>di.mk e rr ih) h
def di.length {vs:List (Key×V)}{kvs:List (Key×PV)} (h:di K H vs kvs):vs.length=kvs.length:=by
 have:=congrArg BV h.1;simpa using this
end
section
variable {X:Cx}{a e ei:ga}{rest:List ul}{pos p p' eP:Pos}{fs:bh}{T:Type}{out:T->End}{x:Bool}{we wi wa:W PV}{kvs:List (Key×PV)}{y:Str}
def wY {σ:L2.St}{H:Hp}{i:Nat} (sr:a6 K H σ fs) (hs:fs[i]?=ap (ap (.od kvs))):∃a vs,σ[i]?=ap (ap (.ref a))/\H a=ap (.dK vs)/\di K H vs kvs:=by
 obtain⟨u,e1,r⟩:=sr.at' i _ hs;rcases r with⟨v,e,_⟩ | ⟨a,e,vs,q1,q2,q3⟩
 ·cases e
 ·subst e;exact⟨a,vs,e1,q1,q2,q3⟩
def SF.acw {i:Nat}{k:W T}{p2:Pos} (hN:X.N.Nodup) (hi:X.N[i]?=ap y) (hx:Loc X.env.scope y) (hr:SF X K x (fs.set i (ap (.od []))) rest k out) (hs:o0 (.Dict [] [] p2) (ap (.Name y p')) pos.line X.env=pure false:=by rfl)
  (hf:X.fn y=true\/X.env.scope.names.lookup y=ap .local:=by first | exact .inl rfl | exact .inr rfl | assumption):SF X K x fs (.Assign [.Name y p'] (.Dict [] [] p2) pos::rest) k out:=SF.step (rS hN hi hx M6 hs hf) λD σ H ⟨sr,q⟩=>λa H1 s1 e1 n1=>by
 have no:=sr.noOwn n1;have s2:=(sr.same s1).rR (t:=.od []) ⟨[],e1,rfl,.nil⟩ no i;exact⟨_,k,hr,s2,k.mono (λt q2=>q2.go (cP.rR (sr.same s1) (cP.same s1 sr) no n1 i) sr s2) q⟩
def Tj {H:Hp}{u:V}{v:PV}{Q:Key->Prop} (r:VR K [] H u v) (q:(G8 v).run Q):∃k,u=kV k/\Q k:=by
 cases r with
 | int i=>exact⟨.inl i,rfl,q⟩
 | str s=>exact⟨.inr s,rfl,q⟩
 | _=>exact q.elim
def Rz (i:Nat) (hs:fs[i]?=ap (ap (.od kvs))) (hN:X.N[i]?=ap y) {neg:Bool}:∀σ H Q,fT K fs (.bind wa λx=>.bind (G8 x) λk=>.ret (if neg then !qp kvs k else qp kvs k)) σ H Q->(fE K fs wa) σ H λu H1=>(X8 i) σ H1 λz H2=>∃a o,z=.ref a/\uT H2 a u o/\(∃b,(V.bl (if neg then !o.isSome else o.isSome))=.bl b/\Q b H2):=λσ H Q ⟨sr,q⟩=>
 ⟨sr,wa.mono (λv q1 u H1 g1 s1 v1=>by
  obtain⟨k,rfl,q2⟩:=Tj v1 q1;obtain⟨a,vs,e1,h1,r1⟩:=wY s1 hs;refine⟨_,e1,a,_,rfl,uT.k h1,_,rfl,?_⟩;rw [r1.has k];exact q2 H1 g1 s1) q⟩
def X6 (i:Nat) (hs:fs[i]?=ap (ap (.od kvs))) (hu:X.A.units+200 < sn) (ha:EF X K fs a wa) (hN:X.N[i]?=ap y:=by rfl) (hv:ym X.env.scope y:=by first | exact Cw rfl | exact Cn (Cw rfl) | exact Cn (Cn rfl)) (hd:(y==("__debug__":Str))=false:=by decide) (i6:(y==("__classdict__":Str))=false:=by decide) (hk:pc .In (.Name y p)=false:=by rfl) :
  TF X K fs (.Compare a [.In] [.Name y p] pos) (.bind wa λx=>.bind (G8 x) λk=>.ret (qp kvs k)):=⟨PT.imp (U0 (Vd ∅ ha.p (dr hN hv hd i6)) hk) (Rz (neg:=false) i hs hN)⟩
def UY (kvs:List (Key×PV)) (n v:PV):W (List (Key×PV)):=.bind (G8 n) λkk=>.fF (kvs.length < sizeLine) (.ret (putP kvs kk v))
def SF.putD (i:Nat) {k:List (Key×PV)->W T} (hs:fs[i]?=ap (ap (.od kvs))) (hu:X.A.units+200 < sn) (hN:X.N[i]?=ap y) (hv:ym X.env.scope y) (he:EF X K fs e we) (hi:EF X K fs ei wi) (hr:∀l',SF X K x (fs.set i (ap (.od l'))) rest (k l') out)
  (hd:(y==("__debug__":Str))=false:=by decide) (i6:(y==("__classdict__":Str))=false:=by decide) (qk:o0 e (ap (.Subscript (.Name y p) ei eP)) pos.line X.env=pure false:=by rfl) :
  SF X K x fs (.Assign [.Subscript (.Name y p) ei eP] e pos::rest) (.bind we λv=>.bind wi λn=>.bind (UY kvs n v) k) out:=
 SF.step (Qy ∅ (dr hN hv hd i6) hi.p he.p qk) λD σ H ⟨sr,q⟩=>by
  refine⟨sr,we.mono (λv q1 u H1 g1 s1 v1=>?_) q⟩;obtain⟨a,vs,e1,h1,r1⟩:=wY s1 hs;refine⟨_,e1,s1,wi.mono (λn q2 u2 H2 g2 s2 v2=>?_) q1⟩;obtain⟨kk,rfl,hz,q3⟩:=Tj v2 q2;obtain⟨a',Po,nv,iC,yz⟩:=wY s2 hs;rw [e1] at nv;cases nv;refine⟨a,_,rfl,Pm.k iC (by rw [yz.length];exact hz),?_⟩;have sx:oO a H2 (upd H2 a (.dK (putK Po kk u))):=λz o n hz=>by rw [aF n];exact hz
  obtain⟨s3,g3⟩:=mQ (t':=.od (putP kvs kk v)) s2 hs rfl (by simp) e1 sx λtk=>⟨_,aR,(yz.put kk (g2.vr s1 v1)).1,aN.tk tk (yz.put kk (g2.vr s1 v1)).2⟩;exact⟨_,k _,hr _,s3,(k _).mono (λt q4=>q4.go ((g1.trans g2).f.trans g3) sr s3) q3⟩
end
end
section
open PySem PySem.Spec PyProof.Rows L2 PL
variable {K:Ab}
def fAs (K:Ab) (fs:bh) (i:Nat) (w:W (List PV)):TS:=λD σ H=>a6 K H σ fs/\w.run λl=>∀a vs H',c7 σ fs H H'->a6 K H' σ fs->H a=bv->H' a=ap (.lst vs)->aN K [] H' vs l->D.nx (σ.set i (ap (.ref a))) H'
structure AS (X:Cx) (K:Ab) (fs:bh) (st:ul) (i:Nat) (w:W (List PV)):Prop where p:PS X st (fAs K fs i w)
section
variable {X:Cx}{st:ul}{rest:List ul}{fs:bh}{i:Nat}{wl:W (List PV)}{T:Type}{out:T->End}{x:Bool}{k:List PV->W T}
def SF.as (h:AS X K fs st i wl) (hr:∀l,SF X K x (fs.set i (ap (.ol bv l))) rest (k l) out):SF X K x fs (st::rest) (.bind wl k) out:=SF.step h.p λD σ H ⟨sr,q⟩=>⟨sr,wl.mono (λl q1 a ws H1 g1 s1 n e v1=>by
 have no:=sr.noOwn n;have s2:=s1.rR (t:=.ol bv l) ⟨by simp,ws,e,v1⟩ no i;exact⟨_,k l,hr l,s2,(k l).mono (λt q2=>q2.go (cP.rR s1 g1.f no n i) sr s2) q1⟩) q⟩
def WX (b:Nat) {q0:Option dL}{l:List PV} (hs:fs[b]?=ap (ap (.ol q0 l))) (h:AS X K (fs.set b (ap (.val (.cl l)))) st i wl):AS X K fs st i (.bind wl L9):=⟨λZ s σ H D I ⟨sr,q⟩=>by
 obtain⟨a,ws,ob,I2,s2,Í⟩:=bor I sr hs;refine bH (h.p Z s σ _ {nx:=λσ' H1=>∃b vs l',σ'=σ.set i (ap (.ref b))/\c7 σ (fs.set _ (ap (.val (.cl l)))) (upd H a (.cU ob (.lst ws))) H1/\a6 K H1 σ (fs.set _ (ap (.val (.cl l))))/\upd H a (.cU ob (.lst ws)) b=bv/\H1 b=ap (.lst vs)/\aN K [] H1 vs l'/\uJ l'=true/\∀a vs H',c7 σ fs H H'->a6 K H' σ fs->H a=bv->H' a=ap (.lst vs)->aN K [] H' vs l'->D.nx (σ.set i (ap (.ref a))) H',rt:=D.rt,bk:=D.bk,ct:=D.ct} I2 ⟨s2,wl.mono (λl' q1 b vs H1 g1 s1 n e v1=>⟨b,vs,l',rfl,g1,s1,n,e,v1,q1.1,q1.2⟩) q⟩) λf s1 q1=>?_;cases f with
 | next=>
  obtain⟨σ',H1,I1,b,vs,l',rfl,g1,Qn,n,eb,v1,d,q1⟩:=q1;obtain⟨I3,g3,s3,t3,k3⟩:=Í _ s1 H1 I1 g1 Qn;have nb:b≠a:=λy=>by subst y;rw [aR] at n;cases n
  exact⟨_,_,I3,q1 b vs _ g3 s3 (by rw [aF nb] at n;exact n) (k3 b vs nb eb) (aN.kq t3 v1 d)⟩
 | ret v=>exact q1
 | brk=>exact q1
 | cont=>exact q1⟩
end
section
variable {X:Cx}{Ä tg iter c:ga}{É:List ga}{sc:nw}{N':List Str}{ix:List (Option Nat)}{pos:Pos}{fs:bh}{wl:W (List PV)}{T2:Type}{wt:PV->W T2}{is:List Nat}{dU:T2->bh}{tf:T2->W Bool}{te:T2->W PV}
def aaD {f:PV->W (Option PV)}{i:Nat}{y:Str}{px kJ:Pos} (hc:X.calm=true) (hN:X.N.Nodup) (zB:X.N[i]?=ap y) (hx:X.env.scope.names.lookup y=ap .local) (S:aG X.env.scope X.N sc N' ix) (hi:rh X K fs tg iter wl) (hg:∀cl C s2 H2 fp,GF (gq X sc N' cl C s2 H2 fp) K (cj ix fs) tg is wt dU) (ZU:∀cl C s2 H2 fp t,FF (gq X sc N' cl C s2 H2 fp) K (dU t) É (tf t)) (he:∀cl C s2 H2 fp t,EF (gq X sc N' cl C s2 H2 fp) K (dU t) Ä (te t))
  (hf:∀p,f p=.bind (wt p) λt=>.bind (tf t) λk=>if k=true then .bind (te t) λv=>.ret (ap v) else .ret bv) (hl:uR is (cj ix fs) dU/\∀t,jO (dU t) (cj ix fs)) (uD:∀j∈is,ix[j]?=ap bv)
  (qk:o0 (.ListComp Ä [⟨tg,iter,É,0⟩] sc pos) (ap (.Name y px)) kJ.line X.env=pure true:=by rfl) (hs:∀x,ii iter X.env x=pure x:=by intro _;rfl) :
  AS X K fs (.Assign [.Name y px] (.ListComp Ä [⟨tg,iter,É,0⟩] sc pos) kJ) i (.bind wl λl=>kQ l f):=
 ⟨PS.imp (yT hc hN zB hx S hi.p (λcl C s2 H2 fp=>(hg cl C s2 H2 fp).p) (λcl C s2 H2 fp Z s σ H Q I ⟨t,q⟩=>(ZU cl C s2 H2 fp t).p Z s σ H Q I q) (λcl C s2 H2 fp Z s σ H Q I ⟨t,q⟩=>(he cl C s2 H2 fp t).p Z s σ H Q I q) qk hs) λD σ H ⟨sr,q⟩=>
  Oj (K:=K) S rfl hf hl.1 hl.2 uD σ H _ ⟨sr,q⟩⟩
variable {i:Nat}{y:Str}{px kJ:Pos}
def WW {j:Nat}{tf:PV->W Bool}{te:PV->W PV} (hc:X.calm=true) (hN:X.N.Nodup) (zB:X.N[i]?=ap y) (hx:X.env.scope.names.lookup y=ap .local) (S:aG X.env.scope X.N sc N' ix) (hi:rh X K fs tg iter wl) (hg:∀cl C s2 H2 fp,PG (gq X sc N' cl C s2 H2 fp) tg (dJ j)) (hf:∀cl C s2 H2 fp t,TF (gq X sc N' cl C s2 H2 fp) K ((cj ix fs).set j (ap (.val t))) c (tf t)) (he:∀cl C s2 H2 fp t,EF (gq X sc N' cl C s2 H2 fp) K ((cj ix fs).set j (ap (.val t))) Ä (te t)) (h0:ix[j]?=ap bv)
  (qk:o0 (.ListComp Ä [⟨tg,iter,[c],0⟩] sc pos) (ap (.Name y px)) kJ.line X.env=pure true:=by rfl) (hs:∀x,ii iter X.env x=pure x:=by intro _;rfl) :
  AS X K fs (.Assign [.Name y px] (.ListComp Ä [⟨tg,iter,[c],0⟩] sc pos) kJ) i (.bind wl λl=>kQ l λp=>G6 (tf p) (te p)):=
 have h1:(cj ix fs)[j]?=ap bv:=by unfold cj;rw [Ak,h0];rfl
 aaD (wt:=.ret) (tf:=tf) (te:=te) hc hN zB hx S hi (λcl C s2 H2 fp=>Wi (hg cl C s2 H2 fp)) (λcl C s2 H2 fp t=>xH (hf cl C s2 H2 fp t)) he (λ_=>rfl) (Nz h1) (λm hj=>by rw [Bh] at hj;subst hj;exact h0) qk hs
end
end
end FL
namespace L2
open PySem PySem.Spec PyProof.Rows
def Inv.RQ {X:Cx}{Z:List (dL×Obj)}{σ:St}{H:Hp}{s:ce}{a:dL}{kvs:List (Key×V)} (I:Inv X Z σ H s) (e:H a=ap (.dK kvs)):∃o,Inv X Z σ (upd H a (.cU o (.dK kvs))) s:=by
 obtain⟨z,hs,vs,r,o,es,ep,h1,h2⟩:=(show bB X.prog X.w H s.heap a (.dK kvs) from I.bN a _ e);exact⟨o,I.write (x:=a) (e:=a) (o:=.cU o (.dK kvs)) (h':=s.heap) (t':=s.toks) (by rw [e];exact Cd) (.inl rfl) (λb u _ z=>z) ⟨o,h1⟩ ⟨h1,z,hs,vs,r,o,es,ep,h1,h2⟩⟩
end L2
namespace FL
section
open PySem PySem.Spec PyProof.Rows L2 PL
variable {K:Ab}
def dvK (kvs:List (Key×PV)):PV:=.dv (kvs.map λkv=>kP kv.1) (kvs.map (·.2))
def Px (kvs:List (List Key×PV)):PV:=.dv (kvs.map λkv=>.tup (kv.1.map kP)) (kvs.map (·.2))
def oP (K:Ab) (H:Hp) (vs:List (List Key×V)) (kvs:List (List Key×PV)):Prop:=vs.map (·.1)=kvs.map (·.1)/\aN K [] H (vs.map (·.2)) (kvs.map (·.2))
def SO (K:Ab) (H:Hp) (ob:HO) (v:PV):Prop:=(∃vs kvs,ob=.dK vs/\v=dvK kvs/\di K H vs kvs)\/∃vs kvs,ob=.dT vs/\v=Px kvs/\oP K H vs kvs
def fDv (K:Ab) (fs:bh) (w:W PV):TE:=λσ H Q=>a6 K H σ fs/\w.run λv=>∀a ob H',c7 σ fs H H'->a6 K H' σ fs->H a=bv->H' a=ap ob->SO K H' ob v->Q (.ref a) H'
structure DVF (X:Cx) (K:Ab) (fs:bh) (e:ga) (w:W PV):Prop where p:PE X e (fDv K fs w)
section
variable {σ:L2.St}{fs:bh}{H:Hp}{a:dL}{ob:HO}{v:PV}
def rF (o':HO) (e:H a=ap ob) (n1:∀vs,ob≠.tup vs) (n2:∀o u,ob≠.cU o u):bF K H (upd H a o'):=⟨λb ws q=>by rw [aF (λz=>by subst z;rw [e] at q;cases q;exact n1 _ rfl)];exact q,λb o u q=>by rw [aF (λz=>by subst z;rw [e] at q;cases q;exact n2 _ _ rfl)];exact q⟩
def a6.Yt (s:a6 K H σ fs) (n:¬dI σ fs a) (e:H a=ap ob) (n1:∀vs,ob≠.tup vs) (n2:∀o u,ob≠.cU o u) (o':HO):a6 K (upd H a o') σ fs:=⟨s.len,λi t q=>by
 obtain⟨u,h1,h2⟩:=s.at' i t q;exact⟨u,h1,h2.mono (rF o' e n1 n2) (λx b o eb ow hb z=>by subst eb;rw [aF (λy:b=a=>n ⟨i,t,x,q,ow,h1,y▸hb⟩)];exact z)⟩,s.nd⟩
def Zp {vs:List (List Key×V)}{kvs:List (List Key×PV)} (h:vs.map (·.1)=kvs.map (·.1)):(kvs.map λkv=>PV.tup (kv.1.map kP))=vs.map λkv=>PV.tup (kv.1.map kP):=by
 have:=congrArg (FO λk:List Key=>PV.tup (k.map kP)) h;rw [AL,AL] at this;exact this.symm
def Zq {vs:List (Key×V)}{kvs:List (Key×PV)} (h:vs.map (·.1)=kvs.map (·.1)):(kvs.map λkv=>kP kv.1)=vs.map λkv=>kP kv.1:=by
 have:=congrArg (FO kP) h;rw [AL,AL] at this;exact this.symm
def SO.cU {X:Cx}{Z:List (dL×Obj)}{s:ce}{σ':L2.St} (I:Inv X Z σ' H s) (e:H a=ap ob) (d:SO K H ob v):∃u,Inv X Z σ' (upd H a u) s/\VR K [] (upd H a u) (.ref a) v/\(∀vs,ob≠.tup vs)/\∀o u,ob≠.cU o u:=by
 rcases d with⟨vs,kvs,rfl,rfl,d1,d2⟩ | ⟨vs,kvs,rfl,rfl,d1,d2⟩
 ·obtain⟨o,I2⟩:=I.RQ e;exact⟨_,I2,.dk aR (Zq d1) (aN.tk (rF _ e (by simp) (by simp)) d2),by simp,by simp⟩
 ·obtain⟨o,I2⟩:=I.freeze e;exact⟨_,I2,.dt aR (Zp d1) (aN.tk (rF _ e (by simp) (by simp)) d2),by simp,by simp⟩
end
section
variable {X:Cx}{a b c e o:ga}{pos p:Pos}{fs:bh}{w wa wb:W PV}{wl:W (List PV)}
def ad2 (h:DVF X K fs e w):EF X K fs e w:=⟨λZ s σ H Q I ⟨sr,q⟩=>by
 refine bH (h.p Z s σ H (λu H1=>∃a ob v,u=.ref a/\c7 σ fs H H1/\a6 K H1 σ fs/\H a=bv/\H1 a=ap ob/\SO K H1 ob v/\∀u H',c7 σ fs H H'->a6 K H' σ fs->VR K [] H' u v->Q u H') I ⟨sr,w.mono (λv q1 a ob H1 g1 s1 n e d=>⟨a,ob,v,rfl,g1,s1,n,e,d,q1⟩) q⟩) λu s1 ⟨v,H1,I1,r1,a,ob,v',e,g1,Qn,n,ea,d,q1⟩=>?_;subst e;obtain⟨o',I2,vr,n1,n2⟩:=d.cU I1 ea;exact⟨.ref a,_,I2,r1,q1 _ _ (g1.side n _) (Qn.Yt (λz=>sr.noOwn n z) ea n1 n2 _) vr⟩⟩
def Ja (kv:List Key×PV):PV:=.tup [.tup (kv.1.map kP),kv.2]
theorem NL (H:Hp):∀k:List Key,aN K [] H (k.map kV) (k.map kP)
 | []=>.nil
 | .inl i::k=>.cons (.int i) (NL H k)
 | .inr i::k=>.cons (.str i) (NL H k)
theorem Jo {H:Hp}:∀{k:List Key}{vs:List V},aN K [] H vs (k.map kP)->vs=k.map kV
 | [],_,h=>by cases h;rfl
 | .inl i::k,_,h=>by
  cases h with
  | cons x t=>cases x;rw [Jo t];rfl
 | .inr i::k,_,h=>by
  cases h with
  | cons x t=>cases x;rw [Jo t];rfl
theorem y6 {H:Hp}:∀{kvs:List (List Key×PV)}{vs:List V},aN K [] H vs (kvs.map Ja)->∃zs:List Pz,vs=zs.map (λz=>V.ref z.pa)/\(∀z∈zs,z.At H)/\zs.map (·.k)=kvs.map (·.1)/\aN K [] H (zs.map (·.v)) (kvs.map (·.2))
 | [],_,h=>by cases h;exact⟨[],rfl,by simp,rfl,.nil⟩
 | kv::kvs,_,h=>by
  cases h with
  | cons x t=>
  obtain⟨zs,z1,z2,z3,z4⟩:=y6 t;cases x with
  | @tup p ws _ e r=>
  cases r with
  | cons x1 t1=>
  cases t1 with
  | cons x2 t2=>
  cases t2;cases x1 with
  | @tup b us _ e1 r1=>
  have:=Jo r1;subst this;refine⟨⟨p,kv.1,b,_⟩::zs,by rw [Au,z1],λz hz=>?_,by rw [Au,Au,z3],.cons x2 z4⟩;rcases Ax.mp hz with rfl | hz
  ·exact⟨e,e1⟩
  ·exact z2 z hz
def HQ (l:List PV):W PV:=⟨λQ=>∃kvs:List (List Key×PV),l=kvs.map Ja/\(kvs.map (·.1)).Nodup/\kvs.length<=1000/\Q (Px kvs),λf q=>q.imp λkvs h=>⟨h.1,h.2.1,h.2.2.1,f _ h.2.2.2⟩⟩
def Sl (hK:X.K=K) (hc:X.calm=true) (hu:X.A.units+200 < sn) (hg:Gl X "dict") (hm:X.mg "dict"=bv) (ha:F9 X K fs e wl) (he:ci [e] X.env=(false,lm e X.env)::ci [] X.env:=by rfl) (dR:(mo pos (ci [] X.env)).any (·.1)=false:=by rfl) :
  DVF X K fs (.Call (.Name "dict" p) [e] [] pos) (.bind wl HQ):=⟨PE.imp (lV (HY K hK hc ∅) hg hm boot_dict (bw ha.p cY he) (by decide) (by decide) he dR) λσ H Q ⟨sr,q⟩=>⟨sr,wl.mono (λl q1 u H1 g1 s1 v0 v1=>by
  obtain⟨kvs,rfl,nd,hl,q1⟩:=q1;obtain⟨a,vs,rfl,e3,e4⟩:=v1 H1 .refl s1;obtain⟨zs,rfl,z2,z3,z4⟩:=y6 e4;have hzl:zs.length=kvs.length:=by have:=congrArg BV z3;simpa using this
  refine⟨a,zs,rfl,e3,z2,by rw [z3];exact nd,by omega,λp H2 s2 h2 n2=>?_⟩;exact q1 _ _ H2 (g1.trans (c7.same s2)) (s1.same s2) (g1.there _ n2) h2 (.inr ⟨_,_,rfl,rfl,by rw [AL,<- z3];rfl,by rw [AL];exact aN.tk s2.eO z4⟩)) q⟩⟩
def Li {kvs:List (List Key×PV)}{Q:PV->Prop} (nd:(kvs.map (·.1)).Nodup) (hl:kvs.length<=1000) (q:Q (Px kvs)):(HQ (kvs.map Ja)).run Q:=⟨kvs,rfl,nd,hl,q⟩
def my (kvs:List (List Key×PV)) (k:List Key):Option PV:=(kvs.find? λkv=>decide (kv.1=k)).map (·.2)
theorem oP.get {H:Hp}{k:List Key}:∀{vs:List (List Key×V)}{kvs:List (List Key×PV)},oP K H vs kvs->(my kvs k=bv->iW vs k=bv)/\∀{v},my kvs k=ap v->∃u,iW vs k=ap u/\VR K [] H u v
 | [],[],_=>⟨λ_=>rfl,λg=>by simp [my] at g⟩
 | [],_::_,h=>by simp [oP] at h
 | _::_,[],h=>by simp [oP] at h
 | p::vs,q::kvs,h=>by
  obtain⟨h1,h2⟩:=h;rw [Au,Au] at h1 h2;injection h1 with e b;cases h2 with
  | cons r t=>
  have ih:=oP.get (k:=k) (vs:=vs) (kvs:=kvs) ⟨b,t⟩;by_cases c:p.1=k
  ·rw [kT c];have c':=e▸c;have:my (q::kvs) k=ap q.2:=by simp [my,BE,c']
   rw [this];refine⟨λz=>(by cases z),λ{v} z=>?_⟩;cases z;exact⟨_,rfl,r⟩
  ·rw [kU c];have c':=e▸c;have:my (q::kvs) k=my kvs k:=by simp [my,BE,c']
   rw [this];exact ih
def di.get' {H:Hp}{k:Key}:∀{vs:List (Key×V)}{kvs:List (Key×PV)},di K H vs kvs->(qq kvs k=bv->iW vs k=bv)/\∀{v},qq kvs k=ap v->∃u,iW vs k=ap u/\VR K [] H u v:=λ{vs kvs} h=>⟨λz=>by
 have:=h.has k;cases e:iW vs k with
 | none=>rfl
 | some u=>
  rw [e] at this;have h2:=this.symm;unfold qq at z;rw [Option.map_eq_none_iff,List.find?_eq_none] at z;obtain⟨x,hx,ď⟩:=BP.mp h2;exact absurd ď (z x hx),λz=>h.get k z⟩
def Tp (k:Key) (l:List PV):kP k≠.tup l:=by cases k <;> exact PV.noConfusion
def VT {a b:Key} (h:kP a=kP b):a=b:=by
 cases a <;> cases b <;> simp [kP] at h <;> rw [h]
theorem xl:∀{a b:List Key},a.map kP=b.map kP->a=b
 | [],[],_=>rfl
 | [],_::_,h=>by simp at h
 | _::_,[],h=>by simp at h
 | x::a,y::b,h=>by
  rw [Au,Au] at h;injection h with h1 h2;rw [VT h1,xl h2]
inductive F4:PV->PV->Option PV->Prop
 | k (kvs:List (Key×PV)) (k:Key):kvs≠[]->F4 (dvK kvs) (kP k) (qq kvs k)
 | t (kvs:List (List Key×PV)) (k:List Key):kvs≠[]->F4 (Px kvs) (.tup (k.map kP)) (my kvs k)
def Uk {H:Hp}{u:V}{kvs:List (Key×PV)} (h0:kvs≠[]) (h:VR K [] H u (dvK kvs)):∃a o vs,u=.ref a/\H a=ap (.cU o (.dK vs))/\di K H vs kvs:=by
 have Ü:∀{vs:List (Key×V)}{kvs:List (Key×PV)},(kvs.map λkv=>kP kv.1)=(vs.map λkv=>kP kv.1)->vs.map (·.1)=kvs.map (·.1):=λ{vs kvs} e=>by
  have e:(kvs.map (·.1)).map kP=(vs.map (·.1)).map kP:=by rw [AL,AL];exact e
  exact (xl e).symm
 cases h with
 | @dk a o vs _ _ e k r=>exact⟨a,o,vs,rfl,e,Ü k,r⟩
 | @dt a o vs _ _ e k r=>
  cases kvs with
  | nil=>exact absurd rfl h0
  | cons x l=>cases vs with
   | nil=>simp at k
   | cons y m=>simp at k;exact absurd k.1 (Tp _ _)
def L6 {H:Hp}{u:V}{kvs:List (List Key×PV)} (h0:kvs≠[]) (h:VR K [] H u (Px kvs)):∃a o vs,u=.ref a/\H a=ap (.cU o (.dT vs))/\oP K H vs kvs:=by
 have Ü:∀{vs:List (List Key×V)}{kvs:List (List Key×PV)},(kvs.map λkv=>PV.tup (kv.1.map kP))=(vs.map λkv=>PV.tup (kv.1.map kP))->vs.map (·.1)=kvs.map (·.1):=λ{vs kvs} e=>by
  induction kvs generalizing vs with
  | nil=>cases vs with
   | nil=>rfl
   | cons y m=>simp at e
  | cons x l ih=>cases vs with
   | nil=>simp at e
   | cons y m=>
    injection e with e1 e2;injection e1 with e1;rw [Au,Au,xl e1,ih e2]
 cases h with
 | @dt a o vs _ _ e k r=>exact⟨a,o,vs,rfl,e,Ü k,r⟩
 | @dk a o vs _ _ e k r=>
  cases kvs with
  | nil=>exact absurd rfl h0
  | cons x l=>cases vs with
   | nil=>simp at k
   | cons y m=>simp at k;exact absurd k.1.symm (Tp _ _)
def F4.ok {H:Hp}{u z:V}{d y:PV}{r:Option PV} (h:F4 d y r) (hu:VR K [] H u d) (hz:VR K [] H z y):∃a o,u=.ref a/\IsD H a/\uT H a z o/\(r=bv->o=bv)/\∀v,r=ap v->∃w,o=ap w/\VR K [] H w v:=by
 cases h with
 | k kvs k h0=>
  obtain⟨a,o,vs,rfl,e,d⟩:=Uk h0 hu;have ez:z=kV k:=by
   cases k with
   | inl i=>cases hz;rfl
   | inr i=>cases hz;rfl
  subst ez;exact⟨a,iW vs k,rfl,.inl ⟨vs,.inr ⟨o,e⟩⟩,.inl ⟨vs,k,.inr ⟨o,e⟩,rfl,rfl⟩,(di.get' d).1,λv=>(di.get' d).2⟩
 | t kvs k h0=>
  obtain⟨a,o,vs,rfl,e,d⟩:=L6 h0 hu;cases hz with
  | @tup b us _ e1 r1=>
  have:=Jo r1;subst this;exact⟨a,iW vs k,rfl,.inr ⟨vs,.inr ⟨o,e⟩⟩,.inr ⟨vs,k,b,.inr ⟨o,e⟩,rfl,e1,rfl⟩,(oP.get d).1,λv=>(oP.get d).2⟩
def dgW (d y:PV):W PV:=⟨λQ=>∃v,F4 d y (ap v)/\Q v,λf ⟨v,a,q⟩=>⟨v,a,f _ q⟩⟩
def dgB (a b:W PV):W PV:=.bind a λx=>.bind b λy=>dgW x y
def OO (hu:X.A.units+200 < sn) (ha:EF X K fs a wa) (hb:EF X K fs b wb) (hs:W8 b):EF X K fs (.Subscript a b pos) (dgB wa wb):=⟨PE.imp (QK ∅ ha.p hb.p hs) λσ H Q ⟨sr,q⟩=>⟨sr,wa.mono (λx q1 u1 H1 g1 s1 v1=>⟨s1,wb.mono (λy q2 u2 H2 g2 s2 v2=>by
 obtain⟨v,g,q2⟩:=q2;obtain⟨a,o,rfl,_,g2',_,h⟩:=g.ok (g2.vr s1 v1) v2;obtain⟨w,rfl,vw⟩:=h v rfl;exact⟨a,w,rfl,g2',q2 _ H2 (g1.trans g2) s2 vw⟩) q1⟩) q⟩⟩
def JO {kvs:List (List Key×PV)}{k:List Key}{v:PV}{Q:PV->Prop} (h:my kvs k=ap v) (q:Q v):(dgW (Px kvs) (.tup (k.map kP))).run Q:=⟨v,by rw [<- h];exact .t kvs k (λz=>by subst z;simp [my] at h),q⟩
def NG (d:PV):W (List PV):=⟨λQ=>∃kvs:List (List Key×PV),d=Px kvs/\kvs≠[]/\kvs.length<=1000/\Q (kvs.map λkv=>.tup (kv.1.map kP)),λf q=>q.imp λkvs h=>⟨h.1,h.2.1,h.2.2.1,f _ h.2.2.2⟩⟩
def Ru {tg:ga} (h:EF X K fs e w):rh X K fs tg e (.bind w NG):=⟨PI.imp (MV h.p) λσ H R ⟨sr,q⟩=>⟨sr,w.mono (λx q1 u1 H1 g1 s1 v1=>by
 obtain⟨kvs,rfl,h0,hl,q1⟩:=q1;obtain⟨a,o,vs,rfl,e,d1,d2⟩:=L6 h0 v1;have len:vs.length=kvs.length:=by have:=congrArg BV d1;simpa using this
 refine⟨a,o,vs,rfl,e,q1 _ H1 g1 s1 ⟨aU (by simpa using hl),λH' t=>?_⟩⟩;have e':=t.z _ _ _ e;refine⟨λi p hp=>?_,vs,e',by simp [len]⟩;rw [Ak] at hp;cases z:kvs[i]? with
 | none=>rw [z] at hp;cases hp
 | some kv=>
  rw [z] at hp;have hp:=Option.some.inj hp;subst hp;have hi:=(Al.mp z).1;refine⟨⟨vs,e',by omega⟩,λy H2 yy=>?_⟩;obtain⟨rfl,yy⟩:=yy;obtain⟨b,k,v,rfl,k2,k3⟩:=yy vs e';have ek:k=kv.1:=by
   have h1:(vs.map (·.1))[i]?=ap k:=by rw [Ak,k2];rfl
   rw [d1,Ak,z] at h1;exact (Option.some.inj h1).symm
  subst ek;exact⟨kO.refl _,.tup k3 (NL _ _)⟩) q⟩⟩
def Kv {kvs:List (List Key×PV)}{Q:List PV->Prop} (h0:kvs≠[]) (hl:kvs.length<=1000) (q:Q (kvs.map λkv=>.tup (kv.1.map kP))):(NG (Px kvs)).run Q:=⟨kvs,rfl,h0,hl,q⟩
end
end
end FL
namespace L2
open PySem PySem.Spec PyProof.Rows
section
variable {X:Cx}{Z:List (dL×Obj)}{σ:St}{H:Hp}{s:ce}
theorem Inv.zG (I:Inv X Z σ H s):∀bs:List dL,(∀b∈bs,∃ws,H b=ap (.lst ws))->∃H',Inv X Z σ H' s/\(∀c,c∉bs->H' c=H c)/\∀b∈bs,∃ob ws,H b=ap (.lst ws)/\H' b=ap (.cU ob (.lst ws))
 | [],_=>⟨H,I,λ_ _=>rfl,λb hb=>nomatch hb⟩
 | b::bs,h=>by
  obtain⟨H',I',h1,h2⟩:=Inv.zG I bs λc hc=>h c (.tail _ hc);by_cases hb:b∈bs
  ·refine⟨H',I',λc hc=>h1 c λz=>hc (.tail _ z),λc hc=>?_⟩;rcases Ax.mp hc with rfl | hc
   ·exact h2 _ hb
   ·exact h2 c hc
  ·obtain⟨ws,e⟩:=h b (.head _);obtain⟨ob,I2⟩:=I'.qW ((h1 b hb).trans e);refine⟨_,I2,λc hc=>?_,λc hc=>?_⟩
   ·rw [aF (λz=>by subst z;exact hc (.head _))];exact h1 c λz=>hc (.tail _ z)
   ·by_cases cb:c=b
    ·subst cb;exact⟨ob,ws,e,aR⟩
    ·rcases Ax.mp hc with z | hc
     ·exact absurd z cb
     ·obtain⟨Vp,p0,e1,e2⟩:=h2 c hc;exact⟨Vp,p0,e1,by rw [aF cb];exact e2⟩
open Classical in
theorem Inv.L8 {f:dL->List V} (J:Inv X Z σ H s):∀bs:List dL,(∀b∈bs,∃ob,H b=ap (.cU ob (.lst (f b))))->(∀b∈bs,∀o u,X.H₀ b≠ap (.cU o u))->Inv X Z σ (λc=>if c∈bs then ap (.lst (f c)) else H c) s
 | [],_,_=>by
  have:(λc=>if c∈([]:List dL) then ap (HO.lst (f c)) else H c)=H:=funext λc=>if_neg (by simp);rw [this];exact J
 | b::bs,h,h0=>by
  have J2:=Inv.L8 J bs (λc hc=>h c (.tail _ hc)) λc hc=>h0 c (.tail _ hc);by_cases hb:b∈bs
  ·have:(λc=>if c∈b::bs then ap (HO.lst (f c)) else H c)=λc=>if c∈bs then ap (.lst (f c)) else H c:=funext λc=>by
    by_cases z:c=b
    ·subst z;rw [if_pos (.head _),if_pos hb]
    ·by_cases y:c∈bs
     ·rw [if_pos (.tail _ y),if_pos y]
     ·rw [if_neg (λx=>(Ax.mp x).elim z y),if_neg y]
   rw [this];exact J2
  ·obtain⟨ob,e⟩:=h b (.head _);have e2:(λc=>if c∈bs then ap (HO.lst (f c)) else H c) b=ap (.cU ob (.lst (f b))):=by show (if b∈bs then _ else _)=_;rw [if_neg hb];exact e
   have hk:=vn J2.bN e2;have J3:=J2.X5 e2 (h0 b (.head _)) (hk b _ aR) hk;have:(λc=>if c∈b::bs then ap (HO.lst (f c)) else H c)=upd (λc=>if c∈bs then ap (HO.lst (f c)) else H c) b (.lst (f b)):=funext λc=>by
    by_cases z:c=b
    ·subst z;rw [if_pos (.head _),aR]
    ·rw [aF z];by_cases y:c∈bs
     ·rw [if_pos (.tail _ y),if_pos y]
     ·rw [if_neg (λx=>(Ax.mp x).elim z y),if_neg y]
   rw [this];exact J3
end
end L2
namespace FL
section
open PySem PySem.Spec PyProof.Rows L2 PL
variable {K:Ab}
section
variable {σ:L2.St}{fs:bh}{H:Hp}{i:Nat}{bs:List dL}{ls:List (List PV)}
def jr (sr:a6 K H σ fs) (hs:fs[i]?=ap (ap (.qM bs ls))):∃a,σ[i]?=ap (ap (.ref a))/\iV K H a (.qM bs ls):=by
 obtain⟨u,e1,r⟩:=sr.at' i _ hs;rcases r with⟨v,e,_⟩ | ⟨a,e,r⟩
 ·cases e
 ·subst e;exact⟨a,e1,r⟩
theorem OY {H':Hp}:∀{bs:List dL}{ls:List (List PV)},bs.length=ls.length->(∀(j:Nat) (b:dL) (l:List PV),bs[j]?=ap b->ls[j]?=ap l->VR K [] H' (.ref b) (.cl l))->aN K [] H' (bs.map V.ref) (ls.map PV.cl)
 | [],[],_,_=>.nil
 | [],_::_,h,_=>by simp at h
 | _::_,[],h,_=>by simp at h
 | b::bs,l::ls,h,hv=>.cons (hv 0 b l rfl rfl) (OY (by simpa using h) λj b l h1 h2=>hv (j+1) b l (by simpa using h1) (by simpa using h2))
def aaB {X:Cx}{Z:List (dL×Obj)}{s:ce} (I:Inv X Z σ H s) (sr:a6 K H σ fs) (hs:fs[i]?=ap (ap (.qM bs ls))):∃H',Inv X Z σ H' s/\a6 K H' σ (fs.set i (ap (.ol bv (ls.map PV.cl))))/\cP σ fs H σ (fs.set i (ap (.ol bv (ls.map PV.cl)))) H'/\(∀c,H c=bv->H' c=bv)/\
  ∀σ' s' H1,Inv X Z σ' H1 s'->c7 σ (fs.set i (ap (.ol bv (ls.map PV.cl)))) H' H1->a6 K H1 σ (fs.set i (ap (.ol bv (ls.map PV.cl))))->∃H2,Inv X Z σ' H2 s'/\c7 σ fs H H2/\a6 K H2 σ fs/\(∀p vs,H1 p=ap (.tup vs)->H2 p=ap (.tup vs))/\∀p vs,H p=bv->H1 p=ap (.lst vs)->H2 p=ap (.lst vs):=by
 obtain⟨a,e1,q1,q2,q3,q4,q5⟩:=jr sr hs;have inn:∀b∈bs,∃ws,H b=ap (.lst ws):=λb hb=>by
  obtain⟨j,hj⟩:=CH hb;have h1:=(Al.mp hj).1;obtain⟨ws,e,_⟩:=q5 j b _ hj (Ad (by rw [<- q4];exact h1));exact⟨ws,e⟩
 obtain⟨H',I',k1,k2⟩:=I.zG bs inn;have tk:bF K H H':=⟨λb vs z=>by
  by_cases c:b∈bs
  ·obtain⟨ws,e⟩:=inn b c;rw [e] at z;cases z
  ·rw [k1 b c];exact z,λb o u z=>by
  by_cases c:b∈bs
  ·obtain⟨ws,e⟩:=inn b c;rw [e] at z;cases z
  ·rw [k1 b c];exact z⟩
 have aX:∀c,H c=bv->H' c=bv:=λc z=>by
  by_cases y:c∈bs
  ·obtain⟨ws,e⟩:=inn c y;rw [e] at z;cases z
  ·rw [k1 c y];exact z
 have it:∀{t:SL},(ap t:Option SL)=ap (.ol bv (ls.map PV.cl))->t=.ol bv (ls.map PV.cl):=λz=>by injection z
 have s2:a6 K H' σ (fs.set i (ap (.ol bv (ls.map PV.cl)))):=by
  refine⟨by simp [sr.len],λj t z=>?_,λj k t u b1 b2 b z1 z2 o1 o2=>?_⟩
  ·rcases bq z with⟨rfl,rfl⟩ | ⟨n,z⟩
   ·refine⟨_,e1,.inr ⟨a,rfl,by simp,bs.map V.ref,by rw [k1 a q2];exact q1,OY q4 λj b l h1 h2=>?_⟩⟩;obtain⟨ob,ws,f1,f2⟩:=k2 b (Bo h1);obtain⟨p0,f3,f4⟩:=q5 j b l h1 h2;rw [f1] at f3;cases f3;exact .cl (.inl ⟨ob,f2⟩) (aN.tk tk f4)
   ·obtain⟨u,h1,h2⟩:=sr.at' j t z;exact⟨u,h1,h2.mono tk (λx b o eb ow hb zz=>by
     subst eb;rw [k1 b (λy=>n (sr.nd j i t _ x a b z hs ow rfl h1 e1 hb (.inr y)))];exact zz)⟩
  ·intro y1 y2 w1 w2;have f:∀{j:Nat}{t:SL}{c:dL},(fs.set i (ap (.ol bv (ls.map PV.cl))))[j]?=ap (ap t)->t.own=true->σ[j]?=ap (ap (.ref c))->t.has c b->∃t',fs[j]?=ap (ap t')/\t'.own=true/\t'.has c b:=λ{j t c} z ow y hb=>by
    rcases bq z with⟨rfl,rfl⟩ | ⟨n,z⟩
    ·refine⟨_,hs,rfl,?_⟩;rcases hb with hb | hb
     ·exact .inl hb
     ·cases hb
    ·exact⟨t,z,ow,hb⟩
   obtain⟨t',a1,a2,a3⟩:=f z1 o1 y1 w1;obtain⟨u',c1,c2,c3⟩:=f z2 o2 y2 w2;exact sr.nd j k t' u' b1 b2 b a1 c1 a2 c2 y1 y2 a3 c3
 have pf:∀φ b,eZ σ (fs.set i (ap (.ol bv (ls.map PV.cl)))) φ b->eZ σ fs φ b:=λφ b ⟨j,z1,z3⟩=>by
  rcases bq z1 with⟨_,z⟩ | ⟨n,z1⟩
  ·cases z
  ·exact⟨j,z1,z3⟩
 have pb:∀φ b,eZ σ fs φ b->eZ σ (fs.set i (ap (.ol bv (ls.map PV.cl)))) φ b:=λφ b ⟨j,z1,z3⟩=>by
  have ji:j≠i:=λy=>by subst y;rw [hs] at z1;cases z1
  exact⟨j,by rw [aK ji];exact z1,z3⟩
 have npb:∀b∈bs,∀φ,¬eZ σ fs φ b:=λb hb φ ⟨j,z1,z3⟩=>by
  have:=sr.nd j i _ _ b a b z1 hs rfl rfl z3 e1 (.inl rfl) (.inr hb);subst this;rw [hs] at z1;cases z1
 have gf:cP σ fs H σ (fs.set i (ap (.ol bv (ls.map PV.cl)))) H':=by
  refine⟨λb o z n=>⟨?_,λy=>?_⟩,λb z=>?_,λb φ z=>.inl (pb φ b z)⟩
  ·rw [k1 b (λy=>n ⟨i,_,a,hs,rfl,e1,.inr y⟩)];exact z
  ·obtain⟨j,t,x,z1,z2,z3,z4⟩:=y;rcases bq z1 with⟨rfl,rfl⟩ | ⟨m,z1⟩
   ·rcases z4 with z4 | z4
    ·exact n ⟨j,_,x,hs,rfl,z3,.inl z4⟩
    ·cases z4
   ·exact n ⟨j,t,x,z1,z2,z3,z4⟩
  ·by_cases c:b∈bs
   ·obtain⟨ob,ws,f1,f2⟩:=k2 b c;rw [f2] at z;cases z
   ·rw [k1 b c] at z;exact z
 refine⟨H',I',s2,gf,aX,λσ' s' H1 J g s1=>?_⟩
 classical
 have fz:∀b∈bs,∃ob,H1 b=ap (.cU ob (.lst ((match H b with | some (.lst ws)=>ws | _=>[]):List V))):=λb hb=>by
  obtain⟨ob,ws,f1,f2⟩:=k2 b hb;rw [f1];exact⟨ob,g.keep b _ f2 λφ p=>npb b hb φ (pf φ b p)⟩
 have h0:∀b∈bs,∀o u,X.H₀ b≠ap (.cU o u):=λb hb o u z=>by
  have:=I.base.qt b o u z;obtain⟨ws,e⟩:=inn b hb;rw [e] at this;cases this
 have J2:=Inv.L8 (f:=λb=>match H b with | some (.lst ws)=>ws | _=>[]) J bs fz h0;have uD:∀b∈bs,(λc=>if c∈bs then ap (HO.lst (match H c with | some (.lst ws)=>ws | _=>[])) else H1 c) b=H b:=λb hb=>by
  obtain⟨ws,e⟩:=inn b hb;show (if b∈bs then _ else _)=_;rw [if_pos hb,e]
 have zy:∀b,b∉bs->(λc=>if c∈bs then ap (HO.lst (match H c with | some (.lst ws)=>ws | _=>[])) else H1 c) b=H1 b:=λb hb=>by
  show (if b∈bs then _ else _)=_;rw [if_neg hb]
 generalize (λc=>if c∈bs then ap (HO.lst (match H c with | some (.lst ws)=>ws | _=>[])) else H1 c)=H2 at J2 uD zy;have ge:c7 σ fs H H2:=by
  refine⟨λb o z n=>?_,λb z=>?_⟩
  ·by_cases c:b∈bs
   ·rw [uD b c];exact z
   ·rw [zy b c];exact g.keep b o (by rw [k1 b c];exact z) λφ p=>n φ (pf φ b p)
  ·by_cases c:b∈bs
   ·rw [uD b c] at z;exact z
   ·rw [zy b c] at z;have:=g.there b z;rw [k1 b c] at this;exact this
 refine⟨H2,J2,ge,⟨sr.len,λj t z=>?_,sr.nd⟩,λp vs z=>?_,λp vs n z=>?_⟩
 ·obtain⟨u,m1,m2⟩:=sr.at' j t z;refine⟨u,m1,?_⟩;by_cases c:∃φ,t=.kK φ
  ·obtain⟨φ,rfl⟩:=c;have ji:j≠i:=λy=>by subst y;rw [hs] at z;cases z
   rcases m2 with⟨v,y,_⟩ | ⟨b,rfl,_⟩
   ·cases y
   ·obtain⟨vs,y1,y2⟩:=s1.ownAt (t:=.kK φ) (i:=j) (by rw [aK ji];exact z) rfl m1;refine .inr ⟨b,rfl,vs,?_,y2⟩;rw [zy b (λy=>npb b y φ ⟨j,z,m1⟩)];exact y1
  ·refine m2.mono (ge.eM sr) (λx b o eb ow hb zz=>ge.keep b o zz λφ ⟨j',p1,p3⟩=>?_);subst eb;have:=sr.nd j j' t _ x b b z p1 ow rfl m1 p3 hb (.inl rfl);subst this;rw [z] at p1;cases p1;exact c ⟨φ,rfl⟩
 ·rw [zy p (λy=>by obtain⟨ob,f⟩:=fz p y;rw [f] at z;cases z)];exact z
 ·rw [zy p (λy=>by obtain⟨ws,e⟩:=inn p y;rw [e] at n;cases n)];exact z
end
section
variable {X:Cx}{a e e1 e2:ga}{rest:List ul}{pos p p' Â bQ eP rK:Pos}{fs:bh}{T:Type}{out:T->End}{x:Bool}{w we w1 w2:W PV}{wl:W (List PV)}{bs:List dL}{ls:List (List PV)}{y:Str}
def JL (i:Nat) (hs:fs[i]?=ap (ap (.qM bs ls))) (h:EF X K (fs.set i (ap (.ol bv (ls.map PV.cl)))) e w):EF X K fs e (.bind w rH):=⟨λZ s σ H Q I ⟨sr,q⟩=>by
 obtain⟨H',I2,s2,_,_,Í⟩:=aaB I sr hs;refine bH (h.p Z s σ _ (λu H1=>∃v,c7 σ (fs.set i (ap (.ol bv (ls.map PV.cl)))) H' H1/\a6 K H1 σ (fs.set i (ap (.ol bv (ls.map PV.cl))))/\VR K [] H1 u v/\v.dat=true/\∀u H',c7 σ fs H H'->a6 K H' σ fs->VR K [] H' u v->Q u H') I2 ⟨s2,w.mono (λv q1 u H1 g1 s1 v1=>⟨v,g1,s1,v1,q1.1,q1.2⟩) q⟩) λu s1 ⟨x,H1,I1,r1,v,g1,Qn,v1,d,q1⟩=>?_;obtain⟨H2,I3,g3,s3,t3,_⟩:=Í σ s1 H1 I1 g1 Qn;exact⟨x,_,I3,r1,q1 x _ g3 s3 (VR.kq t3 v1 d)⟩⟩
def SF.Z6 (i:Nat) {Pp:List ul}{wt:W T} (hs:fs[i]?=ap (ap (.qM bs ls))) (hr:SF X K x (fs.set i (ap (.ol bv (ls.map PV.cl)))) Pp wt out):SF X K x fs Pp wt out:=⟨λZ s σ H D I ⟨sr,q⟩=>by
 obtain⟨H',I2,s2,gf,_,_⟩:=aaB I sr hs;exact hr.p Z s σ _ D I2 ⟨s2,wt.mono (λt q3=>q3.go gf sr s2) q⟩⟩
def SF.Yu {i:Nat}{k:W T}{p2:Pos} (hN:X.N.Nodup) (hi:X.N[i]?=ap y) (hx:Loc X.env.scope y) (hr:SF X K x (fs.set i (ap (.qM [] []))) rest k out) (hs:o0 (.List [] p2) (ap (.Name y p')) pos.line X.env=pure false:=by rfl)
  (hf:X.fn y=true\/X.env.scope.names.lookup y=ap .local:=by first | exact .inl rfl | exact .inr rfl | assumption):SF X K x fs (.Assign [.Name y p'] (.List [] p2) pos::rest) k out:=SF.step (rS hN hi hx (IX cY) hs hf) λD σ H ⟨sr,q⟩=>⟨Bj _,λa H1 s1 e1 n1=>by
 have no:=sr.noOwn n1;have oa:iV K H1 a (.qM [] []):=⟨e1,by simp,by simp,rfl,λj b l h=>by simp at h⟩;have s2:=(sr.same s1).rR (t:=.qM [] []) oa no i;exact⟨_,k,hr,s2,k.mono (λt q2=>q2.go (cP.rR (sr.same s1) (cP.same s1 sr) no n1 i) sr s2) q⟩⟩
def Rt (ls:List (List PV)):PV->W (Nat×List PV)
 | .int k=>.Ng ((nX ls.length k).bind λj=>(ls[j]?).map λl=>(j,l))
 | _=>.fail
def SF.Pb (i:Nat) {k:List dL->List (List PV)->W T} (hs:fs[i]?=ap (ap (.qM bs ls))) (hK:X.K=K) (hN:X.N[i]?=ap y) (hv:ym X.env.scope y) (he:LF X K fs e wl) (hr:∀ý VA,SF X K x (fs.set i (ap (.qM ý VA))) rest (k ý VA) out)
  (hd:(y==("__debug__":Str))=false:=by decide) (i6:(y==("__classdict__":Str))=false:=by decide) (fW:sK (.Name y p) "append" X.env (lm (.Name y p) X.env)=lm (.Name y p) X.env:=by rfl)
  (sR:((mo bQ (ci [e] X.env)).all (λx=>!x.1)&&(backToKw bQ (Fk [] X.env)).all (λx=>x.1.isSome)
   && decide ([e].length+([]:List wT).length+(if ([]:List wT).isEmpty then 0 else 1) < 30))=true:=by rfl)
  (fV:(Â.endLine==bQ.line)=true:=by rfl) (xt:ci [e] X.env=(false,lm e X.env)::ci [] X.env:=by rfl) (ig:(mo bQ (ci [] X.env)).any (·.1)=false:=by rfl)
  (qk:o0 (.Call (.Attribute (.Name y p) "append" Â) [e] [] bQ) bv pos.line X.env=pure false:=by rfl) :
  SF X K x fs (.Expr (.Call (.Attribute (.Name y p) "append" Â) [e] [] bQ) pos::rest) (.bind wl λl=>.fF (ls.length < sizeLine) (.bind (.any λ_=>True) λý=>.bind (.ret (ls++[l])) λVA=>k ý VA)) out:=
 SF.step (nM (wR K hK BW Ek Ej sg (dr hN hv hd i6) (bw he.p cY xt) fW sR fV xt ig) qk) λD σ H ⟨sr,q⟩=>by
  obtain⟨a,e1,q1,q2,q3,q4,q5⟩:=jr sr hs;refine⟨_,e1,.inl ⟨rfl,_,dq.of q1⟩,sr,wl.mono (λl ql b vs H1 g1 s1 nb eb vl=>?_) q⟩;obtain⟨a',nv,r1,r2,r3,r4,r5⟩:=jr s1 hs;rw [e1] at nv;cases nv;refine⟨a,_,_,rfl,rfl,r1,by rw [Ah,r4];exact ql.1,λH2 sx h2=>?_⟩;have hq:=ql.2 (bs++[b]) trivial;have Ha:H a≠bv:=λz=>by rw [q1] at z;cases z
  have ab:a≠b:=λz=>Ha (z▸nb);have bin:∀c∈bs,∃ws,H c=ap (.lst ws):=λc hc=>by
   obtain⟨j,hj⟩:=CH hc;obtain⟨ws,e,_⟩:=q5 j c _ hj (Ad (by rw [<- q4];exact (Al.mp hj).1));exact⟨ws,e⟩
  have bn:b∉bs:=λz=>by obtain⟨ws,e⟩:=bin b z;rw [nb] at e;cases e
  have nbo:=sr.noOwn nb;have tk:bF K H1 H2:=⟨λc us z=>sx c _ (λw=>by subst w;rw [r1] at z;cases z) z,λc o u z=>sx c _ (λw=>by subst w;rw [r1] at z;cases z) z⟩;have oa:iV K H2 a (.qM (bs++[b]) (ls++[l])):=by
   refine⟨by rw [h2,A6];rfl,λz=>?_,?_,by simp [r4],λj c l' h1 h3=>?_⟩
   ·rcases A5.mp z with z | z
    ·exact r2 z
    ·exact ab (by simpa using z)
   ·exact CB.mpr ⟨r3,by simp,λu hu v hv w=>by simp at hv;subst hv;subst w;exact bn hu⟩
   ·rcases i8 h1 with h1 | ⟨rfl,rfl⟩
    ·rcases i8 h3 with h3 | ⟨rfl,rfl⟩
     ·obtain⟨ws,f1,f2⟩:=r5 j c l' h1 h3;exact⟨ws,sx c _ (λz=>by subst z;exact r2 (Bo h1)) f1,aN.tk tk f2⟩
     ·have:=(Al.mp h1).1;omega
    ·rcases i8 h3 with h3 | ⟨_,rfl⟩
     ·have:=(Al.mp h3).1;omega
     ·exact⟨vs,sx c _ (BA ab) eb,aN.tk tk vl⟩
  have Wc:∀c,(SL.qM (bs++[b]) (ls++[l])).has a c->(SL.qM bs ls).has a c\/c=b:=λc h=>by
   rcases h with h | h
   ·exact .inl (.inl h)
   ·rcases A5.mp (show c∈bs++[b] from h) with h | h
    ·exact .inl (.inr h)
    ·exact .inr (by simpa using h)
  have s2:a6 K H2 σ (fs.set i (ap (.qM (bs++[b]) (ls++[l])))):=by
   refine⟨by simp [s1.len],λj t z=>?_,λj k t u b1 b2 c z1 z2 o1 o2 y1 y2 w1 w2=>?_⟩
   ·rcases bq z with⟨rfl,rfl⟩ | ⟨n,z⟩
    ·exact⟨_,e1,.inr ⟨a,rfl,oa⟩⟩
    ·obtain⟨u,m1,m2⟩:=s1.at' j t z;exact⟨u,m1,m2.mono tk (λx c o ec ow hc zz=>sx c o (λw=>by subst ec;subst w;exact n (s1.nd j i t _ x c c z hs ow rfl m1 e1 hc (.inl rfl))) zz)⟩
   ·have Nj:∀{j:Nat}{t:SL}{c':dL},fs[j]?=ap (ap t)->t.own=true->σ[j]?=ap (ap (.ref c'))->¬t.has c' b:=λ{j t c'} m1 m2 m3 m4=>nbo ⟨j,t,c',m1,m2,m3,m4⟩;rcases bq z1 with⟨rfl,rfl⟩ | ⟨n1,v1⟩ <;> rcases bq z2 with⟨m,rfl⟩ | ⟨n2,v2⟩
    ·exact m.symm
    ·rw [e1] at y1;cases y1;rcases Wc c w1 with w1 | w1
     ·exact s1.nd _ k _ u _ b2 c hs v2 rfl o2 e1 y2 w1 w2
     ·exact absurd (w1▸w2) (Nj v2 o2 y2)
    ·subst m;rw [e1] at y2;cases y2;rcases Wc c w2 with w2 | w2
     ·exact s1.nd j _ t _ b1 _ c v1 hs o1 rfl y1 e1 w1 w2
     ·exact absurd (w2▸w1) (Nj v1 o1 y1)
    ·exact s1.nd j k t u b1 b2 c v1 v2 o1 o2 y1 y2 w1 w2
  have g2:cP σ fs H σ (fs.set i (ap (.qM (bs++[b]) (ls++[l])))) H2:=by
   refine⟨λc o z n=>⟨sx c o (λw=>by subst w;exact n ⟨i,_,c,hs,rfl,e1,.inl rfl⟩) (g1.pR z n),λyy=>?_⟩,λc z=>?_,λc φ z=>?_⟩
   ·obtain⟨j,t,x,z1,z2,z3,z4⟩:=yy;rcases bq z1 with⟨rfl,rfl⟩ | ⟨m,z1⟩
    ·rw [e1] at z3;cases z3;rcases Wc c z4 with z4 | rfl
     ·exact n ⟨j,_,_,hs,rfl,e1,z4⟩
     ·rw [nb] at z;cases z
    ·exact n ⟨j,t,x,z1,z2,z3,z4⟩
   ·refine g1.there c ?_;cases zz:H1 c with
    | none=>rfl
    | some o=>
     by_cases ca:c=a
     ·subst ca;rw [h2] at z;cases z
     ·rw [sx c o ca zz] at z;cases z
   ·obtain⟨j,p1,p2⟩:=z;have ji:j≠i:=λw=>by subst w;rw [hs] at p1;cases p1
    exact .inl ⟨j,by rw [aK ji];exact p1,p2⟩
  exact⟨_,k _ _,hr _ _,s2,(k _ _).mono (λt q2=>q2.go g2 sr s2) hq⟩
def SF.Yv (i:Nat) {k:List (List PV)->W T} (hs:fs[i]?=ap (ap (.qM bs ls))) (hK:X.K=K) (hN:X.N[i]?=ap y) (hv:ym X.env.scope y) (he:EF X K fs e we) (h1:EF X K fs e1 w1) (h2:EF X K fs e2 w2) (uC:rf e1) (hr:∀VA,SF X K x (fs.set i (ap (.qM bs VA))) rest (k VA) out)
  (ha:∀v,xL (.Subscript (.Subscript (.Name y p) e1 rK) e2 eP) X.env v=(do
   let ov <- sB [v] (lm (.Subscript (.Name y p) e1 rK) X.env)
   let iv <- sB [v,ov] (lm e2 X.env)
   Gf eP
   sB [v,ov,iv] (Fa ov iv v)
   release [v,ov,iv] []):=by intro _;rfl)
  (hd:(y==("__debug__":Str))=false:=by decide) (i6:(y==("__classdict__":Str))=false:=by decide) (ZI:wP [.Subscript (.Subscript (.Name y p) e1 rK) e2 eP] e pos.line X.env=pure false:=by rfl) (hw:wS [.Subscript (.Subscript (.Name y p) e1 rK) e2 eP] e X.env=pure bv:=by rfl)
  (hq1:(ww [.Subscript (.Subscript (.Name y p) e1 rK) e2 eP] X.env).map (·.2)=[xL (.Subscript (.Subscript (.Name y p) e1 rK) e2 eP) X.env]:=by rfl) :
  SF X K x fs (.Assign [.Subscript (.Subscript (.Name y p) e1 rK) e2 eP] e pos::rest) (.bind we λv=>.bind w1 λn=>.bind (Rt ls n) λjl=>.bind w2 λm=>.bind (gY jl.2 m v) λl'=>.bind (.ret (ls.set jl.1 l')) k) out:=
 SF.step (wM he.p (MW (M4 (Jp K hK) (dr hN hv hd i6) h1.p uC) h2.p oZ ha) ZI hw hq1) λD σ H ⟨sr,q⟩=>by
  refine⟨sr,we.mono (λv qv u H1 g1 s1 v1=>?_) q⟩;obtain⟨a,nv,q1,q2,q3,q4,q5⟩:=jr s1 hs;refine⟨_,nv,s1,w1.mono (λn qn u2 H2 g2 s2 v2=>?_) qv⟩;obtain⟨a2,WD,r1,r2,r3,r4,r5⟩:=jr s2 hs;rw [nv] at WD;cases WD;cases v2 with
  | int kk=>
   have qn:(W.Ng ((nX ls.length kk).bind λj=>(ls[j]?).map λl=>(j,l))).run _:=qn;cases hj:nX ls.length kk with
   | none=>rw [hj] at qn;exact qn.elim
   | some j=>
    have jl:=(xn hj).2.1;have hl:ls[j]?=ap ls[j]:=Ad jl;rw [hj] at qn;simp only [Option.bind_some] at qn;rw [hl] at qn;have qn:(am w2 λm=>.bind (gY ls[j] m v) λl'=>.bind (.ret (ls.set j l')) k).run _:=qn;have hb:bs[j]?=ap (bs[j]'∅):=Ad ∅;generalize bs[j]'∅=b at hb;generalize ls[j]=l at hl qn;have hix:ck (bs.map V.ref) kk=ap (.ref b):=by
     unfold ck;rw [Ah,r4,hj];show (bs.map V.ref)[j]?=_;rw [Ak,hb];rfl
    refine .inl ⟨a,_,kk,.ref b,rfl,rfl,dq.of r1,hix,s2,w2.mono (λm qm u3 H3 g3 s3 v3=>?_) qn⟩;obtain⟨a3,T4,p1,p2,p3,p4,p5⟩:=jr s3 hs;rw [nv] at T4;cases T4;cases v3 with
    | int k2=>
     have qm:(match nX l.length k2 with | some j2=>bd (l.set j2 v) | none=>W.fail).run _:=qm;cases KI:nX l.length k2 with
     | none=>rw [KI] at qm;exact qm.elim
     | some j2=>
      rw [KI] at qm;obtain⟨ws,f1,f2⟩:=p5 j b l hb hl;refine⟨b,ws,k2,j2,rfl,rfl,f1,by rw [f2.length];exact KI,λH4 sx h4=>?_⟩;have Ĥ:=Bo hb;have ab:a≠b:=λz=>p2 (z▸Ĥ);obtain⟨s4,g4⟩:=pO (t':=.qM bs (ls.set j (l.set j2 v))) s3 hs rfl (by simp) nv (c:=b) (.inr Ĥ) (.inr Ĥ) (λc h=>h) rfl sx λtk=>by
       refine⟨sx a _ ab p1,p2,p3,by simp [p4],λj' b' l' m1 m2=>?_⟩;by_cases c:j'=j
       ·subst c;rw [hb] at m1;cases m1;rw [Ca ∅] at m2;cases m2;exact⟨_,h4,aN.tk tk (f2.set ((g2.trans g3).vr s1 v1) j2)⟩
       ·rw [Bw (BA c)] at m2;obtain⟨p0,f3,f4⟩:=p5 j' b' l' m1 m2;refine⟨p0,sx b' _ (λz=>?_) f3,aN.tk tk f4⟩;subst z;have h1:=Al.mp hb;have h2:=Al.mp m1;exact c ((Ew p3).mp (h2.2.trans h1.2.symm))
      exact⟨_,k _,hr _,s4,(k _).mono (λt q3=>q3.go (((g1.trans g2).trans g3).f.trans g4) sr s4) qm⟩
    | _=>exact qm.elim
  | _=>exact qn.elim
end
end
end FL
namespace L2
open PySem PySem.Spec PyProof.Rows
def fc {α:Type} (N:Nat) (P:α->Prop):DS α->Prop
 | .ret a=>P a
 | .ask i j k=>i < N/\j < N/\∀b,fc N P (k b)
theorem fc.mono {α:Type}{N:Nat}{P P':α->Prop} (h:∀a,P a->P' a):∀{t:DS α},fc N P t->fc N P' t
 | .ret a,q=>h a q
 | .ask i j k,q=>⟨q.1,q.2.1,λb=>fc.mono h (q.2.2 b)⟩
theorem fc.bind {α β:Type}{N:Nat}{P:α->Prop}{P':β->Prop}{f:α->DS β} (hf:∀a,P a->fc N P' (f a)):∀{t:DS α},fc N P t->fc N P' (t.bind f)
 | .ret a,q=>hf a q
 | .ask i j k,q=>⟨q.1,q.2.1,λb=>fc.bind hf (q.2.2 b)⟩
theorem fc.wp {α:Type}{N:Nat}{P:α->Prop}{cmp:Nat->Nat->(Bool->ce->Prop)->ce->Prop}{Q:α->ce->Prop}{s:ce} (hc:∀i j C,i < N->j < N->(∀b,C b s)->cmp i j C s) (hq:∀a,P a->Q a s):∀{t:DS α},fc N P t->t.kasWp cmp Q s
 | .ret a,q=>hq a q
 | .ask i j k,q=>hc i j _ q.1 q.2.1 λb=>fc.wp hc hq (q.2.2 b)
def dc (N:Nat) (p:Array Nat):Prop:=p.toList.Perm (AA N)
def dc.lt {N:Nat}{p:Array Nat} (h:dc N p) (h0:0 < N) (k:Nat):p.getD k 0 < N:=by
 by_cases c:k < p.size
 ·have:p.getD k 0=p[k]:=by simp [Array.getD,c]
  rw [this];exact AO.mp (h.mem_iff.mp (by simp))
 ·have:p.getD k 0=0:=by simp [Array.getD,c]
  rw [this];exact h0
def dc.rev {N:Nat}{p:Array Nat} (h:dc N p) (i j:Nat):dc N (EM p i j):=(Ea.mp (mirror_perm p i j _)).trans h
def dc.bub {N:Nat}{p:Array Nat} (h:dc N p) (i j:Nat):dc N (bubble p i j):=(Ea.mp (bubble_perm p i j)).trans h
section
variable {N:Nat} (h0:0 < N)
include h0
theorem NK {p:Array Nat} (h:dc N p):∀f n,fc N (λ_=>True) (PySem.W.kas_asc p f n)
 | 0,n=>trivial
 | f+1,n=>⟨h.lt h0 _,h.lt h0 _,λb=>by
  cases b with
  | true=>exact trivial
  | false=>exact NK h f (n+1)⟩
theorem xk:∀f (p:Array Nat) n q,dc N p->fc N (λr=>dc N r.1) (PySem.W.kas_desc f p n q)
 | 0,p,n,q,h=>h
 | f+1,p,n,q,h=>⟨h.lt h0 _,h.lt h0 _,λb=>by
  cases b with
  | true=>
   show fc N _ (if q > 0 then _ else _)
   split
   ·exact xk f _ _ _ (h.rev _ _)
   ·exact xk f _ _ _ h
  | false=>exact⟨h.lt h0 _,h.lt h0 _,λb=>by
    cases b with
    | true=>exact h
    | false=>exact xk f _ _ _ h⟩⟩
def NI {n m:Nat}{p:Array Nat} (h:dc N p):fc N (λr=>dc N r.2) (PySem.W.kas_tail3 n m p):=by
 exact fc.bind (N:=N) (P:=λ_=>True) (P':=λr:Nat×Array Nat=>dc N r.2) (f:=λk=>.ret (k,EM p 0 n)) (λk _=>(show dc N (EM p 0 n) from h.rev _ _)) (NK h0 (h.rev _ _) _ _)
def NJ {n m:Nat}{p:Array Nat} (h:dc N p):fc N (λr=>dc N r.2) (PySem.W.kas_descPart n m p):=fc.bind (λr hr=>by
 split
 ·exact NI h0 (hr.rev _ _)
 ·exact NI h0 hr) (xk h0 _ _ _ _ h)
def Rp {m:Nat}{p:Array Nat} (h:dc N p):fc N (λr=>dc N r.2) (PySem.W.kas_count m p):=fc.bind (λn _=>by
 split
 ·exact h
 ·split
  ·exact⟨h.lt h0 _,h.lt h0 _,λb=>by
    cases b with
    | true=>exact h
    | false=>exact NJ h0 (h.rev _ _)⟩
  ·exact NJ h0 h) (NK h0 h _ _)
theorem xj {p:Array Nat} (h:dc N p) (k:Nat):∀f l r,fc N (λ_=>True) (PySem.W.kas_place p k f l r)
 | 0,l,r=>trivial
 | f+1,l,r=>by
  show fc N _ (if l≥r then _ else _)
  split
  ·exact trivial
  ·exact⟨h.lt h0 _,h.lt h0 _,λb=>by
    cases b with
    | true=>exact xj h k f _ _
    | false=>exact xj h k f _ _⟩
theorem Tn:∀f (p:Array Nat) k,dc N p->fc N (dc N) (PySem.W.kas_bin f p k)
 | 0,p,k,h=>h
 | f+1,p,k,h=>fc.bind (λl _=>Tn f _ _ (h.bub _ _)) (xj h0 h k _ _ _)
def VQ:fc N (dc N) (FD N):=fc.bind (λr hr=>by
 split
 ·exact Tn h0 _ _ _ hr
 ·exact hr) (Rp h0 (List.Perm.refl _))
end
section
variable {prog:f8}{w:lc}{A:kw}{E:bm->ce->Prop}{s:ce}
def G0 {a:dL}{vs:List bm}{n:Nat}{κ:SortKind}{P:PySem.Fin->ce->Prop} (ho:s.heap.get? a=ap (wf "list" vs.toArray n)) (Z2:vs.length < 64)
  (ĝ:2<=vs.length->∀h',(∀b o,b≠a->s.heap.get? b=ap o->h'.get? b=ap o)->d4 (d5 prog w) A (keyKind' vs.toArray) (λk s'=>k=κ/\s'={s with heap:=h'}) (λ_ _=>False) {s with heap:=h'})
  (mi:∀h',(∀b o,b≠a->s.heap.get? b=ap o->h'.get? b=ap o)->∀i j,i < vs.length->j < vs.length->∀C:Bool->ce->Prop,(∀b,C b {s with heap:=h'})->d4 (d5 prog w) A (keyLt' κ (vs.getD i AY) (vs.getD j AY)) C (λ_ _=>False) {s with heap:=h'})
  (h:∀out:List bm,out.Perm vs->P (.done (.ret .none)) {s with heap:=sortedHeap s.heap a vs out.toArray}) :
  d4 (d5 prog w) A (Db.«list.sort» ⟨[.ref a],[]⟩) P E s:=by
 rw [list_sort_plain];have ha:=Ar ho;refine Aa (listItems_at ho rfl ?_);refine Aa (listUpdate_at ho rfl ?_);obtain⟨e1,ho1⟩:∃e1,(s.heap.update a (Bk λ_=>#[])).get? a=ap (wf "list" #[] e1):=⟨_,get?_update_seq ho (λ_=>#[])⟩;refine Aa (seqEpoch_at ho1 rfl ?_);refine Aa (CG ?_);refine Aa (wpAny_newList ?_);refine A9 ?_;have ó:(((s.heap.update a (Bk λ_=>#[])).push (wf "tuple" vs.toArray 0)).push (wf "list" #[] 0)).get? a=ap (wf "list" #[] e1):=by
  rw [Heap.get?_push_ne _ _ _ (by rw [size_push',Eo];exact AE (Dc ha)),Heap.get?_push_ne _ _ _ (by rw [Eo];exact AE ha)];exact ho1
 have kp:∀b o,b≠a->s.heap.get? b=ap o->(((s.heap.update a (Bk λ_=>#[])).push (wf "tuple" vs.toArray 0)).push (wf "list" #[] 0)).get? b=ap o:=λb o n e=>Ai _ (Ai _ (by rw [Fh _ _ _ _ n];exact e));dsimp only;have hsz:vs.toArray.size=vs.length:=by simp
 by_cases h2:vs.toArray.size < 2
 ·rw [if_pos h2,if_pos h2];refine Aa (Af ?_);refine Aa (Af ?_);dsimp only;refine Aa (seqEpoch_at ó rfl ?_);refine Aa (listUpdate_at ó rfl ?_ (hsz2:=by rw [Array.size_map];show (pairsOf vs).size<=_;rw [pairsOf_size,sizeLine_eq];omega));simp only [bne_self_eq_false,Ag,if_false];refine Af ?_;have e:(arrOf (SortSt.mk' general' (vs.toArray.zip vs.toArray) #[] 7 bv)).map (·.2)=vs.toArray:=by
   apply Ez.mp;simp [List.map_snd_zip]
  show P _ {s with heap:=_};rw [e];exact h vs (List.Perm.refl _)
 ·rw [if_neg h2,if_neg h2];have t4:2<=vs.length:=by omega
  refine Aa (BI (ĝ t4 _ kp) (λk s0 hk=>?_) λ_ _ x=>x.elim);obtain⟨rfl,rfl⟩:=hk;have hw:(FD vs.length).kasWp (PySem.W.kas_ask prog w A k vs) (λp s'=>dc vs.length p/\s'={s with heap:=((s.heap.update a (Bk λ_=>#[])).push (wf "tuple" vs.toArray 0)).push (wf "list" #[] 0)}) {s with heap:=((s.heap.update a (Bk λ_=>#[])).push (wf "tuple" vs.toArray 0)).push (wf "list" #[] 0)}:=
   fc.wp (λi j C hi hj hC=>mi _ kp i j hi hj C hC) (λp hp=>⟨hp,rfl⟩) (VQ (show 0 < vs.length by omega))
  refine Aa (BI (PySem.W.kat_run (Q:=λnt s'=>∃p:Array Nat,dc vs.length p/\arrOf nt=p.map (PySem.W.kas_item (vs.toArray.zip vs.toArray))/\failedOf nt=bv/\s'={s with heap:=((s.heap.update a (Bk λ_=>#[])).push (wf "tuple" vs.toArray 0)).push (wf "list" #[] 0)})
   rfl t4 Z2 (λp' nt s' a1 a2 a3 a4=>⟨p',a4.1,a2,a3,a4.2⟩) hw) ?_ λ_ _ e=>e)
  rintro⟨⟨⟩,nt⟩ s' ⟨p,hp,har,hf,rfl⟩;have zy:=PySem.W.kat_snds rfl har;have Tw:(p.toList.map λi=>vs.getD i AY).Perm vs:=by
   have e:(AA vs.length).map (λi=>vs.getD i AY)=vs:=by
    apply BB;intro i;by_cases c:i < vs.length
    ·rw [Ak,BK c,Ad c];show ap (vs.getD i AY)=_;rw [Ap,Ad c];rfl
    ·rw [AN (by simp;omega),AN ∅]
   have:=hp.map (λi=>vs.getD i AY);rw [e] at this;exact this
  rw [zy];refine Aa (seqEpoch_at ó rfl ?_);refine Aa (listUpdate_at ó rfl ?_ (hsz2:=by rw [Aj,Tw.length_eq,sizeLine_eq];omega));rw [hf];simp only [bne_self_eq_false,Ag,if_false];exact Af (h _ Tw)
def Qf {l:dL}{vs:List bm}{κ:SortKind}{Q:bm->ce->Prop} (hl:s.heap.IsList l vs.toArray) (Z2:vs.length < 64)
  (ĝ:2<=vs.length->∀h',(∀b o,s.heap.get? b=ap o->h'.get? b=ap o)->d4 (d5 prog w) A.in1.in1 (keyKind' vs.toArray) (λk s'=>k=κ/\s'={s with heap:=h'}) (λ_ _=>False) {s with heap:=h'})
  (mi:∀h',(∀b o,s.heap.get? b=ap o->h'.get? b=ap o)->∀i j,i < vs.length->j < vs.length->∀C:Bool->ce->Prop,(∀b,C b {s with heap:=h'})->d4 (d5 prog w) A.in1.in1 (keyLt' κ (vs.getD i AY) (vs.getD j AY)) C (λ_ _=>False) {s with heap:=h'})
  (h:∀out:List bm,out.Perm vs->Q (.ref (s.heap.objs.size+1)) {s with heap:=sortedAll s.heap vs out.toArray}) :
  d4 (d5 prog w) A (call (.builtin "sorted") [.ref l]) Q E s:=by
 refine Calls.call_function_entry kind_sorted plain_sorted entry_sorted (args_sorted1 _) ?_;refine Aa (m:=checkCount "sorted" 1 1 _) (Af ?_);refine Aa (collect_list hl ?_);refine Aa (wpAny_newList ?_);have hsz:((s.heap.push (wf "list" #[] 0)).update s.heap.objs.size (Bk (·++vs.toArray))).objs.size=s.heap.objs.size+1:=by
  rw [Eo,size_push']
 have ò:(((s.heap.push (wf "list" #[] 0)).update s.heap.objs.size (Bk (·++vs.toArray))).push (wf "list" vs.toArray 0)).get? (s.heap.objs.size+1)=ap (wf "list" vs.toArray 0):=by
  rw [<- hsz];exact Aq _ rfl
 have kp:∀b o,s.heap.get? b=ap o->b≠s.heap.objs.size+1/\(((s.heap.push (wf "list" #[] 0)).update s.heap.objs.size (Bk (·++vs.toArray))).push (wf "list" vs.toArray 0)).get? b=ap o:=λb o e=>by
  have lt:=Ar e;refine⟨AE (Dc lt),Ai _ ?_⟩;rw [Fh _ _ _ _ (AE lt)];exact Ai _ e
 show d4 _ _ _ _ _ {s with heap:=((s.heap.push (wf "list" #[] 0)).update s.heap.objs.size (Bk (·++vs.toArray))).push (wf "list" vs.toArray 0)};rw [hsz];refine Aa (A9 (Bc slot_list_sort ⟨_,ò,rfl⟩ entry_list_sort (G0 (κ:=κ) ò Z2 (λh2 h' k=>?_) (λh' k=>?_) λout hp=>⟨_,rfl,?_⟩) (args_list_sort _)))
 ·exact ĝ h2 h' λb o e=>k b o (kp b o e).1 (kp b o e).2
 ·exact mi h' λb o e=>k b o (kp b o e).1 (kp b o e).2
 ·exact Af ⟨_,rfl,h out hp⟩
end
end L2
namespace FL
section
open PySem PySem.Spec PyProof.Rows L2 PL
variable {K:Ab}
def pq:PV->Bool
 | .tup [.str _,.tup [.int _,.int _]]=>true
 | _=>false
def Hc {x:PV} (h:pq x=true):∃s i j,x=.tup [.str s,.tup [.int i,.int j]]:=by
 unfold pq at h
 split at h
 ·exact⟨_,_,_,rfl⟩
 ·cases h
section
variable {X:Cx}{Z:List (dL×Obj)}{σ:L2.St}{H:Hp}{s:ce}
def Si (I:Inv X Z σ H s) {v:V}{u:bm}{x:PV} (hv:VR X.K [] H v x) (ru:RelV v u) (hx:pq x=true):∃(a b:dL) (st:Str) (i j:Int) (t t1 t2:Tok) (oa ob:Obj) (na nb:Nat),u=.ref a/\s.heap.get? a=ap oa/\oa.cls=.type "tuple"/\oa.data=.seq #[.str st t,.ref b] na/\s.heap.get? b=ap ob/\ob.cls=.type "tuple"/\ob.data=.seq #[.int i t1,.int j t2] nb:=by
 obtain⟨st,i,j,rfl⟩:=Hc hx;cases hv with
 | @tup p vs _ e r=>
 cases ru;cases r with
 | cons r1 r2=>
 cases r1;cases r2 with
 | cons r2 r3=>
 cases r3;cases r2 with
 | @tup b ws _ e2 r4=>
 cases r4 with
 | cons r4 r5=>
 cases r4;cases r5 with
 | cons r5 r6=>
 cases r6;cases r5;obtain⟨ay,rv,⟨o,h1,h2,n,h3⟩,_⟩:=I.tuple (d7.of (K:=X.K) e);obtain⟨cO,rv2,⟨o2,k1,k2,n2,k3⟩,_⟩:=I.tuple (d7.of (K:=X.K) e2);cases rv with
 | cons q1 q2=>
 cases q2 with
 | cons q2 q3=>
 cases q3;cases rv2 with
 | cons m1 m2=>
 cases m2 with
 | cons m2 m3=>
 cases m3;obtain⟨t,rfl⟩:=q1;cases q2;obtain⟨t1,rfl⟩:=m1;obtain⟨t2,rfl⟩:=m2;exact⟨p,b,st,i,j,t,t1,t2,o,o2,n,n2,rfl,h1,h2,h3,k1,k2,k3⟩
end
def Sf {prog:f8}{w:lc}{A:kw}{s:ce}{a b a' b':dL}{st nt:Str}{i j i' j':Int}{t t1 t2 t' Yp Yn:Tok}{oa ob Xg Vp:Obj}{na nb na' Ĉ:Nat} (hu:A.units+1 < sn)
  (h1:s.heap.get? a=ap oa) (h3:oa.data=.seq #[.str st t,.ref b] na) (k1:s.heap.get? b=ap ob) (k2:ob.cls=.type "tuple") (k3:ob.data=.seq #[.int i t1,.int j t2] nb)
  (iC:s.heap.get? a'=ap Xg) (Hj:Xg.data=.seq #[.str nt t',.ref b'] na') (č:s.heap.get? b'=ap Vp) (Č:Vp.cls=.type "tuple") (ċ:Vp.data=.seq #[.int i' Yp,.int j' Yn] Ĉ)
  {C:Bool->ce->Prop} (hC:∀b,C b s):d4 (d5 prog w) A (keyLt' (tuples' true) (.ref a) (.ref a')) C (λ_ _=>False) s:=by
 refine PySem.W.kat_lt h1 h3 iC Hj (FC (Dk.str_str st t nt t' prog w _ _ (PySem.W.kat_go (λ_=>PySem.W.kat_yes ?_) λ_=>PySem.W.kat_no ?_)))
 ·refine FC ?_;have hT:s.heap.IsTuple b #[.int i t1,.int j t2]:=⟨ob,k1,k2,nb,k3⟩;have hT':s.heap.IsTuple b' #[.int i' Yp,.int j' Yn]:=⟨Vp,č,Č,Ĉ,ċ⟩;have go:∀e,PySem.W.KatGo prog w A true (decide ((#[DV st t,.ref b]:Array bm).size < (#[DV nt t',.ref b']:Array bm).size)) C (.ref b) (.ref b') [] 1 e s:=λe=>PySem.W.kat_go (λ_=>PySem.W.kat_yes (PySem.W.kat_nil (hC _))) λ_=>PySem.W.kat_no (PySem.W.kat_one _ _ (HT.GX hT hT' (.cons i t1 (.cons j t2 .nil)) (.cons i' Yp (.cons j' Yn .nil)) ∅ (hC _)));by_cases c:b=b'
  ·subst c;exact FI (.ref b) prog w _ _ (go _)
  ·refine Fu c (Fv (e:=λk=>if k=0 then i==i' else j==j') hT hT' ∅ λk g1 g2=>?_) prog w _ _ (go _);have:k=0\/k=1:=by simp at g1;omega
   rcases this with rfl | rfl
   ·exact D1 i t1 i' Yp
   ·exact D1 j t2 j' Yn
 ·exact oneLt_str (hC _)
section
variable {X:Cx}{e:ga}{pos p:Pos}{fs:bh}{wl:W (List PV)}
def UM (K:Ab):List V->Hp->VK->Prop:=λxs H Q=>∃(p:dL) (vs:List V) (l:List PV),xs=[.ref p]/\dq K H p vs/\aN K [] H vs l/\l.length < 64/\l.all pq=true/\∀m:List PV,m.Perm l->∀ws,aN K [] H ws m->kL H (.lst ws) Q
def MY {H:Hp}{vs:List V}{us out:List bm}{l:List PV} (r:Vals vs us) (v:aN K [] H vs l) (p:out.Perm us):∃ws m,Vals ws out/\aN K [] H ws m/\m.Perm l:=by
 induction p generalizing vs l with
 | nil=>cases r;cases v;exact⟨[],[],.nil,.nil,.refl _⟩
 | cons x p ih=>
  cases r with
  | cons r1 r2=>
  cases v with
  | cons v1 v2=>
  obtain⟨ws,m,a,b,c⟩:=ih r2 v2;exact⟨_::ws,_::m,.cons r1 a,.cons v1 b,.cons _ c⟩
 | swap x y l'=>
  cases r with
  | cons r1 r2=>
  cases r2 with
  | cons r2 r3=>
  cases v with
  | cons v1 v2=>
  cases v2 with
  | cons v2 v3=>exact⟨_::_::_,_::_::_,.cons r2 (.cons r1 r3),.cons v2 (.cons v1 v3),.swap _ _ _⟩
 | trans p1 p2 ih1 ih2=>
  obtain⟨ws,m,a,b,c⟩:=ih2 r v;obtain⟨p0,m',a',b',c'⟩:=ih1 a b;exact⟨p0,m',a',b',c'.trans c⟩
def HS (hK:X.K=K) (hu:X.A.units+200 < sn):bZ X (.builtin "sorted") (UM K):=by
 subst hK;intro Z s σ H xs us Q I r h;obtain⟨p,vs,l,rfl,hq,hv,Z2,hd,q⟩:=h;obtain⟨u,rfl,rx⟩:=vals1 r;cases rx;obtain⟨ay,r',pl,hz⟩:=I.list hq;have hl:=r'.length;have LU:=hv.length;have el:∀i,i < ay.length->∃(a b:dL) (st:Str) (i1 j1:Int) (t t1 t2:Tok) (oa ob:Obj) (na nb:Nat),ay.getD i AY=.ref a/\s.heap.get? a=ap oa/\oa.cls=.type "tuple"/\oa.data=.seq #[.str st t,.ref b] na/\s.heap.get? b=ap ob/\ob.cls=.type "tuple"/\ob.data=.seq #[.int i1 t1,.int j1 t2] nb:=λi hi=>by
  have e1:vs[i]?=ap vs[i]:=Ad ∅;obtain⟨x,ex,vx⟩:=hv.Z3 e1;have hx:=Cp.mp hd x (Bo ex);have ru:RelV vs[i] (ay.getD i AY):=by
   obtain⟨u,ē,Ē⟩:=Vals.get r' e1;rw [Ap,ē];exact Ē
  exact Si I vx ru hx
 refine Qf (κ:=tuples' true) pl.isList ∅ (λh2 h' kp=>?_) (λh' kp i j hi hj C hC=>?_) λout hp=>?_
 ·have Ý:∀l:List bm,(∀v∈l,∃(a:dL) (x:bm) (st:Str) (t:Tok) (oa:Obj) (na:Nat),v=.ref a/\h'.get? a=ap oa/\oa.cls=.type "tuple"/\oa.data=.seq #[.str st t,x] na)->∃fs,PySem.W.KatTups h' l fs/\fs.length=l.length/\∀v∈fs,∃st t,v=DV st t:=by
   intro l
   induction l with
   | nil=>intro _;exact⟨[],trivial,rfl,by simp⟩
   | cons v l ih=>
    intro hl;obtain⟨fs,f1,f2,f3⟩:=ih λy hy=>hl y (.tail _ hy);obtain⟨a,x,st,t,oa,na,rfl,g1,g2,g3⟩:=hl v (.head _);refine⟨.str st t::fs,PySem.W.KatTups.cons g1 g2 g3 rfl f1,by simp [f2],λy hy=>?_⟩;rcases Ax.mp hy with rfl | hy
    ·exact⟨st,t,rfl⟩
    ·exact f3 y hy
  obtain⟨fs,f1,f2,f3⟩:=Ý ay λv hv=>by
   obtain⟨i,hi,rfl⟩:=DQ hv;obtain⟨a,b,st,i1,j1,t,t1,t2,oa,ob,na,nb,e,h1,h2,h3,_⟩:=el i hi;rw [Ap,Ad hi] at e;exact⟨a,.ref b,st,t,oa,na,e,kp _ _ h1,h2,h3⟩
  refine PySem.W.kat_kind (T:=.type "str") f1 ∅ (λv hv=>?_) (by decide) ⟨rfl,rfl⟩;obtain⟨st,t,rfl⟩:=f3 v hv;exact PySem.W.Looks.now
 ·obtain⟨a,b,st,i1,j1,t,t1,t2,oa,ob,na,nb,e,h1,h2,h3,k1,k2,k3⟩:=el i hi;obtain⟨a',b',nt,i1',j1',t',Yp,Yn,Xg,Vp,na',Ĉ,e',iC,t4,Hj,č,Č,ċ⟩:=el j hj;rw [e,e'];exact Sf (s:={s with heap:=h'}) (by show X.A.units+1+1+1 < _;omega) (kp _ _ h1) h3 (kp _ _ k1) k2 k3 (kp _ _ iC) Hj (kp _ _ č) Č ċ hC
 ·obtain⟨ws,m,a1,a2,a3⟩:=MY r' hv hp;obtain⟨e,he⟩:=sortedAll_at s.heap ay out.toArray;refine⟨.ref (s.heap.objs.size+1),_,I.laid (t':=s.toks) (λ_ _=>sortedAll_old) (E8 _) (show bB X.prog X.w _ _ _ (.lst ws) from⟨?_,out,e,a1,he⟩),rfl,(q m a3 ws a2).at _ (I.bN.fresh (E8 _))⟩;rw [a2.length,a3.length_eq];rw [<- LU];exact hz
def Mg (l:List PV):W (List PV):=.fF (l.length < 64/\l.all pq=true) (.any λm=>m.Perm l)
def Ri (hK:X.K=K) (hu:X.A.units+200 < sn) (hg:Gl X "sorted") (hm:X.mg "sorted"=bv) (ha:F9 X K fs e wl) (he:ci [e] X.env=(false,lm e X.env)::ci [] X.env:=by rfl) (dR:(mo pos (ci [] X.env)).any (·.1)=false:=by rfl):LF X K fs (.Call (.Name "sorted" p) [e] [] pos) (.bind wl Mg):=
 ⟨PE.imp (fJ (HS hK hu) hg hm boot_sorted (bw ha.p cY he) (by decide) (by decide) he dR) λσ H Q ⟨sr,q⟩=>⟨sr,wl.mono (λl q1 u1 H1 g1 s1 _ v1=>by
  obtain⟨⟨c1,c2⟩,q2⟩:=q1;obtain⟨a,vs,rfl,h1,r1⟩:=v1 H1 .refl s1;exact⟨a,vs,l,rfl,h1,r1,c1,c2,λm hm ws hw=>Jg g1 s1 hw (q2 m hm)⟩) q⟩⟩
end
end
open PySem PySem.Spec PyProof.Rows L2 PL
def eR (ns:List Int):Prop:=∃g s c:Int,ns=[g,s,c]/\0<=g/\0<=s/\s < 2305843009213693951/\0<=c
def drawn (m:Int):W PV:=.any λv=>∃d:Int,v=.int d/\0<=d/\d < m
def a8:PV->W PV
 | .int m=>.fF (0 < m/\m<=2000) (drawn m)
 | _=>.fail
def o8 {g:Int->Int->PV}{i j:Int}:of2 (aI g) (.int i) (.int j)=.ret (g i j):=Ev λQ=>⟨CK,λq=>⟨rfl,q⟩⟩
def qN {C:Int->Int->Prop}{g:Int->Int->PV}{i j:Int}:of2 (W2 C g) (.int i) (.int j)=.fF (C i j) (.ret (g i j)):=Ev λQ=>⟨λq=>⟨q.1,q.2.2⟩,λq=>⟨q.1,rfl,q.2⟩⟩
section
variable (i j:Int) (a:Bool) (x y:PV) (l m:List PV) (s t:Str)
@[simp] theorem lK:of2 mS (.int i) (.int j)=.ret (.int (i-j)):=o8
@[simp] theorem Ox:of2 o9 (.int i) (.int j)=.fF (wE i j) (.ret (.int (i*j))):=qN
@[simp] theorem adZ:of2 oDiv (.int i) (.int j)=.fF (SS i j) (.ret (.int (i / j))):=qN
@[simp] theorem HA:of2 oMod (.int i) (.int j)=.fF (0 < j) (.ret (.int (i % j))):=qN
@[simp] theorem Wu:of2 za (.int i) (.int j)=.fF (Pn i j) (.ret (.int (i ^ j.toNat))):=qN
@[simp] theorem mH:of2 oLt (.int i) (.int j)=.ret (.bl (decide (i < j))):=o8
@[simp] theorem JG:of2 oLe (.int i) (.int j)=.ret (.bl (decide (i<=j))):=o8
@[simp] theorem TV:of2 Y7 (.int i) (.int j)=.ret (.bl (decide (j < i))):=o8
@[simp] theorem aah:of2 oGe (.int i) (.int j)=.ret (.bl (decide (j<=i))):=o8
@[simp] theorem aag:of2 Tt (.int i) (.int j)=.ret (.int (i+j)):=o8
def tE:of2 dh x y=.fF (K4 x y) (.ret (.bl (kM x y))):=Ev λQ=>⟨λq=>⟨q.1,q.2.2⟩,λq=>⟨q.1,rfl,q.2⟩⟩
def TU:of2 uq x y=.fF (K4 x y) (.ret (.bl (!kM x y))):=Ev λQ=>⟨λq=>⟨q.1,q.2.2⟩,λq=>⟨q.1,rfl,q.2⟩⟩
@[simp] theorem pF:of2 Kp x .aX=.ret (.bl x.mE):=Ev λQ=>⟨CK,λq=>⟨rfl,q⟩⟩
@[simp] theorem Wz:of2 Q2 (.str s) (.str t)=.ret (.bl (!(Builtin.Str.occurrences t s 0 t.length 1).isEmpty)):=Ev λQ=>⟨CK,λq=>⟨rfl,q⟩⟩
def Wy {c:Nat} (h:ck s.cps.toList i=ap c):of2 Ni (.str s) (.int i)=.fF (s.length<=sizeLine) (.ret (.str ⟨#[c]⟩)):=Ev λQ=>by
 show (s.length<=sizeLine/\match ck s.cps.toList i with | some c=>_/\_ | none=>False)↔_;rw [h];exact⟨λq=>⟨q.1,q.2.2⟩,λq=>⟨q.1,rfl,q.2⟩⟩
@[simp] theorem fC:addW (.int i) (.int j)=.ret (.int (i+j)):=(rfl)
@[simp] theorem R8:addW (.str s) (.str t)=.fF (s.length+t.length<=sizeLine) (.ret (.str (s++t))):=(rfl)
@[simp] theorem gH:addW (.tup l) (.tup m)=.fF (l.length+m.length<=sizeLine) (.ret (.tup (l++m))):=(rfl)
@[simp] theorem jb:mV (.int i)=.ret (.int (-i)):=(rfl)
@[simp] theorem aY:XC (.bl a)=.ret a:=(rfl)
@[simp] theorem pG (w:W PV):lP (.bl true) w=w:=(rfl)
@[simp] theorem Xy (w:W PV):lP (.bl false) w=.ret (.bl false):=(rfl)
@[simp] theorem iQ (w:W PV):LD (.bl true) w=w:=(rfl)
@[simp] theorem JH (w:W PV):LD (.bl false) w=.ret (.bl false):=(rfl)
@[simp] theorem Ou (w:W PV):orW (.bl true) w=.ret (.bl true):=(rfl)
@[simp] theorem Ov (w:W PV):orW (.bl false) w=w:=(rfl)
@[simp] theorem Wv:Q5 (.bl a)=.ret (.bl (!a)):=(rfl)
@[simp] theorem a9:cF (.bl a)=.ret a:=(rfl)
@[simp] theorem abE:cF (.int i)=.ret (i != 0):=(rfl)
@[simp] theorem abD:cF .aX=.ret false:=(rfl)
@[simp] theorem abC:cF (.tup l)=.ret (!l.isEmpty):=(rfl)
@[simp] theorem abF:cF (.cl l)=.ret (!l.isEmpty):=(rfl)
@[simp] theorem aD:aw (.tup l)=.ret l:=(rfl)
@[simp] theorem bK:aw (.cl l)=.ret l:=(rfl)
@[simp] theorem JE:GY (.cl l)=.ret l:=(rfl)
@[simp] theorem aW:Jq l (.int i)=.Ng (ck l i):=(rfl)
@[simp] theorem xJ:qi l=.ret (.int l.length):=(rfl)
@[simp] theorem Hz:oU l=.ret (.tup l):=(rfl)
@[simp] theorem TX:XB a=.ret (.bl a):=(rfl)
@[simp] theorem iP:part (.int i)=.ret (ap i):=(rfl)
@[simp] theorem pD:qE (.tup [x,y])=.ret (x,y):=(rfl)
@[simp] theorem Wt (z:PV):un3 (.tup [x,y,z])=.ret (x,y,z):=(rfl)
@[simp] theorem Om (z u:PV):X4 (.tup [x,y,z,u])=.ret (x,y,z,u):=(rfl)
@[simp] theorem R6 (k:Kd):dM k (.int i)=.ret (.bl (k.is (.int i))):=(rfl)
@[simp] theorem dm (k:Kd):dM k (.str s)=.ret (.bl (k.is (.str s))):=(rfl)
@[simp] theorem dj (k:Kd):dM k (.tup l)=.ret (.bl (k.is (.tup l))):=(rfl)
@[simp] theorem abM (k:Kd):dM k (.cl l)=.ret (.bl (k.is (.cl l))):=(rfl)
@[simp] theorem R7 (k:Kd):dM k (.bl a)=.ret (.bl (k.is (.bl a))):=(rfl)
@[simp] theorem abL (k:Kd):dM k .aX=.ret (.bl (k.is .aX)):=(rfl)
@[simp] theorem br:qe cV [.tup l]=.ret (.int l.length):=Ev λQ=>⟨CK,λq=>⟨rfl,q⟩⟩
@[simp] theorem gE:qe cV [.cl l]=.ret (.int l.length):=Ev λQ=>⟨CK,λq=>⟨rfl,q⟩⟩
@[simp] theorem RZ:qe cV [.str s]=.fF (s.length<=sizeLine) (.ret (.int s.length)):=Ev λQ=>⟨λq=>⟨q.1,q.2.2⟩,λq=>⟨q.1,rfl,q.2⟩⟩
@[simp] theorem WA:qe O8 [.int i]=.ret (.int (if i < 0 then -i else i)):=Ev λQ=>⟨CK,λq=>⟨rfl,q⟩⟩
@[simp] theorem abN:qe qA [.int i]=.ret (.int i):=Ev λQ=>⟨CK,λq=>⟨rfl,q⟩⟩
@[simp] theorem gG:qe qA [.bl a]=.ret (.int (if a then 1 else 0)):=Ev λQ=>⟨CK,λq=>⟨rfl,q⟩⟩
@[simp] theorem Wx:qe O7 [.int i,.int j]=.ret (.int (if j > i then j else i)):=Ev λQ=>⟨CK,λq=>⟨rfl,q⟩⟩
@[simp] theorem Ww:qe O6 [.int i,.int j]=.ret (.int (if j < i then j else i)):=Ev λQ=>⟨CK,λq=>⟨rfl,q⟩⟩
@[simp] theorem lL (p q:Option Int):iX (.tup l) p q=.ret (.tup (gJ l p q)):=(rfl)
@[simp] theorem RY:Ml (.tup l) bv bv (ap (-1))=.ret (.tup l.reverse):=r9 ⟨rfl,rfl,rfl⟩
@[simp] theorem abG:G8 (.int i)=.ret (.inl i):=(rfl)
@[simp] theorem R0:G8 (.str s)=.ret (.inr s):=(rfl)
@[simp] theorem eW:jq (.int j)=.fF (okN 0 j) (.ret (kF 0 j.toNat)):=(rfl)
@[simp] theorem JD (k:Int):IQ (.int i) (.int j) (.int k)=.fF (k = -1/\okN j i) (.ret (gn i (i-j).toNat)):=(rfl)
@[simp] theorem Oo:GA (.str s)=.fF (s.cps.size<=sizeLine) (.ret (s.cps.toList.map λc=>.str ⟨#[c]⟩)):=(rfl)
@[simp] theorem Ot:wN (l++[x])=.ret (l,x):=by unfold wN;simp
@[simp] theorem Oq:yP l (.int i)=.fF (-(2 ^ 63)<=i/\i < 2 ^ 63/\l.length*i.toNat<=sizeLine) (.ret (Am i.toNat l).flatten):=(rfl)
@[simp] theorem R3:Kd.is .int (.int i)=true:=(rfl)
@[simp] theorem abK:Kd.is .int (.bl a)=true:=(rfl)
@[simp] theorem R5:Kd.is .bool (.bl a)=true:=(rfl)
@[simp] theorem R4:Kd.is .bool (.int i)=false:=(rfl)
@[simp] theorem eX:Kd.is .str (.str s)=true:=(rfl)
@[simp] theorem gF:Kd.is .str (.tup l)=false:=(rfl)
@[simp] theorem abJ:Kd.is .str (.int i)=false:=(rfl)
@[simp] theorem km:Kd.is .tup (.tup l)=true:=(rfl)
@[simp] theorem R1:Kd.is .tup (.str s)=false:=(rfl)
@[simp] theorem abH:Kd.is .tup (.int i)=false:=(rfl)
@[simp] theorem abI:Kd.is .tup (.bl a)=false:=(rfl)
@[simp] theorem bR (h0:0 < i) (h1:i<=2000):a8 (.int i)=drawn i:=r9 ⟨h0,h1⟩
def bf {m:Int}{Q:PV->Prop} (h:∀d:Int,0<=d->d < m->Q (.int d)):(drawn m).run Q:=λv ⟨d,e,h0,h1⟩=>e▸h d h0 h1
end
namespace W
variable {α β:Type}
def le (a b:W α):Prop:=∀Q,b.run Q->a.run Q
def le.refl (a:W α):a.le a:=λ_ h=>h
def le.of_eq {a b:W α} (h:a=b):a.le b:=h▸le.refl a
def le.ret {a:W α}{v:α}{f:α->W β}{b:W β} (h:a.le (.ret v)) (hf:(f v).le b):(a.bind f).le b:=λQ q=>h _ (hf Q q)
def le.use {a:W α}{v:α}{Q:α->Prop} (h:a.le (.ret v)) (q:Q v):a.run Q:=h _ q
end W
section
variable {S R:Type}
@[simp] theorem Z8 (s:S) (f:PV->S->W S):dY [] s f=.ret s:=(rfl)
@[simp] theorem Xr (x:PV) (r:List PV) (s:S) (f:PV->S->W S):dY (x::r) s f=.bind (f x s) λs'=>dY r s' f:=(rfl)
theorem tm {f:PV->S->W S}{Q:S->Prop} (I:List PV->S->Prop):∀{l:List PV}{s:S},I l s->(∀x r s,I (x::r) s->(f x s).run (I r))->(∀s,I [] s->Q s)->(dY l s f).run Q
 | [],s,h0,_,he=>he s h0
 | x::r,s,h0,hs,he=>(f x s).mono (λs' h=>tm I h hs he) (hs x r s h0)
theorem forF_run {f:PV->S->W (Lp S R)}{Q:Lp S R->Prop} (I:List PV->S->Prop):∀{l:List PV}{s:S},I l s->(∀x r s,I (x::r) s->(f x s).run λo=>match o with | .go s'=>I r s' | .out t=>Q (.out t))->(∀s,I [] s->Q (.go s))->(FL.iD l s f).run Q
 | [],s,h0,_,he=>he s h0
 | x::r,s,h0,hs,he=>(f x s).mono (λo h=>match o,h with
  | .go s',h=>forF_run I h hs he
  | .out t,h=>h) (hs x r s h0)
def kj {f:PV->S->W S}{Q:S->Prop}{l:List PV} (I:Nat->S->Prop) {s:S} (h0:I 0 s) (hs:∀(i:Nat) (x:PV) s,l[i]?=ap x->I i s->(f x s).run (I (i+1))) (he:∀s,I l.length s->Q s):(dY l s f).run Q:=by
 refine tm (λr s=>∃i,i<=l.length/\r=l.drop i/\I i s) ⟨0,Bj _,rfl,h0⟩ (λx r s ⟨i,hi,e,h⟩=>?_) (λs ⟨i,hi,e,h⟩=>?_)
 ·have mi:i < l.length:=by
   rcases De i l.length with h | h
   ·exact h
   ·rw [EJ h] at e;cases e
  rw [Be mi] at e;injection e with e1 e2;subst e1;exact (f _ s).mono (λs' h'=>⟨i+1,mi,e2,h'⟩) (hs i _ s (Ad mi) h)
 ·have:i=l.length:=by
   have:=congrArg BV e;rw [CJ] at this;simp at this;omega
  subst this;exact he s h
def RT {f:PV->S->W (Lp S R)}{Q:Lp S R->Prop}{l:List PV} (I:Nat->S->Prop) {s:S} (h0:I 0 s) (hs:∀(i:Nat) (x:PV) s,l[i]?=ap x->I i s->(f x s).run λo=>match o with | .go s'=>I (i+1) s' | .out t=>Q (.out t)) (he:∀s,I l.length s->Q (.go s)):(FL.iD l s f).run Q:=by
 refine forF_run (λr s=>∃i,i<=l.length/\r=l.drop i/\I i s) ⟨0,Bj _,rfl,h0⟩ (λx r s ⟨i,hi,e,h⟩=>?_) (λs ⟨i,hi,e,h⟩=>?_)
 ·have mi:i < l.length:=by
   rcases De i l.length with h | h
   ·exact h
   ·rw [EJ h] at e;cases e
  rw [Be mi] at e;injection e with e1 e2;subst e1;exact (f _ s).mono (λo h'=>match o,h' with
   | .go s',h'=>⟨i+1,mi,e2,h'⟩
   | .out t,h'=>h') (hs i _ s (Ad mi) h)
 ·have:i=l.length:=by
   have:=congrArg BV e;simp at this;omega
  subst this;exact he s h
def oj {f:PV->S->W S}{Q:S->Prop}{n:Nat} (I:Nat->S->Prop) {s:S} (h0:I 0 s) (hs:∀(i:Nat) s,i < n->I i s->(f (.int (i:Int)) s).run (I (i+1))) (he:∀s,I n s->Q s):(dY (kF 0 n) s f).run Q:=
 kj I h0 (λi x s hx h=>by obtain⟨hi,rfl⟩:=pA hx;rw [EK];exact hs i s hi h) (λs h=>he s (by rw [jG] at h;exact h))
def zK {f:PV->S->W (Lp S R)}{Q:Lp S R->Prop}{n:Nat} (I:Nat->S->Prop) {s:S} (h0:I 0 s) (hs:∀(i:Nat) s,i < n->I i s->(f (.int (i:Int)) s).run λo=>match o with | .go s'=>I (i+1) s' | .out t=>Q (.out t)) (he:∀s,I n s->Q (.go s)):(FL.iD (kF 0 n) s f).run Q:=
 RT I h0 (λi x s hx h=>by obtain⟨hi,rfl⟩:=pA hx;rw [EK];exact hs i s hi h) (λs h=>he s (by rw [jG] at h;exact h))
def jQ {c:S->W Bool}{b:S->W S}{Q:S->Prop} (I:Nat->S->Prop) {n:Nat}{s:S} (h0:I n s) (hs:∀n s,I n s->(c s).run λk=>if k=true then (b s).run (λs'=>∃m,m < n/\I m s') else Q s):(mM c b s).run Q:=by
 refine⟨n+1,?_⟩;have:∀k n s,n < k->I n s->(mN c b k s).run Q:=by
  intro k
  induction k with
  | zero=>intro n s h;omega
  | succ k ih=>
   intro n s hn h;refine (c s).mono (λz q=>?_) (hs n s h);cases z with
   | true=>exact (b s).mono (λs' ⟨m,hm,h'⟩=>ih m s' ∅ h') (show (b s).run _ from q)
   | false=>exact q
 exact this (n+1) n s ∅ h0
def Gg {c:S->W Bool}{b:S->W (Lp S R)}{Q:Lp S R->Prop} (I:Nat->S->Prop) {n:Nat}{s:S} (h0:I n s) (hs:∀n s,I n s->(c s).run λk=>if k=true then (b s).run (λo=>match o with | .go s'=>∃m,m < n/\I m s' | .out t=>Q (.out t)) else Q (.go s)):(FL.rB c b s).run Q:=by
 refine⟨n+1,?_⟩;have:∀k n s,n < k->I n s->(jR c b k s).run Q:=by
  intro k
  induction k with
  | zero=>intro n s h;omega
  | succ k ih=>
   intro n s hn h;refine (c s).mono (λz q=>?_) (hs n s h);cases z with
   | true=>exact (b s).mono (λo q=>match o,q with
    | .go s',⟨m,hm,h'⟩=>ih m s' ∅ h'
    | .out t,q=>q) (show (b s).run _ from q)
   | false=>exact q
 exact this (n+1) n s ∅ h0
theorem w9 {f:PV->W PV}{g:PV->PV}:∀{l:List PV},(∀x∈l,f x=.ret (g x))->mapW l f=.ret (l.map g)
 | [],_=>rfl
 | x::r,h=>by
  show am (f x) (λy=>am (mapW r f) λl=>bd (y::l))=_;rw [h x (.head _),w9 λy hy=>h y (.tail _ hy)];rfl
theorem G5 {f:PV->W (Option PV)}{g:PV->Option PV}:∀{l:List PV},(∀x∈l,f x=.ret (g x))->kQ l f=.ret (l.filterMap g)
 | [],_=>rfl
 | x::r,h=>by
  show am (f x) (λo=>am (kQ r f) λl=>bd (o.toList++l))=_;rw [h x (.head _),G5 λy hy=>h y (.tail _ hy),Bs];cases g x <;> rfl
@[simp] theorem mn (bs:List Bool):uN (bs.map PV.bl)=.ret (.bl (bs.all id)):=by unfold uN;rw [yf];rfl
@[simp] theorem SA (bs:List Bool):Pd (bs.map PV.bl)=.ret (.bl (bs.any id)):=by unfold Pd;rw [yf];rfl
theorem all_map (f:PV->Bool) (l:List PV):uN (l.map λx=>.bl (f x))=.ret (.bl (l.all f)):=by
 have:(l.map λx=>PV.bl (f x))=(l.map f).map PV.bl:=by rw [AL];rfl
 rw [this,mn,List.all_map];rfl
end
section
variable (i j:Int) (a b:Bool) (x y:PV) (l m:List PV) (s t:Str)
@[simp] theorem TQ:kM (.int i) (.int j)=(i==j):=by rw [kM]
@[simp] theorem JA:kM (.str s) (.str t)=(s==t):=by rw [kM]
@[simp] theorem TR:kM (.bl a) (.bl b)=(a==b):=by rw [kM]
@[simp] theorem TN:kM (.tup l) (.tup m)=gD l m:=by rw [kM]
@[simp] theorem afb:kM (.cl l) (.cl m)=gD l m:=by rw [kM]
@[simp] theorem Wm:gD [] []=true:=by rw [gD]
@[simp] theorem Oi:gD (x::l) (y::m)=(kM x y&&gD l m):=by rw [gD]
@[simp] theorem abx:PV.kl (.int i)=true:=by rw [PV.kl] <;> simp
@[simp] theorem adX:PV.kl (.bl a)=true:=by rw [PV.kl] <;> simp
@[simp] theorem abv:PV.kl (.str s)=true:=by rw [PV.kl] <;> simp
@[simp] theorem abw:PV.kl .aX=true:=by rw [PV.kl] <;> simp
@[simp] theorem abu:PV.kl (.tup l)=fX l:=by rw [PV.kl]
@[simp] theorem adW:PV.kl (.cl l)=fX l:=by rw [PV.kl]
@[simp] theorem Z9:fX []=true:=by rw [fX]
@[simp] theorem Xt:fX (x::l)=(PV.kl x&&fX l):=by rw [fX]
@[simp] theorem aae:PV.iE (.int i)=0:=by rw [PV.iE] <;> simp
@[simp] theorem abB:PV.iE (.bl a)=0:=by rw [PV.iE] <;> simp
@[simp] theorem aac:PV.iE (.str s)=0:=by rw [PV.iE] <;> simp
@[simp] theorem aad:PV.iE .aX=0:=by rw [PV.iE] <;> simp
@[simp] theorem aab:PV.iE (.tup l)=eJ l+1:=by rw [PV.iE]
@[simp] theorem abA:PV.iE (.cl l)=eJ l+1:=by rw [PV.iE]
@[simp] theorem Xv:eJ []=0:=by rw [eJ]
@[simp] theorem Wo:eJ (x::l)=max (PV.iE x) (eJ l):=by rw [eJ]
def zP:K4 (.int i) (.int j):=⟨by simp,by simp,by simp⟩
@[simp] theorem cE:of2 dh (.int i) (.int j)=.ret (.bl (i==j)):=by rw [tE,r9 (zP i j),TQ]
@[simp] theorem pE:of2 uq (.int i) (.int j)=.ret (.bl (!(i==j))):=by rw [TU,r9 (zP i j),TQ]
@[simp] theorem adY:of2 dh (.bl a) (.bl b)=.ret (.bl (a==b)):=by rw [tE,r9 ⟨by simp,by simp,by simp⟩,TR]
@[simp] theorem Ow:of2 uq (.bl a) (.bl b)=.ret (.bl (!(a==b))):=by rw [TU,r9 ⟨by simp,by simp,by simp⟩,TR]
end
theorem lI:∀{l:List PV},fX l=true↔∀x∈l,PV.kl x=true
 | []=>by simp
 | x::l=>by rw [fX,Av,lI (l:=l)];simp
theorem lJ {n:Nat}:∀{l:List PV},(∀x∈l,PV.iE x<=n)->eJ l<=n
 | [],_=>by simp
 | x::l,h=>by
  have h1:=h x (.head _);have h2:=lJ (l:=l) λy hy=>h y (.tail _ hy);rw [eJ];omega
structure EV where
 P:f8
 w:lc
 K:Ab
 mg:Str->Option bm
 base:lw
structure DF where
 x:Str
 s:ul
 ps:List Str
 k:Nat
 sp:Ab->Sp
abbrev DF.C (d:DF) (v:EV):=SQ v.P v.w v.K v.mg v.base d.x d.k d.ps (d.sp v.K)
structure DI (v:EV) (d:DF) where
 f:dL
 fd:sw
 fn:PB v.K d.x d.x d.s f fd
 bi:Binds v.K fd d.ps []
 at':v.mg d.x=ap (.ref f)
abbrev DI.O {v:EV}{d:DF} (D:DI v d):Prop:=gj v.P v.w v.K v.mg v.base mr d.k D.f D.fd d.ps (d.sp v.K)
def DI.c {v:EV}{d:DF} (D:DI v d) (h:D.O):d.C v:=⟨D.f,D.fd,h,D.bi,D.fn.kp,D.at'⟩
def DI.cN {v:EV}{d:DF}{k:Nat}{sp:Sp} (D:DI v d) (h:gj v.P v.w v.K v.mg v.base mr k D.f D.fd d.ps sp):SQ v.P v.w v.K v.mg v.base d.x k d.ps sp:=⟨D.f,D.fd,h,D.bi,D.fn.kp,D.at'⟩
def DI.cA {v:EV}{d:DF} (D:DI v d) (h:D.O):Xc v.P v.w v.K v.mg v.base D.f d.k d.ps (d.sp v.K):=⟨D.fd,h,D.bi,D.fn.kp⟩
structure DX (K:Ab) (x:Str) (st:ul):Prop where
 ex:∃f fd,AG K ev x=ap (ap (.ref f))/\PB K x x st f fd
def dx {K:Ab}{x:Str}{st:ul}{f:dL}{oc:bm}{od an:Option dL}{Nc:Array (Option bm)}{kV È pm cQ ct:bm} (a:AG K ev x=ap (ap (.ref f))) (l:K.lookup f=ap ⟨oc,od,.func (BR x x (gI st) (bx st) (ag st) .none kV È pm an cQ ct),Nc⟩)
  (c:DY K cQ x=true) (k:CC K (.ref f)=true):DX K x st:=⟨f,_,a,Wk l c k⟩
def fi {N P:List Str}{sc:nw} (h1:sc.kind=.function:=by rfl) (h2:sc.isCoroutine=false:=by rfl) (h3:sc.isGenerator=false:=by rfl) (h4:N.Nodup:=by decide +kernel) (h5:N.take P.length=P:=by rfl) (h6:∀x∈P,sc.names.lookup x=ap .local\/sc.names.lookup x=ap .cell:=by decide +kernel) (h7:∀y∈sc.names,y.2≠.free:=by decide +kernel):ar N P sc:=⟨h1,h2,h3,h4,h5,h6,h7⟩
def lcs {Xs:nw}{N:List Str}{sc:nw}{N':List Str}{ix:List (Option Nat)} (h1:sc.kind=.function:=by rfl) (h2:∀y∈sc.names,y.2≠.cell:=by decide +kernel) (h3:∀y∈sc.names,y.2=.local->sc.names.lookup y.1=ap .local:=by decide +kernel) (h4:∀y∈sc.names,y.2=.free->(Xs.names.lookup y.1=ap .cell\/Xs.names.lookup y.1=ap .free):=by decide +kernel) (h5:N'.Nodup:=by decide +kernel) (h6:ix.length=N'.length:=by rfl)
  (h7:((ix.zip N').all λp=>match p.1 with | none=>true | some j=>decide (N[j]?=ap p.2)&&decide (sc.names.lookup p.2=ap .free))=true:=by decide +kernel):aG Xs N sc N' ix:=⟨h1,h2,h3,h4,h5,h6,h7⟩
abbrev nu (l:List (Str×BT)):nw:={kind:=.function,names:=(B6 ".0",.local)::l,isGenerator:=false,isCoroutine:=false,more:=[]}
abbrev lo:BT:=.local
abbrev gi:BT:=.globalImplicit
abbrev fr:BT:=.free
section
variable {v:EV}{x:Str}{st:ul}{ps N:List Str}{k n:Nat}{ks:List AK}
def Ze {m:PF PV n} (D:DI v ⟨x,st,ps,k+1,λK=>eF K ks (cv n m)⟩) (S:ar N ps (ag st)) (Ã:∀l:List PV,l.length=n->∀(cQ:bm) (A:kw) (outer:List Env) (s:ce) (H:Hp) (E:XK),da k (A.deeper (ut x (ag st) s.heap.objs.size D.f cQ))->SF (jJ mr v.P v.w v.K v.mg v.base N x (ag st) D.f cQ A outer s H E).yA v.K false (jL ks l N.length) (bx st) (cv n m l) .rt)
  (qo:ks.length=ps.length:=by rfl) (one:jN ks:=by repeat' first | exact dD | exact aH (n:=0) | exact aH (n:=1) | exact aH (n:=2) | exact aH (n:=3) | exact aH (n:=4) | exact aH (n:=5) | exact aH (n:=6) | apply gk | apply lh):D.O:=fnV D.fn S qo one Ã
def mkL {m:PF (List PV) n} (D:DI v ⟨x,st,ps,k+1,λK=>gs K ks (cv n m)⟩) (S:ar N ps (ag st)) (Ã:∀l:List PV,l.length=n->∀(cQ:bm) (A:kw) (outer:List Env) (s:ce) (H:Hp) (E:XK),da k (A.deeper (ut x (ag st) s.heap.objs.size D.f cQ))->SF (jJ mr v.P v.w v.K v.mg v.base N x (ag st) D.f cQ A outer s H E).yA v.K false (jL ks l N.length) (bx st) (cv n m l) .rl)
  (qo:ks.length=ps.length:=by rfl) (one:jN ks:=by repeat' first | exact dD | exact aH (n:=0) | exact aH (n:=1) | exact aH (n:=2) | exact aH (n:=3) | exact aH (n:=4) | exact aH (n:=5) | exact aH (n:=6) | apply gk | apply lh):D.O:=fnL D.fn S qo one Ã
def Zd {m:W PV} (D:DI v ⟨x,st,ps,k+1,λK=>eF K ks (cv 0 m)⟩) (S:ar N ps (ag st)) (Ã:∀(cQ:bm) (A:kw) (outer:List Env) (s:ce) (H:Hp) (E:XK),da k (A.deeper (ut x (ag st) s.heap.objs.size D.f cQ))->SF (jJ mr v.P v.w v.K v.mg v.base N x (ag st) D.f cQ A outer s H E).yA v.K false (jL ks [] N.length) (bx st) (m) .rt)
  (qo:ks.length=ps.length:=by rfl) (one:jN ks:=by repeat' first | exact dD | exact aH (n:=0) | exact aH (n:=1) | exact aH (n:=2) | exact aH (n:=3) | exact aH (n:=4) | exact aH (n:=5) | exact aH (n:=6) | apply gk | apply lh):D.O:=Ze (n:=0) (m:=m) D S (λl hl=>match l,hl with | [],_=>Ã) qo one
def mx {m:PV->W PV} (D:DI v ⟨x,st,ps,k+1,λK=>eF K ks (cv 1 m)⟩) (S:ar N ps (ag st)) (Ã:∀(x0:PV) (cQ:bm) (A:kw) (outer:List Env) (s:ce) (H:Hp) (E:XK),da k (A.deeper (ut x (ag st) s.heap.objs.size D.f cQ))->SF (jJ mr v.P v.w v.K v.mg v.base N x (ag st) D.f cQ A outer s H E).yA v.K false (jL ks [x0] N.length) (bx st) (m x0) .rt)
  (qo:ks.length=ps.length:=by rfl) (one:jN ks:=by repeat' first | exact dD | exact aH (n:=0) | exact aH (n:=1) | exact aH (n:=2) | exact aH (n:=3) | exact aH (n:=4) | exact aH (n:=5) | exact aH (n:=6) | apply gk | apply lh):D.O:=Ze (n:=1) (m:=m) D S (λl hl=>match l,hl with | [x0],_=>Ã x0) qo one
def pd {m:PV->PV->W PV} (D:DI v ⟨x,st,ps,k+1,λK=>eF K ks (cv 2 m)⟩) (S:ar N ps (ag st)) (Ã:∀(x0:PV) (x1:PV) (cQ:bm) (A:kw) (outer:List Env) (s:ce) (H:Hp) (E:XK),da k (A.deeper (ut x (ag st) s.heap.objs.size D.f cQ))->SF (jJ mr v.P v.w v.K v.mg v.base N x (ag st) D.f cQ A outer s H E).yA v.K false (jL ks [x0,x1] N.length) (bx st) (m x0 x1) .rt)
  (qo:ks.length=ps.length:=by rfl) (one:jN ks:=by repeat' first | exact dD | exact aH (n:=0) | exact aH (n:=1) | exact aH (n:=2) | exact aH (n:=3) | exact aH (n:=4) | exact aH (n:=5) | exact aH (n:=6) | apply gk | apply lh):D.O:=Ze (n:=2) (m:=m) D S (λl hl=>match l,hl with | [x0,x1],_=>Ã x0 x1) qo one
def Kr {m:PV->PV->PV->W PV} (D:DI v ⟨x,st,ps,k+1,λK=>eF K ks (cv 3 m)⟩) (S:ar N ps (ag st)) (Ã:∀(x0:PV) (x1:PV) (x2:PV) (cQ:bm) (A:kw) (outer:List Env) (s:ce) (H:Hp) (E:XK),da k (A.deeper (ut x (ag st) s.heap.objs.size D.f cQ))->SF (jJ mr v.P v.w v.K v.mg v.base N x (ag st) D.f cQ A outer s H E).yA v.K false (jL ks [x0,x1,x2] N.length) (bx st) (m x0 x1 x2) .rt)
  (qo:ks.length=ps.length:=by rfl) (one:jN ks:=by repeat' first | exact dD | exact aH (n:=0) | exact aH (n:=1) | exact aH (n:=2) | exact aH (n:=3) | exact aH (n:=4) | exact aH (n:=5) | exact aH (n:=6) | apply gk | apply lh):D.O:=Ze (n:=3) (m:=m) D S (λl hl=>match l,hl with | [x0,x1,x2],_=>Ã x0 x1 x2) qo one
def Zc {m:PV->PV->PV->PV->PV->W PV} (D:DI v ⟨x,st,ps,k+1,λK=>eF K ks (cv 5 m)⟩) (S:ar N ps (ag st)) (Ã:∀(x0:PV) (x1:PV) (x2:PV) (x3:PV) (x4:PV) (cQ:bm) (A:kw) (outer:List Env) (s:ce) (H:Hp) (E:XK),da k (A.deeper (ut x (ag st) s.heap.objs.size D.f cQ))->SF (jJ mr v.P v.w v.K v.mg v.base N x (ag st) D.f cQ A outer s H E).yA v.K false (jL ks [x0,x1,x2,x3,x4] N.length) (bx st) (m x0 x1 x2 x3 x4) .rt)
  (qo:ks.length=ps.length:=by rfl) (one:jN ks:=by repeat' first | exact dD | exact aH (n:=0) | exact aH (n:=1) | exact aH (n:=2) | exact aH (n:=3) | exact aH (n:=4) | exact aH (n:=5) | exact aH (n:=6) | apply gk | apply lh):D.O:=Ze (n:=5) (m:=m) D S (λl hl=>match l,hl with | [x0,x1,x2,x3,x4],_=>Ã x0 x1 x2 x3 x4) qo one
def Vw {m:PV->W (List PV)} (D:DI v ⟨x,st,ps,k+1,λK=>gs K ks (cv 1 m)⟩) (S:ar N ps (ag st)) (Ã:∀(x0:PV) (cQ:bm) (A:kw) (outer:List Env) (s:ce) (H:Hp) (E:XK),da k (A.deeper (ut x (ag st) s.heap.objs.size D.f cQ))->SF (jJ mr v.P v.w v.K v.mg v.base N x (ag st) D.f cQ A outer s H E).yA v.K false (jL ks [x0] N.length) (bx st) (m x0) .rl)
  (qo:ks.length=ps.length:=by rfl) (one:jN ks:=by repeat' first | exact dD | exact aH (n:=0) | exact aH (n:=1) | exact aH (n:=2) | exact aH (n:=3) | exact aH (n:=4) | exact aH (n:=5) | exact aH (n:=6) | apply gk | apply lh):D.O:=mkL (n:=1) (m:=m) D S (λl hl=>match l,hl with | [x0],_=>Ã x0) qo one
def Ks {m:PV->PV->W (List PV)} (D:DI v ⟨x,st,ps,k+1,λK=>gs K ks (cv 2 m)⟩) (S:ar N ps (ag st)) (Ã:∀(x0:PV) (x1:PV) (cQ:bm) (A:kw) (outer:List Env) (s:ce) (H:Hp) (E:XK),da k (A.deeper (ut x (ag st) s.heap.objs.size D.f cQ))->SF (jJ mr v.P v.w v.K v.mg v.base N x (ag st) D.f cQ A outer s H E).yA v.K false (jL ks [x0,x1] N.length) (bx st) (m x0 x1) .rl)
  (qo:ks.length=ps.length:=by rfl) (one:jN ks:=by repeat' first | exact dD | exact aH (n:=0) | exact aH (n:=1) | exact aH (n:=2) | exact aH (n:=3) | exact aH (n:=4) | exact aH (n:=5) | exact aH (n:=6) | apply gk | apply lh):D.O:=mkL (n:=2) (m:=m) D S (λl hl=>match l,hl with | [x0,x1],_=>Ã x0 x1) qo one
def Zf {m:PV->PV->PV->W (List PV)} (D:DI v ⟨x,st,ps,k+1,λK=>gs K ks (cv 3 m)⟩) (S:ar N ps (ag st)) (Ã:∀(x0:PV) (x1:PV) (x2:PV) (cQ:bm) (A:kw) (outer:List Env) (s:ce) (H:Hp) (E:XK),da k (A.deeper (ut x (ag st) s.heap.objs.size D.f cQ))->SF (jJ mr v.P v.w v.K v.mg v.base N x (ag st) D.f cQ A outer s H E).yA v.K false (jL ks [x0,x1,x2] N.length) (bx st) (m x0 x1 x2) .rl)
  (qo:ks.length=ps.length:=by rfl) (one:jN ks:=by repeat' first | exact dD | exact aH (n:=0) | exact aH (n:=1) | exact aH (n:=2) | exact aH (n:=3) | exact aH (n:=4) | exact aH (n:=5) | exact aH (n:=6) | apply gk | apply lh):D.O:=mkL (n:=3) (m:=m) D S (λl hl=>match l,hl with | [x0,x1,x2],_=>Ã x0 x1 x2) qo one
def acL {m:PV->PV->PV->PV->PV->W (List PV)} (D:DI v ⟨x,st,ps,k+1,λK=>gs K ks (cv 5 m)⟩) (S:ar N ps (ag st)) (Ã:∀(x0:PV) (x1:PV) (x2:PV) (x3:PV) (x4:PV) (cQ:bm) (A:kw) (outer:List Env) (s:ce) (H:Hp) (E:XK),da k (A.deeper (ut x (ag st) s.heap.objs.size D.f cQ))->SF (jJ mr v.P v.w v.K v.mg v.base N x (ag st) D.f cQ A outer s H E).yA v.K false (jL ks [x0,x1,x2,x3,x4] N.length) (bx st) (m x0 x1 x2 x3 x4) .rl)
  (qo:ks.length=ps.length:=by rfl) (one:jN ks:=by repeat' first | exact dD | exact aH (n:=0) | exact aH (n:=1) | exact aH (n:=2) | exact aH (n:=3) | exact aH (n:=4) | exact aH (n:=5) | exact aH (n:=6) | apply gk | apply lh):D.O:=mkL (n:=5) (m:=m) D S (λl hl=>match l,hl with | [x0,x1,x2,x3,x4],_=>Ã x0 x1 x2 x3 x4) qo one
end
section
variable {X:Cx}{K:Ab}{fs:bh}{x:Str}{k k':Nat}{ps:List Str}{ks:List AK}{e:ga}{es:List ga}{W':W PV}{WL:W (List PV)}{pos p:Pos}
def eC {m:List PV->W PV}{B:(List PV->W PV)->W PV} (G:SQ X.prog X.w X.K X.mg X.base x k ps (eF K ks m)) (hr:da k' X.A) (ha:AF X K fs (e::es) ks B) (hk:k<=k':=by first | exact Di rfl | exact Ao _ | omega) (hg:Gl X x:=by rfl) (hW:W'=B m:=by rfl) (n8:(x==("__debug__":Str))=false:=by decide)
  (he:ci (e::es) X.env=(false,lm e X.env)::ci es X.env:=by rfl) (dR:(mo pos (ci es X.env)).any (·.1)=false:=by rfl):EF X K fs (.Call (.Name x p) (e::es) [] pos) W':=Sd G hr hk hg ha hW n8 he dR
def lC {m:List PV->W (List PV)}{B:(List PV->W (List PV))->W (List PV)} (G:SQ X.prog X.w X.K X.mg X.base x k ps (gs K ks m)) (hr:da k' X.A) (ha:AF X K fs (e::es) ks B) (hk:k<=k':=by first | exact Di rfl | exact Ao _ | omega) (hg:Gl X x:=by rfl) (hW:WL=B m:=by rfl) (n8:(x==("__debug__":Str))=false:=by decide)
  (he:ci (e::es) X.env=(false,lm e X.env)::ci es X.env:=by rfl) (dR:(mo pos (ci es X.env)).any (·.1)=false:=by rfl):LF X K fs (.Call (.Name x p) (e::es) [] pos) WL:=Rk G hr hk hg ha hW n8 he dR
def dQ (i:Nat) (hN:X.N.Nodup) (hi:X.N[i]?=ap x:=by rfl) (hx:Loc X.env.scope x:=by first | exact .inl rfl | exact .inr rfl) (hf:X.fn x=true\/X.env.scope.names.lookup x=ap .local:=by first | exact .inl rfl | exact .inr rfl | assumption):PG X (.Name x pos) (dJ i):=QE hN hi hx hf
variable {T:Type}{out:T->End}{b:Bool}{rest:List ul}{y:Str}{p':Pos}
def sv (i:Nat) {we:W PV}{k:PV->W T} (hN:X.N.Nodup) (he:EF X K fs e we) (hr:∀v,SF X K b (fs.set i (ap (.val v))) rest (k v) out) (hi:X.N[i]?=ap y:=by rfl) (hx:Loc X.env.scope y:=by first | exact .inl rfl | exact .inr rfl) (hs:o0 e (ap (.Name y p')) pos.line X.env=pure false:=by rfl)
  (hf:X.fn y=true\/X.env.scope.names.lookup y=ap .local:=by first | exact .inl rfl | exact .inr rfl | assumption):SF X K b fs (.Assign [.Name y p'] e pos::rest) (.bind we k) out:=SF.set hN hi hx he hr hs hf
def sl (i:Nat) {wl:W (List PV)}{k:List PV->W T} (hN:X.N.Nodup) (he:LF X K fs e wl) (hr:∀l,SF X K b (fs.set i (ap (.ol bv l))) rest (k l) out) (hi:X.N[i]?=ap y:=by rfl) (hx:Loc X.env.scope y:=by first | exact .inl rfl | exact .inr rfl) (hs:o0 e (ap (.Name y p')) pos.line X.env=pure false:=by rfl)
  (hf:X.fn y=true\/X.env.scope.names.lookup y=ap .local:=by first | exact .inl rfl | exact .inr rfl | assumption):SF X K b fs (.Assign [.Name y p'] e pos::rest) (.bind wl k) out:=SF.acv hN hi hx he hr hs hf
end
def us1 {P:List bm->Prop} (h:∀a,P [a]):∀us:List bm,us.length=1->P us
 | [_],_=>h _
def us2 {P:List bm->Prop} (h:∀a b,P [a,b]):∀us:List bm,us.length=2->P us
 | a::_,e=>us1 (P:=λl=>P (a::l)) (h _) _ (Fy.inj e)
def us3 {P:List bm->Prop} (h:∀a b c,P [a,b,c]):∀us:List bm,us.length=3->P us
 | a::_,e=>us2 (P:=λl=>P (a::l)) (h _) _ (Fy.inj e)
def us4 {P:List bm->Prop} (h:∀a b c d,P [a,b,c,d]):∀us:List bm,us.length=4->P us
 | a::_,e=>us3 (P:=λl=>P (a::l)) (h _) _ (Fy.inj e)
def us5 {P:List bm->Prop} (h:∀a b c d e,P [a,b,c,d,e]):∀us:List bm,us.length=5->P us
 | a::_,e=>us4 (P:=λl=>P (a::l)) (h _) _ (Fy.inj e)
def us6 {P:List bm->Prop} (h:∀a b c d e f,P [a,b,c,d,e,f]):∀us:List bm,us.length=6->P us
 | a::_,e=>us5 (P:=λl=>P (a::l)) (h _) _ (Fy.inj e)
def DX.mk2 {v:EV}{h:lw}{d:DF} (D:DX v.K d.x d.s) (X:v.K.In h) (G:h.Ns ev v.mg)
  (hb:∀(kV È pm:bm) (an:Option dL) (cQ ct:bm) (us:List bm),us.length=d.ps.length->bindArgs (BR d.x d.x (gI d.s) (bx d.s) (ag d.s) .none kV È pm an cQ ct) ⟨us,[]⟩=pure (d.ps.zip us):=by
   first
    | exact λ_ _ _ _ _ _=>us1 λ_=>rfl
    | exact λ_ _ _ _ _ _=>us2 λ_ _=>rfl
    | exact λ_ _ _ _ _ _=>us3 λ_ _ _=>rfl
    | exact λ_ _ _ _ _ _=>us4 λ_ _ _ _=>rfl
    | exact λ_ _ _ _ _ _=>us5 λ_ _ _ _ _=>rfl
    | exact λ_ _ _ _ _ _=>us6 λ_ _ _ _ _ _=>rfl
    | exact λ_ _ _ _ _ _=>us7 λ_ _ _ _ _ _ _=>rfl
    | exact λ_ _ _ _ _ _=>us8 λ_ _ _ _ _ _ _ _=>rfl):Nonempty (DI v d):=by
 obtain⟨f,fd,a,F⟩:=D.ex;exact⟨⟨f,fd,F,F.binds hb,BH X G a⟩⟩
def DX.go {v:EV}{h:lw}{d:DF} (D:DX v.K d.x d.s) (X:v.K.In h) (G:h.Ns ev v.mg) {P:Prop} (k:∀D:DI v d,D.O) (r:d.C v->P)
  (hb:∀(kV È pm:bm) (an:Option dL) (cQ ct:bm) (us:List bm),us.length=d.ps.length->bindArgs (BR d.x d.x (gI d.s) (bx d.s) (ag d.s) .none kV È pm an cQ ct) ⟨us,[]⟩=pure (d.ps.zip us):=by
   first
    | exact λ_ _ _ _ _ _=>us1 λ_=>rfl
    | exact λ_ _ _ _ _ _=>us2 λ_ _=>rfl
    | exact λ_ _ _ _ _ _=>us3 λ_ _ _=>rfl
    | exact λ_ _ _ _ _ _=>us4 λ_ _ _ _=>rfl
    | exact λ_ _ _ _ _ _=>us5 λ_ _ _ _ _=>rfl
    | exact λ_ _ _ _ _ _=>us6 λ_ _ _ _ _ _=>rfl
    | exact λ_ _ _ _ _ _=>us7 λ_ _ _ _ _ _ _=>rfl
    | exact λ_ _ _ _ _ _=>us8 λ_ _ _ _ _ _ _ _=>rfl):P:=by
 obtain⟨D⟩:=D.mk2 X G hb;exact r (D.c (k D))
def IL (K:Ab):Sp:=λvs H Q _=>∃(a:dL) (ns:List Int),vs=[.ref a]/\SJ H/\dq K H a (ns.map V.int)/\ns.length<=63/\∀H',Q (.bl true) H'
def Rh {K:Ab}{m:PV->W PV} (ok:∀ns:List Int,ns.length<=63->(m (.cl (ns.map PV.int))).run (·=.bl true)):∀vs H Q E,IL K vs H Q E->eF K [.v] (cv 1 m) vs H Q E:=λvs H Q E ⟨a,ns,e,hO,hS,hl,q⟩=>by
 subst e;have fz:T9 K H a (ns.map V.int):=by
  rcases hS with (h | ⟨o,h⟩) | h
  ·rcases hO a with z | ⟨o,xs,z⟩
   ·rw [h] at z;cases z
   ·rw [h] at z;cases z
  ·exact .inl ⟨o,h⟩
  ·exact .inr h
 refine⟨[.cl (ns.map PV.int)],.v (.cl fz (n6 _ _ ns)) .nil,(m (.cl (ns.map PV.int))).mono (λv e u H' _ r=>?_) (ok ns hl)⟩;subst e;cases r;exact q H'
structure aaN (K:Ab) (mg:Str->Option bm) (d:DF):Prop where
 f:∀v:EV,v.K=K->v.mg=mg->∀D:DI v d,D.O
def mkAll {l:EO}{w:lc}{K:Ab}{h:lw}{mg:Str->Option bm}{fa:dL}{st:ul}{m:PV->W PV}{k:Nat} (ok:∀ns:List Int,ns.length<=63->(m (.cl (ns.map PV.int))).run (·=.bl true)) (X:K.In h) (G:h.Ns ev mg) (hfa:mg "law"=ap (.ref fa)) (aao:DX K "law" st)
  (hb:∀(kV È pm:bm) (an:Option dL) (cQ ct:bm) (us:List bm),us.length=1->bindArgs (BR "law" "law" (gI st) (bx st) (ag st) .none kV È pm an cQ ct) ⟨us,[]⟩=pure (([("_law_script":Str)]:List Str).zip us))
  (F:aaN K mg ⟨"law",st,["_law_script"],k,λK=>eF K [.v] (cv 1 m)⟩) :
  ∃fd:sw,(∀(s:ce) (v:bm),BindsTo s fd ⟨[v],[]⟩ [("_law_script",v)])/\∀base:lw,K.In base->base.Ns ev mg->gj l.prog w K mg base mr k fa fd ["_law_script"] (IL K):=by
 obtain⟨f,fd,a,F'⟩:=aao.ex;have e:=hfa.symm.trans (BH X G a);cases e;have fb:=F'.binds (ps:=["_law_script"]) hb;obtain⟨oc,od,kV,È,pm,an,cQ,ct,Nc,rfl,_⟩:=id F'.ex;exact⟨BR "law" "law" (gI st) (bx st) (ag st) .none kV È pm an cQ ct,λs v=>.of_eq (hb kV È pm an cQ ct [v] rfl),λbase _ _=>(F.f ⟨l.prog,w,K,mg,base⟩ rfl rfl ⟨_,_,F',fb,hfa⟩).imp (Rh ok)⟩
end FL
namespace My
open PySem PySem.Spec PyProof.Rows L2 PL FL
def kc (jm:PV):W (List PV):=
 am (bd []) λnh=>
 am (am (bd jm) λx3=>bd [x3]) λfj=>
 am (mM (λs4=>(am (bd s4.2) λl5=>bd (!l5.isEmpty))) (λs4=>(
 am (wN s4.2) λt7=>
 am (bd t7.2) λx9=>am (lR s4.1 x9) λng=>
 c6 (jU (am (am (bd t7.2) (dM .str)) cF)) (
 am (am (bd t7.2) aw) λZn=>am (xI t7.1 Zn) λgT=>
 bd (ng,gT)) (
 bd (ng,t7.1)))) (nh,fj)) λs4=>
 (am (bd s4.1) λZm=>bd Zm.reverse)
def iL (jm:PV):W PV:=
 am (bd []) λjT=>
 am (bd []) λxa=>
 am (am (bd jm) λx3=>kc x3) λl30=>am (dY l30 (jT,xa) λwU s4=>(
 am (am (am (bd wU) (dM .str)) cF) λb=>am (if b=true then (
 am (bd wU) λrq=>am (lR s4.1 rq) λIE=>
 bd (IE,s4.2)) else (
 am (wN s4.2) λt20=>
 am (wN t20.1) λt22=>
 am (am (bd t22.2) λGb=>am (bd t20.2) λuc=>bd (.tup [Gb,uc])) λvR=>am (lR s4.1 vR) λID=>
 bd (ID,t22.1))) λUI=>
 am (b2 mS (am (bd UI.1) qi) (bd (.int 1))) λJV=>am (lR UI.2 JV) λzk=>
 bd (UI.1,zk))) λs4=>
 (am (bd s4.1) oU)
def dw (bG:PV):W PV:=
 (c6 (am (am (bd bG) (dM .str)) cF) (bd (.tup [])) (bd bG))
def ft (jm:PV):W PV:=
 am (am (bd jm) λx2=>iL x2) λjT=>
 am (am (am (bd jT) aw) λl4=>mapW l4 λp5=>(bd .aX)) λyi=>
 am (am (am (bd jT) aw) λl6=>.fF (l6.length<=sizeLine) (.ret (dZ 0 l6))) λl19=>am (dY l19 yi λp8 s7=>am (qE p8) λt9=>(
 am (am (am (bd t9.2) λkR=>dw kR) aw) λNF=>am (dY NF s7 λJx qc=>(
 am (bd t9.1) λjP=>am (bd Jx) λkI=>am (gY qc kI jP) λFV=>
 bd FV)) λqc=>
 bd qc)) λs7=>
 (am (bd s7) oU)
def eG (fy:PV) (lE:PV):W PV:=
 (c6 (am (am (aZ (am (bd fy) aw) (bd lE)) (dM .str)) cF) (aZ (am (bd fy) aw) (bd lE)) (bd lE))
def hE (dN:PV):W (List PV):=
 am (am (bd dN) λx2=>ft x2) λd9=>
 am (am (am (bd d9) aw) λl4=>mapW l4 λp5=>(bd (.tup []))) λme=>
 am (am (b2 mS (c1 cV (bd d9)) (bd (.int 1))) λx6=>am (am (bd (.int 1)) mV) λx7=>am (am (bd (.int 1)) mV) λx8=>IQ x6 x7 x8) λNF=>am (dY NF me λlB s9=>(
 am (c6 (t2 Kp (aZ (am (bd d9) aw) (bd lB)) (bd .aX)) (bd (.tup [])) (aZ (bd s9) (aZ (am (bd d9) aw) (bd lB)))) λFX=>
 am (w2 addW (am (bd lB) λmw=>bd (.tup [mw])) (bd FX)) λjP=>am (bd lB) λkI=>am (gY s9 kI jP) λzp=>
 bd zp)) λs9=>
 bd s9
def eS (xf:PV) (lE:PV):W PV:=
 (am (am (am (c1 cV (bd xf)) jq) λl2=>kQ l2 λp3=>G6 (uj (RB true (bd p3) (am (aZ (am (bd xf) aw) (bd lE)) aw)) (RB true (bd lE) (am (aZ (am (bd xf) aw) (bd p3)) aw))) (bd p3)) oU)
def lq (dN:PV):W PV:=
 am (am (bd dN) λx2=>iL x2) λfU=>
 am (am (bd dN) λx4=>hE x4) λme=>
 (am (am (am (c1 cV (bd fU)) jq) λl6=>mapW l6 λp7=>(am (am (bd fU) λx8=>am (bd p7) λx9=>eG x8 x9) λkR=>am (bd (.int 0)) λrA=>am (am (aZ (am (bd fU) aw) (bd p7)) λuf=>dw uf) λmw=>am (am (bd (.cl me)) λjP=>am (bd p7) λkI=>eS jP kI) λGd=>bd (.tup [kR,rA,mw,Gd]))) oU)
def hV (fv:PV) (k_:PV):W (List PV):=
 am (bd (.int 0)) λO1=>
 am (t2 oLt (bd k_) (c1 cV (bd fv))) λb=>am (if b=true then (
 am (c1 O8 (aZ (am (bd fv) aw) (bd k_))) λO0=>
 bd O0) else (
 bd O1)) λs3=>
 am (b2 o9 (b2 oMod (bd s3) (b2 o9 (b2 za (bd (.int 10)) (bd (.int 60))) (b2 za (bd (.int 10)) (bd (.int 60))))) (c1 qA (b2 oGe (bd s3) (b2 za (bd (.int 10)) (bd (.int 18)))))) λou=>
 (am (bd ou) λx6=>am (b2 oMod (w2 addW (w2 addW (bd s3) (b2 o9 (bd (.int 104729)) (bd k_))) (bd (.int 7))) (bd (.int 2305843009213693951))) λx7=>am (bd (.int 0)) λx8=>bd [x6,x7,x8])
def fR (dC:List PV) (jy:PV):W (PV×List PV):=
 c6 (t2 Y7 (aZ (bd dC) (bd (.int 0))) (bd (.int 0))) (
 am (b2 oMod (aZ (bd dC) (bd (.int 0))) (bd jy)) λJN=>
 am (b2 oDiv (aZ (bd dC) (bd (.int 0))) (bd jy)) λx3=>am (bd (.int 0)) λx4=>am (gY dC x4 x3) λmP=>
 am (bd JN) λx5=>bd (x5,mP)) (
 am (bd (.int 2)) λx6=>am (VX dC x6) λx7=>am (bd (.int 1)) λx8=>am (of2 Tt x7 x8) λkR=>am (gY dC x6 kR) λgZ=>
 am (b2 oMod (w2 addW (w2 addW (b2 o9 (aZ (bd gZ) (bd (.int 1))) (bd (.int 69069))) (b2 o9 (bd (.int 9973)) (aZ (bd gZ) (bd (.int 2))))) (bd (.int 5))) (bd (.int 2305843009213693921))) λsi=>
 am (b2 oMod (b2 o9 (bd si) (w2 addW (w2 addW (b2 oMod (bd si) (bd (.int 999983))) (b2 o9 (bd (.int 2)) (aZ (bd gZ) (bd (.int 2))))) (bd (.int 3)))) (bd (.int 2305843009213693907))) λmw=>am (bd (.int 1)) λjP=>am (gY gZ jP mw) λiI=>
 am (b2 oMod (b2 oDiv (aZ (bd iI) (bd (.int 1))) (bd (.int 65537))) (bd jy)) λkI=>bd (kI,iI))
def dE (jy:PV):W (List PV):=
 am (bd (.str "abcdefghijklmnopqrstuvwxyz")) λph=>
 am (am (bd (.int 26)) λx3=>a8 x3) λqY=>
 am (aZ (am (bd (.int 1)) λx5=>am (bd (.int 3)) λx6=>am (bd (.int 5)) λx7=>am (bd (.int 7)) λx8=>am (bd (.int 9)) λx9=>am (bd (.int 11)) λkR=>bd [x5,x6,x7,x8,x9,kR]) (am (bd (.int 6)) λrA=>a8 rA)) λGn=>
 am (aZ (am (bd (.str "")) λmw=>am (bd (.str "k")) λjP=>bd [mw,jP]) (am (bd (.int 2)) λkI=>a8 kI)) λwq=>
 am (am (bd (.str "")) λrz=>am (bd (.str "q")) λrq=>am (bd (.str "zz")) λrm=>am (bd (.str "abcdef")) λue=>bd [rz,rq,rm,ue]) λxM=>
 am (bd []) λsZ=>
 am (am (bd jy) jq) λVH=>am (dY VH sZ λVS UH=>(
 am (b2 Ni (bd ph) (b2 oMod (w2 addW (bd qY) (b2 o9 (bd Gn) (bd VS))) (bd (.int 26)))) λve=>
 am (w2 addW (w2 addW (bd wq) (bd ve)) (aZ (am (bd (.cl xM)) aw) (b2 oMod (w2 addW (bd qY) (bd VS)) (bd (.int 4))))) λX0=>am (lR UH X0) λzI=>
 bd zI)) λUH=>
 bd UH
def hJ (az:PV):W PV:=
 (qB (am (bd az) (dM .int)) (am (am (bd az) (dM .bool)) Q5))
def fM (az:PV) (jy:PV):W PV:=
 (qB (am (bd az) (dM .tup)) (b2 dh (c1 cV (bd az)) (bd jy)))
def jA (az:PV):W PV:=
 c6 (J5 (jU (am (am (bd az) (dM .str)) cF)) (jU (chT oLe oLe (bd (.int 1)) (c1 cV (bd az)) (bd (.int 8))))) (
 (bd (.bl false))) (
 (am (am (am (bd az) GA) λl1=>mapW l1 λp2=>(b2 Q2 (bd p2) (bd (.str "abcdefghijklmnopqrstuvwxyz")))) uN))
def hU (az:PV) (GJ:PV):W PV:=
 am (am (bd az) λx3=>bd [x3]) λfj=>
 am (rB (λs4=>(am (bd s4.2) λl5=>bd (!l5.isEmpty))) (λs4=>(
 am (wN s4.2) λt7=>
 c6 (am (am (bd t7.2) λx8=>am (bd (.int 2)) λx9=>fM x8 x9) cF) (
 am (am (bd t7.2) aw) λZn=>am (xI t7.1 Zn) λgT=>
 bd (.go (s4.1,gT))) (
 c6 (J5 (jU (am (am (bd t7.2) λjP=>jA jP) cF)) (uj (am (bd t7.2) λuf=>am (G8 uf) λk13=>bd (qp s4.1 k13)) (jU (am (bd GJ) cF)))) (
 am (bd (.bl false)) λkI=>bd (Lp.out kI)) (
 am (bd (.bl true)) λrz=>am (bd t7.2) λrq=>am (UY s4.1 rq rz) λIP=>
 bd (.go (IP,t7.1)))))) ([],fj)) (F6 (λs4=>
 (bd (.bl true))) id)
def dX (fy:PV) (dP:PV):W (List PV):=
 (am (am (am (bd fy) aw) λl1=>am (am (bd dP) aw) λl2=>ub l1 l2) λl3=>kQ l3 λp4=>am (qE p4) λt5=>G6 (jU (am (am (bd t5.1) (dM .str)) cF)) (bd t5.2))
def bM (Mj:PV):W PV:=
 (aZ (am (bd Mj) aw) (am (c1 cV (bd Mj)) λx1=>a8 x1))
def lu (eE:PV):W PV:=
 am (am (bd eE) aw) λrL=>
 am (am (bd (.int 4)) λx3=>a8 x3) λSW=>
 am (mM (λs4=>(t2 Y7 (am (bd s4) qi) (bd (.int 1)))) (λs4=>(
 am (aZ (am (am (b2 mS (am (bd s4) qi) (bd (.int 1))) λx6=>a8 x6) λx7=>am (b2 mS (am (bd s4) qi) (bd (.int 2))) λx8=>am (bd (.int 0)) λx9=>am (bd (.int 0)) λkR=>bd [x7,x8,x9,kR]) (bd SW)) λnj=>
 am (am (aZ (bd s4) (bd nj)) λuf=>am (aZ (bd s4) (w2 addW (bd nj) (bd (.int 1)))) λmw=>bd (.tup [uf,mw])) λqL=>
 am (uj (t2 dh (bd SW) (bd (.int 3))) (t2 dh (am (bd (.int 2)) λjP=>a8 jP) (bd (.int 0)))) λb=>am (if b=true then (
 am (am (aZ (bd s4) (w2 addW (bd nj) (bd (.int 1)))) λue=>am (aZ (bd s4) (bd nj)) λud=>bd (.tup [ue,ud])) λqK=>
 bd qK) else (
 bd qL)) λMr=>
 am (am (bd Mr) λvS=>bd [vS]) λl24=>am (bd nj) λuc=>am (w2 addW (bd nj) (bd (.int 2))) λvR=>am (Qh s4 uc vR l24) λqG=>
 bd qG)) rL) λs4=>
 (aZ (bd s4) (bd (.int 0)))
def nT:W PV:=
 (am (K2 (am (w2 addW (bd (.int 1)) (am (aZ (am (bd (.int 5)) λx1=>am (bd (.int 8)) λx2=>bd [x1,x2]) (c1 qA (b2 dh (am (bd (.int 8)) λx3=>a8 x3) (bd (.int 0))))) λx4=>a8 x4)) λx5=>dE x5)) λx6=>lu x6)
def bo:Nat->PV->W (List PV)
 | 0,_=>W.fail
 | n+1,cX=>
 c6 (am (am (bd cX) (dM .str)) cF) (
 (am (bd cX) λx1=>bd [x1])) (
 am (am (aZ (am (bd cX) aw) (bd (.int 0))) λx3=>bo n x3) λwI=>
 am (am (bd wI) qi) λsk=>
 am (am (aZ (am (bd cX) aw) (bd (.int 1))) λx5=>bo n x5) λl18=>am (dY l18 wI λyO s6=>(
 am (c6 (am (am (bd yO) (dM .str)) cF) (bd yO) (am (w2 addW (aZ (am (bd yO) aw) (bd (.int 0))) (bd sk)) λx9=>am (w2 addW (aZ (am (bd yO) aw) (bd (.int 1))) (bd sk)) λkR=>bd (.tup [x9,kR]))) λrA=>am (lR s6 rA) λMt=>
 bd Mt)) λs6=>
 (am (bd s6) λZl=>am (am (am (b2 mS (bd sk) (bd (.int 1))) λuf=>am (b2 mS (am (bd s6) qi) (bd (.int 1))) λmw=>bd (.tup [uf,mw])) λjP=>bd [jP]) λZk=>yc Zl Zk))
def eU (bA:PV):W PV:=
 am (am (am (bd (.int 0)) λx2=>bd [x2]) λl3=>am (c1 cV (bd bA)) λx4=>yP l3 x4) λko=>
 am (am (am (am (bd bA) aw) λl6=>.fF (l6.length<=sizeLine) (.ret (dZ 0 l6))) λl7=>kQ l7 λp8=>am (qE p8) λt9=>G6 (jU (am (am (bd t9.2) (dM .str)) cF)) (bd t9.1)) λG4=>
 am (bd (.int 0)) λya=>
 am (mM (λqc=>(am (bd qc.2.1) λZm=>bd (!Zm.isEmpty))) (λqc=>(
 am (am (am (am (bd (.cl qc.2.1)) aw) λl14=>kQ l14 λYX=>G6 (uj (RB true (aZ (am (aZ (am (bd bA) aw) (bd YX)) aw) (bd (.int 0))) (am (bd (.cl qc.2.1)) aw)) (RB true (aZ (am (aZ (am (bd bA) aw) (bd YX)) aw) (bd (.int 1))) (am (bd (.cl qc.2.1)) aw))) (bd YX)) L9) λyQ=>
 am (am (bd (.cl yQ)) λrz=>bM rz) λsP=>
 am (w2 addW (w2 addW (bd qc.2.2) (bd (.int 1))) (am (aZ (am (bd (.int 1)) λrm=>am (bd (.int 3)) λue=>am (bd (.int 13)) λud=>bd [rm,ue,ud]) (am (bd (.int 3)) λyE=>a8 yE)) λvS=>a8 vS)) λxZ=>
 am (bd xZ) λuc=>am (bd sP) λvR=>am (gY qc.1 vR uc) λmJ=>
 am (bd sP) λJV=>am (UL qc.2.1 JV) λJj=>
 bd (mJ,Jj,xZ))) (ko,G4,ya)) λqc=>
 (am (bd qc.1) oU)
def g8 (dN:PV) (dP:PV) (ku:PV):W (List PV):=
 am (am (bd dN) λx2=>ft x2) λd9=>
 am (bd []) λwW=>
 am (am (am (bd ku) aw) λl4=>.fF (l4.length<=sizeLine) (.ret (dZ 0 l4))) λl19=>am (dY l19 wW λp6 s5=>am (qE p6) λt7=>(
 am (am (am (bd dP) aw) λl8=>.fF (l8.length<=sizeLine) (.ret (dZ 0 l8))) λNF=>am (dY NF s5 λXf s9=>am (qE Xf) λYo=>(
 c6 (uj (t2 oLe (bd Yo.2) (bd t7.2)) (J5 (t2 Kp (aZ (am (bd d9) aw) (bd Yo.1)) (bd .aX)) (t2 oLt (bd t7.2) (aZ (am (bd dP) aw) (aZ (am (bd d9) aw) (bd Yo.1)))))) (
 am (am (bd Yo.1) λmw=>am (bd t7.1) λjP=>bd (.tup [mw,jP])) λkI=>am (lR s9 kI) λy7=>
 bd y7) (
 bd s9))) λs9=>
 bd s9)) λs5=>
 bd s5
def jz (fy:PV) (dP:PV) (ku:PV) (nP:PV) (Nb:PV):W PV:=
 am (aZ (am (bd Nb) aw) (bd (.int 0))) λmh=>
 am (aZ (am (bd Nb) aw) (bd (.int 1))) λnU=>
 am (b2 oLt (aZ (am (bd dP) aw) (bd mh)) (aZ (am (bd ku) aw) (bd nU))) λvq=>
 am (c6 (am (bd vq) cF) (am (bd mh) λx5=>bd (.tup [x5])) (am (aZ (am (bd fy) aw) (bd mh)) λx6=>dw x6)) λbelow_4=>
 am (am (am (am (bd below_4) aw) λl8=>mapW l8 λp9=>(dgB (bd nP) (am (bd p9) λkR=>am (b2 mS (bd nU) (bd (.int 1))) λrA=>bd (.tup [kR,rA])))) oU) λIB=>
 am (am (am (am (bd nP) NG) λl13=>kQ l13 λYY=>G6 (uj (t2 dh (aZ (am (bd YY) aw) (bd (.int 1))) (bd nU)) (t2 uq (aZ (am (bd YY) aw) (bd (.int 0))) (bd mh))) (dgB (bd nP) (bd YY))) oU) λvM=>
 (am (am (bd fy) λkI=>am (bd mh) λGd=>eG kI Gd) λrz=>am (bd nU) λrq=>am (bd IB) λrm=>am (bd vM) λue=>bd (.tup [rz,rq,rm,ue]))
def md (dN:PV) (dP:PV):W PV:=
 am (am (bd dN) λx2=>iL x2) λfU=>
 am (am (am (bd (.int 0)) λx4=>bd [x4]) λl7=>am (am (am (bd fU) λx5=>am (bd dP) λx6=>dX x5 x6) wD) λl8=>yc l7 l8) λtT=>
 am (am (bd dN) λkR=>am (bd dP) λrA=>am (bd (.cl tT)) λuf=>g8 kR rA uf) λwV=>
 am (am (am (am (am (bd (.cl wV)) aw) λl14=>.fF (l14.length<=sizeLine) (.ret (dZ 0 l14))) λZl=>mapW Zl λè=>am (qE è) λă=>(am (bd ă.2) λrq=>am (bd ă.1) λrm=>bd (.tup [rq,rm]))) HQ) λrY=>
 (am (am (am (bd (.cl wV)) aw) λl20=>mapW l20 λp21=>(am (bd fU) λyE=>am (bd dP) λvS=>am (bd (.cl tT)) λGb=>am (bd rY) λuc=>am (bd p21) λvR=>jz yE vS Gb uc vR)) oU)
def lZ (az:PV):W PV:=
 (am (bd az) λx1=>am (bd (.bl true)) λx2=>hU x1 x2)
def du (av:PV) (bp:PV):W PV:=
 (aZ (am (aZ (am (bd av) aw) (bd bp)) aw) (bd (.int 2)))
def fP (av:PV) (bp:PV):W PV:=
 (aZ (am (aZ (am (bd av) aw) (bd bp)) aw) (bd (.int 3)))
def jE (av:PV) (bp:PV) (SV:PV):W PV:=
 (qB (b2 dh (am (bd av) λx1=>am (bd bp) λx2=>du x1 x2) (bd (.tup []))) (b2 dh (aZ (am (aZ (am (bd av) aw) (bd bp)) aw) (bd (.int 0))) (bd SV)))
def dz (oS:PV):W PV:=
 (aZ (am (aZ (am (bd oS) aw) (bd (.int 0))) aw) (bd (.int 0)))
def ma (oS:PV):W PV:=
 (aZ (am (aZ (am (bd oS) aw) (bd (.int 0))) aw) (am (bd (.int 1)) mV))
def nS (oS:PV):W PV:=
 (am (am (am (am (bd oS) λx3=>am (am (bd (.int 2)) part) λi1=>am (bd bv) λj2=>iX x3 i1 j2) aw) λl4=>mapW l4 λp5=>(am (bd p5) λx6=>dz x6)) oU)
def fK (aV:PV) (bp:PV):W (List PV):=
 am (am (bd aV) λx2=>am (bd bp) λx3=>du x2 x3) λnC=>
 (c6 (t2 dh (c1 cV (bd nC)) (bd (.int 2))) (am (bd nC) λx4=>am (am (aZ (am (bd nC) aw) (bd (.int 1))) λx5=>am (aZ (am (bd nC) aw) (bd (.int 0))) λx6=>bd (.tup [x5,x6])) λx7=>bd [x4,x7]) (bd []))
def g9 (aV:PV) (bp:PV):W (List PV):=
 am (am (bd aV) λx2=>am (bd bp) λx3=>fP x2 x3) λtS=>
 (am (am (am (bd tS) aw) λl4=>mapW l4 λp5=>(am (bd bp) λx6=>am (bd p5) λx7=>bd (.tup [x6,x7]))) λZm=>am (am (am (bd tS) aw) λl8=>mapW l8 λp9=>(am (bd p9) λkR=>am (bd bp) λrA=>bd (.tup [kR,rA]))) λl13=>yc Zm l13)
def fq (aV:PV) (bG:PV) (bp:PV):W (List PV):=
 c6 (am (am (bd bG) (dM .str)) cF) (
 (c6 (am (am (bd aV) λx1=>am (bd bp) λx2=>am (bd bG) λx3=>jE x1 x2 x3) cF) (am (am (bd (.str "found")) λx4=>am (bd (.tup [])) λx5=>bd (.tup [x4,x5])) λx6=>bd [x6]) (bd []))) (
 am (am (am (bd aV) λx8=>am (bd bp) λx9=>fK x8 x9) λVJ=>mapW VJ λJb=>(am (bd (.str "split")) λuf=>am (bd Jb) λmw=>bd (.tup [uf,mw]))) λIK=>
 am (am (am (bd aV) λkI=>am (bd bp) λGd=>g9 kI Gd) λNF=>mapW NF λp18=>(am (bd (.str "over")) λrm=>am (bd p18) λue=>bd (.tup [rm,ue]))) λJc=>
 (am (am (am (am (am (bd (.str "doubled")) λud=>am (am (bd bp) λyE=>am (bd bp) λvS=>bd (.tup [yE,vS])) λGb=>bd (.tup [ud,Gb])) λuc=>bd [uc]) λl26=>am (am (bd (.cl IK)) GY) λVI=>yc l26 VI) λl28=>am (am (bd (.cl Jc)) GY) λVH=>yc l28 VH) Mg))
def jC (aV:PV) (az:PV):W PV:=
 (qB (am (bd az) λx1=>hJ x1) (chB oLe oLt (bd (.int 0)) (bd az) (c1 cV (bd aV))))
def jD (aV:PV) (az:PV):W PV:=
 c6 (J5 (jU (am (am (bd az) (dM .tup)) cF)) (t2 dh (c1 cV (bd az)) (bd (.int 0)))) (
 (bd (.bl false))) (
 c6 (jU (am (am (am (am (bd az) aw) λl1=>mapW l1 λp2=>(am (bd aV) λx3=>am (bd p2) λx4=>jC x3 x4)) uN) cF)) (
 (bd (.bl false))) (
 (am (am (am (am (bd az) aw) λl8=>am (am (am (bd az) λx7=>am (am (bd (.int 1)) part) λi5=>am (bd bv) λj6=>iX x7 i5 j6) aw) λl9=>ub l8 l9) λVJ=>mapW VJ λJb=>am (qE Jb) λnH=>(RC false (bd nH.2) (am (am (bd aV) λmw=>am (bd nH.1) λjP=>du mw jP) aw))) uN)))
def fN (aV:PV) (bG:PV) (az:PV):W PV:=
 am (c6 (am (am (bd bG) (dM .str)) cF) (bd (.int 2)) (bd (.int 4))) λNq=>
 (qB (am (bd az) λx4=>am (bd Nq) λx5=>fM x4 x5) (qB (am (bd aV) λx2=>am (aZ (am (bd az) aw) (bd (.int 0))) λx3=>jD x2 x3) (am (aZ (am (bd az) aw) (bd (.int 1))) (dM .str))))
def c8 (aV:PV) (uU:PV) (az:PV):W PV:=
 am (am (am (bd uU) aw) λl2=>mapW l2 λp3=>(bd .aX)) λL5=>
 am (bd az) λx5=>am (am (bd (.int 1)) mV) λx6=>am (gY L5 x6 x5) λmO=>
 am (am (b2 mS (c1 cV (bd uU)) (bd (.int 1))) λx7=>am (am (bd (.int 1)) mV) λx8=>am (am (bd (.int 1)) mV) λx9=>IQ x7 x8 x9) λl33=>am (iD l33 mO λlW Qm=>(
 am (aZ (am (bd uU) aw) (bd lW)) λqO=>
 am (aZ (bd Qm) (bd lW)) λvU=>
 c6 (jU (am (am (bd aV) λjP=>am (bd qO) λkI=>am (bd vU) λGd=>fN jP kI Gd) cF)) (
 am (bd .aX) λrz=>bd (Lp.out rz)) (
 am (am (am (am (bd qO) λrq=>dw rq) aw) λl22=>am (am (am (bd vU) λud=>am (am (bd (.int 2)) part) λi19=>am (bd bv) λj20=>iX ud i19 j20) aw) λl23=>ub l22 l23) λl31=>am (dY l31 Qm λp25 UG=>am (qE p25) λĂ=>(
 am (bd Ă.2) λJV=>am (bd Ă.1) λUj=>am (gY UG Uj JV) λIy=>
 bd Iy)) λUG=>
 bd (.go UG)))) (F6 (λQm=>
 (bd (.cl Qm))) id)
def jF (aV:PV) (bG:PV) (oS:PV):W PV:=
 (RC false (am (aZ (am (bd oS) aw) (bd (.int 1))) λx1=>am (am (bd oS) λx2=>nS x2) λx3=>bd (.tup [x1,x3])) (am (bd aV) λx4=>am (bd bG) λx5=>am (am (bd oS) λx6=>ma x6) λx7=>fq x4 x5 x7))
def jB (aV:PV) (Gz:PV) (az:PV):W PV:=
 c6 (jU (am (am (bd Gz) λx1=>lZ x1) cF)) (
 (bd (.bl false))) (
 am (am (bd Gz) λx3=>iL x3) λGp=>
 am (am (bd aV) λx5=>am (bd Gp) λx6=>am (bd az) λx7=>c8 x5 x6 x7) λmO=>
 c6 (J5 (t2 Kp (bd mO) (bd .aX)) (t2 uq (c1 cV (aZ (am (bd az) aw) (bd (.int 0)))) (bd (.int 1)))) (
 (bd (.bl false))) (
 (am (am (am (am (bd Gp) aw) λl8=>am (am (bd mO) aw) λl9=>ub l8 l9) λVJ=>mapW VJ λJb=>am (qE Jb) λnH=>(am (bd aV) λmw=>am (bd nH.1) λjP=>am (bd nH.2) λkI=>jF mw jP kI)) uN)))
def fx (eE:PV):W PV:=
 am (am (bd eE) aw) λrL=>
 am (am (bd (.int 4)) λx3=>a8 x3) λgR=>
 am (mM (λs4=>(t2 Y7 (am (bd s4) qi) (bd (.int 1)))) (λs4=>(
 am (aZ (am (am (b2 mS (am (bd s4) qi) (bd (.int 1))) λx6=>a8 x6) λx7=>am (b2 mS (am (bd s4) qi) (bd (.int 2))) λx8=>am (bd (.int 0)) λx9=>am (bd (.int 0)) λkR=>bd [x7,x8,x9,kR]) (bd gR)) λnj=>
 am (am (aZ (bd s4) (bd nj)) λuf=>am (aZ (bd s4) (w2 addW (bd nj) (bd (.int 1)))) λmw=>bd (.tup [uf,mw])) λqL=>
 am (uj (t2 dh (bd gR) (bd (.int 3))) (t2 dh (am (bd (.int 2)) λjP=>a8 jP) (bd (.int 0)))) λb=>am (if b=true then (
 am (am (aZ (bd s4) (w2 addW (bd nj) (bd (.int 1)))) λue=>am (aZ (bd s4) (bd nj)) λud=>bd (.tup [ue,ud])) λqK=>
 bd qK) else (
 bd qL)) λMr=>
 am (am (bd Mr) λvS=>bd [vS]) λl24=>am (bd nj) λuc=>am (w2 addW (bd nj) (bd (.int 2))) λvR=>am (Qh s4 uc vR l24) λqG=>
 bd qG)) rL) λs4=>
 (aZ (bd s4) (bd (.int 0)))
def eT:W PV:=
 (am (K2 (am (w2 addW (bd (.int 1)) (am (aZ (am (bd (.int 5)) λx1=>am (bd (.int 8)) λx2=>bd [x1,x2]) (c1 qA (b2 dh (am (bd (.int 8)) λx3=>a8 x3) (bd (.int 0))))) λx4=>a8 x4)) λx5=>dE x5)) λx6=>fx x6)
def dF (dB:PV):W PV:=
 am (am (am (bd dB) λx2=>bo 12 x2) λl3=>kQ l3 λp4=>G6 (am (am (bd p4) (dM .str)) cF) (bd p4)) λnA=>
 am (w2 addW (bd (.int 1)) (am (aZ (am (bd (.int 6)) λx6=>am (bd (.int 10)) λx7=>bd [x6,x7]) (c1 qA (b2 dh (am (bd (.int 8)) λx8=>a8 x8) (bd (.int 0))))) λx9=>a8 x9)) λNp=>
 (am (K2 (am (am (bd Np) jq) λZn=>mapW Zn λp12=>(am (bd (.cl nA)) λmw=>bM mw))) λjP=>fx jP)
def cH (dB:PV):W PV:=
 c6 (t2 dh (am (bd (.int 2)) λx1=>a8 x1) (bd (.int 0))) (
 (am (bd dB) λx2=>lq x2)) (
 (am (bd dB) λx3=>am (am (K2 (am (bd dB) λx4=>bo 12 x4)) λx5=>eU x5) λx6=>md x3 x6))
def dG (av:PV) (bp:PV):W (List PV):=
 am (aZ (am (bd av) aw) (bd bp)) λx1=>am (X4 x1) λt3=>
 am (am (am (bd (.str "doubled")) λx5=>am (bd bp) λx6=>am (bd bp) λx7=>bd (.tup [x5,x6,x7])) λx8=>bd [x8]) λxF=>
 am (t2 dh (c1 cV (bd t3.2.2.1)) (bd (.int 2))) λb=>am (if b=true then (
 am (am (am (bd (.str "split")) λud=>am (aZ (am (bd t3.2.2.1) aw) (bd (.int 0))) λyE=>am (aZ (am (bd t3.2.2.1) aw) (bd (.int 1))) λvS=>bd (.tup [ud,yE,vS])) λGb=>am (am (bd (.str "split")) λuc=>am (aZ (am (bd t3.2.2.1) aw) (bd (.int 1))) λvR=>am (aZ (am (bd t3.2.2.1) aw) (bd (.int 0))) λX0=>bd (.tup [uc,vR,X0])) λJV=>bd [Gb,JV]) λVH=>am (xI xF VH) λzJ=>
 bd zJ) else (
 bd xF)) λYx=>
 am (am (bd t3.2.2.2) aw) λl43=>am (dY l43 Yx λju Ql=>(
 am (am (am (bd (.str "over")) λUg=>am (bd bp) λUe=>am (bd ju) λXZ=>bd (.tup [Ug,Ue,XZ])) λXY=>am (am (bd (.str "over")) λXX=>am (bd ju) λx38=>am (bd bp) λx39=>bd (.tup [XX,x38,x39])) λXW=>bd [XY,XW]) λl41=>am (xI Ql l41) λoh=>
 bd oh)) λQl=>
 bd Ql
def cG (av:PV) (bA:PV) (ba:PV) (bG:PV) (bp:PV):W (List PV):=
 am (aZ (am (bd bA) aw) (bd bG)) λkD=>
 c6 (am (am (bd kD) (dM .str)) cF) (
 (am (am (am (bd (.str "found")) λx2=>am (bd bp) λx3=>am (bd bp) λx4=>bd (.tup [x2,x3,x4])) λx5=>bd [x5]) λl6=>am (c1 qA (qB (b2 dh (aZ (am (aZ (am (bd av) aw) (bd bp)) aw) (bd (.int 2))) (bd (.tup []))) (b2 dh (aZ (am (aZ (am (bd av) aw) (bd bp)) aw) (bd (.int 0))) (bd kD)))) λx7=>yP l6 x7)) (
 (am (am (bd av) λx8=>am (bd bp) λx9=>dG x8 x9) λVJ=>kQ VJ λJb=>G6 (uj (am (aZ (am (aZ (am (bd ba) aw) (aZ (am (bd kD) aw) (bd (.int 0)))) aw) (aZ (am (bd Jb) aw) (bd (.int 1)))) cF) (am (aZ (am (aZ (am (bd ba) aw) (aZ (am (bd kD) aw) (bd (.int 1)))) aw) (aZ (am (bd Jb) aw) (bd (.int 2)))) cF)) (bd Jb)))
def hX (av:PV) (bA:PV):W (List PV):=
 am (am (c1 cV (bd bA)) jq) λl32=>am (dY l32 (([]:List dL),([]:List (List PV))) λse s3=>(
 am (am (am (bd (.bl false)) λx5=>bd [x5]) λl6=>am (c1 cV (bd av)) λx7=>yP l6 x7) λl8=>W.fF (s3.2.length < sizeLine) (am (W.any λ_=>True) λb9=>am (bd (s3.2++[l8])) λtj=>
 am (am (c1 cV (bd av)) jq) λl30=>am (dY l30 (b9,tj) λqF LQ=>(
 am (am (am (am (am (am (aZ (am (aZ (am (bd av) aw) (bd qF)) aw) (bd (.int 2))) aw) λZl=>mapW Zl λè=>(aZ (am (aZ (am (bd (.cl (LQ.2.map PV.cl))) aw) (bd se)) aw) (bd è))) Pd) rH) rH) λTa=>
 am (am (am (orB (bd Ta) (am (am (bd av) λrz=>am (bd bA) λrq=>am (bd (.cl (LQ.2.map PV.cl))) λrm=>am (bd se) λue=>am (bd qF) λud=>cG rz rq rm ue ud) λl22=>bd (.bl (!l22.isEmpty)))) rH) rH) λvS=>am (bd se) λGb=>am (Rt LQ.2 Gb) λZs=>am (bd qF) λvR=>am (gY Zs.2 vR vS) λVI=>am (bd (LQ.2.set Zs.1 VI)) λzH=>
 bd (LQ.1,zH))) λLQ=>
 bd LQ))) λs3=>
 bd (s3.2.map PV.cl)
def eI (av:PV) (bA:PV) (ba:PV) (bG:PV) (bp:PV):W PV:=
 am (am (bd bp) λx2=>bd [x2]) λlg=>
 am (am (c1 cV (bd av)) jq) λl35=>am (dY l35 lg λUq s4=>(
 am (am (am (aZ (am (aZ (am (bd av) aw) (aZ (bd s4) (am (bd (.int 1)) mV))) aw) (bd (.int 2))) aw) λl7=>kQ l7 λp8=>G6 (am (aZ (am (aZ (am (bd ba) aw) (bd bG)) aw) (bd p8)) cF) (bd p8)) λVo=>
 am (orB (am (am (bd av) λrA=>am (bd bA) λuf=>am (bd ba) λmw=>am (bd bG) λjP=>am (aZ (bd s4) (am (bd (.int 1)) mV)) λkI=>cG rA uf mw jP kI) λZk=>bd (.bl (Zk.isEmpty))) (b2 dh (am (bd (.int 3)) λkR=>a8 kR) (bd (.int 0)))) λOD=>
 c6 (uj (am (am (bd (.cl Vo)) GY) λNF=>bd (!NF.isEmpty)) (am (bd OD) cF)) (
 am (am (bd (.cl Vo)) λrm=>bM rm) λue=>am (lR s4 ue) λgw=>
 bd gw) (
 bd s4))) λs4=>
 am (mM (λMq=>(am (am (bd av) λyE=>am (bd bA) λvS=>am (bd ba) λGb=>am (bd bG) λuc=>am (aZ (bd Mq) (am (bd (.int 1)) mV)) λvR=>cG yE vS Gb uc vR) λVI=>bd (VI.isEmpty))) (λMq=>(
 am (am (K2 (am (am (aZ (am (aZ (am (bd av) aw) (aZ (bd Mq) (am (bd (.int 1)) mV))) aw) (bd (.int 2))) aw) λVH=>kQ VH λç=>G6 (am (aZ (am (aZ (am (bd ba) aw) (bd bG)) aw) (bd ç)) cF) (bd ç))) λUi=>bM Ui) λUh=>am (lR Mq Uh) λnN=>
 bd nN)) s4) λMq=>
 (am (bd Mq) oU)
def cZ:Nat->PV->PV->PV->PV->PV->W PV
 | 0,_,_,_,_,_=>W.fail
 | n+1,av,bA,ba,bG,eB=>
 am (am (K2 (am (bd av) λx1=>am (bd bA) λx2=>am (bd ba) λx3=>am (bd bG) λx4=>am (aZ (am (bd eB) aw) (am (bd (.int 1)) mV)) λx5=>cG x1 x2 x3 x4 x5)) λx6=>bM x6) λx7=>am (un3 x7) λt8=>
 c6 (t2 dh (bd t8.1) (bd (.str "found"))) (
 (am (bd eB) λx9=>am (bd t8.1) λkR=>bd (.tup [x9,kR]))) (
 am (aZ (am (bd bA) aw) (bd bG)) λrP=>
 am (am (bd av) λmw=>am (bd bA) λjP=>am (bd ba) λkI=>am (aZ (am (bd rP) aw) (bd (.int 0))) λGd=>am (am (bd av) λrz=>am (bd bA) λrq=>am (bd ba) λrm=>am (aZ (am (bd rP) aw) (bd (.int 0))) λue=>am (bd t8.2.1) λud=>eI rz rq rm ue ud) λyE=>cZ n mw jP kI Gd yE) λzM=>
 (am (bd eB) λvS=>am (bd t8.1) λGb=>am (bd zM) λuc=>am (am (bd av) λvR=>am (bd bA) λX0=>am (bd ba) λJV=>am (aZ (am (bd rP) aw) (bd (.int 1))) λUj=>am (am (bd av) λx30=>am (bd bA) λUi=>am (bd ba) λUh=>am (aZ (am (bd rP) aw) (bd (.int 1))) λUg=>am (bd t8.2.2) λUe=>eI x30 Ui Uh Ug Ue) λXZ=>cZ n vR X0 JV Uj XZ) λXY=>bd (.tup [vS,Gb,uc,XY])))
def cg (av:PV) (fH:PV):W PV:=
 am (am (bd fH) λx2=>bo 12 x2) λjZ=>
 am (am (bd av) λx4=>am (bd (.cl jZ)) λx5=>hX x4 x5) λm9=>
 am (b2 mS (c1 cV (bd (.cl jZ))) (bd (.int 1))) λly=>
 am (am (am (c1 cV (bd av)) jq) λl9=>kQ l9 λXf=>G6 (am (am (bd av) λrA=>am (bd (.cl jZ)) λuf=>am (bd (.cl m9)) λmw=>am (bd ly) λjP=>am (bd Xf) λkI=>cG rA uf mw jP kI) λZk=>bd (!Zk.isEmpty)) (bd Xf)) λMi=>
 (am (bd av) λrz=>am (bd (.cl jZ)) λrq=>am (bd (.cl m9)) λrm=>am (bd ly) λue=>am (am (am (bd (.cl Mi)) λud=>bM ud) λyE=>bd (.tup [yE])) λvS=>cZ 12 rz rq rm ue vS)
def gz:W PV:=
 am (eT) λgA=>
 am (am (bd gA) λx3=>cH x3) λwu=>
 am (am (bd gA) λx5=>dF x5) λjX=>
 (am (bd gA) λx6=>am (bd wu) λx7=>am (bd jX) λx8=>am (am (bd wu) λx9=>am (bd jX) λkR=>cg x9 kR) λrA=>bd (.tup [x6,x7,x8,rA]))
def dA (av:PV) (az:PV):W PV:=
 (qB (am (bd az) (dM .int)) (qB (am (am (bd az) (dM .bool)) Q5) (chB oLe oLt (bd (.int 0)) (bd az) (c1 cV (bd av)))))
def cn (av:PV) (az:PV):W PV:=
 c6 (J5 (jU (am (am (bd az) (dM .tup)) cF)) (J5 (t2 dh (bd az) (bd (.tup []))) (jU (am (am (am (am (bd az) aw) λl1=>mapW l1 λp2=>(am (bd av) λx3=>am (bd p2) λx4=>dA x3 x4)) uN) cF)))) (
 (bd (.bl false))) (
 (am (am (am (b2 mS (c1 cV (bd az)) (bd (.int 1))) jq) λl6=>mapW l6 λp7=>(RC false (aZ (am (bd az) aw) (w2 addW (bd p7) (bd (.int 1)))) (am (aZ (am (aZ (am (bd av) aw) (aZ (am (bd az) aw) (bd p7))) aw) (bd (.int 2))) aw))) uN))
def bV:Nat->PV->PV->PV->PV->W PV
 | 0,_,_,_,_=>W.fail
 | n+1,av,bA,bG,az=>
 am (aZ (am (bd bA) aw) (bd bG)) λkD=>
 c6 (J5 (jU (am (am (bd az) (dM .tup)) cF)) (t2 uq (c1 cV (bd az)) (aZ (am (bd (.int 4)) λx2=>am (bd (.int 2)) λx3=>bd [x2,x3]) (c1 qA (am (bd kD) (dM .str)))))) (
 (bd (.bl false))) (
 c6 (J5 (jU (am (am (bd av) λx4=>am (aZ (am (bd az) aw) (bd (.int 0))) λx5=>cn x4 x5) cF)) (jU (am (am (aZ (am (bd az) aw) (bd (.int 1))) (dM .str)) cF))) (
 (bd (.bl false))) (
 am (aZ (am (aZ (am (bd az) aw) (bd (.int 0))) aw) (am (bd (.int 1)) mV)) λly=>
 c6 (am (am (bd kD) (dM .str)) cF) (
 (qB (b2 dh (aZ (am (bd az) aw) (bd (.int 1))) (bd (.str "found"))) (qB (b2 dh (aZ (am (aZ (am (bd av) aw) (bd ly)) aw) (bd (.int 2))) (bd (.tup []))) (b2 dh (aZ (am (aZ (am (bd av) aw) (bd ly)) aw) (bd (.int 0))) (bd kD))))) (
 c6 (J5 (jU (am (am (bd av) λrA=>am (bd bA) λuf=>am (aZ (am (bd kD) aw) (bd (.int 0))) λmw=>am (aZ (am (bd az) aw) (bd (.int 2))) λjP=>bV n rA uf mw jP) cF)) (jU (am (am (bd av) λx7=>am (bd bA) λx8=>am (aZ (am (bd kD) aw) (bd (.int 1))) λx9=>am (aZ (am (bd az) aw) (bd (.int 3))) λkR=>bV n x7 x8 x9 kR) cF))) (
 (bd (.bl false))) (
 (RC false (am (aZ (am (bd az) aw) (bd (.int 1))) λkI=>am (aZ (am (aZ (am (aZ (am (bd az) aw) (bd (.int 2))) aw) (bd (.int 0))) aw) (bd (.int 0))) λGd=>am (aZ (am (aZ (am (aZ (am (bd az) aw) (bd (.int 3))) aw) (bd (.int 0))) aw) (bd (.int 0))) λrz=>bd (.tup [kI,Gd,rz])) (am (bd av) λrq=>am (bd ly) λrm=>dG rq rm))))))
def df (av:PV) (fH:PV) (az:PV):W PV:=
 am (am (bd fH) λx2=>bo 12 x2) λjZ=>
 (qB (am (bd av) λx3=>am (bd (.cl jZ)) λx4=>am (b2 mS (c1 cV (bd (.cl jZ))) (bd (.int 1))) λx5=>am (bd az) λx6=>bV 12 x3 x4 x5 x6) (b2 dh (c1 cV (aZ (am (bd az) aw) (bd (.int 0)))) (bd (.int 1))))
def cm (av:PV) (aO:PV):W PV:=
 am (am (c1 cV (aZ (am (bd aO) aw) (bd (.int 0)))) λx1=>a8 x1) λuM=>am (am (c1 cV (bd av)) λx2=>a8 x2) λwz=>
 am (aZ (am (bd aO) aw) (bd (.int 0))) λbu=>
 am (am (w2 addW (w2 addW (am (bd bu) λx9=>am (bd bv) λi7=>am (am (bd uM) part) λj8=>iX x9 i7 j8) (am (bd wz) λkR=>bd (.tup [kR]))) (am (bd bu) λmw=>am (am (w2 addW (bd uM) (bd (.int 1))) part) λi11=>am (bd bv) λj12=>iX mw i11 j12)) λjP=>am (w2 addW (w2 addW (am (bd bu) λrz=>am (bd bv) λi15=>am (am (bd uM) part) λj16=>iX rz i15 j16) (am (bd wz) λrq=>bd (.tup [rq]))) (am (bd bu) λud=>am (am (bd uM) part) λi19=>am (bd bv) λj20=>iX ud i19 j20)) λyE=>am (w2 addW (am (bd bu) λuc=>am (bd bv) λi23=>am (am (bd uM) part) λj24=>iX uc i23 j24) (am (bd bu) λJV=>am (am (w2 addW (bd uM) (bd (.int 1))) part) λi26=>am (bd bv) λj27=>iX JV i26 j27)) λUj=>bd [jP,yE,Uj]) λIZ=>
 am (am (am (bd (.cl IZ)) GY) λl50=>am (am (w2 addW (bd bu) (am (bd wz) λUi=>bd (.tup [Ui]))) λUh=>am (am (bd bu) λUg=>am (bd bv) λi34=>am (bd bv) λj35=>am (am (am (bd (.int 1)) mV) part) λk36=>Ml Ug i34 j35 k36) λXX=>am (w2 addW (w2 addW (am (bd bu) λXW=>am (bd bv) λi38=>am (am (bd uM) part) λj39=>iX XW i38 j39) (am (aZ (am (bd bu) aw) (bd uM)) λXU=>bd (.tup [XU]))) (am (bd bu) λx44=>am (am (bd uM) part) λi42=>am (bd bv) λj43=>iX x44 i42 j43)) λx45=>am (am (bd bu) λx48=>am (bd bv) λi46=>am (am (bd (.int 1)) part) λj47=>iX x48 i46 j47) λx49=>bd [Uh,XX,x45,x49]) λl51=>yc l50 l51) λyZ=>
 am (am (bd (.int 11)) λx53=>a8 x53) λnF=>
 c6 (t2 oLt (bd nF) (bd (.int 7))) (
 (w2 addW (am (aZ (am (bd (.cl yZ)) aw) (bd nF)) λx54=>bd (.tup [x54])) (am (bd aO) λx57=>am (am (bd (.int 1)) part) λi55=>am (bd bv) λj56=>iX x57 i55 j56))) (
 c6 (J5 (t2 oLt (bd nF) (bd (.int 9))) (t2 dh (c1 cV (bd aO)) (bd (.int 2)))) (
 (w2 addW (w2 addW (am (bd aO) λx60=>am (bd bv) λi58=>am (am (bd (.int 1)) part) λj59=>iX x60 i58 j59) (am (aZ (am (bd (.str "split")) λx61=>am (bd (.str "doubled")) λx62=>am (bd (.str "over")) λx63=>am (bd (.str "found")) λx64=>am (bd (.str "lost")) λx65=>am (bd (.str "")) λx66=>bd [x61,x62,x63,x64,x65,x66]) (am (bd (.int 6)) λx67=>a8 x67)) λx68=>bd (.tup [x68]))) (am (bd aO) λx71=>am (am (bd (.int 2)) part) λi69=>am (bd bv) λj70=>iX x71 i69 j70))) (
 c6 (t2 dh (bd nF) (bd (.int 9))) (
 (w2 addW (am (bd aO) λx74=>am (bd bv) λi72=>am (am (bd (.int 2)) part) λj73=>iX x74 i72 j73) (am (aZ (am (bd aO) aw) (bd (.int 3))) λx75=>am (aZ (am (bd aO) aw) (bd (.int 2))) λx76=>bd (.tup [x75,x76])))) (
 (w2 addW (am (bd aO) λx79=>am (bd bv) λi77=>am (am (bd (.int 2)) part) λj78=>iX x79 i77 j78) (am (aZ (am (bd aO) aw) (bd (.int 2))) λx80=>am (aZ (am (bd aO) aw) (bd (.int 2))) λx81=>bd (.tup [x80,x81]))))))
def bt:Nat->PV->PV->PV->W PV
 | 0,_,_,_=>W.fail
 | n+1,av,aO,mR=>
 am (am (bd (.int 8)) λx2=>a8 x2) λvW=>
 c6 (t2 dh (bd vW) (bd (.int 0))) (
 (bd mR)) (
 c6 (J5 (t2 dh (c1 cV (bd aO)) (bd (.int 2))) (t2 oLt (bd vW) (bd (.int 3)))) (
 (am (bd av) λx3=>am (bd aO) λx4=>cm x3 x4)) (
 c6 (t2 oLt (bd vW) (bd (.int 6))) (
 (w2 addW (am (bd aO) λx7=>am (bd bv) λi5=>am (am (bd (.int 2)) part) λj6=>iX x7 i5 j6) (am (am (bd av) λx8=>am (aZ (am (bd aO) aw) (bd (.int 2))) λx9=>am (bd mR) λkR=>bt n x8 x9 kR) λrA=>am (aZ (am (bd aO) aw) (bd (.int 3))) λuf=>bd (.tup [rA,uf])))) (
 (w2 addW (am (bd aO) λkI=>am (bd bv) λi13=>am (am (bd (.int 3)) part) λj14=>iX kI i13 j14) (am (am (bd av) λGd=>am (aZ (am (bd aO) aw) (bd (.int 3))) λrz=>am (bd mR) λrq=>bt n Gd rz rq) λrm=>bd (.tup [rm]))))))
def qQ (fv:PV):W PV:=
 am (am (am (bd (.int 1)) λx3=>am (am (c1 cV (bd fv)) λx1=>am (bd (.int 6)) λx2=>qe O6 [x1,x2]) λx4=>qe O7 [x3,x4]) jq) λl45=>am (iD l45 () λĊ s6=>(
 am (am (bd fv) λx9=>am (bd Ċ) λkR=>hV x9 kR) λrT=>YQ eR rT (
 am (gz) λrA=>am (X4 rA) λnH=>
 am (am (am (bd nH.1) λjP=>dF jP) λkI=>am (bd nH.2.2.1) λGd=>bd [kI,Gd]) λjt=>
 am (am (bd (.int 10)) jq) λl43=>am (iD l43 () λIC Mr=>(
 am (am (bd nH.2.1) λud=>am (aZ (am (bd (.cl jt)) aw) (b2 oMod (bd IC) (bd (.int 2)))) λyE=>cg ud yE) λy9=>
 am (am (bd nH.2.1) λGb=>am (bd nH.2.2.2) λuc=>am (bd y9) λvR=>bt 12 Gb uc vR) λrG=>
 am (am (bd nH.2.1) λJV=>am (bd nH.2.2.1) λUj=>am (bd rG) λx30=>jB JV Uj x30) λvX=>
 c6 (J5 (jU (am (am (bd vX) (dM .bool)) cF)) (t2 uq (bd vX) (am (bd nH.2.1) λUi=>am (bd nH.2.2.1) λUh=>am (bd rG) λUg=>df Ui Uh Ug))) (
 am (bd (.bl false)) λUe=>bd (Lp.out Ue)) (
 bd (.go ())))) (F6 (λMr=>
 c6 (t2 uq (am (bd nH.2.1) λXZ=>am (aZ (am (bd (.cl jt)) aw) (bd (.int 0))) λXY=>am (bd nH.2.2.2) λXX=>jB XZ XY XX) (am (bd nH.2.1) λx38=>am (aZ (am (bd (.cl jt)) aw) (bd (.int 0))) λx39=>am (bd nH.2.2.2) λXW=>df x38 x39 XW)) (
 am (bd (.bl false)) λXU=>bd (Lp.out XU)) (
 bd (.go ()))) Lp.out)))) (F6 (λs6=>
 (bd (.bl true))) id)
def Tr.pv:Tr->PV
 | .leaf x=>.str x
 | .node l r=>.tup [l.pv,r.pv]
def Ent.pv:Ent->PV
 | .word x=>.str x
 | .pair a b=>.tup [.int (a:Int),.int (b:Int)]
def qH {α:Type}{l:List α} (h:l≠[]):∃a x,l=a++[x]:=⟨l.dropLast,l.getLast h,(List.dropLast_concat_getLast h).symm⟩
def Mm {a b:List Tr}{t:Tr} (h:posts a++b=t.post):sizes a+b.length=t.size:=by
 have h1:=congrArg BV h;rw [Ae,t.post_len] at h1;have h2:∀l:List Tr,(posts l).length=sizes l:=by
  intro l
  induction l with
  | nil=>rfl
  | cons x l ih=>
   have e1:posts (x::l)=x.post++posts l:=rfl;have e2:sizes (x::l)=x.size+sizes l:=rfl;rw [e1,e2,Ae,ih,x.post_len]
 rw [h2] at h1;exact h1
def je {l:List PV}{x:PV} (h:l.length < 1000):lR l x=.ret (l++[x]):=r9 (by have:=aU (n:=1000) (Ao _);omega)
def Na (t:Tr) (hz:t.size<=900):(kc t.pv).le (.ret (t.post.map Tr.pv)):=λQ q=>by
 refine jQ (λn s=>∃ts bs:List Tr,n=sizes ts/\s=(bs.map Tr.pv,ts.map Tr.pv)/\posts ts++bs.reverse=t.post) ⟨[t],[],rfl,rfl,by rw [o6];simp⟩ ?_;rintro n s ⟨ts,bs,rfl,rfl,hp⟩;have hs:=Mm hp;rw [B4] at hs;by_cases he:ts=[]
 ·subst he;have ę:bs.reverse=t.post:=hp;simp;rw [<- List.map_reverse,ę];exact q
 ·obtain⟨us,u,rfl⟩:=qH he;have LU:=len_sizes us;rw [bU,fo] at hs;simp;rw [je (by rw [Ah];omega)];cases u with
  | leaf x=>
   simp [Tr.pv];refine⟨_,?_,us,rfl,bs++[.leaf x],⟨by simp [Tr.pv],rfl⟩,?_⟩
   ·rw [bU,fo];show sizes us < sizes us+1;omega
   ·rw [j3,o6] at hp;rw [Fi,<- hp];simp [Tr.post]
  | node c d=>
   have e1:xI (us.map Tr.pv) [c.pv,d.pv]=.ret (us.map Tr.pv++[c.pv,d.pv]):=r9 (aU (by
    have:(Tr.node c d).size=c.size+d.size+1:=rfl;simp;omega))
   simp [Tr.pv,e1];refine⟨_,?_,us++[c,d],rfl,bs++[.node c d],⟨by simp [Tr.pv],by simp⟩,?_⟩
   ·have e2:sizes [Tr.node c d]=c.size+d.size+1:=by rw [fo];rfl
    have e3:sizes [c,d]=c.size+d.size:=by simp [sizes]
    rw [bU,bU,e2,e3];omega
   ·rw [j3,o6] at hp;rw [Fi,<- hp,j3,Kh];simp [Tr.post]
def au (l:List Nat):List PV:=l.map λ(n:Nat)=>.int (n:Int)
@[simp] theorem bD (l:List Nat):(au l).length=l.length:=Ah _
@[simp] theorem zd (a b:List Nat):au (a++b)=au a++au b:=A6
@[simp] theorem gL (a:Nat) (l:List Nat):au (a::l)=.int (a:Int)::au l:=rfl
@[simp] theorem jx:au []=[]:=rfl
def mf (n:Nat):kF 0 n=au (AA n):=by
 refine CO λi _=>?_;rw [EK]
theorem Nx {f:PV->W (Option PV)}{p:Nat->Bool}:∀{l:List Nat},(∀k∈l,f (.int ((k:Nat):Int))=.ret (if p k=true then ap (.int ((k:Nat):Int)) else bv))->kQ (au l) f=.ret (au (l.filter p))
 | [],_=>rfl
 | k::l,h=>by
  show am (f _) (λo=>am (kQ (au l) f) λm=>bd (o.toList++m))=_;rw [h k (.head _),Nx λy hy=>h y (.tail _ hy),Dr];cases p k <;> rfl
theorem qP {f:PV->W PV}{g:Nat->PV}:∀{l:List Nat},(∀k∈l,f (.int ((k:Nat):Int))=.ret (g k))->mapW (au l) f=.ret (l.map g)
 | [],_=>rfl
 | k::l,h=>by
  show am (f _) (λy=>am (mapW (au l) f) λm=>bd (y::m))=_;rw [h k (.head _),qP λy hy=>h y (.tail _ hy)];rfl
def Zh {l:List PV}{f:PV->W (Option PV)}{Q:List PV->Prop} (g:PV->Option PV) (h:∀x∈l,f x=.ret (g x)) (q:Q (l.filterMap g)):(kQ l f).run Q:=by rw [G5 h];exact q
def GV {l:List PV}{f:PV->W PV}{Q:List PV->Prop} (g:PV->PV) (h:∀x∈l,f x=.ret (g x)) (q:Q (l.map g)):(mapW l f).run Q:=by rw [w9 h];exact q
def sA {l:List Nat}{f:PV->W (Option PV)}{Q:List PV->Prop} (p:Nat->Bool) (h:∀k∈l,f (.int ((k:Nat):Int))=.ret (if p k=true then ap (.int ((k:Nat):Int)) else bv)) (q:Q (au (l.filter p))):(kQ (au l) f).run Q:=by rw [Nx h];exact q
def lY {l:List Nat}{f:PV->W PV}{Q:List PV->Prop} (g:Nat->PV) (h:∀k∈l,f (.int ((k:Nat):Int))=.ret (g k)) (q:Q (l.map g)):(mapW (au l) f).run Q:=by rw [qP h];exact q
def nR (t:Tr) (hz:t.size<=900):(iL t.pv).le (.ret (.tup ((t.nd 0).map Ent.pv))):=λQ q=>by
 unfold iL;simp only [im,db];refine W.le.use (Na t hz) ?_;refine tm (λr s=>∃(k:List Tr) (À:List Ent) (ls:List Nat),r=k.map Tr.pv/\s=(À.map Ent.pv,au ls.reverse)/\run k À ls=ap (t.nd 0,[t.size-1])/\À.length+k.length<=900/\ls.length<=À.length) ⟨t.post,[],[],rfl,rfl,Ke t,by simp [t.post_len];omega,Ao _⟩ ?_ ?_
 ·rintro x r s ⟨k,À,ls,e,rfl,h,hl,ZO⟩;cases k with
  | nil=>cases e
  | cons p k=>
   injection e with e1 e2;subst e1;subst e2;rw [An] at hl;cases p with
   | leaf x=>
    have a1:∀y,lR (au ls.reverse) y=.ret (au ls.reverse++[y]):=λy=>je (by simp;omega);simp [Tr.pv,je (l:=À.map Ent.pv) (by simp;omega),a1];refine⟨k,rfl,À++[Ent.word x],À.length::ls,⟨by simp [Ent.pv],by simp⟩,h,by simp;omega,by simp;omega⟩
   | node c d=>
    match ls,h,ZO with
    | b::a::ls,h,ZO=>
     rw [An,An] at ZO;have a0:au (b::a::ls).reverse=(au ls.reverse++[.int (a:Int)])++[.int (b:Int)]:=by simp
     have a1:∀y,lR (au ls.reverse) y=.ret (au ls.reverse++[y]):=λy=>je (by simp;omega);rw [a0];simp only [Tr.pv,im,dj,gF,a9,Ag,if_false,Ot];simp [je (l:=À.map Ent.pv) (by simp;omega),a1];refine⟨k,rfl,À++[Ent.pair a b],À.length::ls,⟨by simp [Ent.pv],by simp⟩,h,by simp;omega,by simp;omega⟩
 ·rintro s ⟨k,À,ls,e,rfl,h,hl,ZO⟩;cases k with
  | nil=>
   cases h;simpa using q
  | cons p k=>cases e
def mulL {a b:Int} (h:-1000000000<=a/\a<=1000000000):wE a b:=Td ∅ ∅
def mulR {a b:Int} (h:-1000000000<=b/\b<=1000000000):wE a b:=mul_r ∅ ∅
def P4:∀ns l Q,eR ns->((cv 1 a8) l).run Q->((λlo l=>cv 1 (fR lo) l) (ns.map PV.int) l).run λt=>Q t.1/\∃Je:List Int,t.2=Je.map PV.int/\eR Je:=by
 rintro ns l Q ⟨g,s,c,rfl,g0,s0,s1,c0⟩ q
 match l,q with
 | [],q=>exact q.elim
 | _::_::_,q=>exact q.elim
 | [x],q=>
  show (fR _ x).run _;have q:=q;cases x with
  | int m=>
   obtain⟨⟨m0,m1⟩,q⟩:=q;have q:∀d:Int,0<=d->d < m->Q (.int d):=λd h0 h1=>q _ ⟨d,rfl,h0,h1⟩;unfold fR;generalize hA:(2305843009213693921:Int)=A;generalize hB:(2305843009213693907:Int)=B;generalize hC:(65537:Int)=C;generalize hD:(999983:Int)=D;have A0:0 < A:=by omega
   have B0:0 < B:=by omega
   have C0:0 < C:=by omega
   have D0:0 < D:=by omega
   by_cases hg:0 < g
   ·simp [ck,nX,hg,m0,gY,SS];refine⟨by omega,q _ (B3 _ ∅) (BQ _ m0),[g / m,s,c],rfl,_,_,_,rfl,Int.ediv_nonneg g0 ∅,s0,s1,c0⟩
   ·have e1:wE s 69069:=mulR ∅;have e2:wE 9973 (c+1):=mulL ∅;have e3:wE 2 (c+1):=mulL ∅;simp [ck,nX,hg,m0,gY,VX,e1,e2,e3,A0,B0,C0,D0];generalize hM:(s*69069+9973*(c+1)+5) % A=M;have M0:0<=M:=by rw [<- hM];exact B3 _ ∅
    have M1:M < A:=by rw [<- hM];exact BQ _ A0
    have e4:∀y,wE M y:=λy=>Td ∅ ∅;generalize hN:M*(M % D+2*(c+1)+3) % B=N;have N0:0<=N:=by rw [<- hN];exact B3 _ ∅
    have N1:N < B:=by rw [<- hN];exact BQ _ B0
    refine⟨e4 _,⟨C0,by omega⟩,q _ (B3 _ ∅) (BQ _ m0),[g,N,c+1],rfl,_,_,_,rfl,g0,N0,by omega,by omega⟩
  | _=>exact q.elim
def WZ (i:Int):0<=(if i < 0 then -i else i):=by split <;> omega
def QA {ns:List Int}{k:Int} (k0:0<=k) {Q:List PV->Prop} (q:∀l,(∃ms:List Int,l=ms.map PV.int/\eR ms)->Q l):(hV (.cl (ns.map PV.int)) (.int k)).run Q:=by
 unfold hV;generalize hA:(2305843009213693951:Int)=A;have A0:0 < A:=by omega
 have fin:∀x:Int,0<=x->(am (b2 o9 (b2 oMod (bd (.int x)) (b2 o9 (b2 za (bd (.int 10)) (bd (.int 60))) (b2 za (bd (.int 10)) (bd (.int 60))))) (c1 qA (b2 oGe (bd (.int x)) (b2 za (bd (.int 10)) (bd (.int 18)))))) λou=>
 (am (bd ou) λx6=>am (b2 oMod (w2 addW (w2 addW (bd (.int x)) (b2 o9 (bd (.int 104729)) (bd (.int k)))) (bd (.int 7))) (bd (.int A))) λx7=>am (bd (.int 0)) λx8=>bd [x6,x7,x8])).run Q:=by
  intro x x0;have p1:Pn 10 60:=⟨by decide,by decide,by decide⟩;have p2:Pn 10 18:=⟨by decide,by decide,by decide⟩;simp only [im,Wu,r9 p1,r9 p2,Ox,HA,aah,gG,fC,W.OZ,W.Qo,gt,r9 (mulL (show -1000000000<=(104729:Int)/\(104729:Int)<=1000000000 by decide)),r9 A0];refine⟨IntMulOk.of_bits (by decide +kernel) (by decide +kernel),by decide +kernel,?_,?_⟩
  ·split
   ·exact mulR ∅
   ·exact mulR ∅
  ·refine q _ ⟨[_,_,_],rfl,_,_,_,rfl,Int.mul_nonneg (B3 _ (by decide +kernel)) ?_,B3 _ ∅,by rw [hA];exact BQ _ A0,DB _⟩
   split <;> decide
 by_cases mi:k < (ns.length:Int)
 ·obtain⟨v,e,e2⟩:=O9 (xs:=ns.map PV.int) k0 (by rw [Ah];exact mi);rw [Ak] at e2;obtain⟨c,rfl⟩:∃c,v=.int c:=by
   cases z:ns[k.toNat]? with
   | none=>rw [z] at e2;cases e2
   | some c=>rw [z] at e2;exact⟨c,(Option.some.inj e2).symm⟩
  simp only [im,gE,mH,Ah,mi,decide_true,aY,if_true,bK,aW,e,ss,WA];exact fin _ (WZ _)
 ·simp only [im,gE,mH,Ah,mi,decide_false,aY,Ag,if_false];exact fin 0 (DB _)
def GR {d:Int} (h0:0<=d) (h1:d < 6):∃st:Int,ck [PV.int 1,PV.int 3,PV.int 5,PV.int 7,PV.int 9,PV.int 11] d=ap (.int st)/\(st=1\/st=3\/st=5\/st=7\/st=9\/st=11):=by
 have:d=0\/d=1\/d=2\/d=3\/d=4\/d=5:=by omega
 rcases this with rfl | rfl | rfl | rfl | rfl | rfl
 ·exact⟨1,rfl,by decide⟩
 ·exact⟨3,rfl,by decide⟩
 ·exact⟨5,rfl,by decide⟩
 ·exact⟨7,rfl,by decide⟩
 ·exact⟨9,rfl,by decide⟩
 ·exact⟨11,rfl,by decide⟩
def GS {d:Int} (h0:0<=d) (h1:d < 2):∃bg:Str,ck [PV.str "",PV.str "k"] d=ap (.str bg)/\Part bg 1:=by
 have:d=0\/d=1:=by omega
 rcases this with rfl | rfl
 ·exact⟨"",rfl,by decide +kernel,by decide +kernel⟩
 ·exact⟨"k",rfl,by decide +kernel,by decide +kernel⟩
def GU {d:Int} (h0:0<=d) (h1:d < 4):∃bg:Str,ck [PV.str "",PV.str "q",PV.str "zz",PV.str "abcdef"] d=ap (.str bg)/\Part bg 6:=by
 have:d=0\/d=1\/d=2\/d=3:=by omega
 rcases this with rfl | rfl | rfl | rfl
 ·exact⟨"",rfl,by decide +kernel,by decide +kernel⟩
 ·exact⟨"q",rfl,by decide +kernel,by decide +kernel⟩
 ·exact⟨"zz",rfl,by decide +kernel,by decide +kernel⟩
 ·exact⟨"abcdef",rfl,by decide +kernel,by decide +kernel⟩
def cf {i j:Int} (h:-1000<=i/\i<=1000/\-1000<=j/\j<=1000) (h2:j-i<=1000):okN i j:=⟨by omega,by omega,by omega,by omega,aU ∅⟩
def JW {m:Int} (m0:0<=m) (m1:m<=26) {Q:List PV->Prop} (q:∀ws:List Str,ws.length=m.toNat->(∀x∈ws,Wd x)->ws.Nodup->Q (ws.map PV.str)):(dE (.int m)).run Q:=by
 unfold dE;simp only [im,db,bR 26 (by decide) (by decide),bR 6 (by decide) (by decide),bR 2 (by decide) (by decide)];refine bf λd1 a1 b1=>bf λd3 a3 b3=>?_;obtain⟨st,xt,kst⟩:=GR a3 b3;simp only [aW,xt,ss,gt];refine bf λd5 a5 b5=>?_;obtain⟨bg,hbg,kbg⟩:=GS a5 b5;simp only [aW,hbg,ss,gt,eW,r9 (cf (i:=0) (j:=m) ∅ ∅)];have lb:=kbg.1;refine oj (λi s=>∃ws:List Str,s=ws.map PV.str/\ws.length=i/\(∀x∈ws,Wd x)/\(ws.map λx=>x.cps[bg.length]?)=(AA i).map λk:Nat=>ap (97+((d1+st*(0+(k:Int))) % 26).toNat)) ⟨[],rfl,rfl,by simp,rfl⟩ ?_ ?_
 ·rintro i s hi ⟨ws,rfl,hl,hw,hs⟩;have e0:0<=(d1+st*(0+(i:Int))) % 26:=B3 _ (by decide);have e1:(d1+st*(0+(i:Int))) % 26 < 26:=BQ _ (by decide);have e2:(d1+st*(i:Int))=d1+st*(0+(i:Int)):=by rw [EK]
  obtain⟨en,hen,ken⟩:=GU (d:=(d1+(i:Int)) % 4) (B3 _ (by decide)) (BQ _ (by decide));have le:=ken.1;have c1:wE st (i:Int):=mulL ∅;have c2:("abcdefghijklmnopqrstuvwxyz":Str).length<=sizeLine:=by decide +kernel
  have c3:bg.length+(⟨#[97+((d1+st*(0+(i:Int))) % 26).toNat]⟩:Str).length<=sizeLine:=aU (by show bg.length+1<=1000;omega);have c4:(bg++(⟨#[97+((d1+st*(0+(i:Int))) % 26).toNat]⟩:Str)).length+en.length<=sizeLine:=aU (by rw [C5];show bg.length+1+en.length<=1000;omega);simp only [im,db,Ox,r9 c1,fC,HA,r9 (show (0:Int) < 26 by decide),r9 (show (0:Int) < 4 by decide),e2,Wy _ _ (Ku e0 e1),r9 c2,R8,r9 c3,bK,aW,hen,ss,r9 c4,je (l:=ws.map PV.str) (by rw [Ah];omega),gt];refine⟨ws++[bg++⟨#[97+((d1+st*(0+(i:Int))) % 26).toNat]⟩++en],by rw [A6];rfl,by rw [Ae,hl];rfl,?_,by rw [A6,hs,ET,A6,List.map_singleton,List.map_singleton,JX]⟩;intro x hx;rcases A5.mp hx with z | z
  ·exact hw x z
  ·rw [Bh.mp z];exact L1 kbg ken ∅ ∅
 ·rintro s ⟨ws,rfl,hl,hw,hs⟩;refine q ws hl hw ?_;refine w4 (g:=λx:Str=>x.cps[bg.length]?) ?_;rw [hs];exact uv kst ∅
def WV {α:Type}{l:List α}{k:Nat} (h:k+1 < l.length):∃a x y b,l=a++x::y::b/\a.length=k:=by
 refine⟨l.take k,l[k],l[k+1],l.drop (k+2),?_,by rw [Cc];omega⟩;have e1:l.drop k=l[k]::l.drop (k+1):=Be ∅;have e2:=Be ∅;rw [<- e2,<- e1,List.take_append_drop]
def yJ {ws:List Str} (hw:ws≠[]) (h8:ws.length<=100) {Q:PV->Prop} (q:∀t:Tr,t.aJ.Perm ws->Q t.pv):(lu (.cl (ws.map PV.str))).run Q:=by
 unfold lu;simp only [im,db,bK,gt,bR 4 (by decide) (by decide)];refine bf λw w0 w1=>?_;refine jQ (λn s=>∃ts:List Tr,s=ts.map Tr.pv/\n=ts.length/\ts≠[]/\(ts.flatMap Tr.aJ).Perm ws/\ts.length<=100) (n:=ws.length) ⟨ws.map Tr.leaf,by simp [Tr.pv],by simp,by simpa using hw,?_,by simpa using h8⟩ ?_
 ·rw [List.flatMap_map];have:ws.flatMap (λx=>(Tr.leaf x).aJ)=ws:=by
   simp [Tr.aJ,List.flatMap_singleton']
  rw [this]
 ·rintro n s ⟨ts,rfl,rfl,NW,hp,hl⟩;by_cases h1:1 < ts.length
  ·have c0:(1:Int) < (ts.length:Int):=by omega
   simp only [im,db,xJ,Ah,TV,c0,decide_true,aY,gt,if_true,lK,bR ((ts.length:Int)-1) ∅ ∅];refine bf λd d0 d1=>?_;obtain⟨a,ha,a0,a1⟩:∃a:Nat,ck [PV.int d,PV.int ((ts.length:Int)-2),PV.int 0,PV.int 0] w=ap (.int (a:Int))/\0<=a/\a+1 < ts.length:=by
    have:w=0\/w=1\/w=2\/w=3:=by omega
    rcases this with rfl | rfl | rfl | rfl
    ·exact⟨d.toNat,by show ap (PV.int d)=_;rw [Int.toNat_of_nonneg d0],by omega,by omega⟩
    ·exact⟨ts.length-2,by show ap (PV.int ((ts.length:Int)-2))=_;congr 2;omega,by omega,by omega⟩
    ·exact⟨0,rfl,by omega,by omega⟩
    ·exact⟨0,rfl,by omega,by omega⟩
   obtain⟨as,x,y,bs,rfl,hk⟩:=WV a1;have i0:ck ((as++x::y::bs).map Tr.pv) (a:Int)=ap x.pv:=bL (by rw [Ak,Aw ∅];simp [hk]);have i1:ck ((as++x::y::bs).map Tr.pv) ((a:Int)+1)=ap y.pv:=by
    have:((a:Int)+1)=((a+1:Nat):Int):=by push_cast;rfl
    rw [this];exact bL (by rw [Ak,Aw ∅];simp [hk])
   simp only [aW,ha,ss,gt,i0,i1,fC,im];have fin:∀p:Tr,p.aJ.Perm (x.aJ++y.aJ)->(Qh ((as++x::y::bs).map Tr.pv) (.int (a:Int)) (.int ((a:Int)+2)) [p.pv]).run λa=>∃m,m < (as++x::y::bs).length/\∃ts:List Tr,a=ts.map Tr.pv/\m=ts.length/\ts≠[]/\(ts.flatMap Tr.aJ).Perm ws/\ts.length<=100:=by
    intro p Ę;rw [Ae,An,An] at hl;refine⟨⟨by omega,by omega,?_,aU ?_⟩,?_⟩
    ·rw [Ah,Ae,An,An];push_cast;omega
    ·rw [Ah,Ae,An,An];simp;omega
    ·have e:((as++x::y::bs).map Tr.pv).take (a:Int).toNat++[p.pv]++((as++x::y::bs).map Tr.pv).drop ((a:Int)+2).toNat=(as++p::bs).map Tr.pv:=by
      have t1:(a:Int).toNat=as.length:=by omega
      have t2:((a:Int)+2).toNat=as.length+2:=by omega
      rw [t1,t2,<- List.map_take,<- Fo,List.take_left' rfl];have:(as++x::y::bs).drop (as.length+2)=bs:=by
       rw [show as++x::y::bs=(as++[x,y])++bs by simp,List.drop_left' (by simp)]
      rw [this];simp
     show ∃m,_/\∃ts:List Tr,_;rw [e];refine⟨(as++p::bs).length,by simp,as++p::bs,rfl,rfl,by simp,?_,by simp;omega⟩;refine List.Perm.trans ?_ hp;simp only [B5,List.flatMap_cons];refine List.Perm.append_left _ ?_;rw [<- A4];exact Ę.append_right _
   by_cases h3:w=3
   ·subst h3;simp only [cE,aY,beq_self_eq_true,gt,im,if_true,db,bR 2 (by decide) (by decide)];refine bf λd2 d20 d21=>?_;by_cases h4:d2=0
    ·subst h4;simp only [cE,aY,beq_self_eq_true,gt,im,if_true,db,i0,i1,aW,fC,ss];exact fin (.node y x) List.perm_append_comm
    ·have e4:(d2==0)=false:=by simpa using h4
     simp only [cE,aY,e4,gt,im,db,Ag,if_false];exact fin (.node x y) (List.Perm.refl _)
   ·have e3:(w==3)=false:=by simpa using h3
    simp only [cE,aY,e3,gt,im,db,Ag,if_false];exact fin (.node x y) (List.Perm.refl _)
  ·have c0:¬(1:Int) < (ts.length:Int):=by omega
   simp only [im,db,xJ,Ah,TV,c0,decide_false,aY,gt,Ag,if_false]
   match ts,NW,h1,hp with
   | [t],_,_,hp=>
    have:t.aJ.Perm ws:=by simpa using hp
    exact q t this
   | _::_::_,_,h1,_=>simp at h1
structure pY (t:Tr):Prop where
 ws:t.Ws
 nd:t.aJ.Nodup
 few:t.aJ.length<=8
def KQ {Q:PV->Prop} (q:∀t:Tr,pY t->Q t.pv):nT.run Q:=by
 unfold nT;simp only [im,db,bR 8 (by decide) (by decide)];refine bf λd d0 d1=>?_;obtain⟨n,hn,n0,n1⟩:∃n:Int,ck [PV.int 5,PV.int 8] (if (d==0)=true then 1 else 0)=ap (.int n)/\0 < n/\n<=8:=by
  by_cases h:d=0
  ·subst h;exact⟨8,rfl,by decide,by decide⟩
  ·have e:(d==0)=false:=by simpa using h
   rw [e];exact⟨5,rfl,by decide,by decide⟩
 simp only [cE,gt,gG,aW,hn,ss,bR n n0 ∅];refine bf λk k0 k1=>?_;refine JW ∅ ∅ λws hl hw hd=>?_;refine yJ (λz=>by rw [z] at hl;simp at hl;omega) ∅ λt ht=>q t ⟨λx hx=>hw x (ht.mem_iff.mp hx),ht.nodup_iff.mpr hd,by rw [ht.length_eq,hl];omega⟩
def uB:Ent->Bool
 | .word _=>false
 | .pair _ _=>true
structure Dt (t:Tr) (ds:List Int) (left:List Nat) (d:Int):Prop where
 len:ds.length=t.size
 zero:∀j,j < t.size->(uB (en t 0 j)=false\/j∈left)->ds.getD j 0=0
 up:∀j,j < t.size->j∉left->∀a b,en t 0 j=.pair a b->a∉left/\b∉left/\ds.getD a 0 < ds.getD j 0/\ds.getD b 0 < ds.getD j 0/\1<=ds.getD j 0/\ds.getD j 0<=d
 inj:∀i j,i < t.size->j < t.size->i∉left->j∉left->uB (en t 0 i)=true->uB (en t 0 j)=true->ds.getD i 0=ds.getD j 0->i=j
 pos:0<=d
 Xj:∀j∈left,j < t.size/\uB (en t 0 j)=true
 ris:left.Pairwise (· < ·)
def i9 {l:List Int}{i:Nat}{v:Int} (h:i < l.length):(l.set i v).getD i 0=v:=by rw [Ap,Ca h];rfl
def bW {l:List Int}{i j:Nat}{v:Int} (h:i≠j):(l.set i v).getD j 0=l.getD j 0:=by rw [Ap,Bw h,<- Ap]
def ur {l:List Nat} (h:l.Pairwise (· < ·)) {x y:Nat}:y∈l.erase x↔y∈l/\y≠x:=by
 have nd:l.Nodup:=h.imp (λz=>AE z);rw [nd.mem_erase_iff];exact⟨λz=>⟨z.2,z.1⟩,λz=>⟨z.2,z.1⟩⟩
def eK (t:Tr) {j a b:Nat} (h:j < t.size) (e:en t 0 j=.pair a b):a < j/\b < j:=by
 rcases O5 t 0 j h with⟨x,e1,_⟩ | ⟨a',b',e1,e2,e3,_⟩
 ·rw [e1] at e;cases e
 ·rw [e1] at e;injection e with h1 h2;omega
def Dt.next {t:Tr}{ds:List Int}{left:List Nat}{d x:Int}{j a b:Nat} (D:Dt t ds left d) (hj:j∈left) (e:en t 0 j=.pair a b) (ha:a∉left) (hb:b∉left) (hx:0<=x):Dt t (ds.set j (d+1+x)) (left.erase j) (d+1+x):=by
 obtain⟨hjs,hjp⟩:=D.Xj j hj;obtain⟨haj,hbj⟩:=eK t hjs e;have Pr:j < ds.length:=by rw [D.len];exact hjs
 have hm:∀y,y∈left.erase j↔y∈left/\y≠j:=λy=>ur D.ris;have Ô:∀y,y < t.size->y∉left->ds.getD y 0<=d:=λy hy í=>by
  cases ey:en t 0 y with
  | word w=>rw [D.zero y hy (.inl (by rw [ey];rfl))];exact D.pos
  | pair p q=>exact (D.up y hy í p q ey).2.2.2.2.2
 refine⟨by rw [BL];exact D.len,λy hy hc=>?_,λy hy í p q ey=>?_,λu v hu hv î ZD pu pv Tu=>?_,by have:=D.pos;omega,λy hy=>D.Xj y ((hm y).mp hy).1,List.Pairwise.sublist List.erase_sublist D.ris⟩
 ·have Zz:j≠y:=λz=>by
   subst z;rcases hc with hc | hc
   ·rw [hjp] at hc;cases hc
   ·exact ((hm j).mp hc).2 rfl
  rw [bW Zz];exact D.zero y hy (hc.imp id λz=>((hm y).mp z).1)
 ·by_cases Zz:j=y
  ·subst Zz;rw [e] at ey;injection ey with h1 h2;subst h1 h2;have la:=Ô a ∅ ha;have lb:=Ô b ∅ hb;rw [i9 Pr,bW ∅,bW ∅];have:=D.pos;exact⟨λz=>ha ((hm a).mp z).1,λz=>hb ((hm b).mp z).1,by omega,by omega,by omega,by omega⟩
  ·have ac3:y∉left:=λz=>í ((hm y).mpr ⟨z,BA Zz⟩);obtain⟨p1,p2,p3,p4,p5,p6⟩:=D.up y hy ac3 p q ey;have np:j≠p:=λz=>p1 (z▸hj);have nq:j≠q:=λz=>p2 (z▸hj);rw [bW Zz,bW np,bW nq];exact⟨λz=>p1 ((hm p).mp z).1,λz=>p2 ((hm q).mp z).1,p3,p4,p5,by omega⟩
 ·by_cases c1:j=u
  ·by_cases c2:j=v
   ·exact c1.symm.trans c2
   ·exfalso;subst c1;have V4:v∉left:=λz=>ZD ((hm v).mpr ⟨z,BA c2⟩);rw [i9 Pr,bW c2] at Tu;have:=Ô v hv V4;omega
  ·have ZF:u∉left:=λz=>î ((hm u).mpr ⟨z,BA c1⟩);by_cases c2:j=v
   ·exfalso;subst c2;rw [i9 Pr,bW c1] at Tu;have:=Ô u hu ZF;omega
   ·have V4:v∉left:=λz=>ZD ((hm v).mpr ⟨z,BA c2⟩);rw [bW c1,bW c2] at Tu;exact D.inj u v hu hv ZF V4 pu pv Tu
def splits (t:Tr):List Nat:=(AA t.size).filter λj=>uB (en t 0 j)
def Dt.first (t:Tr):Dt t (Am t.size 0) (splits t) 0:=by
 have z:∀j,(Am t.size (0:Int)).getD j 0=0:=λj=>by
  rw [Ap,Bt]
  split <;> rfl
 have mem:∀j,j∈splits t↔j < t.size/\uB (en t 0 j)=true:=λj=>by unfold splits;rw [AJ,AO]
 refine⟨A7,λj _ _=>z j,λj hj hn a b e=>absurd ((mem j).mpr ⟨hj,by rw [e];rfl⟩) hn,λi j hi hj hni _ pi _ _=>absurd ((mem i).mpr ⟨hi,pi⟩) hni,DB _,λj hj=>(mem j).mp hj,?_⟩;exact List.Pairwise.filter _ Dg
def JI (t:Tr):dZ 0 ((t.nd 0).map Ent.pv)=(AA t.size).map λj=>PV.tup [.int ((j:Nat):Int),(en t 0 j).pv]:=by
 have hl:(dZ 0 ((t.nd 0).map Ent.pv)).length=t.size:=by rw [cS,Ah,t.bz]
 apply BB;intro i;by_cases hi:i < t.size
 ·have h1:(dZ 0 ((t.nd 0).map Ent.pv))[i]?=ap ((dZ 0 ((t.nd 0).map Ent.pv))[i]'∅):=Ad _;obtain⟨y,hy,e⟩:=gN h1;rw [Ak,gm t 0 i hi] at hy;have V3:=Option.some.inj hy;rw [h1,e,<- V3,Ak,BK hi,AR];rfl
 ·rw [AN ∅,AN (by rw [Ah,Ck];omega)]
def Rc:PV->Option PV
 | .tup [_,.str _]=>bv
 | .tup [k,_]=>ap k
 | _=>bv
def VD (t:Tr):(dZ 0 ((t.nd 0).map Ent.pv)).filterMap Rc=au (splits t):=by
 rw [JI];unfold splits;generalize AA t.size=l
 induction l with
 | nil=>rfl
 | cons j l ih=>
  rw [Au,Bs,Dr];cases e:en t 0 j with
  | word w=>exact ih
  | pair a b=>
   rw [ih];rfl
def u9 (l:List Nat):au l=(l.map λn=>((n:Nat):Int)).map PV.int:=by unfold au;rw [AL];rfl
theorem tF (y:Nat):∀l:List Nat,(l.map λn=>((n:Nat):Int)).erase (y:Int)=(l.erase y).map λn=>((n:Nat):Int)
 | []=>rfl
 | a::l=>by
  rw [Au,List.erase_cons,List.erase_cons,tF y l];by_cases c:a=y
  ·subst c;simp
  ·have c1:(((a:Nat):Int)==(y:Int))=false:=by simp;omega
   have c2:(a==y)=false:=by simpa using c
   rw [c1,c2];simp
def Vx {d:Int} (h0:0<=d) (h1:d < 3):∃m:Int,ck [PV.int 1,PV.int 3,PV.int 13] d=ap (.int m)/\0 < m/\m<=13:=by
 have:d=0\/d=1\/d=2:=by omega
 rcases this with rfl | rfl | rfl
 ·exact⟨1,rfl,by decide,by decide⟩
 ·exact⟨3,rfl,by decide,by decide⟩
 ·exact⟨13,rfl,by decide,by decide⟩
theorem IT:∀(l:List Nat) (k n:Nat),l.Pairwise (· < ·)->(∀x∈l,k<=x/\x < n)->l.length<=n-k
 | [],_,_,_,_=>Bj _
 | a::l,k,n,h,hb=>by
  have h1:=(D9.mp h);have h2:=hb a Bv;have ih:=IT l (a+1) n h1.2 λx hx=>⟨h1.1 x hx,(hb x (AX _ hx)).2⟩;rw [An];omega
def UD (s:Nat):Ent->Ent
 | .word x=>.word x
 | .pair p q=>.pair (p+s) (q+s)
theorem GL:∀(t:Tr) (o s:Nat),t.nd (o+s)=(t.nd o).map (UD s)
 | .leaf _,_,_=>rfl
 | .node a b,o,s=>by
  have ha:=a.size_pos;rw [Tr.nd,Tr.nd,GL a o s,show o+s+a.size=o+a.size+s by omega,GL b (o+a.size) s,A6,A6];congr 2;congr 1 <;> omega
def pL {l m:List PV} (h:l.length+m.length<=1000):yc l m=.ret (l++m):=r9 (aU h)
theorem gM:∀(n:Nat) (t:Tr),t.depth < n->t.size<=900->(bo n t.pv).le (.ret ((t.nd 0).map Ent.pv))
 | 0,_,h,_=>by omega
 | n+1,.leaf w,_,_=>λQ q=>by
  unfold bo;simp [Tr.pv];exact q
 | n+1,.node a b,h,hz=>λQ q=>by
  have hs:(Tr.node a b).size=a.size+b.size+1:=rfl;have hpa:=a.size_pos;have hd:a.depth < n/\b.depth < n:=by simp [Tr.depth] at h;omega
  unfold bo;have i0:ck [a.pv,b.pv] 0=ap a.pv:=rfl;have i1:ck [a.pv,b.pv] 1=ap b.pv:=rfl;simp only [Tr.pv,im,db,dj,gF,a9,Ag,if_false,aD,aW,i0,i1,ss];refine W.le.use (gM n a hd.1 ∅) ?_;simp only [xJ,Ah,a.bz,gt];refine W.le.use (gM n b hd.2 ∅) ?_;refine kj (λi s=>s=(a.nd 0++((b.nd 0).take i).map (UD a.size)).map Ent.pv) (by simp) (λi x s hx hs=>?_) (λs hs=>?_)
  ·subst hs;rw [Ak] at hx;cases e:(b.nd 0)[i]? with
   | none=>rw [e] at hx;cases hx
   | some en=>
    rw [e] at hx;have ex:=Option.some.inj hx;subst ex;have hi:i < b.size:=by have:=(Al.mp e).1;rw [b.bz] at this;exact this
    have et:(b.nd 0).take (i+1)=(b.nd 0).take i++[en]:=by rw [E9,e];rfl
    have al:∀y,lR ((a.nd 0++((b.nd 0).take i).map (UD a.size)).map Ent.pv) y=.ret ((a.nd 0++((b.nd 0).take i).map (UD a.size)).map Ent.pv++[y]):=λy=>je (by simp [a.bz];omega);cases en with
    | word w=>
     simp only [Ent.pv,im,db,dm,eX,a9,if_true,al,gt,et];simp [UD,Ent.pv]
    | pair u v=>
     have j0:ck [PV.int (u:Int),PV.int (v:Int)] 0=ap (.int u):=rfl;have j1:ck [PV.int (u:Int),PV.int (v:Int)] 1=ap (.int v):=rfl;simp only [Ent.pv,im,db,dj,gF,a9,Ag,if_false,aD,aW,j0,j1,ss,fC,al,gt,et];simp [UD,Ent.pv]
  ·subst hs;rw [Cs (by rw [Ah];exact Ao _)];have es:(b.nd 0).map (UD a.size)=b.nd a.size:=by rw [<- GL b 0 a.size,AR]
   rw [es];simp only [im,db,lK,xJ,Ah,Ae,a.bz,b.bz,gt];rw [pL (by simp [a.bz,b.bz];omega)];have e:(Tr.node a b).nd 0=a.nd 0++b.nd a.size++[.pair (a.size-1) (a.size+b.size-1)]:=by rw [Tr.nd];simp
   rw [e] at q;have e1:((a.size:Int)-1)=((a.size-1:Nat):Int):=by omega
   have e2:(((a.size+b.size:Nat):Int)-1)=((a.size+b.size-1:Nat):Int):=by omega
   rw [e1,e2];simpa [Ent.pv] using q
def pick_run {l:List PV} (h0:l≠[]) (h1:l.length<=1000) {Q:PV->Prop} (q:∀x∈l,Q x):(bM (.cl l)).run Q:=by
 unfold bM;have hp:0 < l.length:=DP.mpr h0;simp only [im,db,bK,gE,bR (l.length:Int) ∅ ∅,gt];refine bf λd d0 d1=>?_;obtain⟨v,hv,đ⟩:=O9 (xs:=l) d0 d1;simp only [aW,hv,ss,gt];exact q v (Bo đ)
def xr (k:Nat) (l:List Nat) (b:Bool):sM b (.int (k:Int)) (au l)=.ret (if b then !decide (k∈l) else decide (k∈l)):=by
 have h1:RA (.int (k:Int)) (au l):=⟨by simp,lI.mpr λx hx=>by
  obtain⟨n,_,rfl⟩:=Ay.mp hx;simp,lJ λx hx=>by
  obtain⟨n,_,rfl⟩:=Ay.mp hx;simp⟩
 have h2:pB (.int (k:Int)) (au l)=decide (k∈l):=by
  unfold pB au;rw [List.any_map]
  induction l with
  | nil=>simp
  | cons a l ih=>
   have ih:=ih ⟨by simp,lI.mpr λx hx=>by
    obtain⟨n,_,rfl⟩:=Ay.mp hx;simp,lJ λx hx=>by
    obtain⟨n,_,rfl⟩:=Ay.mp hx;simp⟩
   rw [Cb,ih];by_cases c:a=k
   ·subst c;simp
   ·have c1:(((a:Nat):Int)==(k:Int))=false:=by simp;omega
    have c2:¬k=a:=λz=>c z.symm;simp [c1,c2]
 unfold sM;rw [r9 h1,h2]
def OW (l:List Nat):uJ (au l)=true:=Fl.mpr λx hx=>by
 obtain⟨n,_,rfl⟩:=Ay.mp hx;rw [PV.dat] <;> simp
def dH (ds:List Int):List PV:=ds.map PV.int
@[simp] theorem ic (ds:List Int):(dH ds).length=ds.length:=Ah _
def NQ (ds:List Int) (y:Nat) (v:Int):(dH ds).set y (.int v)=dH (ds.set y v):=by unfold dH;rw [EG]
def Qq (t:Tr) (left:List Nat) (j:Nat):Bool:=match en t 0 j with
 | .pair a b=>!decide (a∈left)&&!decide (b∈left)
 | _=>false
def Jr {n k:Nat} (h:k < n):nX n (k:Int)=ap k:=by
 unfold nX;rw [if_pos ∅,if_pos ∅];simp
def jY {l:List PV}{k:Nat}{v:PV} (h:k < l.length):gY l (.int (k:Int)) v=.ret (l.set k v):=by
 unfold gY;simp [Jr h]
def w5 (t:Tr) {j:Nat} (h:j < t.size):ck ((t.nd 0).map Ent.pv) (j:Int)=ap (en t 0 j).pv:=bL (by rw [Ak,gm t 0 j h];rfl)
def Lk (t:Tr) (hz:t.size<=900) {Q:PV->Prop} (q:∀ds d,Dt t ds [] d->d<=13*((splits t).length:Int)->Q (.tup (dH ds))):(eU (.cl ((t.nd 0).map Ent.pv))).run Q:=by
 unfold eU;have e1:yP [PV.int 0] (.int ((t.nd 0).map Ent.pv).length)=.ret (dH (Am t.size 0)):=by
  rw [Oq,r9 ⟨by omega,by rw [Ah,t.bz];omega,aU (by simp [t.bz];omega)⟩];congr 1;rw [Ah,t.bz,A3]
  induction t.size with
  | zero=>rfl
  | succ n ih=>rw [Br,BZ,ih];rfl
 have e3:((t.nd 0).map Ent.pv).length<=sizeLine:=aU (by rw [Ah,t.bz];omega);simp only [im,gE,e1,bK,r9 e3,db];refine Zh Rc (λx hx=>?_) ?_
 ·rw [JI] at hx;obtain⟨j,hj,rfl⟩:=Ay.mp hx;cases en t 0 j with
  | word w=>simp [Ent.pv,Rc]
  | pair u v=>simp [Ent.pv,Rc]
 rw [VD t];refine jQ (λn s=>∃(ds:List Int) (left:List Nat) (d:Int),s=(dH ds,au left,PV.int d)/\n=left.length/\Dt t ds left d/\d+13*(left.length:Int)<=13*((splits t).length:Int)) ⟨_,_,0,rfl,rfl,Dt.first t,by omega⟩ ?_;rintro n s ⟨ds,left,d,rfl,rfl,D,hd⟩;by_cases he:left=[]
 ·subst he;simp;exact q ds d D (by simpa using hd)
 ·have ee:(!(au left).isEmpty)=true:=by cases left with | nil=>exact absurd rfl he | cons a l=>rfl
  have ZO:left.length<=t.size:=by
   have:=IT left 0 t.size D.ris λx hx=>⟨Bj _,(D.Xj x hx).1⟩;omega
  obtain⟨r,hr,hr2⟩:∃r∈left,Qq t left r=true:=by
   obtain⟨l0,l1,rfl⟩:∃l0 l1,left=l0::l1:=by cases left with | nil=>exact absurd rfl he | cons a l=>exact⟨a,l,rfl⟩
   refine⟨l0,.head _,?_⟩;obtain⟨h1,h2⟩:=D.Xj l0 (.head _);unfold Qq;cases e:en t 0 l0 with
   | word w=>rw [e] at h2;cases h2
   | pair a b=>
    obtain⟨g1,g2⟩:=eK t h1 e;have Ô:∀y∈l0::l1,l0<=y:=λy hy=>by
     rcases Ax.mp hy with rfl | hy
     ·exact Ao _
     ·exact DU ((D9.mp D.ris).1 y hy)
    have na:a∉l0::l1:=λz=>by have:=Ô a z;omega
    have nb:b∉l0::l1:=λz=>by have:=Ô b z;omega
    show (!decide _&&!decide _)=true;rw [decide_eq_false na,decide_eq_false nb];rfl
  have ne:au (left.filter (Qq t left))≠[]:=by
   intro z;have:=congrArg BV z;rw [bD] at this;have m:=AJ.mpr ⟨hr,hr2⟩;rw [Et.mp this] at m;cases m
  have e5:L9 (au (left.filter (Qq t left)))=.ret (au (left.filter (Qq t left))):=r9 (OW _);simp only [gt,ee,if_true,im,db];refine sA (Qq t left) (λk hk=>?_) ?_
  ·obtain⟨h1,h2⟩:=D.Xj k hk;unfold Qq;cases e:en t 0 k with
   | word w=>rw [e] at h2;cases h2
   | pair a b=>
    have j0:ck [PV.int (a:Int),PV.int (b:Int)] 0=ap (.int a):=rfl;have j1:ck [PV.int (a:Int),PV.int (b:Int)] 1=ap (.int b):=rfl;simp only [im,bK,aW,w5 t h1,e,Ent.pv,ss,aD,j0,j1,xr,if_true];by_cases ca:a∈left
    ·simp [ca]
    ·simp [ca];by_cases cb:b∈left
     ·simp [cb]
     ·simp [cb]
  rw [e5];refine pick_run ne (by rw [bD];have:=Bd (Qq t left) left;omega) λx hx=>?_;obtain⟨j,hj,rfl⟩:=Ay.mp hx;obtain⟨V7,KI⟩:=AJ.mp hj;obtain⟨js,jp⟩:=D.Xj j V7;cases ej:en t 0 j with
  | word w=>rw [ej] at jp;cases jp
  | pair a b=>
  unfold Qq at KI;rw [ej] at KI;simp at KI;simp only [fC,gt,bR 3 (by decide) (by decide)];refine bf λz z0 z1=>?_;obtain⟨m,hm,m0,m1⟩:=Vx z0 z1;simp only [aW,hm,ss,gt,bR m m0 ∅];refine bf λy y0 y1=>?_;have ď:UL (au left) (.int (j:Int))=.ret (au (left.erase j)):=by
   show am (sI (au left)) _=_;rw [u9,pz];show W.fF _ _=_;rw [r9 (Ay.mpr ⟨j,V7,rfl⟩),tF,<- u9]
  simp only [fC,gt,jY (l:=dH ds) (k:=j) (by rw [ic,D.len];exact js),ď,NQ];refine⟨(left.erase j).length,by rw [En V7];have:=EH V7;omega,_,_,_,rfl,rfl,D.next V7 ej KI.1 KI.2 y0,?_⟩;rw [En V7];have:=EH V7;omega
def pY.size {t:Tr} (g:pY t):t.size<=15:=by have:=t.size_eq;have:=g.few;omega
def pY.depth {t:Tr} (g:pY t):t.depth < 8:=by have:=t.ox;have:=g.few;omega
def PM {x:Str} (h:Wd x):jA (.str x)=.ret (.bl true):=by
 unfold jA;obtain⟨h1,h2,h3⟩:=h;have c1:x.length<=sizeLine:=aU ∅;have c2:x.cps.size<=sizeLine:=c1;have c3:(1:Int)<=(x.length:Int):=by omega
 have c4:(x.length:Int)<=8:=by omega
 simp only [im,dm,eX,a9,A1,Ag,if_false,RZ,r9 c1,JG,c3,c4,decide_true,pG,aY,Oo,r9 c2];rw [w9 (g:=λ_=>PV.bl true) λy hy=>?_]
 ·simp only [im];rw [all_map (λ_=>true)];congr 2;exact Cp.mpr λ_ _=>rfl
 ·obtain⟨c,hc,rfl⟩:=Ay.mp hy;obtain⟨k1,k2⟩:=h3 c hc;simp only [Wz,Hd k1 k2]
def Mu (l:List PV) (n:Int):fM (.tup l) (.int n)=.ret (.bl ((l.length:Int)==n)):=by
 unfold fM;simp only [im,dj,km,iQ,br,cE]
def UJ (x:Str) (n:PV):fM (.str x) n=.ret (.bl false):=by
 unfold fM;simp only [im,dm,R1,JH]
def L3 (i:Int):hJ (.int i)=.ret (.bl true):=by
 unfold hJ;simp
def N6 (t:Tr) (hw:t.Ws) (b:Bool) (hd:b=true\/t.aJ.Nodup) (hz:t.size<=900):(hU t.pv (.bl b)).le (.ret (.bl true)):=λQ q=>by
 unfold hU;simp only [im,db];refine Gg (λn s=>∃(ts:List Tr) (kvs:List (Key×PV)),n=sizes ts/\s=(kvs,ts.map Tr.pv)/\(∀x∈ts.flatMap Tr.aJ,Wd x)/\(b=true\/(ts.flatMap Tr.aJ).Nodup/\∀x∈ts.flatMap Tr.aJ,qp kvs (.inr x)=false)/\sizes ts+kvs.length<=900) (n:=sizes [t]) ⟨[t],[],rfl,rfl,λx hx=>hw x (by simpa using hx),by rcases hd with h | h;exact .inl h;exact .inr ⟨by simpa using h,by simp [qp]⟩,by rw [fo];simpa using hz⟩ ?_;rintro n s ⟨ts,kvs,rfl,rfl,h1,h2,h3⟩;by_cases he:ts=[]
 ·subst he;exact q
 ·obtain⟨us,u,rfl⟩:=qH he;have hsu:=u.size_pos;have LU:=len_sizes us;rw [bU,fo] at h3;have ee:(!((us++[u]).map Tr.pv).isEmpty)=true:=by simp
  have em:(us++[u]).map Tr.pv=us.map Tr.pv++[u.pv]:=by simp
  simp only [im,gt,ee,if_true,db];rw [em];simp only [Ot,gt];cases u with
  | leaf x=>
   have wx:Wd x:=h1 x (by simp [Tr.aJ]);have c1:kvs.length < sizeLine:=uY ∅;have cb:=h2.imp id λh=>h.2 x (by simp [Tr.aJ]);have ct:(if (qp kvs (.inr x))=true then (bd (!b)) else bd false)=bd false:=by
    rcases cb with h | h
    ·rw [h];split <;> rfl
    ·rw [h];rfl
   simp only [Tr.pv,UJ,a9,gt,Ag,if_false,PM wx,A1,im,R0,ct,UY,r9 c1,db];refine⟨sizes us,by rw [bU,fo];show sizes us < sizes us+1;omega,us,_,rfl,rfl,λy hy=>h1 y (by simp [hy]),?_,?_⟩
   ·rcases h2 with h | ⟨h,k⟩
    ·exact .inl h
    ·right
     rw [B5] at h;have nx:x∉us.flatMap Tr.aJ:=λz=>by
      have:=(CB.mp h).2.2 x z x (by simp [Tr.aJ]);exact this rfl
     refine⟨(CB.mp h).1,λy hy=>?_⟩;have ky:=k y (by simp [hy]);have kx:=k x (by simp [Tr.aJ]);have nyx:x≠y:=λz=>nx (z▸hy);unfold putP;rw [kx];show qp (kvs++[_]) _=false;unfold qp at ky ⊢;rw [List.any_append,ky];simp [nyx]
   ·have:(putP kvs (.inr x) (.bl true)).length<=kvs.length+1:=by
     unfold putP
     split <;> simp
    omega
  | node c d=>
   have hsz:(Tr.node c d).size=c.size+d.size+1:=rfl;have e1:xI (us.map Tr.pv) [c.pv,d.pv]=.ret (us.map Tr.pv++[c.pv,d.pv]):=r9 (aU (by simp;omega));have e2:(([c.pv,d.pv].length:Int)==2)=true:=rfl;simp only [Tr.pv,Mu,e2,a9,gt,if_true,aD,e1,db];have e3:sizes [c,d]=c.size+d.size:=by simp [sizes]
   refine⟨sizes (us++[c,d]),by rw [bU,bU,fo,e3];omega,us++[c,d],kvs,rfl,by simp,λy hy=>h1 y (by simpa [Tr.aJ,B5] using hy),?_,by rw [bU,e3];omega⟩;refine h2.imp id λ⟨h,k⟩=>⟨by simpa [Tr.aJ,B5] using h,λy hy=>k y (by simpa [Tr.aJ,B5] using hy)⟩
def Y5 (t:Tr) (ds:List Int) (j:Nat):Bool:=match en t 0 j with
 | .word _=>ds.getD j 0==0
 | .pair a b=>decide (ds.getD a 0 < ds.getD j 0)&&decide (ds.getD b 0 < ds.getD j 0)&&decide (1<=ds.getD j 0)&&decide (ds.getD j 0<=99)
def J9 (t:Tr) (ds:List Int):List Int:=(splits t).map (ds.getD · 0)
def Rv (t:Tr) (ds:List Int):Bool:=decide (ds.length=t.size)&&(decide (J9 t ds).Nodup&&(AA t.size).all (Y5 t ds))
def int_at {ds:List Int}{j:Nat} (h:j < ds.length):ck (dH ds) (j:Int)=ap (.int (ds.getD j 0)):=bL (by
 unfold dH;rw [Ak,Ad h,Ap,Ad h];rfl)
def Ua (t:Tr) (ds:List Int) (h:ds.length=t.size):f7 ((t.nd 0).map Ent.pv) (dH ds)=(AA t.size).map λj=>PV.tup [(en t 0 j).pv,.int (ds.getD j 0)]:=by
 refine BB λj=>?_;by_cases hj:j < t.size
 ·have hl:j < (f7 ((t.nd 0).map Ent.pv) (dH ds)).length:=by rw [ny];simp [t.bz,h];exact hj
  obtain⟨x,y,hx,hy,e⟩:=rk (Ad hl);rw [Ak,gm t 0 j hj] at hx;have vm:=Option.some.inj hx;have Pr:j < ds.length:=by omega
  unfold dH at hy;rw [Ak,Ad Pr] at hy;have V3:=Option.some.inj hy;rw [Ad hl,e,<- vm,<- V3,Ak,BK hj];show _=ap (PV.tup [_,.int (ds.getD j 0)]);rw [Ap,Ad Pr];rfl
 ·rw [AN (by rw [ny];simp [t.bz,h];omega),AN (by simp;omega)]
def split_le (t:Tr) (ds:List Int) (h:ds.length=t.size) (hz:t.size<=900):dX (.tup ((t.nd 0).map Ent.pv)) (.tup (dH ds))=.ret (dH (J9 t ds)):=by
 unfold dX;have c:((t.nd 0).map Ent.pv).length<=sizeLine:=aU (by rw [Ah,t.bz];omega);simp only [im,aD,ub,r9 c,Ua t ds h];rw [G5 (g:=λx=>match x with | .tup [.str _,_]=>bv | .tup [_,y]=>ap y | _=>bv) λx hx=>?_]
 ·congr 1;unfold J9 splits dH;generalize AA t.size=l
  induction l with
  | nil=>rfl
  | cons j l ih=>
   rw [Au,Bs,Dr,ih];cases e:en t 0 j with
   | word w=>rfl
   | pair a b=>rfl
 ·obtain⟨j,hj,rfl⟩:=Ay.mp hx;cases en t 0 j with
  | word w=>simp [Ent.pv]
  | pair a b=>simp [Ent.pv]
section
variable {α β:Type}
theorem Nn {c:α->PV}{f:PV->W PV}{g:α->PV}:∀{l:List α},(∀x∈l,(f (c x)).le (.ret (g x)))->(mapW (l.map c) f).le (.ret (l.map g))
 | [],_=>W.le.refl _
 | x::r,h=>W.le.ret (h x (.head _)) (W.le.ret (Nn λy hy=>h y (.tail _ hy)) (W.le.refl _))
theorem Te {c:α->PV}{f:PV->W (Option PV)}{g:α->Option PV}:∀{l:List α},(∀x∈l,(f (c x)).le (.ret (g x)))->(kQ (l.map c) f).le (.ret (l.filterMap g))
 | [],_=>W.le.refl _
 | x::r,h=>W.le.ret (h x (.head _)) (W.le.ret (Te λy hy=>h y (.tail _ hy)) (W.le.of_eq (by rw [Bs];cases g x <;> rfl)))
def ka {c:α->PV}{f:PV->W PV}{Q:List PV->Prop} (g:α->PV) {l:List α} (h:∀x∈l,(f (c x)).le (.ret (g x))) (q:Q (l.map g)):(mapW (l.map c) f).run Q:=Nn h Q q
def xi {c:α->PV}{f:PV->W (Option PV)}{Q:List PV->Prop} (g:α->Option PV) {l:List α} (h:∀x∈l,(f (c x)).le (.ret (g x))) (q:Q (l.filterMap g)):(kQ (l.map c) f).run Q:=Te h Q q
theorem Jz {p:α->Bool}{g:α->β}:∀l:List α,l.filterMap (λx=>if p x=true then ap (g x) else bv)=(l.filter p).map g
 | []=>rfl
 | x::l=>by
  rw [Bs,Dr,Jz l];cases p x <;> rfl
end
def OC {α:Type} (c:α->PV) (l:List α) (k:Nat):dZ k (l.map c)=(l.zipIdx k).map λp=>PV.tup [.int ((p.2:Nat):Int),c p.1]:=by
 induction l generalizing k with
 | nil=>rfl
 | cons a l ih=>rw [Au,dZ,ih,List.zipIdx_cons,Au]
def vp:V->PV
 | .int i=>.int i
 | .str x=>.str x
 | .bl b=>.bl b
 | _=>.aX
def XE (t:Tr):List PV:=(ah (t.nd 0) 0 (Am t.size V.aX)).map vp
@[simp] theorem JT (t:Tr):(XE t).length=t.size:=by unfold XE;rw [Ah,Ib,A7]
def JU (t:Tr) {j:Nat} (h:j < t.size):(XE t)[j]?=ap (vp (kN t 0 j .aX)):=by unfold XE;rw [Ak,WY t h];rfl
def de (t:Tr):((t.nd 0).map Ent.pv).length=t.size:=by rw [Ah,t.bz]
def FU (t:Tr) (hz:t.size<=900):(ft t.pv).le (.ret (.tup (XE t))):=λQ q=>by
 unfold ft;have c:((t.nd 0).map Ent.pv).length<=sizeLine:=aU (by rw [de];omega);simp only [im,db];refine W.le.use (nR t hz) ?_;simp only [aD,gt];refine GV (λ_=>.aX) (λx hx=>rfl) ?_;simp only [r9 c,gt];have e0:((t.nd 0).map Ent.pv).map (λ_=>PV.aX)=(ah ((t.nd 0).take 0) 0 (Am t.size V.aX)).map vp:=by
  rw [List.take_zero,ah,List.map_replicate,EX,de];rfl
 rw [e0];refine kj (λi s=>s=(ah ((t.nd 0).take i) 0 (Am t.size V.aX)).map vp) rfl (λi x s hx hs=>?_) (λs hs=>?_)
 ·subst hs;have hi:i < t.size:=by have:=(Al.mp hx).1;rw [cS,de] at this;exact this
  obtain⟨y,hy,rfl⟩:=gN hx;have e:=gm t 0 i hi;rw [Ak,e] at hy;have hy:=Option.some.inj hy;subst hy;have et:(t.nd 0).take (i+1)=(t.nd 0).take i++[en t 0 i]:=by rw [E9,e];rfl
  have ea:ah ((t.nd 0).take (i+1)) 0 (Am t.size V.aX)=Pf (ah ((t.nd 0).take i) 0 (Am t.size V.aX)) (0+i) (en t 0 i):=by
   rw [et,yj,Cc,t.bz];congr 1;omega
  have hal:(ah ((t.nd 0).take i) 0 (Am t.size V.aX)).length=t.size:=by rw [Ib,A7]
  rw [ea];generalize hA:ah ((t.nd 0).take i) 0 (Am t.size V.aX)=A at hal ⊢;unfold dw;cases ī:en t 0 i with
  | word w=>simp [Ent.pv,dY,Pf]
  | pair a b=>
   obtain⟨ha,hb⟩:=eK t hi ī;have s1:gY (A.map vp) (.int (a:Int)) (.int ((0+i:Nat):Int))=.ret ((A.map vp).set a (.int ((0+i:Nat):Int))):=jY (by rw [Ah];omega);have s2:gY ((A.map vp).set a (.int ((0+i:Nat):Int))) (.int (b:Int)) (.int ((0+i:Nat):Int))=.ret (((A.map vp).set a (.int ((0+i:Nat):Int))).set b (.int ((0+i:Nat):Int))):=jY (by rw [BL,Ah];omega);simp only [Ent.pv,pD,gt,dj,gF,a9,db,Ag,if_false,aD,dY,im,s1,s2];show _=FO vp ((A.set a _).set b _);rw [EG,EG];rfl
 ·subst hs;simp only [cS,Ah];rw [List.take_length];exact q
def Jf (e:Ent) (j:Nat):PV:=match e with | .word x=>.str x | .pair _ _=>.int (j:Int)
def stB (t:Tr) (ds:List Int) (b:Int) (j:Nat):Bool:=decide (ds.getD j 0<=b)&&(match kN t 0 j .aX with | .int a=>decide (b < ds.getD a.toNat 0) | _=>true)
def yN (t:Tr) (ds:List Int) (b:Int) (n j:Nat):List (Nat×Nat):=((AA j).filter (stB t ds b)).map λk=>(k,n)
def aP (t:Tr) (ds bs:List Int):Nat->List (Nat×Nat)
 | 0=>[]
 | i+1=>aP t ds bs i++yN t ds (bs.getD i 0) i t.size
def LR (l:List (Nat×Nat)):List PV:=l.map λp=>.tup [.int (p.1:Int),.int (p.2:Int)]
def wB (t:Tr) (ds:List Int) (b:Int) (n j:Nat):(yN t ds b n j).length<=j:=by
 unfold yN;rw [Ah];refine Bp (Bd _ _) ?_;rw [Ck];exact Ao _
theorem jW (t:Tr) (ds bs:List Int):∀i,(aP t ds bs i).length<=i*t.size
 | 0=>Bj _
 | i+1=>by
  rw [aP,Ae];have h1:=jW t ds bs i;have h2:=wB t ds (bs.getD i 0) i t.size;rw [Fx];omega
def Md (t:Tr) (ds:List Int) (b:Int) (n j:Nat):yN t ds b n (j+1)=yN t ds b n j++(if stB t ds b j then [(j,n)] else []):=by
 unfold yN;rw [ET,List.filter_append,A6];congr 1;by_cases c:stB t ds b j <;> simp [c]
def sE (p:Nat×Nat):List Key:=[.inl (p.1:Int),.inl (p.2:Int)]
def zu {p q:Nat×Nat} (h:sE p=sE q):p=q:=by
 obtain⟨a,b⟩:=p;obtain⟨c,d⟩:=q;simp [sE] at h;obtain⟨h1,h2⟩:=h;exact Prod.ext (by show a=c;omega) (by show b=d;omega)
def mT:Nat->List (Nat×Nat)->List (List Key×PV)
 | _,[]=>[]
 | k,p::l=>(sE p,.int (k:Int))::mT (k+1) l
theorem lX:∀(k:Nat) (l:List (Nat×Nat)),(mT k l).map (·.1)=l.map sE
 | _,[]=>rfl
 | k,p::l=>by rw [mT,Au,Au,lX (k+1) l]
def zb (k:Nat) (l:List (Nat×Nat)):(mT k l).length=l.length:=by have:=congrArg BV (lX k l);simpa using this
theorem rZ:∀(k:Nat) (l:List (Nat×Nat)) (p:Nat×Nat),p∈l->my (mT k l) (sE p)=ap (.int ((k+l.idxOf p:Nat):Int))
 | k,q::l,p,h=>by
  rw [List.idxOf_cons];by_cases c:q=p
  ·subst c;simp [mT,my]
  ·have hp:p∈l:=(Ax.mp h).elim (λz=>absurd z.symm c) id;have ih:=rZ (k+1) l p hp;have c2:sE q≠sE p:=λz=>c (zu z);have c3:(q==p)=false:=by simpa using c
   have e:my (mT k (q::l)) (sE p)=my (mT (k+1) l) (sE p):=by simp [mT,my,c2]
   rw [e,ih,c3];congr 2;show ((k+1+l.idxOf p:Nat):Int)=((k+(l.idxOf p+1):Nat):Int);omega
def F8 (e:Ent) (j:Nat) (d b:Int):List Nat:=if d < b then [j] else match e with | .word _=>[] | .pair x y=>[x,y]
def WS (l:List (Nat×Nat)) (j n:Nat):List Nat:=(l.filter λp=>decide (p.2=n)&&!decide (p.1=j)).map λp=>l.idxOf p
def JM (e:Ent) (l:List (Nat×Nat)) (j n:Nat) (d b:Int):PV:=.tup [Jf e j,.int (n:Int),.tup (au ((F8 e j d b).map λx=>l.idxOf (x,n-1))),.tup (au (WS l j n))]
def Ji {α β:Type}{f:α->β} (hf:∀x y,f x=f y->x=y) {l:List α} (h:l.Nodup):(l.map f).Nodup:=List.Pairwise.map f (λa b n z=>n (hf a b z)) h
def J6 (t:Tr) (ds:List Int) (b:Int) (n j:Nat):(yN t ds b n j).Nodup:=by
 exact Ji (λx y h=>(Prod.mk.inj h).1) (List.Pairwise.filter _ List.nodup_range)
theorem gW {t:Tr}{ds bs:List Int}:∀{i:Nat}{p:Nat×Nat},p∈aP t ds bs i->p.2 < i/\p.1 < t.size
 | 0,_,h=>by simp [aP] at h
 | i+1,p,h=>by
  rw [aP] at h;rcases A5.mp h with h | h
  ·have:=gW h;omega
  ·obtain⟨k,hk,rfl⟩:=Ay.mp h;have:=AO.mp (AJ.mp hk).1;exact⟨Dp _,this⟩
theorem jV (t:Tr) (ds bs:List Int):∀i,(aP t ds bs i).Nodup
 | 0=>Fb
 | i+1=>by
  rw [aP];refine CB.mpr ⟨jV t ds bs i,J6 _ _ _ _ _,λa ha b hb z=>?_⟩;subst z;have h1:=(gW ha).1;obtain⟨k,_,rfl⟩:=Ay.mp hb;exact Ba _ h1
def ib {l:List PV}{k:Nat}{v:PV} (h:l[k]?=ap v):Jq l (.int (k:Int))=.ret v:=by
 rw [aW,bL h];rfl
def zQ (ds:List Int) {i:Nat}{x:PV} (h:(dZ 0 (dH ds))[i]?=ap x):i < ds.length/\x=.tup [.int (i:Int),.int (ds.getD i 0)]:=by
 have hi:i < ds.length:=by have:=(Al.mp h).1;rw [cS,ic] at this;exact this
 obtain⟨y,hy,rfl⟩:=gN h;unfold dH at hy;rw [Ak,Ad hi] at hy;have hy:=Option.some.inj hy;subst hy;refine⟨hi,?_⟩;rw [AR,Ap,Ad hi];rfl
def yM (t:Tr) (ds bs:List Int) (hd:ds.length=t.size) (hz:t.size<=100) (hb:bs.length*t.size<=900) (hb2:bs.length<=900):(g8 t.pv (.tup (dH ds)) (.cl (dH bs))).le (.ret (LR (aP t ds bs bs.length))):=λQ q=>by
 unfold g8;have c1:(dH bs).length<=sizeLine:=aU (by rw [ic];omega);have c2:(dH ds).length<=sizeLine:=aU (by rw [ic];omega);simp only [im,db];refine W.le.use (FU t ∅) ?_;simp only [bK,gt,r9 c1];refine kj (λi s=>s=LR (aP t ds bs i)) rfl (λi x s hx hs=>?_) (λs hs=>?_)
 ·subst hs;obtain⟨hi,rfl⟩:=zQ bs hx;simp only [pD,gt,db,aD,r9 c2];have hl:=jW t ds bs i;have hm:i*t.size+t.size<=900:=by
   have:(i+1)*t.size<=bs.length*t.size:=Nat.mul_le_mul_right _ hi;rw [Fx] at this;omega
  refine kj (λj s=>s=LR (aP t ds bs i++yN t ds (bs.getD i 0) i j)) (by simp [yN]) (λj x s hx hs=>?_) (λs hs=>?_)
  ·subst hs;obtain⟨hj,rfl⟩:=zQ ds hx;have LU:=wB t ds (bs.getD i 0) i j;simp only [pD,gt,db];rw [Md];have Xn:j < t.size:=by omega
   have Ā:stB t ds (bs.getD i 0) j=true->(lR (LR (aP t ds bs i++yN t ds (bs.getD i 0) i j)) (PV.tup [.int (j:Int),.int (i:Int)])).run λs=>s=LR (aP t ds bs i++(yN t ds (bs.getD i 0) i j++if stB t ds (bs.getD i 0) j=true then [(j,i)] else [])):=λc=>by
    rw [je (by unfold LR;rw [Ah,Ae];omega),if_pos c];unfold LR;rw [<- A4,A6 (l₂:=[(j,i)])];rfl
   have no:stB t ds (bs.getD i 0) j=false->LR (aP t ds bs i++yN t ds (bs.getD i 0) i j)=LR (aP t ds bs i++(yN t ds (bs.getD i 0) i j++if stB t ds (bs.getD i 0) j=true then [(j,i)] else [])):=λc=>by rw [c];simp
   generalize eb:bs.getD i 0=b at Ā no ⊢;generalize ed:ds.getD j 0=d at *;simp only [im,db,JG,gt,aY,aD,ib (JU t Xn)];by_cases c:d<=b
   ·simp only [c,decide_true,if_true,db,gt];rcases rC t 0 j .aX [] Xn with⟨_,e,_⟩ | ⟨a,_,ha,e,_⟩
    ·have sb:stB t ds b j=true:=by unfold stB;rw [e,ed];simp [c]
     rw [e];simp only [vp,pF,gt,aY,PV.mE,if_true];exact Ā sb
    ·rw [AR] at e;have sb:stB t ds b j=decide (b < ds.getD a 0):=by unfold stB;rw [e,ed];simp [c]
     rw [e];have i2:ck (dH ds) (a:Int)=ap (.int (ds.getD a 0)):=int_at ∅;simp only [vp,pF,gt,aY,PV.mE,Ag,if_false,aW,i2,ss,mH,im];by_cases c2:b < ds.getD a 0
     ·rw [decide_eq_true c2] at sb ⊢;exact Ā sb
     ·rw [decide_eq_false c2] at sb ⊢;exact no sb
   ·have sb:stB t ds b j=false:=by unfold stB;rw [ed];simp [c]
    simp only [c,decide_false,Ag,if_false,gt];exact no sb
  ·subst hs;rw [cS,ic,hd];rfl
 ·subst hs;rw [cS,ic];exact q
def Q4 {l:List (Nat×Nat)} (h:l≠[]) (k:Nat):mT k l≠[]:=by cases l with | nil=>exact absurd rfl h | cons a l=>simp [mT]
def GK (k:Nat) (l:List (Nat×Nat)):((mT k l).map λkv=>PV.tup (kv.1.map kP))=l.map λp=>PV.tup [.int (p.1:Int),.int (p.2:Int)]:=by
 have:=congrArg (FO λx:List Key=>PV.tup (x.map kP)) (lX k l);rw [AL,AL] at this;exact this
def Qb {es:List Ent}{ds bs:List Int}{l:List (Nat×Nat)}{j n:Nat}{e:Ent} (h1:es[j]?=ap e) (h2:j < ds.length) (h3:n < bs.length) (hl:l.length<=1000) (h0:l≠[])
  (hb:∀x∈F8 e j (ds.getD j 0) (bs.getD n 0),1<=n/\(x,n-1)∈l) :
  (jz (.tup (es.map Ent.pv)) (.tup (dH ds)) (.cl (dH bs)) (Px (mT 0 l)) (.tup [.int (j:Int),.int (n:Int)])).le (.ret (JM e l j n (ds.getD j 0) (bs.getD n 0))):=λQ q=>by
 unfold jz;have i0:ck [PV.int (j:Int),PV.int (n:Int)] 0=ap (.int j):=rfl;have i1:ck [PV.int (j:Int),PV.int (n:Int)] 1=ap (.int n):=rfl;have i2:ck (dH ds) (j:Int)=ap (.int (ds.getD j 0)):=int_at h2;have i3:ck (dH bs) (n:Int)=ap (.int (bs.getD n 0)):=int_at h3;have i4:ck (es.map Ent.pv) (j:Int)=ap e.pv:=bL (by rw [Ak,h1];rfl);simp only [im,db,aD,bK,aW,i0,i1,i2,i3,i4,ss,gt,mH,a9];generalize hdj:ds.getD j 0=d at *;generalize hbn:bs.getD n 0=b at *;have below:∀{R:PV->Prop},R (.tup (au (F8 e j d b)))->(if decide (d < b)=true then bd (PV.tup [PV.int (j:Int)]) else dw e.pv).run R:=λ{R} r=>by
  unfold F8 at r;unfold dw;by_cases c:d < b
  ·rw [if_pos c] at r;simpa [c] using r
  ·cases e with
   | word w=>simpa [c,Ent.pv] using r
   | pair a b=>simpa [c,Ent.pv] using r
 refine below ?_;refine ka (λx=>.int ((l.idxOf (x,n-1):Nat):Int)) (λk hk=>?_) ?_
 ·obtain⟨g1,g2⟩:=hb k hk;intro R r;have en1:(n:Int)-1=((n-1:Nat):Int):=by omega
  simp only [dgB,im,db,lK,gt,en1];rw [show PV.tup [.int (k:Int),.int ((n-1:Nat):Int)]=.tup ((sE (k,n-1)).map kP) from rfl];refine JO (rZ 0 l (k,n-1) g2) ?_;rw [AR];exact r
 simp only [db,Hz,gt];refine Kv (Q4 h0 0) (by rw [zb];exact hl) ?_;rw [GK];refine xi (λp=>if (decide (p.2=n)&&!decide (p.1=j))=true then ap (.int ((l.idxOf p:Nat):Int)) else bv) (λp hp=>?_) ?_
 ·intro R r;obtain⟨u,v⟩:=p;have j0:ck [PV.int (u:Int),PV.int (v:Int)] 0=ap (.int u):=rfl;have j1:ck [PV.int (u:Int),PV.int (v:Int)] 1=ap (.int v):=rfl;simp only [dgB,im,db,aD,aW,j0,j1,ss,gt,cE,pE,aY];have get:∀{R:PV->Prop},R (.int ((l.idxOf (u,v):Nat):Int))->(dgW (Px (mT 0 l)) (PV.tup [.int (u:Int),.int (v:Int)])).run R:=λ{R} r=>by
   refine JO (rZ 0 l (u,v) hp) ?_;rw [AR];exact r
  by_cases c1:v=n
  ·subst c1;by_cases c2:u=j
   ·subst c2;simp only [beq_self_eq_true,A1,if_true,gt,Ag,if_false];simpa using r
   ·have c3:((u:Int)==(j:Int))=false:=by simp;omega
    simp only [beq_self_eq_true,c3,Fc,if_true,gt,db];refine get ?_;simpa [c2] using r
  ·have c3:((v:Int)==(n:Int))=false:=by simp;omega
   simp only [c3,Ag,if_false,gt];simpa [c1] using r
 rw [Jz];have nm:∀{R:PV->Prop},R (Jf e j)->(eG (.tup (es.map Ent.pv)) (.int (j:Int))).run R:=λ{R} r=>by
  unfold eG;simp only [im,db,aD,aW,i4,ss,gt];cases e with
  | word w=>simpa [Ent.pv,Jf] using r
  | pair a b=>simpa [Ent.pv,Jf] using r
 refine nm ?_;have e1:(l.filter λp=>decide (p.2=n)&&!decide (p.1=j)).map (λp=>PV.int ((l.idxOf p:Nat):Int))=au (WS l j n):=by
  unfold au WS;rw [AL];rfl
 have e2:(F8 e j d b).map (λx=>PV.int ((l.idxOf (x,n-1):Nat):Int))=au ((F8 e j d b).map λx=>l.idxOf (x,n-1)):=by
  unfold au;rw [AL];rfl
 rw [e1,e2];exact q
def Xz (t:Tr) (ds bs:List Int):List PV:=(aP t ds bs bs.length).map λp=>JM (en t 0 p.1) (aP t ds bs bs.length) p.1 p.2 (ds.getD p.1 0) (bs.getD p.2 0)
def okD (t:Tr) (ds bs:List Int):Prop:=∀p∈aP t ds bs bs.length,∀x∈F8 (en t 0 p.1) p.1 (ds.getD p.1 0) (bs.getD p.2 0),1<=p.2/\(x,p.2-1)∈aP t ds bs bs.length
theorem sd:∀(k:Nat) (l:List (Nat×Nat)),(l.zipIdx k).map (λp=>PV.tup [PV.tup [.int (p.1.1:Int),.int (p.1.2:Int)],.int ((p.2:Nat):Int)])=(mT k l).map Ja
 | _,[]=>rfl
 | k,p::l=>by rw [List.zipIdx_cons,Au,sd (k+1) l];rfl
def bb (t:Tr) (ds:List Int):List Int:=0::sortI (J9 t ds)
def IM (t:Tr) (ds:List Int):(J9 t ds).length<=t.size:=by
 unfold J9 splits;rw [Ah];have:=Bd (λj=>uB (en t 0 j)) (AA t.size);rw [Ck] at this;exact this
def va {x:Int}{l:List Int}:x∈sortI l↔x∈l:=(CN l _).mem_iff
def oY (l:List Int):(sortI l).length=l.length:=(CN l _).length_eq
def OV (t:Tr) (ds:List Int) (hd:ds.length=t.size) (hz:t.size<=25) (h0:aP t ds (bb t ds) (bb t ds).length≠[]) (ok:okD t ds (bb t ds)):(md t.pv (.tup (dH ds))).le (.ret (.tup (Xz t ds (bb t ds)))):=λQ q=>by
 unfold md;simp only [im,db];refine W.le.use (nR t ∅) ?_;have hs:=IM t ds;have hl:(bb t ds).length<=t.size+1:=by unfold bb;rw [An,oY];omega
 have e2:wD (dH (J9 t ds))=.ret (dH (sortI (J9 t ds))):=by
  unfold wD dH;rw [pz];show W.fF _ _=_;rw [r9 ∅]
 have e3:yc [PV.int 0] (dH (sortI (J9 t ds)))=.ret (dH (bb t ds)):=by
  rw [pL (by rw [ic,oY];simp;omega)];rfl
 simp only [split_le t ds hd ∅,gt,e2,e3];have hb:(bb t ds).length*t.size<=900:=by
  have:(bb t ds).length*t.size<=26*25:=Nat.mul_le_mul ∅ hz;omega
 refine W.le.use (yM t ds (bb t ds) hd ∅ hb ∅) ?_;generalize hL:aP t ds (bb t ds) (bb t ds).length=L at *;have hLl:L.length<=900:=by rw [<- hL];exact Bp (jW _ _ _ _) hb
 have hLm:∀p∈L,p.2 < (bb t ds).length/\p.1 < t.size:=λp hp=>gW (hL▸hp);have c:(LR L).length<=sizeLine:=aU (by unfold LR;rw [Ah];omega);simp only [bK,gt,r9 c,im];unfold LR;rw [OC];refine ka (λp:(Nat×Nat)×Nat=>PV.tup [PV.tup [.int (p.1.1:Int),.int (p.1.2:Int)],.int ((p.2:Nat):Int)]) (λp _ R r=>by simpa using r) ?_;rw [sd];refine Li ?_ (by rw [zb];omega) ?_
 ·rw [lX];exact Ji (λ_ _ h=>zu h) (hL▸jV t ds _ _)
 refine ka (λp:Nat×Nat=>JM (en t 0 p.1) L p.1 p.2 (ds.getD p.1 0) ((bb t ds).getD p.2 0)) (λp hp=>?_) ?_
 ·obtain⟨g1,g2⟩:=hLm p hp;refine Qb (gm t 0 p.1 g2) ∅ g1 ∅ h0 λx hx=>?_;have:=ok p (by rw [hL];exact hp) x hx;rw [hL] at this;exact this
 ·have:Xz t ds (bb t ds)=L.map λp:Nat×Nat=>JM (en t 0 p.1) L p.1 p.2 (ds.getD p.1 0) ((bb t ds).getD p.2 0):=by unfold Xz;rw [hL]
  rw [<- this];exact q
theorem kA:∀(t:Tr) (o x:Nat) (p:V),x < t.size->(x=t.size-1/\kN t o x p=p)\/∃a u v,x < a/\a < t.size/\kN t o x p=.int ((o+a:Nat):Int)/\en t o a=.pair u v/\(u=o+x\/v=o+x)
 | .leaf _,o,x,p,h=>.inl ⟨by have:x < 1:=h;show x=0;omega,rfl⟩
 | .node l r,o,x,p,h=>by
  have es:(Tr.node l r).size=l.size+r.size+1:=rfl;have top:en (.node l r) o (l.size+r.size)=.pair (o+l.size-1) (o+l.size+r.size-1):=by rw [en,if_neg ∅,if_neg ∅]
  by_cases c1:x < l.size
  ·rw [show kN (.node l r) o x p=kN l o x (.int (o+l.size+r.size:Nat)) by rw [kN,if_pos c1]];rcases kA l o x (.int (o+l.size+r.size:Nat)) c1 with⟨h1,h2⟩ | ⟨a,u,v,h1,h2,h3,h4,h5⟩
   ·exact .inr ⟨l.size+r.size,_,_,by omega,by omega,by rw [h2,Bb],top,.inl ∅⟩
   ·exact .inr ⟨a,u,v,h1,by omega,h3,by rw [en,if_pos h2];exact h4,h5⟩
  ·by_cases c2:x < l.size+r.size
   ·rw [show kN (.node l r) o x p=kN r (o+l.size) (x-l.size) (.int (o+l.size+r.size:Nat)) by rw [kN,if_neg c1,if_pos c2]];rcases kA r (o+l.size) (x-l.size) (.int (o+l.size+r.size:Nat)) ∅ with⟨h1,h2⟩ | ⟨a,u,v,h1,h2,h3,h4,h5⟩
    ·exact .inr ⟨l.size+r.size,_,_,by omega,by omega,by rw [h2,Bb],top,.inr ∅⟩
    ·refine .inr ⟨l.size+a,u,v,by omega,by omega,by rw [h3,Bb],?_,by omega⟩;rw [en,if_neg ∅,if_pos ∅,BX];exact h4
   ·exact .inl ⟨by omega,by rw [kN,if_neg c1,if_neg c2]⟩
theorem tI:∀(t:Tr) (o j:Nat) (p:V) (a b:Nat),j < t.size->en t o j=.pair a b->o<=a/\o<=b/\a < o+j/\b < o+j/\a < b/\kN t o (a-o) p=.int ((o+j:Nat):Int)/\kN t o (b-o) p=.int ((o+j:Nat):Int)
 | .leaf _,o,j,p,a,b,h,e=>by rw [en] at e;cases e
 | .node l r,o,j,p,a,b,h,e=>by
  have es:(Tr.node l r).size=l.size+r.size+1:=rfl;have lp:=l.size_pos;have rp:=r.size_pos;by_cases c1:j < l.size
  ·rw [en,if_pos c1] at e;obtain⟨h1,h2,h3,h4,h5,h6,h7⟩:=tI l o j (.int (o+l.size+r.size:Nat)) a b c1 e;refine⟨h1,h2,h3,h4,h5,?_,?_⟩
   ·rw [kN,if_pos ∅];exact h6
   ·rw [kN,if_pos ∅];exact h7
  ·by_cases c2:j < l.size+r.size
   ·rw [en,if_neg c1,if_pos c2] at e;obtain⟨h1,h2,h3,h4,h5,h6,h7⟩:=tI r (o+l.size) (j-l.size) (.int (o+l.size+r.size:Nat)) a b ∅ e;refine⟨by omega,by omega,by omega,by omega,h5,?_,?_⟩
    ·rw [kN,if_neg ∅,if_pos ∅,E7,h6,show o+l.size+(j-l.size)=o+j by omega]
    ·rw [kN,if_neg ∅,if_pos ∅,E7,h7,show o+l.size+(j-l.size)=o+j by omega]
   ·rw [en,if_neg c1,if_neg c2] at e;injection e with e1 e2;subst e1;subst e2;have hj:j=l.size+r.size:=by omega
    subst hj;have ß:∀(t:Tr) (o:Nat) (p:V),kN t o (t.size-1) p=p:=λt o p=>by
     have tp:=t.size_pos;rcases kA t o (t.size-1) p ∅ with⟨_,h⟩ | ⟨a,_,_,h1,h2,_⟩
     ·exact h
     ·omega
    refine⟨by omega,by omega,by omega,by omega,by omega,?_,?_⟩
    ·rw [kN,if_pos ∅,show o+l.size-1-o=l.size-1 by omega,ß,Bb]
    ·rw [kN,if_neg ∅,if_pos ∅,show o+l.size+r.size-1-o-l.size=r.size-1 by omega,ß,Bb]
structure DD (t:Tr) (ds:List Int):Prop where
 len:ds.length=t.size
 leaf:∀j w,j < t.size->en t 0 j=.word w->ds.getD j 0=0
 pair:∀j a b,j < t.size->en t 0 j=.pair a b->ds.getD a 0 < ds.getD j 0/\ds.getD b 0 < ds.getD j 0/\1<=ds.getD j 0
 nd:(J9 t ds).Nodup
def DD.of {t:Tr}{ds:List Int} (h:Rv t ds=true):DD t ds:=by
 unfold Rv at h;rw [Av,Av,decide_eq_true_iff,decide_eq_true_iff] at h;obtain⟨h1,h2,h3⟩:=h;have h4:∀j,j < t.size->Y5 t ds j=true:=λj hj=>Cp.mp h3 j (AO.mpr hj);refine⟨h1,λj w hj e=>?_,λj a b hj e=>?_,h2⟩
 ·have:=h4 j hj;unfold Y5 at this;rw [e] at this;exact eq_of_beq this
 ·have:=h4 j hj;unfold Y5 at this;rw [e] at this;rw [Av,Av,Av,decide_eq_true_iff,decide_eq_true_iff,decide_eq_true_iff,decide_eq_true_iff] at this;exact⟨this.1.1.1,this.1.1.2,this.1.2⟩
def DD.mem {t:Tr}{ds:List Int} (D:DD t ds) {j:Nat} (hj:j < t.size):ds.getD j 0∈bb t ds:=by
 cases e:en t 0 j with
 | word w=>rw [D.leaf j w hj e];exact .head _
 | pair a b=>
  refine AX _ (va.mpr ?_);exact Ay.mpr ⟨j,AJ.mpr ⟨AO.mpr hj,by rw [e];rfl⟩,rfl⟩
def Mf (l:List Int):(sortI l).Pairwise (·<=·):=(Es (le:=λa b=>decide (a<=b)) (λa b c=>by simp;omega) (λa b=>by simp;omega) l).imp (by simp)
def DD.inc {t:Tr}{ds:List Int} (D:DD t ds):(bb t ds).Pairwise (· < ·):=by
 unfold bb;refine D9.mpr ⟨λx hx=>?_,?_⟩
 ·have hx:=va.mp hx;unfold J9 splits at hx;obtain⟨j,hj,rfl⟩:=Ay.mp hx;obtain⟨h1,h2⟩:=AJ.mp hj;cases e:en t 0 j with
  | word w=>rw [e] at h2;cases h2
  | pair a b=>have:=(D.pair j a b (AO.mp h1) e).2.2;omega
 ·have nd:(sortI (J9 t ds)).Nodup:=(CN _ _).nodup_iff.mpr D.nd;exact (List.Pairwise.and (Mf _) nd).imp λ⟨h1,h2⟩=>Int.lt_iff_le_and_ne.mpr ⟨h1,h2⟩
def sJ {l:List Int} (h:l.Pairwise (· < ·)) {n:Nat} (hn:n < l.length) {x:Int} (hx:x∈l) (lt:x < l.getD n 0):1<=n/\x<=l.getD (n-1) 0:=by
 obtain⟨i,hi,rfl⟩:=DQ hx;have gd:∀{k} (hk:k < l.length),l.getD k 0=l[k]:=λ{k} hk=>by rw [Ap,Ad hk];rfl
 rw [gd hn] at lt;have c:i < n:=by
  rcases De i n with c | c
  ·exact c
  ·rcases D8 c with c | c
   ·subst c;omega
   ·have:=BM.mp h _ _ hn hi c;omega
 refine⟨by omega,?_⟩;rw [gd ∅];rcases D8 (show i<=n-1 by omega) with c2 | c2
 ·subst c2;exact DB _
 ·have:=BM.mp h _ _ hi ∅ c2;omega
def xq {l:List Int} (h:l.Pairwise (· < ·)) {i n:Nat} (hn:n < l.length) (hi:i < n):l.getD i 0 < l.getD n 0:=by
 have gd:∀{k} (hk:k < l.length),l.getD k 0=l[k]:=λ{k} hk=>by rw [Ap,Ad hk];rfl
 rw [gd hn,gd ∅];exact BM.mp h _ _ ∅ hn hi
theorem cL {t:Tr}{ds bs:List Int}:∀{m:Nat}{j n:Nat},(j,n)∈aP t ds bs m↔n < m/\j < t.size/\stB t ds (bs.getD n 0) j=true
 | 0,j,n=>by simp [aP]
 | m+1,j,n=>by
  rw [aP,A5,cL];unfold yN;rw [Ay]
  constructor
  ·rintro (⟨h1,h2,h3⟩ | ⟨k,hk,e⟩)
   ·exact⟨by omega,h2,h3⟩
   ·obtain⟨h1,h2⟩:=AJ.mp hk;injection e with e1 e2;subst e1;subst e2;exact⟨by omega,AO.mp h1,h2⟩
  ·rintro⟨h1,h2,h3⟩;by_cases c:n=m
   ·subst c;exact .inr ⟨j,AJ.mpr ⟨AO.mpr h2,h3⟩,rfl⟩
   ·exact .inl ⟨by omega,h2,h3⟩
def gr {t:Tr}{ds:List Int}{b:Int}{j:Nat} (hj:j < t.size):stB t ds b j=true↔ds.getD j 0<=b/\∀a,kN t 0 j .aX=.int ((a:Nat):Int)->b < ds.getD a 0:=by
 unfold stB;rw [Av,decide_eq_true_iff];rcases kA t 0 j .aX hj with⟨_,e⟩ | ⟨a,u,v,_,ha,e,_,_⟩
 ·rw [e];exact⟨λh=>⟨h.1,λa z=>by cases z⟩,λh=>⟨h.1,rfl⟩⟩
 ·rw [AR] at e;rw [e];refine⟨λh=>⟨h.1,λa' z=>?_⟩,λh=>⟨h.1,?_⟩⟩
  ·injection z with z;have:a=a':=by omega
   subst this;simpa using h.2
  ·simpa using h.2 a rfl
def DD.ok {t:Tr}{ds:List Int} (D:DD t ds):okD t ds (bb t ds):=by
 rintro⟨j,n⟩ hp x hx;obtain⟨hn,hj,hs⟩:=cL.mp hp;obtain⟨F5,qU⟩:=(gr hj).mp hs;have inc:=D.inc;show 1<=n/\(x,n-1)∈_;unfold F8 at hx;by_cases c:ds.getD j 0 < (bb t ds).getD n 0
 ·rw [if_pos c] at hx;have:x=j:=by simpa using hx
  subst this;obtain⟨g1,g2⟩:=sJ inc hn (D.mem hj) c;have lt:=xq inc hn (show n-1 < n by omega);exact⟨g1,cL.mpr ⟨by omega,hj,(gr hj).mpr ⟨g2,λa e=>by have:=qU a e;omega⟩⟩⟩
 ·rw [if_neg c] at hx;cases e:en t 0 j with
  | word w=>rw [e] at hx;cases hx
  | pair a b=>
   rw [e] at hx;obtain⟨p1,p2,p3⟩:=D.pair j a b hj e;obtain⟨_,_,a1,a2,_,a3,a4⟩:=tI t 0 j .aX a b hj e;rw [AR,EE] at *;have hx:x=a\/x=b:=by simpa using hx
   have key:x < t.size/\ds.getD x 0 < ds.getD j 0/\kN t 0 x .aX=.int ((j:Nat):Int):=by
    rcases hx with rfl | rfl
    ·exact⟨by omega,p1,a3⟩
    ·exact⟨by omega,p2,a4⟩
   obtain⟨k1,k2,k3⟩:=key;obtain⟨g1,g2⟩:=sJ inc hn (D.mem k1) ∅;have lt:=xq inc hn (show n-1 < n by omega);refine⟨g1,cL.mpr ⟨by omega,k1,(gr k1).mpr ⟨g2,λa' e'=>?_⟩⟩⟩;rw [k3] at e';injection e' with e';have:j=a':=by omega
   subst this;omega
theorem xN:∀(t:Tr) (o:Nat),∃w,en t o 0=.word w
 | .leaf w,o=>⟨w,rfl⟩
 | .node l r,o=>by rw [en,if_pos (show 0 < l.size from l.size_pos)];exact xN l o
def DD.ne {t:Tr}{ds:List Int} (D:DD t ds):aP t ds (bb t ds) (bb t ds).length≠[]:=by
 intro z;have:(0,0)∈aP t ds (bb t ds) (bb t ds).length:=by
  obtain⟨w,e⟩:=xN t 0;refine cL.mpr ⟨by simp [bb],t.size_pos,(gr t.size_pos).mpr ⟨?_,λa ea=>?_⟩⟩
  ·rw [D.leaf 0 w t.size_pos e];exact DB _
  ·rcases kA t 0 0 .aX t.size_pos with⟨_,e⟩ | ⟨a',u,v,_,ha,e,ep,_⟩
   ·rw [e] at ea;cases ea
   ·rw [e,AR] at ea;injection ea with ea;have:a'=a:=by omega
    subst this;have:=(D.pair a' u v ha ep).2.2;show (0:Int) < _;omega
 rw [z] at this;cases this
def OU {t:Tr}{ds:List Int} (D:DD t ds) (hz:t.size<=25):(md t.pv (.tup (dH ds))).le (.ret (.tup (Xz t ds (bb t ds)))):=OV t ds D.len hz D.ne D.ok
def Uo (t:Tr):List PV:=(AA t.size).map λj=>.tup (au (up t 0 j []))
@[simp] theorem PX (t:Tr):(Uo t).length=t.size:=by unfold Uo;simp
def IA (t:Tr) {j:Nat} (h:j < t.size):(Uo t)[j]?=ap (.tup (au (up t 0 j []))):=by unfold Uo;simp [h]
def Um (t:Tr):∀(k j:Nat),j+k+1=t.size->(up t 0 j []).length<=k+1:=λk=>by
 induction k using DL with
 | ind k ih=>
  intro j hj;rcases rC t 0 j .aX [] ∅ with⟨q1,q2,q3⟩ | ⟨a,q1,q2,q3,q4⟩
  ·rw [q3];show 1<=k+1;omega
  ·rw [q4,An];have:=ih (t.size-a-1) ∅ a ∅;omega
def X2 (t:Tr) {j:Nat} (h:j < t.size):(up t 0 j []).length<=t.size:=by
 have:=Um t (t.size-j-1) j ∅;omega
def Gh (t:Tr) (i:Nat):List PV:=(AA t.size).map λj=>if j+i < t.size then .tup [] else .tup (au (up t 0 j []))
def qD (t:Tr) (i:Nat):(Gh t i).length=t.size:=by unfold Gh;simp
def Iz (t:Tr) (i:Nat) {j:Nat} (h:j < t.size) (c:¬j+i < t.size):(Gh t i)[j]?=ap (.tup (au (up t 0 j []))):=by unfold Gh;simp [h,c]
def PR (t:Tr) (i j:Nat) (h:j+i+1=t.size):(Gh t i).set j (.tup (au (up t 0 j [])))=Gh t (i+1):=by
 apply BB;intro k;by_cases hk:k < t.size
 ·by_cases e:j=k
  ·subst e;rw [Ca (by rw [qD];exact hk),Iz t (i+1) hk ∅]
  ·rw [Bw e];unfold Gh;simp only [Ak,BK hk,Ct];by_cases c:k+i < t.size
   ·rw [if_pos c,if_pos ∅]
   ·rw [if_neg c,if_neg ∅]
 ·rw [AN (by rw [BL,qD];omega),AN (by rw [qD];omega)]
def X3 (t:Tr):Gh t 0=Am t.size (.tup []):=by
 apply BB;intro k;unfold Gh;by_cases hk:k < t.size
 ·simp [hk]
 ·simp [hk]
def PU (t:Tr):Gh t t.size=Uo t:=by
 apply CO;intro j _;rw [if_neg ∅]
def Nw (t:Tr) (hz:t.size<=900):(hE t.pv).le (.ret (Uo t)):=λQ q=>by
 unfold hE;simp only [im,db];refine W.le.use (FU t hz) ?_;simp only [aD,gt];refine GV (λ_=>.tup []) (λx hx=>rfl) ?_;have e0:(XE t).map (λ_=>PV.tup [])=Gh t 0:=by rw [EX,JT,X3]
 have en:(((t.size:Nat):Int)-1 - -1).toNat=t.size:=by omega
 rw [e0];simp only [br,JT,im,lK,gt,jb,JD,en];refine⟨⟨trivial,cf ∅ ∅⟩,?_⟩;show (dY _ _ _).run _;refine kj (λi s=>s=Gh t i) rfl (λi x s hx hs=>?_) (λs hs=>?_)
 ·subst hs;obtain⟨hi,rfl⟩:=vF hx;obtain⟨j,hj⟩:∃j:Nat,j=t.size-1-i:=⟨_,rfl⟩;have ej:(((t.size:Nat):Int)-1-(i:Int))=(j:Int):=by omega
  rw [ej];have Xn:j < t.size:=by omega
  have fin:∀l:List PV,l.length<=900->.int (j:Int)::l=au (up t 0 j [])->(am (addW (.tup [.int (j:Int)]) (.tup l)) λx=>gY (Gh t i) (.int (j:Int)) x).run λs=>s=Gh t (i+1):=λl hl he=>by
   rw [gH,r9 (aU (by simp;omega))];show (gY _ _ (.tup (.int (j:Int)::l))).run _;rw [he,jY (by rw [qD];exact Xn),PR t i j ∅];rfl
  simp only [im,db,ib (JU t Xn),gt];rcases rC t 0 j .aX [] Xn with⟨_,e,e2⟩ | ⟨a,ha1,ha,e,e2⟩
  ·rw [e];simp only [vp,pF,PV.mE,aY,gt,if_true];have:=fin [] (by simp) (by rw [e2,AR];rfl);simpa using this
  ·rw [AR] at e;rw [e];have i2:Jq (Gh t i) (.int (a:Int))=.ret (.tup (au (up t 0 a []))):=ib (Iz t i ha ∅);simp only [vp,pF,PV.mE,aY,gt,Ag,if_false,i2,im];have ua:=X2 t ha;have:=fin (au (up t 0 a [])) (by rw [bD];omega) (by rw [e2];simp);simpa using this
 ·subst hs;have el:(gn (((t.size:Nat):Int)-1) t.size).length=t.size:=by unfold gn;simp
  rw [el,PU];exact q
def XD (t:Tr) (j:Nat):List Nat:=(AA t.size).filter λk=>!decide (k∈up t 0 j [])&&!decide (j∈up t 0 k [])
def Pc (t:Tr) (hz:t.size<=900) {j:Nat} (hj:j < t.size):(eS (.cl (Uo t)) (.int (j:Int))).le (.ret (.tup (au (XD t j)))):=λQ q=>by
 unfold eS;simp only [im,db,gE,PX,eW,r9 (cf (i:=0) (j:=(t.size:Int)) ∅ ∅),gt,A3,mf];refine sA (λk=>!decide (k∈up t 0 j [])&&!decide (j∈up t 0 k [])) (λk hk=>?_) q;have hk:=AO.mp hk;simp only [im,bK,ib (IA t hj),ib (IA t hk),aD,xr,if_true];by_cases c1:k∈up t 0 j []
 ·simp [c1]
 ·by_cases c2:j∈up t 0 k []
  ·simp [c1,c2]
  ·simp [c1,c2]
def LS:Ent->List Nat
 | .word _=>[]
 | .pair a b=>[a,b]
def vo (e:Ent):dw e.pv=.ret (.tup (au (LS e))):=by
 unfold dw;cases e with
 | word w=>simp [Ent.pv,LS]
 | pair a b=>simp [Ent.pv,LS]
def Q6 {es:List Ent}{j:Nat}{e:Ent} (h:es[j]?=ap e):eG (.tup (es.map Ent.pv)) (.int (j:Int))=.ret (Jf e j):=by
 have i1:Jq (es.map Ent.pv) (.int (j:Int))=.ret e.pv:=ib (by rw [Ak,h];rfl);unfold eG;cases e with
 | word w=>simp only [im,aD,i1];rfl
 | pair a b=>simp only [im,aD,i1];rfl
def grS (t:Tr) (j:Nat):PV:=.tup [Jf (en t 0 j) j,.int 0,.tup (au (LS (en t 0 j))),.tup (au (XD t j))]
def grL (t:Tr):List PV:=(AA t.size).map (grS t)
def KP (t:Tr) (hz:t.size<=900):(lq t.pv).le (.ret (.tup (grL t))):=λQ q=>by
 unfold lq;simp only [im,db];refine W.le.use (nR t hz) ?_;refine W.le.use (Nw t hz) ?_;simp only [br,de,gt,eW,r9 (cf (i:=0) (j:=(t.size:Int)) ∅ ∅),A3,mf];unfold au;refine ka (grS t) (λj hj R r=>?_) q;have hj:=AO.mp hj;have i1:Jq ((t.nd 0).map Ent.pv) (.int (j:Int))=.ret (en t 0 j).pv:=ib (by rw [Ak,gm t 0 j hj];rfl);simp only [Q6 (gm t 0 j hj),im,aD,i1,vo,db,gt];exact W.le.use (Pc t hz hj) r
structure Sy where
 nm:PV
 lv:Nat
 un:List Nat
 be:List Nat
def Sy.pv (s:Sy):PV:=.tup [s.nm,.int (s.lv:Int),.tup (au s.un),.tup (au s.be)]
def f6 (g:List Sy):PV:=.tup (g.map Sy.pv)
def sy (g:List Sy) (i:Nat):Sy:=g.getD i ⟨.aX,0,[],[]⟩
def Mc {g:List Sy}{i:Nat} (h:i < g.length):g[i]?=ap (sy g i):=by
 unfold sy;rw [Ap,Ad h];rfl
def Hr {g:List Sy}{i:Nat} (h:i < g.length):Jq (g.map Sy.pv) (.int (i:Int))=.ret (sy g i).pv:=ib (by rw [Ak,Mc h];rfl)
def NP (w:Str):PV->Bool
 | .str s=>s==w
 | _=>false
def hm (g:List Sy) (i:Nat) (w:Str):Bool:=(sy g i).un.isEmpty&&NP w (sy g i).nm
inductive Pl (g:List Sy):Nat->Nat->Prop
 | refl (i):Pl g i i
 | step {i u j}:u∈(sy g i).un->Pl g u j->Pl g i j
structure WG (g:List Sy) (ws:List Str):Prop where
 pos:0 < g.length
 len:g.length<=300
 dn:∀i,i < g.length->∀u∈(sy g i).un,u < i
 qE:∀i,i < g.length->(sy g i).un.length<=2
 be:∀i,i < g.length->∀u∈(sy g i).be,u < g.length
 Sr:∀i,i < g.length->(sy g i).be.length<=30
 nm:∀i,i < g.length->(∃s,(sy g i).nm=.str s)\/∃n,(sy g i).nm=.int n
 adm:∀w∈ws,∃i,i < g.length/\Pl g (g.length-1) i/\hm g i w=true
def rD {g:List Sy}{i:Nat} (h:i < g.length):du (f6 g) (.int (i:Int))=.ret (.tup (au (sy g i).un)):=by
 unfold du f6;simp only [im,aD,Hr h];rfl
def LC {g:List Sy}{i:Nat} (h:i < g.length):fP (f6 g) (.int (i:Int))=.ret (.tup (au (sy g i).be)):=by
 unfold fP f6;simp only [im,aD,Hr h];rfl
def eq_nil (l:List Nat) (h:l.length<=1000):of2 dh (.tup (au l)) (.tup [])=.ret (.bl l.isEmpty):=by
 have fk:fX (au l)=true:=lI.mpr λx hx=>by
  obtain⟨n,_,rfl⟩:=Ay.mp hx;simp
 have fd:eJ (au l)<=1:=lJ λx hx=>by
  obtain⟨n,_,rfl⟩:=Ay.mp hx;simp
 rw [tE,r9 ⟨by simp [fk],by simp,by simp;omega⟩];cases l with
 | nil=>simp
 | cons a l=>simp [gD]
def Oy {x:PV} (h:(∃s,x=.str s)\/∃n,x=.int n) (w:Str):of2 dh x (.str w)=.ret (.bl (NP w x)):=by
 rcases h with⟨s,rfl⟩ | ⟨n,rfl⟩
 ·rw [tE,r9 ⟨by simp,by simp,by simp⟩,JA];rfl
 ·rw [tE,r9 ⟨by simp,by simp,by simp⟩];simp [kM,NP]
def RG {g:List Sy}{ws:List Str} (G:WG g ws) {i:Nat} (h:i < g.length) (w:Str):jE (f6 g) (.int (i:Int)) (.str w)=.ret (.bl (hm g i w)):=by
 unfold jE;have l2:=G.qE i h;have i0:ck [(sy g i).nm,PV.int ((sy g i).lv:Int),.tup (au (sy g i).un),.tup (au (sy g i).be)] 0=ap (sy g i).nm:=rfl;simp only [im,rD h,eq_nil _ (show (sy g i).un.length<=1000 by omega)];unfold f6 hm;cases e:(sy g i).un.isEmpty with
 | false=>simp
 | true=>simp only [iQ,aD,im,Hr h,Sy.pv,aW,i0,ss,Oy (G.nm i h) w,Bx]
abbrev Dd:=Str×Nat×Nat
def d3 (d:Dd):PV:=.tup [.str d.1,.int (d.2.1:Int),.int (d.2.2:Int)]
def d2 (d:Dd):PV:=.tup [.str d.1,.tup [.int (d.2.1:Int),.int (d.2.2:Int)]]
abbrev dbl (i:Nat):Dd:=("doubled",i,i)
abbrev ovr (i o:Nat):List Dd:=[("over",i,o),("over",o,i)]
def spl:List Nat->List Dd
 | [a,b]=>[("split",a,b),("split",b,a)]
 | _=>[]
def z9 (g:List Sy) (i:Nat):List Dd:=dbl i::(spl (sy g i).un++(sy g i).be.flatMap (ovr i))
theorem tw (i:Nat):∀l:List Nat,(l.flatMap (ovr i)).length=2*l.length
 | []=>rfl
 | a::l=>by rw [List.flatMap_cons,Ae,tw i l];simp;omega
def wC (l:List Nat):(spl l).length<=2:=by unfold spl;split <;> simp
def Sj {g:List Sy}{ws:List Str} (G:WG g ws) {i:Nat} (h:i < g.length):(z9 g i).length<=63:=by
 unfold z9;rw [An,Ae,tw];have:=wC (sy g i).un;have:=G.Sr i h;omega
def OT {g:List Sy}{ws:List Str} (G:WG g ws) {i:Nat} (h:i < g.length) {d:Dd} (hd:d∈z9 g i):d.2.1 < g.length/\d.2.2 < g.length:=by
 rcases Ax.mp hd with rfl | hd
 ·exact⟨h,h⟩
 rcases A5.mp hd with hd | hd
 ·have hu:=G.dn i h;revert hu hd;generalize (sy g i).un=l;intro hd hu
  match l with
  | [a,b]=>
   have h1:=hu a (by simp);have h2:=hu b (by simp);simp [spl] at hd;rcases hd with rfl | rfl
   ·exact⟨by show a < _;omega,by show b < _;omega⟩
   ·exact⟨by show b < _;omega,by show a < _;omega⟩
  | []=>simp [spl] at hd
  | [_]=>simp [spl] at hd
  | _::_::_::_=>simp [spl] at hd
 ·obtain⟨o,ho,hd⟩:=Dq.mp hd;have:=G.be i h o ho;simp at hd;rcases hd with rfl | rfl
  ·exact⟨h,this⟩
  ·exact⟨this,h⟩
def vf {g:List Sy}{ws:List Str} (G:WG g ws) {i:Nat} (h:i < g.length):(dG (f6 g) (.int (i:Int))).le (.ret ((z9 g i).map d3)):=λQ q=>by
 unfold dG f6;have l1:=wC (sy g i).un;have l3:=G.Sr i h;have i1:∀a b:Nat,ck [PV.int (a:Int),PV.int (b:Int)] 1=ap (.int (b:Int)):=λ_ _=>rfl;simp only [im,db,aD,Hr h,gt,Sy.pv,Om,br,bD,cE,aY];have fin:∀s:List PV,s=(dbl i::spl (sy g i).un).map d3->(dY (au (sy g i).be) s λju Ql=>am (xI Ql [.tup [.str "over",.int (i:Int),ju],.tup [.str "over",ju,.int (i:Int)]]) λoh=>bd oh).run Q:=λs hs=>by
  refine kj (λk s=>s=(dbl i::(spl (sy g i).un++((sy g i).be.take k).flatMap (ovr i))).map d3) (by rw [hs];simp) (λk x s hx hs=>?_) (λs hs=>?_)
  ·subst hs;unfold au at hx;rw [Ak] at hx;cases eo:(sy g i).be[k]? with
   | none=>rw [eo] at hx;cases hx
   | some o=>
   rw [eo] at hx;have ex:=Option.some.inj hx;subst ex;have et:(sy g i).be.take (k+1)=(sy g i).be.take k++[o]:=by rw [E9,eo];rfl
   unfold xI;rw [r9 (aU (by simp only [Ah,An,Ae,tw];simp;omega))];rw [et,B5];simp [d3]
  ·subst hs;rw [bD,List.take_length];exact q
 have hu:=G.qE i h;revert fin hu;generalize (sy g i).un=l;intro fin hu
 match l,hu with
 | [],_=>
  exact fin _ rfl
 | [a],_=>
  exact fin _ rfl
 | [a,b],_=>
  refine⟨aU (by simp),?_⟩;exact fin _ rfl
def uk (F:List (List Bool)):List PV:=F.map λr=>.cl (r.map PV.bl)
def fa (F:List (List Bool)) (j i:Nat):Bool:=(F.getD j []).getD i false
structure FW (g:List Sy) (F:List (List Bool)) (n:Nat):Prop where
 len:n<=F.length
 row:∀j,j < n->(F.getD j []).length=g.length
def v9 {g:List Sy}{F:List (List Bool)}{n j i:Nat} (fw:FW g F n) (hj:j < n) (hi:i < g.length):(aZ (am (aZ (bd (uk F)) (bd (.int (j:Int)))) aw) (bd (.int (i:Int))))=.ret (.bl (fa F j i)):=by
 have Pr:=Az hj fw.len;have e1:F[j]?=ap (F.getD j []):=by rw [Ap,Ad Pr];rfl
 have i1:Jq (uk F) (.int (j:Int))=.ret (.cl ((F.getD j []).map PV.bl)):=ib (by unfold uk;rw [Ak,e1];rfl);have hl:=fw.row j hj;have e2:(F.getD j [])[i]?=ap (fa F j i):=by unfold fa;generalize F.getD j []=r at hl;rw [Ap,Ad ∅];rfl
 have i2:Jq ((F.getD j []).map PV.bl) (.int (i:Int))=.ret (.bl (fa F j i)):=ib (by rw [Ak,e2];rfl);simp only [im,i1,bK,i2]
def lD (g:List Sy) (F:List (List Bool)) (e:Ent) (i:Nat):List Dd:=match e with
 | .word w=>if hm g i w=true then [("found",i,i)] else []
 | .pair a b=>(z9 g i).filter λd=>fa F a d.2.1&&fa F b d.2.2
def pZ (n:Nat):Ent->Prop
 | .word _=>True
 | .pair a b=>a < n/\b < n
def lx {g:List Sy}{ws:List Str} (G:WG g ws) {F:List (List Bool)}{es:List Ent}{j i n:Nat}{e:Ent} (he:es[j]?=ap e) (hi:i < g.length) (fw:FW g F n) (hn:pZ n e) :
  (cG (f6 g) (.cl (es.map Ent.pv)) (.cl (uk F)) (.int (j:Int)) (.int (i:Int))).le (.ret ((lD g F e i).map d3)):=λQ q=>by
 unfold cG;have ie:Jq (es.map Ent.pv) (.int (j:Int))=.ret e.pv:=ib (by rw [Ak,he];rfl);simp only [im,db,bK,ie,gt];cases e with
 | word w=>
  have l2:=G.qE i hi;have i0:ck [(sy g i).nm,PV.int ((sy g i).lv:Int),.tup (au (sy g i).un),.tup (au (sy g i).be)] 0=ap (sy g i).nm:=rfl;have i2:ck [(sy g i).nm,PV.int ((sy g i).lv:Int),.tup (au (sy g i).un),.tup (au (sy g i).be)] 2=ap (.tup (au (sy g i).un)):=rfl;have fin:∀b:Bool,hm g i w=b->(yP [PV.tup [.str "found",.int (i:Int),.int (i:Int)]] (.int (if b then 1 else 0))).run Q:=λb hb=>by
   have q:Q ((if hm g i w=true then [(("found",i,i):Dd)] else []).map d3):=q;rw [hb] at q;cases b with
   | true=>
    exact⟨⟨by decide,by decide,aU (by simp)⟩,q⟩
   | false=>
    exact⟨⟨by decide,by decide,aU (by simp)⟩,q⟩
  simp only [Ent.pv,dm,eX,a9,gt,if_true,f6,aD,im,Hr hi,Sy.pv,aW,i0,i2,ss,db,eq_nil _ (show (sy g i).un.length<=1000 by omega),Oy (G.nm i hi) w];cases c:(sy g i).un.isEmpty with
  | false=>
   simp only [JH,gt,gG];exact fin false (by unfold hm;rw [c];rfl)
  | true=>
   simp only [iQ,gt,gG];exact fin _ (by unfold hm;rw [c];rfl)
 | pair a b=>
  obtain⟨ha,hb⟩:=hn;have j0:ck [PV.int (a:Int),PV.int (b:Int)] 0=ap (.int a):=rfl;have j1:ck [PV.int (a:Int),PV.int (b:Int)] 1=ap (.int b):=rfl;simp only [Ent.pv,dj,gF,a9,gt,Ag,if_false,aD,aW,j0,j1,ss,im,db];refine W.le.use (vf G hi) ?_;refine xi (λd:Dd=>if (fa F a d.2.1&&fa F b d.2.2)=true then ap (d3 d) else bv) (λd hd R r=>?_) ?_
  ·obtain⟨h1,h2⟩:=OT G hi hd;have k1:ck [PV.str d.1,PV.int (d.2.1:Int),PV.int (d.2.2:Int)] 1=ap (.int (d.2.1:Int)):=rfl;have k2:ck [PV.str d.1,PV.int (d.2.1:Int),PV.int (d.2.2:Int)] 2=ap (.int (d.2.2:Int)):=rfl;have t1:=v9 fw ha h1;have t2:=v9 fw hb h2;simp only [im,aW] at t1 t2;simp only [d3,aD,im,aW,k1,k2,ss,t1,t2,a9];cases c1:fa F a d.2.1 with
   | false=>simpa [c1] using r
   | true=>
    cases c2:fa F b d.2.2 with
    | false=>simpa [c1,c2] using r
    | true=>simpa [c1,c2,d3] using r
  ·rw [Jz];exact q
def iB (g:List Sy) (f:Nat->Bool):Nat->List Bool
 | 0=>[]
 | k+1=>iB g f k++[(sy g k).un.any (λl=>(iB g f k).getD l false)||f k]
@[simp] theorem iZ (g:List Sy) (f:Nat->Bool):∀k,(iB g f k).length=k
 | 0=>rfl
 | k+1=>by rw [iB,Ae,iZ g f k];rfl
def jH {α:Type}{l m:List α}{i:Nat}{d:α} (h:i < l.length):(l++m).getD i d=l.getD i d:=by
 rw [Ap,AD h,<- Ap]
def mj {α:Type}{l m:List α}{i:Nat}{d:α} (h:l.length<=i):(l++m).getD i d=m.getD (i-l.length) d:=by
 rw [Ap,Aw h,<- Ap]
theorem wH (g:List Sy) (f:Nat->Bool) {i:Nat}:∀{k:Nat},i < k->(iB g f k).getD i false=(iB g f (i+1)).getD i false
 | 0,h=>by omega
 | k+1,h=>by
  by_cases c:i=k
  ·subst c;rfl
  ·rw [iB,jH (by rw [iZ];omega)];exact wH g f ∅
def Yz (g:List Sy) (f:Nat->Bool) (dn:∀i,i < g.length->∀u∈(sy g i).un,u < i) {i:Nat} (h:i < g.length):(iB g f g.length).getD i false=((sy g i).un.any (λl=>(iB g f g.length).getD l false)||f i):=by
 rw [wH g f h,iB,mj (by rw [iZ];exact Ao _),iZ,B9];show (_||_)=_;congr 1;rw [Cj,BP,BP];have key:∀l∈(sy g i).un,(iB g f i).getD l false=(iB g f g.length).getD l false:=λl hl=>by
  have:=dn i h l hl;rw [wH g f this,wH g f (show l < g.length by omega)]
 exact⟨λ⟨l,h1,h2⟩=>⟨l,h1,by rw [<- key l h1];exact h2⟩,λ⟨l,h1,h2⟩=>⟨l,h1,by rw [key l h1];exact h2⟩⟩
def F7 (es:List Ent) (j:Nat):Ent:=es.getD j (.word "")
def tab (g:List Sy) (es:List Ent):Nat->List (List Bool)
 | 0=>[]
 | j+1=>tab g es j++[iB g (λi=>!(lD g (tab g es j) (F7 es j) i).isEmpty) g.length]
@[simp] theorem cq (g:List Sy) (es:List Ent):∀j,(tab g es j).length=j
 | 0=>rfl
 | j+1=>by rw [tab,Ae,cq g es j];rfl
theorem nG (g:List Sy) (es:List Ent) {i:Nat}:∀{k:Nat},i < k->(tab g es k).getD i []=iB g (λx=>!(lD g (tab g es i) (F7 es i) x).isEmpty) g.length
 | 0,h=>by omega
 | k+1,h=>by
  by_cases c:i=k
  ·subst c;rw [tab,mj (by rw [cq];exact Ao _),cq,B9];rfl
  ·rw [tab,jH (by rw [cq];omega)];exact nG g es ∅
def Gq (g:List Sy) (es:List Ent) (n:Nat):FW g (tab g es n) n:=⟨by rw [cq];exact Ao _,λj hj=>by rw [nG g es hj,iZ]⟩
def zr {g:List Sy}{F F':List (List Bool)}{e:Ent}{i n:Nat} (h:pZ n e) (hf:∀j,j < n->F.getD j []=F'.getD j []):lD g F e i=lD g F' e i:=by
 cases e with
 | word w=>rfl
 | pair a b=>
  dsimp only [lD,fa];rw [hf a h.1,hf b h.2]
def P5 (g:List Sy) (es:List Ent) {j k:Nat} (h:j<=k):∀x,x < j->(tab g es j).getD x []=(tab g es k).getD x []:=λx hx=>by rw [nG g es hx,nG g es (show x < k by omega)]
def aaf {g:List Sy}{ws:List Str} (G:WG g ws) {es:List Ent}{n j i:Nat} (hj:j < n) (hi:i < g.length) (he:pZ j (F7 es j)):fa (tab g es n) j i=((sy g i).un.any (λl=>fa (tab g es n) j l)||!(lD g (tab g es n) (F7 es j) i).isEmpty):=by
 have e1:∀x,fa (tab g es n) j x=(iB g (λx=>!(lD g (tab g es j) (F7 es j) x).isEmpty) g.length).getD x false:=λx=>by unfold fa;rw [nG g es hj]
 have e2:(λl=>fa (tab g es n) j l)=λl=>(iB g (λx=>!(lD g (tab g es j) (F7 es j) x).isEmpty) g.length).getD l false:=funext e1;rw [e2,e1,Yz g _ G.dn hi,zr (F':=tab g es n) he (P5 g es ∅)]
def vZ (b:Bool):rH (.bl b)=.ret (.bl b):=r9 (by rw [PV.dat] <;> simp)
def any_map' (f:Nat->Bool) (l:List Nat):Pd (l.map λx=>.bl (f x))=.ret (.bl (l.any f)):=by
 have:(l.map λx=>PV.bl (f x))=(l.map f).map PV.bl:=by rw [AL];rfl
 rw [this,SA,List.any_map];rfl
def jn (F:List (List Bool)):List (List PV):=F.map λr=>r.map PV.bl
def Ma (F:List (List Bool)):(jn F).map PV.cl=uk F:=by unfold jn uk;rw [AL];rfl
def Rg {g:List Sy}{ws:List Str} (G:WG g ws) {es:List Ent} (hz:es.length<=900) (hes:∀j,j < es.length->pZ j (F7 es j)):(hX (f6 g) (.cl (es.map Ent.pv))).le (.ret (uk (tab g es es.length))):=λQ q=>by
 have gl:=G.len;unfold hX;simp only [im,db,gE,Ah,eW,r9 (cf (i:=0) (j:=(es.length:Int)) ∅ ∅),gt,A3];refine oj (λj s=>s.2=jn (tab g es j)) rfl (λj s hj hs=>?_) (λs hs=>?_)
 ·obtain⟨s1,s2⟩:=s;replace hs:s2=jn (tab g es j):=hs;subst hs;have e1:qe cV [f6 g]=.ret (.int (g.length:Int)):=by unfold f6;rw [br,Ah]
  have e2:yP [PV.bl false] (.int (g.length:Int))=.ret ((Am g.length false).map PV.bl):=by
   rw [Oq,r9 ⟨by omega,by omega,aU (by simp;omega)⟩,A3];congr 1;simp
  have adC:es[j]?=ap (F7 es j):=by unfold F7;rw [Ap,Ad hj];rfl
  simp only [im,e1,e2,db,gt];refine⟨by show (jn (tab g es j)).length < sizeLine;unfold jn;rw [Ah,cq];have:=aU (n:=901) ∅;omega,?_⟩;intro b9 _;simp only [eW,r9 (cf (i:=0) (j:=(g.length:Int)) ∅ ∅),gt,A3,db]
  let f:Nat->Bool:=λx=>!(lD g (tab g es j) (F7 es j) x).isEmpty
  refine oj (λi s=>s.2=jn (tab g es j++[iB g f i++Am (g.length-i) false])) (by show _++_=_;simp [jn,iB]) (λi s hi hs=>?_) (λs hs=>?_)
  ·obtain⟨s1,s2⟩:=s;replace hs:s2=_:=hs;subst hs;generalize hF:tab g es j++[iB g f i++Am (g.length-i) false]=F;have fw:FW g F (j+1):=by
    subst hF;refine⟨by simp,λx hx=>?_⟩;by_cases c:x=j
    ·subst c;rw [mj (by rw [cq];exact Ao _),cq,B9];show (iB g f i++_).length=_;rw [Ae,iZ,A7];omega
    ·rw [jH (by rw [cq];omega)];exact (Gq g es j).row x ∅
   have ff:∀l,l < i->fa F j l=(iB g f i).getD l false:=λl hl=>by
    subst hF;unfold fa;rw [mj (by rw [cq];exact Ao _),cq,B9];show (iB g f i++_).getD l false=_;rw [jH (by rw [iZ];exact hl)]
   have fd:lD g F (F7 es j) i=lD g (tab g es j) (F7 es j) i:=zr (hes j hj) λx hx=>by
    subst hF;rw [jH (by rw [cq];exact hx)]
   have un:Jq (g.map Sy.pv) (.int (i:Int))=.ret (sy g i).pv:=Hr hi;have i2:ck [(sy g i).nm,PV.int ((sy g i).lv:Int),.tup (au (sy g i).un),.tup (au (sy g i).be)] 2=ap (.tup (au (sy g i).un)):=rfl;simp only [Ma,f6,aD,im,un,Sy.pv,aW,i2,ss,db,gt,bK];refine lY (λl=>.bl (fa F j l)) (λl hl=>?_) ?_
   ·have:=G.dn i hi l hl;have:=v9 fw (show j < j+1 by omega) (show l < g.length by omega);simpa using this
   ·rw [any_map'];have eA:(sy g i).un.any (fa F j)=(sy g i).un.any λl=>(iB g f i).getD l false:=by
     rw [Cj,BP,BP];exact⟨λ⟨l,h1,h2⟩=>⟨l,h1,by rw [<- ff l (G.dn i hi l h1)];exact h2⟩,λ⟨l,h1,h2⟩=>⟨l,h1,by rw [ff l (G.dn i hi l h1)];exact h2⟩⟩
    have fin:(am (Rt (jn F) (.int (j:Int))) λZs=>am (gY Zs.2 (.int (i:Int)) (.bl ((sy g i).un.any (fa F j)||f i))) λVI=>bd ((s1,(jn F).set Zs.1 VI):List dL×List (List PV))).run λs=>s.2=jn (tab g es j++[iB g f (i+1)++Am (g.length-(i+1)) false]):=by
     have Pr:j < (jn F).length:=by unfold jn;rw [Ah];have:=fw.len;omega
     have e3:(jn F)[j]?=ap ((iB g f i++Am (g.length-i) false).map PV.bl):=by
      subst hF;unfold jn;rw [Ak,Aw (by rw [cq];exact Ao _),cq,B9];rfl
     have e4:Rt (jn F) (.int (j:Int))=.ret (j,(iB g f i++Am (g.length-i) false).map PV.bl):=by
      show W.Ng ((nX (jn F).length (j:Int)).bind λj=>(jn F)[j]?.map λl=>(j,l))=_;rw [Jr Pr];show W.Ng ((jn F)[j]?.map _)=_;rw [e3];rfl
     rw [e4];simp only [im];rw [jY (by rw [Ah,Ae,iZ,A7];omega)];subst hF;unfold jn;rw [eA];apply BB;intro x;have er:g.length-i=(g.length-(i+1))+1:=by omega
     by_cases c:x=j
     ·subst c;congr 1;rw [iB,er,Br,<- EG,E1 _ _ (by rw [iZ];exact Ao _),iZ,B9];simp
     ·rw [Bw (BA c),Ak,Ak];by_cases c2:x < j
      ·rw [AD (by rw [cq];exact c2),AD (by rw [cq];exact c2)]
      ·rw [AN (by rw [Ae,cq];simp;omega),AN (by rw [Ae,cq];simp;omega)]
    simp only [gt,vZ];cases cA:(sy g i).un.any (fa F j) with
    | true=>
     rw [cA] at fin;simp only [Ou,gt,vZ];simpa using fin
    | false=>
     rw [cA] at fin;simp only [Ov,db];refine W.le.use (lx G (F:=F) adC hi fw (by have:=hes j hj;revert this;cases F7 es j with | word w=>exact id | pair a b=>exact λz=>⟨Dc z.1,Dc z.2⟩)) ?_;have e5:(!((lD g F (F7 es j) i).map d3).isEmpty)=f i:=by rw [fd,Eu]
     simp only [gt,e5,vZ];simpa using fin
  ·rw [hs,tab,B9];simp [f]
 ·show Q (s.2.map PV.cl);rw [hs,Ma];exact q
def Ch (g:List Sy):List Nat->Prop
 | []=>False
 | [i]=>i < g.length
 | i::k::r=>i < g.length/\k∈(sy g i).un/\Ch g (k::r)
theorem Ch.snoc {g:List Sy}{i u:Nat} (hu:u∈(sy g i).un) (hg:u < g.length):∀{p:List Nat},Ch g (p++[i])->Ch g (p++[i]++[u])
 | [],h=>⟨h,hu,hg⟩
 | [a],h=>⟨h.1,h.2.1,h.2.2,hu,hg⟩
 | a::b::p,h=>⟨h.1,h.2.1,Ch.snoc hu hg (p:=b::p) h.2.2⟩
theorem Ch.last {g:List Sy}{i:Nat}:∀{p:List Nat},Ch g (p++[i])->i < g.length
 | [],h=>h
 | [a],h=>h.2.2
 | a::b::p,h=>Ch.last (p:=b::p) h.2.2
theorem Ch.lt {g:List Sy}:∀{p:List Nat},Ch g p->∀x∈p,x < g.length
 | [i],h,x,hx=>by rw [Bh.mp hx];exact h
 | i::k::r,h,x,hx=>by
  rcases Ax.mp hx with rfl | hx
  ·exact h.1
  ·exact Ch.lt (p:=k::r) h.2.2 x hx
theorem Ch.len {g:List Sy}{ws:List Str} (G:WG g ws):∀{p:List Nat}{i:Nat},Ch g (i::p)->p.length<=i
 | [],i,_=>Bj _
 | k::r,i,h=>by
  have h1:=G.dn i h.1 k h.2.1;have h2:=Ch.len G (p:=r) (i:=k) h.2.2;rw [An];omega
def Wh {g:List Sy}{i:Nat} (h:i < g.length):ck (g.map Sy.pv) (i:Int)=ap (sy g i).pv:=bL (by rw [Ak,Mc h];rfl)
def Gv (s:Sy):ck [s.nm,PV.int (s.lv:Int),.tup (au s.un),.tup (au s.be)] 2=ap (.tup (au s.un)):=(rfl)
def ke (q:List Nat) (l:Nat):ck (au (q++[l])) (-1)=ap (.int (l:Int)):=by rw [zd];exact Pa _ _
structure PI (g:List Sy) (F:List (List Bool)) (j i0:Nat) (q:List Nat) (l:Nat):Prop where
 ch:Ch g (q++[l])
 hd:(q++[l]).head?=ap i0
 f:fa F j l=true
 m:q.length+l<=i0
def PI.next {g:List Sy}{ws:List Str} (G:WG g ws) {F:List (List Bool)}{j i0 l u:Nat}{q:List Nat} (P:PI g F j i0 q l) (hu:u∈(sy g l).un) (hf:fa F j u=true):PI g F j i0 (q++[l]) u:=by
 have hl:=P.ch.last;have:=G.dn l hl u hu;have:=P.m;refine⟨P.ch.snoc hu ∅,?_,hf,by rw [Ae];simp;omega⟩;rw [List.head?_append,P.hd];rfl
section
variable {g:List Sy}{ws:List Str}{F:List (List Bool)}{es:List Ent}{j n:Nat}{e:Ent}
def Nf (G:WG g ws) (fw:FW g F n) (hj:j < n) {l:Nat} (hl:l < g.length) {Q:List PV->Prop} (q:Q (au ((sy g l).un.filter λu=>fa F j u))) :
  (kQ (au (sy g l).un) λp8=>G6 (am (aZ (am (aZ (bd (uk F)) (bd (.int (j:Int)))) aw) (bd p8)) cF) (bd p8)).run Q:=by
 refine sA (λu=>fa F j u) (λu hu=>?_) q;have:=G.dn l hl u hu;rw [v9 fw hj (show u < g.length by omega)];cases fa F j u <;> simp
def vc (G:WG g ws) (he:es[j]?=ap e) (fw:FW g F n) (hj:j < n) (hn:pZ n e) (hc:∀i,i < g.length->fa F j i=((sy g i).un.any (λl=>fa F j l)||!(lD g F e i).isEmpty)) {i0:Nat} (h0:i0 < g.length) (f0:fa F j i0=true) {Q:PV->Prop}
  (q:∀p l,Ch g (p++[l])->(p++[l]).head?=ap i0->lD g F e l≠[]->Q (.tup (au (p++[l])))) :
  (eI (f6 g) (.cl (es.map Ent.pv)) (.cl (uk F)) (.int (j:Int)) (.int (i0:Int))).run Q:=by
 have gl:=G.len;have e1:qe cV [f6 g]=.ret (.int (g.length:Int)):=by unfold f6;rw [br,Ah]
 unfold eI;simp only [im,db,e1,gt,eW,r9 (cf (i:=0) (j:=(g.length:Int)) ∅ ∅),A3];refine oj (λ_ s=>∃p l,s=au (p++[l])/\PI g F j i0 p l) ⟨[],i0,rfl,h0,rfl,f0,by simp⟩ (λk s hk hs=>?_) (λs hs=>?_)
 ·obtain⟨p,l,rfl,P⟩:=hs;have hl:=P.ch.last;have qE:=G.qE l hl;have pm:=P.m;have step:∀x∈au ((sy g l).un.filter λu=>fa F j u),(lR (au (p++[l])) x).run λs=>∃p l,s=au (p++[l])/\PI g F j i0 p l:=λx hx=>by
   obtain⟨u,hu,rfl⟩:=Ay.mp hx;obtain⟨ē,Ē⟩:=AJ.mp hu;rw [je (by rw [bD,Ae];simp;omega)];exact⟨p++[l],u,by simp,P.next G ē Ē⟩
  simp only [jb,aW,ke,ss,im,db,gt];simp only [f6,aD,bK,Wh hl,ss,im,gt,Sy.pv,Gv];have on:=@Nf g ws F j n G fw hj l hl;refine on ?_;refine W.le.use (lx G he hl fw hn) ?_;have stop:∃p' l',au (p++[l])=au (p'++[l'])/\PI g F j i0 p' l':=⟨p,l,rfl,P⟩;have go:∀b:Bool,(c6 (uj (am (am (bd (.cl (au ((sy g l).un.filter λu=>fa F j u)))) GY) λNF=>bd (!NF.isEmpty)) (am (bd (.bl b)) cF)) (am (am (bd (.cl (au ((sy g l).un.filter λu=>fa F j u)))) λrm=>bM rm) λue=>am (lR (au (p++[l])) ue) λgw=>bd gw) (bd (au (p++[l])))).run λs=>∃p l,s=au (p++[l])/\PI g F j i0 p l:=λb=>by
   generalize hon:au ((sy g l).un.filter λu=>fa F j u)=on at step;have onl:on.length<=1000:=by
    rw [<- hon,bD];have:=Bd (λu=>fa F j u) (sy g l).un;omega
   cases on with
   | nil=>simpa using stop
   | cons x r=>
    cases b with
    | false=>simpa using stop
    | true=>
     refine pick_run (by simp) onl λy hy=>?_;simpa using step y hy
  cases cd:((lD g F e l).map d3).isEmpty with
  | true=>
   simp only [gt,Ou];simpa using go true
  | false=>
   simp only [gt,Ov,db,bR 3 (by decide) (by decide)];refine bf λd _ _=>?_;simp only [cE,gt];simpa using go (d==0)
 ·obtain⟨p,l,rfl,P⟩:=hs;refine jQ (λm s=>∃p,s=au (p++[m])/\PI g F j i0 p m) ⟨p,rfl,P⟩ ?_;rintro l s ⟨p,rfl,P⟩;have hl:=P.ch.last;have qE:=G.qE l hl;have pm:=P.m;simp only [jb,aW,ke,ss,im,db,gt];refine W.le.use (lx G he hl fw hn) ?_;cases cd:((lD g F e l).map d3).isEmpty with
  | false=>
   refine q p l P.ch P.hd λz=>?_;rw [z] at cd;cases cd
  | true=>
   have on:=@Nf g ws F j n G fw hj l hl;simp only [im,aW] at on;simp only [f6,aD,bK,Wh hl,ss,im,gt,Sy.pv,Gv];refine on ?_;have ģ:=hc l hl;rw [P.f] at ģ;have lz:(lD g F e l).isEmpty=true:=by rw [Eu] at cd;exact cd
   rw [lz] at ģ;have ha:(sy g l).un.any (λu=>fa F j u)=true:=by simpa using ģ.symm
   obtain⟨u,hu,hfu⟩:=BP.mp ha;have mem:=AJ.mpr ⟨hu,hfu⟩;refine pick_run (λz=>?_) (by rw [bD];have:=Bd (λu=>fa F j u) (sy g l).un;omega) λx hx=>?_
   ·have:=congrArg BV z;rw [bD] at this;rw [Et.mp this] at mem;cases mem
   ·obtain⟨v,hv,rfl⟩:=Ay.mp hx;obtain⟨hv1,đ⟩:=AJ.mp hv;rw [je (by rw [bD,Ae];simp;omega)];exact⟨v,G.dn l hl v hv1,p++[l],by simp,P.next G hv1 đ⟩
end
def ht:Tr->Nat->Nat
 | .leaf _,_=>0
 | .node l r,j=>if j < l.size then ht l j else if j < l.size+r.size then ht r (j-l.size) else (Tr.node l r).depth
theorem NS:∀(t:Tr) (j:Nat),ht t j<=t.depth
 | .leaf _,_=>Ao _
 | .node l r,j=>by
  have e:(Tr.node l r).depth=max l.depth r.depth+1:=rfl;have h1:=NS l j;have h2:=NS r (j-l.size);rw [ht]
  split
  ·omega
  ·split <;> omega
def Jw (t:Tr):ht t (t.size-1)=t.depth:=by
 cases t with
 | leaf _=>rfl
 | node l r=>
  have es:(Tr.node l r).size=l.size+r.size+1:=rfl;rw [ht,if_neg ∅,if_neg ∅]
theorem NT:∀(t:Tr) (o j a b:Nat),j < t.size->en t o j=.pair a b->ht t (a-o) < ht t j/\ht t (b-o) < ht t j
 | .leaf _,o,j,a,b,h,e=>by rw [en] at e;cases e
 | .node l r,o,j,a,b,h,e=>by
  have es:(Tr.node l r).size=l.size+r.size+1:=rfl;have lp:=l.size_pos;have rp:=r.size_pos;by_cases c1:j < l.size
  ·rw [en,if_pos c1] at e;obtain⟨h1,h2,h3,h4,_⟩:=tI l o j .aX a b c1 e;have:=NT l o j a b c1 e;have q1:∀x,x < l.size->ht (.node l r) x=ht l x:=λx hx=>by rw [ht,if_pos hx]
   rw [q1 (a-o) ∅,q1 (b-o) ∅,q1 j c1];exact this
  ·by_cases c2:j < l.size+r.size
   ·rw [en,if_neg c1,if_pos c2] at e;obtain⟨h1,h2,h3,h4,_⟩:=tI r (o+l.size) (j-l.size) .aX a b ∅ e;have:=NT r (o+l.size) (j-l.size) a b ∅ e;have q1:∀x,¬x < l.size->x < l.size+r.size->ht (.node l r) x=ht r (x-l.size):=λx h1 h2=>by rw [ht,if_neg h1,if_pos h2]
    rw [q1 (a-o) ∅ ∅,q1 (b-o) ∅ ∅,q1 j c1 c2,E7,E7];exact this
   ·rw [en,if_neg c1,if_neg c2] at e;injection e with e1 e2;subst e1;subst e2;have er:(Tr.node l r).depth=max l.depth r.depth+1:=rfl;have ej:ht (.node l r) j=(Tr.node l r).depth:=by rw [ht,if_neg c1,if_neg c2]
    have e3:ht (.node l r) (o+l.size-1-o)=l.depth:=by rw [ht,if_pos ∅,show o+l.size-1-o=l.size-1 by omega,Jw]
    have e4:ht (.node l r) (o+l.size+r.size-1-o)=r.depth:=by rw [ht,if_neg ∅,if_pos ∅,show o+l.size+r.size-1-o-l.size=r.size-1 by omega,Jw]
    omega
theorem qZ:∀(t:Tr) (o j:Nat) (w:Str),j < t.size->en t o j=.word w->w∈t.aJ
 | .leaf x,o,j,w,h,e=>by
  rw [en] at e;injection e with e;subst e;simp [Tr.aJ]
 | .node l r,o,j,w,h,e=>by
  have es:(Tr.node l r).size=l.size+r.size+1:=rfl;by_cases c1:j < l.size
  ·rw [en,if_pos c1] at e;exact BU _ (qZ l o j w c1 e)
  ·by_cases c2:j < l.size+r.size
   ·rw [en,if_neg c1,if_pos c2] at e;exact AM _ (qZ r _ (j-l.size) w ∅ e)
   ·rw [en,if_neg c1,if_neg c2] at e;cases e
inductive W3 (g:List Sy) (t:Tr):Nat->List Nat->PV->Prop
 | leaf {j p i w}:en t 0 j=.word w->Ch g (p++[i])->hm g i w=true->W3 g t j (p++[i]) (.tup [.tup (au (p++[i])),.str "found"])
 | node {j p i a b nm x y p1 p2 wa wb}:en t 0 j=.pair a b->Ch g (p++[i])->(nm,x,y)∈z9 g i->W3 g t a (x::p1) wa->W3 g t b (y::p2) wb->W3 g t j (p++[i]) (.tup [.tup (au (p++[i])),.str nm,wa,wb])
def WJ {g:List Sy}{i:Nat}{d:Dd} (h:d∈z9 g i):(d.1==("found":Str))=false:=by
 have k1:(("doubled":Str)==("found":Str))=false:=by decide +kernel
 have k2:(("split":Str)==("found":Str))=false:=by decide +kernel
 have k3:(("over":Str)==("found":Str))=false:=by decide +kernel
 rcases Ax.mp h with rfl | h
 ·exact k1
 rcases A5.mp h with h | h
 ·revert h;generalize (sy g i).un=l;intro h;unfold spl at h
  split at h
  ·simp at h;rcases h with rfl | rfl <;> exact k2
  ·cases h
 ·obtain⟨o,_,h⟩:=Dq.mp h;simp at h;rcases h with rfl | rfl <;> exact k3
def GN (t:Tr) {j:Nat} (h:j < t.size):F7 (t.nd 0) j=en t 0 j:=by unfold F7;rw [Ap,gm t 0 j h];rfl
def vA (t:Tr) {j:Nat} (h:j < t.size):pZ j (en t 0 j):=by
 cases e:en t 0 j with
 | word w=>trivial
 | pair a b=>exact eK t h e
section
variable {g:List Sy}{ws:List Str}{t:Tr}
abbrev gU (g:List Sy) (t:Tr):List (List Bool):=tab g (t.nd 0) t.size
def RV (G:WG g ws) {j i:Nat} (hj:j < t.size) (hi:i < g.length):fa (gU g t) j i=((sy g i).un.any (λl=>fa (gU g t) j l)||!(lD g (gU g t) (en t 0 j) i).isEmpty):=by
 have:=aaf G (es:=t.nd 0) (n:=t.size) hj hi (by rw [GN t hj];exact vA t hj);rw [GN t hj] at this;exact this
def qR {m n:Nat}{e:Ent} (h:pZ m e) (hm:m<=n):pZ n e:=by
 cases e with
 | word w=>trivial
 | pair a b=>exact⟨Az h.1 hm,Az h.2 hm⟩
theorem so (G:WG g ws):∀(n j:Nat),ht t j < n->j < t.size->∀(p:List Nat) (i:Nat),Ch g (p++[i])->lD g (gU g t) (en t 0 j) i≠[]->∀{Q:PV->Prop},(∀w,W3 g t j (p++[i]) w->Q w)->
  (cZ n (f6 g) (.cl ((t.nd 0).map Ent.pv)) (.cl (uk (gU g t))) (.int (j:Int)) (.tup (au (p++[i])))).run Q
 | 0,j,h,_,_,_,_,_,_,_=>by omega
 | n+1,j,h,hj,p,i,hc,hd,Q,q=>by
  have hi:=hc.last;have fw:=Gq g (t.nd 0) t.size;have ej:=gm t 0 j hj;unfold cZ;simp only [im,db,jb,aD,aW,ke,ss,gt];refine W.le.use (lx G ej hi fw (qR (vA t hj) ∅)) ?_;have ll:(lD g (gU g t) (en t 0 j) i).length<=63:=by
   cases e:en t 0 j with
   | word w=>unfold lD;simp only;split <;> simp
   | pair a b=>unfold lD;exact Bp (Bd _ _) (Sj G hi)
  refine pick_run (λz=>hd (Fj.mp z)) (by rw [Ah];omega) λx hx=>?_;obtain⟨d,RJ,rfl⟩:=Ay.mp hx;have e1:∀s:Str,of2 dh (.str s) (.str "found")=.ret (.bl (s==("found":Str))):=λs=>by rw [tE,r9 ⟨by simp,by simp,by simp⟩,JA]
  simp only [d3,Wt,gt,e1,im,aY];cases e:en t 0 j with
  | word w=>
   rw [e] at RJ hd;have RJ:d∈(if hm g i w=true then [(("found",i,i):Dd)] else []):=RJ;have hh:hm g i w=true:=by
    cases c:hm g i w with
    | true=>rfl
    | false=>rw [c] at RJ;cases RJ
   rw [if_pos hh] at RJ;have:=Bh.mp RJ;subst this;simp only [beq_self_eq_true,if_true,gt];exact q _ (.leaf e hc hh)
  | pair a b=>
   rw [e] at RJ hd;obtain⟨ZY,Ð⟩:=AJ.mp RJ;rw [Av] at Ð;obtain⟨l1,l2⟩:=OT G hi ZY;obtain⟨a1,b1⟩:=eK t hj e;obtain⟨t1,t2⟩:=NT t 0 j a b hj e;rw [EE] at t1 t2;have ha:a < t.size:=by omega
   have hb:b < t.size:=by omega
   have j0:ck [PV.int (a:Int),PV.int (b:Int)] 0=ap (.int a):=rfl;have j1:ck [PV.int (a:Int),PV.int (b:Int)] 1=ap (.int b):=rfl;simp only [WJ ZY,Ag,if_false,bK,im,db,aW,w5 t hj,e,Ent.pv,ss,gt,aD,j0,j1];have TJ:∀(k:Nat),k < t.size->∀i,i < g.length->fa (gU g t) k i=((sy g i).un.any (λl=>fa (gU g t) k l)||!(lD g (gU g t) (en t 0 k) i).isEmpty):=λk hk i hi=>RV G hk hi;refine vc G (gm t 0 a ha) fw ha (qR (vA t ha) ∅) (TJ a ha) l1 Ð.1 λp1 m1 c1 h1 k1=>?_;refine so G n a ∅ ha p1 m1 c1 k1 λwa Wa=>?_;refine vc G (gm t 0 b hb) fw hb (qR (vA t hb) ∅) (TJ b hb) l2 Ð.2 λp2 m2 c2 h2 k2=>?_;refine so G n b ∅ hb p2 m2 c2 k2 λwb Wb=>?_;obtain⟨r1,e1⟩:∃r,p1++[m1]=d.2.1::r:=by
    cases hx:p1++[m1] with
    | nil=>rw [hx] at h1;cases h1
    | cons y r=>rw [hx] at h1;cases h1;exact⟨r,rfl⟩
   obtain⟨r2,e2⟩:∃r,p2++[m2]=d.2.2::r:=by
    cases hx:p2++[m2] with
    | nil=>rw [hx] at h2;cases h2
    | cons y r=>rw [hx] at h2;cases h2;exact⟨r,rfl⟩
   rw [e1] at Wa;rw [e2] at Wb;exact q _ (.node e hc ZY Wa Wb)
def Pl.fa (G:WG g ws) {j:Nat} (hj:j < t.size) {i k:Nat} (r:Pl g i k):i < g.length->My.fa (gU g t) j k=true->My.fa (gU g t) j i=true:=by
 induction r with
 | refl i=>intro _ h;exact h
 | @step i u k hu _ ih=>
  intro hi h;have:=G.dn i hi u hu;have h1:=ih ∅ h;rw [RV G hj hi,EY];exact .inl (BP.mpr ⟨u,hu,h1⟩)
def Us (G:WG g ws) (hw:∀w∈t.aJ,w∈ws):∀j,j < t.size->fa (gU g t) j (g.length-1)=true/\∃i,i < g.length/\lD g (gU g t) (en t 0 j) i≠[]:=λj=>by
 have gp:=G.pos
 induction j using DL with
 | ind j ih=>
  intro hj;cases e:en t 0 j with
  | word w=>
   obtain⟨i,hi,r,hh⟩:=G.adm w (hw w (qZ t 0 j w hj e));have ne:lD g (gU g t) (.word w) i≠[]:=by
    show (if hm g i w=true then _ else _)≠[];rw [if_pos hh];simp
   refine⟨r.fa G hj ∅ ?_,i,hi,ne⟩;rw [RV G hj hi,e,EY];refine .inr ?_;cases c:lD g (gU g t) (.word w) i with
   | nil=>exact absurd c ne
   | cons _ _=>rfl
  | pair a b=>
   obtain⟨ha,hb⟩:=eK t hj e;have h1:=(ih a ha ∅).1;have h2:=(ih b hb ∅).1;have mem:dbl (g.length-1)∈lD g (gU g t) (.pair a b) (g.length-1):=AJ.mpr ⟨.head _,by show (My.fa _ _ _&&My.fa _ _ _)=true;rw [h1,h2];rfl⟩;have ne:lD g (gU g t) (.pair a b) (g.length-1)≠[]:=λz=>by rw [z] at mem;cases mem
   refine⟨?_,g.length-1,by omega,ne⟩;rw [RV G hj ∅,e,EY];refine .inr ?_;cases c:lD g (gU g t) (.pair a b) (g.length-1) with
   | nil=>exact absurd c ne
   | cons _ _=>rfl
def whole_run (G:WG g ws) (hw:∀w∈t.aJ,w∈ws) (hd:t.depth < 12) (hz:t.size<=900) {Q:PV->Prop} (q:∀i w,W3 g t (t.size-1) [i] w->Q w):(cg (f6 g) t.pv).run Q:=by
 have tp:=t.size_pos;have gl:=G.len;have nl:=t.bz 0;have fw:=Gq g (t.nd 0) t.size;have e1:qe cV [f6 g]=.ret (.int (g.length:Int)):=by unfold f6;rw [br,Ah]
 have hr:t.size-1 < t.size:=by omega
 unfold cg;simp only [im,db];refine W.le.use (gM 12 t hd hz) ?_;refine W.le.use (Rg G (es:=t.nd 0) ∅ λj hj=>by rw [nl] at hj;rw [GN t hj];exact vA t hj) ?_;rw [nl];have el:((t.size:Int)-1)=((t.size-1:Nat):Int):=by omega
 simp only [gE,de,gt,lK,el,e1,eW,r9 (cf (i:=0) (j:=(g.length:Int)) ∅ ∅),A3,mf];have ej:=gm t 0 (t.size-1) hr;unfold au;refine xi (λi:Nat=>if (!(lD g (gU g t) (en t 0 (t.size-1)) i).isEmpty)=true then ap (PV.int (i:Int)) else bv) (λi hi R r=>?_) ?_
 ·have hi:=AO.mp hi;simp only [db];refine W.le.use (lx G ej hi fw (qR (vA t hr) ∅)) ?_;rw [Eu];cases c:(lD g (gU g t) (en t 0 (t.size-1)) i).isEmpty with
  | false=>simpa [c] using r
  | true=>simpa [c] using r
 ·rw [Jz];obtain⟨_,i,hi,ne⟩:=Us G hw (t.size-1) hr;refine pick_run (λz=>?_) ?_ λx hx=>?_
  ·have mem:i∈(AA g.length).filter λi=>!(lD g (gU g t) (en t 0 (t.size-1)) i).isEmpty:=AJ.mpr ⟨AO.mpr hi,by cases c:lD g (gU g t) (en t 0 (t.size-1)) i with | nil=>exact absurd c ne | cons _ _=>rfl⟩;rw [Fj.mp z] at mem;cases mem
  ·rw [Ah];have:=Bd (λi=>!(lD g (gU g t) (en t 0 (t.size-1)) i).isEmpty) (AA g.length);rw [Ck] at this;omega
  ·obtain⟨k,hk,rfl⟩:=Ay.mp hx;obtain⟨Ğ,õ⟩:=AJ.mp hk;have Ğ:=AO.mp Ğ;refine so G 12 (t.size-1) (by have:=NS t (t.size-1);omega) hr [] k Ğ (λz=>?_) λw h=>q k w h;rw [z] at õ;cases õ
end
def OX (l:List PV) {a:Nat} (h:a<=l.length):gJ l (ap (a:Int)) bv=l.drop a:=by
 unfold gJ;rw [HT.Mp,HT.Qk,Nat.min_eq_left h,Cs (by simp)]
def Qc {g:List Sy}{i:Nat} (h:i < g.length):jC (f6 g) (.int (i:Int))=.ret (.bl true):=by
 unfold jC f6;have c1:(0:Int)<=(i:Int):=by omega
 have c2:(i:Int) < (g.length:Int):=by omega
 simp only [im,L3,iQ,JG,br,Ah,mH,c1,c2,decide_true,pG]
def Ch.ne {g:List Sy}{p:List Nat} (h:Ch g p):1<=p.length:=by
 cases p with
 | nil=>exact h.elim
 | cons a p=>simp
def dl (g:List Sy) (i:Nat):List Dd:=dbl i::(spl (sy g i).un++((sy g i).be.map (λo=>(("over",i,o):Dd))++(sy g i).be.map (λo=>(("over",o,i):Dd))))
def WK {g:List Sy}{i:Nat}{d:Dd} (h:d∈z9 g i):d∈dl g i:=by
 rcases Ax.mp h with rfl | h
 ·exact .head _
 refine AX _ ?_;rcases A5.mp h with h | h
 ·exact BU _ h
 ·obtain⟨o,ho,h⟩:=Dq.mp h;refine AM _ ?_;simp at h;rcases h with rfl | rfl
  ·exact BU _ (Ay.mpr ⟨o,ho,rfl⟩)
  ·exact AM _ (Ay.mpr ⟨o,ho,rfl⟩)
def WE {g:List Sy}{ws:List Str} (G:WG g ws) {i:Nat} (h:i < g.length):(dl g i).length<=63:=by
 unfold dl;simp only [An,Ae,Ah];have:=wC (sy g i).un;have:=G.Sr i h;omega
theorem Sg (d:Dd):pq (d2 d)=true:=rfl
def Wl (d:Dd):PV.kl (d2 d)=true:=by simp [d2]
def RU (d:Dd):PV.iE (d2 d)<=2:=by simp [d2]
def KD (p:Nat×Nat):PV:=.tup [.int (p.1:Int),.int (p.2:Int)]
def Me {g:List Sy}{ws:List Str} (G:WG g ws) {i:Nat} (h:i < g.length):fK (f6 g) (.int (i:Int))=.ret ((spl (sy g i).un).map λd=>KD (d.2.1,d.2.2)):=by
 unfold fK;simp only [im,rD h];have hu:=G.qE i h;revert hu;generalize (sy g i).un=l;intro hu
 match l,hu with
 | [],_=>simp only [br,gL,jx,An,AU,cE,im,aY];rfl
 | [a],_=>simp only [br,gL,jx,An,AU,cE,im,aY];rfl
 | [a,b],_=>
  have i0:ck [PV.int (a:Int),PV.int (b:Int)] 0=ap (.int (a:Int)):=rfl;have i1:ck [PV.int (a:Int),PV.int (b:Int)] 1=ap (.int (b:Int)):=rfl;simp only [br,gL,jx,An,AU,cE,im,aY,aD,aW,i0,i1,ss];rfl
def QO {g:List Sy}{ws:List Str} (G:WG g ws) {i:Nat} (h:i < g.length):g9 (f6 g) (.int (i:Int))=.ret ((sy g i).be.map (λo=>KD (i,o))++(sy g i).be.map (λo=>KD (o,i))):=by
 unfold g9;have l3:=G.Sr i h;simp only [im,LC h,aD];rw [qP (g:=λo=>KD (i,o)) λk hk=>rfl];rw [qP (g:=λo=>KD (o,i)) λk hk=>rfl];simp only [im];rw [pL (by simp;omega)]
def Lj {g:List Sy}{ws:List Str} (G:WG g ws) {i a b:Nat} (h:i < g.length) {Q:List PV->Prop} (q:∀m:List PV,m.Perm ((dl g i).map d2)->Q m):(fq (f6 g) (Ent.pair a b).pv (.int (i:Int))).run Q:=by
 have l63:=WE G h;unfold fq;simp only [Ent.pv,im,db,dj,gF,a9,gt,Ag,if_false,Me G h,QO G h];refine ka (λd:Dd=>.tup [.str "split",KD (d.2.1,d.2.2)]) (λd _ R r=>r) ?_;have em:(sy g i).be.map (λo=>KD (i,o))++(sy g i).be.map (λo=>KD (o,i))=((sy g i).be.map (λo=>((i,o):Nat×Nat))++(sy g i).be.map (λo=>(o,i))).map KD:=by
  rw [A6,AL,AL];rfl
 rw [em];refine ka (λp:Nat×Nat=>.tup [.str "over",KD p]) (λp _ R r=>r) ?_;simp only [gt,JE,im];have es:(spl (sy g i).un).map (λd=>PV.tup [.str "split",KD (d.2.1,d.2.2)])=(spl (sy g i).un).map d2:=by
  refine CO λd hd=>?_;have:d.1=("split":Str):=by
   revert hd;generalize (sy g i).un=l;intro hd;unfold spl at hd
   split at hd
   ·simp at hd;rcases hd with rfl | rfl <;> rfl
   ·cases hd
  unfold d2 KD;rw [this]
 have eo:((sy g i).be.map (λo=>((i,o):Nat×Nat))++(sy g i).be.map (λo=>(o,i))).map (λp=>PV.tup [.str "over",KD p])=((sy g i).be.map (λo=>(("over",i,o):Dd))++(sy g i).be.map (λo=>(("over",o,i):Dd))).map d2:=by
  simp only [A6,AL];rfl
 rw [es,eo];have ll:(dl g i).length=1+(spl (sy g i).un).length+((sy g i).be.map (λo=>(("over",i,o):Dd))++(sy g i).be.map (λo=>(("over",o,i):Dd))).length:=by
  unfold dl;simp only [An,Ae];omega
 rw [pL (by simp only [Ah,An,AU];omega)];simp only [gt];rw [pL (by simp only [Ah,Ae,An,AU] at *;omega)];have e:([PV.tup [.str "doubled",.tup [.int (i:Int),.int (i:Int)]]]++(spl (sy g i).un).map d2)++((sy g i).be.map (λo=>(("over",i,o):Dd))++(sy g i).be.map (λo=>(("over",o,i):Dd))).map d2=(dl g i).map d2:=by
  unfold dl;simp only [Au,A6,A4];rfl
 simp only [gt];rw [e];refine⟨⟨by rw [Ah];omega,Cp.mpr λx hx=>?_⟩,λm hm=>q m hm⟩;obtain⟨d,_,rfl⟩:=Ay.mp hx;exact Sg d
def P0 {t:Tr} (hw:t.Ws) (hz:t.size<=900):(lZ t.pv).le (.ret (.bl true)):=λQ q=>by
 exact N6 t hw true (.inl rfl) hz Q q
def Dt.isD {t:Tr}{ds:List Int}{d:Int} (D:Dt t ds [] d) (h:d<=99):Rv t ds=true:=by
 unfold Rv;rw [Av,Av,decide_eq_true_iff,decide_eq_true_iff];refine⟨D.len,?_,Cp.mpr λj hj=>?_⟩
 ·unfold J9;have hp:(splits t).Pairwise (· < ·):=by unfold splits;exact List.Pairwise.filter _ Dg
  rw [List.nodup_iff_pairwise_ne,Eg];refine List.Pairwise.imp_of_mem (λ{x y} hx hy lt e=>?_) hp;obtain⟨x1,x2⟩:=AJ.mp hx;obtain⟨y1,y2⟩:=AJ.mp hy;have:=D.inj x y (AO.mp x1) (AO.mp y1) (by simp) (by simp) x2 y2 e;omega
 ·have hj':=AO.mp hj;unfold Y5;cases e:en t 0 j with
  | word w=>
   rw [D.zero j hj' (.inl (by rw [e];rfl))];rfl
  | pair a b=>
   obtain⟨_,_,h1,h2,h3,h4⟩:=D.up j hj' (by simp) a b e;show (decide (ds.getD a 0 < ds.getD j 0)&&decide (ds.getD b 0 < ds.getD j 0)&&decide (1<=ds.getD j 0)&&decide (ds.getD j 0<=99))=true;rw [decide_eq_true h1,decide_eq_true h2,decide_eq_true h3,decide_eq_true ∅];rfl
theorem tP:∀(t:Tr) (o:Nat),(t.nd o).countP uB+1=t.aJ.length
 | .leaf _,_=>rfl
 | .node l r,o=>by
  have h1:=tP l o;have h2:=tP r (o+l.size);rw [Tr.nd,List.countP_append,List.countP_append];show _+(List.countP uB [Ent.pair _ _])+1=(l.aJ++r.aJ).length;simp [uB];omega
def Vu (t:Tr):t.nd 0=(AA t.size).map (en t 0):=by
 refine BB λj=>?_;by_cases h:j < t.size
 ·rw [gm t 0 j h,Ak,BK h];rfl
 ·rw [AN (by rw [t.bz];omega),AN (by simp;omega)]
def Gx (t:Tr):(splits t).length+1=t.aJ.length:=by
 rw [<- tP t 0,Vu t,List.countP_map];unfold splits;rw [<- List.countP_eq_length_filter];rfl
def Pl.snoc {g:List Sy}{i j u:Nat} (r:Pl g i j) (hu:u∈(sy g j).un):Pl g i u:=by
 induction r with
 | refl i=>exact .step hu (.refl _)
 | step h _ ih=>exact .step h (ih hu)
def gS (t:Tr):List Sy:=(AA t.size).map λj=>⟨Jf (en t 0 j) j,0,LS (en t 0 j),XD t j⟩
def sX (t:Tr) {j:Nat} (h:j < t.size):sy (gS t) j=⟨Jf (en t 0 j) j,0,LS (en t 0 j),XD t j⟩:=by
 unfold sy gS;rw [Ap,Ak,BK h];rfl
@[simp] theorem ki (t:Tr):(gS t).length=t.size:=by unfold gS;simp
def Z5 (t:Tr):f6 (gS t)=.tup (grL t):=by
 unfold f6 gS grL;rw [AL];congr 1
def Tb (e:Ent) (j:Nat):(∃s,Jf e j=.str s)\/∃n,Jf e j=.int n:=by
 cases e with
 | word w=>exact .inl ⟨w,rfl⟩
 | pair a b=>exact .inr ⟨_,rfl⟩
def V5 (e:Ent):(LS e).length<=2:=by cases e <;> simp [LS]
theorem qS:∀(s:Tr) (t:Tr) (o:Nat) (w:Str),(∀k,k < s.size->en t 0 (o+k)=en s o k)->o+s.size<=t.size->w∈s.aJ->∃i,i < t.size/\Pl (gS t) (o+s.size-1) i/\en t 0 i=.word w
 | .leaf x,t,o,w,hs,hz,hw=>by
  have e0:en t 0 o=.word x:=hs 0 (by show 0 < 1;decide);have hz:o+1<=t.size:=hz;have:w=x:=by simpa [Tr.aJ] using hw
  subst this;exact⟨o,by omega,.refl _,e0⟩
 | .node l r,t,o,w,hs,hz,hw=>by
  have es:(Tr.node l r).size=l.size+r.size+1:=rfl;have er:en t 0 (o+(l.size+r.size))=.pair (o+l.size-1) (o+l.size+r.size-1):=by rw [hs _ ∅,en,if_neg ∅,if_neg ∅]
  have ei:o+(Tr.node l r).size-1=o+(l.size+r.size):=by omega
  have hl:∀k,k < l.size->en t 0 (o+k)=en l o k:=λk hk=>by rw [hs k ∅,en,if_pos hk]
  have hr:∀k,k < r.size->en t 0 (o+l.size+k)=en r (o+l.size) k:=λk hk=>by rw [Bb,hs _ ∅,en,if_neg ∅,if_pos ∅,BX]
  have un:(sy (gS t) (o+(l.size+r.size))).un=[o+l.size-1,o+l.size+r.size-1]:=by rw [sX t ∅,er];rfl
  rw [ei];rcases A5.mp (show w∈l.aJ++r.aJ from hw) with hw | hw
  ·obtain⟨i,h1,h2,h3⟩:=qS l t o w hl ∅ hw;exact⟨i,h1,.step (by rw [un];simp) h2,h3⟩
  ·obtain⟨i,h1,h2,h3⟩:=qS r t (o+l.size) w hr ∅ hw;exact⟨i,h1,.step (by rw [un];simp) h2,h3⟩
def JY {t:Tr} (hz:t.size<=30):WG (gS t) t.aJ:=by
 have tp:=t.size_pos;refine⟨by rw [ki];omega,by rw [ki];omega,λi hi u hu=>?_,λi hi=>?_,λi hi u hu=>?_,λi hi=>?_,λi hi=>?_,λw hw=>?_⟩
 ·rw [ki] at hi;rw [sX t hi] at hu;cases e:en t 0 i with
  | word w=>rw [e] at hu;cases hu
  | pair a b=>
   rw [e] at hu;have:=eK t hi e;have hu:u=a\/u=b:=by simpa [LS] using hu
   omega
 ·rw [ki] at hi;rw [sX t hi];exact V5 _
 ·rw [ki] at hi ⊢;rw [sX t hi] at hu;exact AO.mp (AJ.mp hu).1
 ·rw [ki] at hi;rw [sX t hi];have:=Bd (λk=>!decide (k∈up t 0 i [])&&!decide (i∈up t 0 k [])) (AA t.size);rw [Ck] at this;show (XD t i).length<=30;unfold XD;omega
 ·rw [ki] at hi;rw [sX t hi];exact Tb _ _
 ·obtain⟨i,h1,h2,h3⟩:=qS t t 0 w (λk hk=>by rw [AR]) ∅ hw;rw [AR] at h2;refine⟨i,by rw [ki];exact h1,by rw [ki];exact h2,?_⟩;unfold hm;rw [sX t h1,h3];simp [LS,Jf,NP]
def dS (t:Tr) (ds bs:List Int):List Sy:=(aP t ds bs bs.length).map λp=>⟨Jf (en t 0 p.1) p.1,p.2,(F8 (en t 0 p.1) p.1 (ds.getD p.1 0) (bs.getD p.2 0)).map λx=>(aP t ds bs bs.length).idxOf (x,p.2-1),WS (aP t ds bs bs.length) p.1 p.2⟩
def aaw (t:Tr) (ds bs:List Int):f6 (dS t ds bs)=.tup (Xz t ds bs):=by
 unfold f6 dS Xz;rw [AL];congr 1
@[simp] theorem WM (t:Tr) (ds bs:List Int):(dS t ds bs).length=(aP t ds bs bs.length).length:=by unfold dS;rw [Ah]
theorem pN (t:Tr) (ds bs:List Int):∀m,(aP t ds bs m).Pairwise λp q=>p.2<=q.2
 | 0=>.nil
 | m+1=>by
  rw [aP];have J7:∀p∈yN t ds (bs.getD m 0) m t.size,p.2=m:=λp hp=>by
   obtain⟨k,_,rfl⟩:=Ay.mp hp;rfl
  refine List.pairwise_append.mpr ⟨pN t ds bs m,?_,λa ha b hb=>?_⟩
  ·exact BM.mpr λi j hi hj _=>by rw [J7 _ (Co hi),J7 _ (Co hj)];exact Ao _
  ·have h1:=(gW ha).1;rw [J7 b hb];omega
theorem vg (t:Tr) (ds bs:List Int) (n:Nat):∀m,((aP t ds bs m).filter λp=>decide (p.2=n)).length<=t.size
 | 0=>Bj _
 | m+1=>by
  rw [aP,List.filter_append,Ae];have ih:=vg t ds bs n m;by_cases c:n=m
  ·subst c;have z:(aP t ds bs n).filter (λp=>decide (p.2=n))=[]:=by
    rw [EI];intro p hp;have:=(gW hp).1;simp;omega
   rw [z];have h1:=Bd (λp:Nat×Nat=>decide (p.2=n)) (yN t ds (bs.getD n 0) n t.size);have h2:=wB t ds (bs.getD n 0) n t.size;simp only [AU];omega
  ·have z:(yN t ds (bs.getD m 0) m t.size).filter (λp=>decide (p.2=n))=[]:=by
    rw [EI];intro p hp;obtain⟨k,_,rfl⟩:=Ay.mp hp;simp;omega
   rw [z];simpa using ih
section
variable {t:Tr}{ds:List Int}
def DD.above (D:DD t ds) {j n:Nat} (h:(j,n)∈aP t ds (bb t ds) (bb t ds).length) (hn:n+1 < (bb t ds).length):∃a,(a,n+1)∈aP t ds (bb t ds) (bb t ds).length/\j∈F8 (en t 0 a) a (ds.getD a 0) ((bb t ds).getD (n+1) 0):=by
 obtain⟨hnl,hj,hs⟩:=cL.mp h;obtain⟨s1,s2⟩:=(gr hj).mp hs;have inc:=D.inc;have lt:=xq inc hn (show n < n+1 by omega);have Ø:(∀a,kN t 0 j .aX=.int ((a:Nat):Int)->(bb t ds).getD (n+1) 0 < ds.getD a 0)->∃a,(a,n+1)∈aP t ds (bb t ds) (bb t ds).length/\j∈F8 (en t 0 a) a (ds.getD a 0) ((bb t ds).getD (n+1) 0):=λhx=>
  ⟨j,cL.mpr ⟨hn,hj,(gr hj).mpr ⟨by omega,hx⟩⟩,by unfold F8;rw [if_pos ∅];exact .head _⟩
 rcases kA t 0 j .aX hj with⟨_,e⟩ | ⟨a,u,v,ja,ha,e,ep,Tu⟩
 ·exact Ø λa z=>by rw [e] at z;cases z
 ·rw [AR] at e Tu;by_cases c:(bb t ds).getD (n+1) 0 < ds.getD a 0
  ·refine Ø λa' z=>?_;rw [e] at z;injection z with z;have:a=a':=by omega
   subst this;exact c
  ·have sa:=s2 a e;have eq:ds.getD a 0=(bb t ds).getD (n+1) 0:=by
    rcases Int.lt_or_eq_of_le (show ds.getD a 0<=(bb t ds).getD (n+1) 0 by omega) with c2 | c2
    ·have:=(sJ inc hn (D.mem ha) c2).2;rw [Nat.add_sub_cancel] at this;omega
    ·exact c2
   refine⟨a,cL.mpr ⟨hn,ha,(gr ha).mpr ⟨by omega,λa2 e2=>?_⟩⟩,?_⟩
   ·rcases kA t 0 a .aX ha with⟨_,e3⟩ | ⟨a3,u3,v3,_,h3,e3,ep3,ZE⟩
    ·rw [e3] at e2;cases e2
    ·rw [e3] at e2;injection e2 with e2;rw [AR] at e2 ZE;have:a3=a2:=by omega
     subst this;have:=D.pair a3 u3 v3 h3 ep3;rcases ZE with rfl | rfl <;> omega
   ·unfold F8;rw [if_neg ∅,ep];rcases Tu with rfl | rfl <;> simp
def DD.last (D:DD t ds) {j n:Nat} (h:(j,n)∈aP t ds (bb t ds) (bb t ds).length) (hn:n+1=(bb t ds).length):j=t.size-1:=by
 obtain⟨hnl,hj,hs⟩:=cL.mp h;obtain⟨s1,s2⟩:=(gr hj).mp hs;rcases kA t 0 j .aX hj with⟨e,_⟩ | ⟨a,u,v,ja,ha,e,ep,Tu⟩
 ·exact e
 ·exfalso;rw [AR] at e;have sa:=s2 a e;have inc:=D.inc;obtain⟨i,hi,ei⟩:=DQ (D.mem ha);have gd:(bb t ds).getD i 0=ds.getD a 0:=by rw [Ap,Ad hi];exact ei
  rcases De i n with c | c
  ·have:=xq inc hnl c;omega
  ·have:i=n:=by omega
   subst this;omega
def He {α:Type} [BEq α] [LawfulBEq α] {l:List α} (nd:l.Nodup) {i:Nat}{x:α} (h:l[i]?=ap x):l.idxOf x=i:=by
 obtain⟨hi,e⟩:=Al.mp h;rw [<- e];exact nd.idxOf_getElem i hi
def Ia {α:Type} [BEq α] [LawfulBEq α] {l:List α}{x:α} (h:x∈l):l[l.idxOf x]?=ap x:=by
 have:=BG h;rw [Ad this,List.getElem_idxOf this]
def L4 (D:DD t ds) (hz:t.size<=15) (hb:(bb t ds).length<=16):WG (dS t ds (bb t ds)) t.aJ:=by
 have nd:=jV t ds (bb t ds) (bb t ds).length;have Ć:=pN t ds (bb t ds) (bb t ds).length;have lay:=λn=>vg t ds (bb t ds) n (bb t ds).length;have ok:=D.ok;have ne:=D.ne;have ll:=jW t ds (bb t ds) (bb t ds).length;have above:=λj n=>D.above (j:=j) (n:=n);have last:=λj n=>D.last (j:=j) (n:=n);have Ď:=@cL t ds (bb t ds) (bb t ds).length;unfold okD at ok;have hS:∀i p,(aP t ds (bb t ds) (bb t ds).length)[i]?=ap p->sy (dS t ds (bb t ds)) i=⟨Jf (en t 0 p.1) p.1,p.2,(F8 (en t 0 p.1) p.1 (ds.getD p.1 0) ((bb t ds).getD p.2 0)).map λx=>(aP t ds (bb t ds) (bb t ds).length).idxOf (x,p.2-1),WS (aP t ds (bb t ds) (bb t ds).length) p.1 p.2⟩:=λi p hp=>by
  unfold sy dS;rw [Ap,Ak,hp];rfl
 have hL:(dS t ds (bb t ds)).length=(aP t ds (bb t ds) (bb t ds).length).length:=WM t ds _;have hmul:=Nat.mul_le_mul hb hz;generalize aP t ds (bb t ds) (bb t ds).length=L at *;have get:∀i,i < (dS t ds (bb t ds)).length->∃p,L[i]?=ap p/\p∈L:=λi hi=>by
  rw [hL] at hi;exact⟨L[i],Ad hi,Co hi⟩
 have pos:=DP.mpr ne;have Ô:∀(i a:Nat) (p r:Nat×Nat),L[i]?=ap p->L[a]?=ap r->r.2 < p.2->a < i:=λi a p r h1 h2 lt=>by
  rcases De a i with c | c
  ·exact c
  ·exfalso;obtain⟨g1,e1⟩:=Al.mp h1;obtain⟨g2,e2⟩:=Al.mp h2;rcases D8 c with c | c
   ·subst c;rw [h1] at h2;cases h2;omega
   ·have:=BM.mp Ć i a g1 g2 c;rw [e1,e2] at this;omega
 refine⟨by rw [hL];exact pos,by rw [hL];omega,λi hi u hu=>?_,λi hi=>?_,λi hi u hu=>?_,λi hi=>?_,λi hi=>?_,λw hw=>?_⟩
 ·obtain⟨p,hp,hm⟩:=get i hi;rw [hS i p hp] at hu;obtain⟨x,hx,rfl⟩:=Ay.mp hu;obtain⟨n1,xm⟩:=ok p hm x hx;exact Ô i _ p (x,p.2-1) hp (Ia xm) (by show p.2-1 < p.2;omega)
 ·obtain⟨p,hp,hm⟩:=get i hi;rw [hS i p hp];unfold F8
  split
  ·simp
  ·cases en t 0 p.1 <;> simp
 ·obtain⟨p,hp,hm⟩:=get i hi;rw [hS i p hp] at hu;unfold WS at hu;obtain⟨x,hx,rfl⟩:=Ay.mp hu;rw [hL];exact BG (AJ.mp hx).1
 ·obtain⟨p,hp,hm⟩:=get i hi;rw [hS i p hp];unfold WS;rw [Ah];have h1:=lay p.2;have h2:(L.filter λq=>decide (q.2=p.2)&&!decide (q.1=p.1)).length<=(L.filter λq=>decide (q.2=p.2)).length:=by
   have e:L.filter (λq=>decide (q.2=p.2)&&!decide (q.1=p.1))=(L.filter λq=>decide (q.2=p.2)).filter λq=>!decide (q.1=p.1):=by
    rw [List.filter_filter];refine congrArg (λf=>L.filter f) (funext λq=>Bool.and_comm _ _)
   rw [e];exact Bd _ _
  omega
 ·obtain⟨p,hp,hm⟩:=get i hi;rw [hS i p hp];exact Tb _ _
 ·
  have à:∀k i,i+k+1=L.length->Pl (dS t ds (bb t ds)) (L.length-1) i:=λk=>by
   induction k using DL with
   | ind k ih=>
    intro i hk;obtain⟨⟨j,n⟩,hp,hm⟩:=get i (by rw [hL];omega);have nl:=(Ď.mp hm).1;by_cases c:n+1 < (bb t ds).length
    ·obtain⟨a,ha,hb⟩:=above j n hm c;have ia:=Ia ha;have lt:=Ô _ i (a,n+1) (j,n) ia hp (by show n < n+1;omega);have il:=BG ha;have r:=ih (L.length-L.idxOf (a,n+1)-1) ∅ (L.idxOf (a,n+1)) ∅;refine r.snoc ?_;rw [hS _ _ ia];refine Ay.mpr ⟨j,hb,?_⟩;exact He nd hp
    ·have hj:=last j n hm ∅;have:i=L.length-1:=by
      obtain⟨⟨j2,n2⟩,xv,Xm⟩:=get (L.length-1) (by rw [hL];omega);have n2l:=(Ď.mp Xm).1;rcases De n2 n with c2 | c2
      ·have:=Ô i (L.length-1) _ _ hp xv c2;omega
      ·have en2:n2=n:=by omega
       have KI:=last j2 n2 Xm ∅;subst en2;rw [KI,<- hj] at xv;exact (He nd hp).symm.trans (He nd xv)
     rw [this];exact .refl _
  obtain⟨j,hj,_,ej⟩:=qS t t 0 w (λk hk=>by rw [AR]) ∅ hw;have b0:(bb t ds).getD 0 0=0:=rfl;have mem:(j,0)∈L:=Ď.mpr ⟨by simp [bb],hj,(gr hj).mpr ⟨by rw [D.leaf j w hj ej,b0];exact DB _,λa ea=>by
   rcases kA t 0 j .aX hj with⟨_,e⟩ | ⟨a',u,v,_,ha,e,ep,_⟩
   ·rw [e] at ea;cases ea
   ·rw [e,AR] at ea;injection ea with ea;have:a'=a:=by omega
    subst this;have:=(D.pair a' u v ha ep).2.2;rw [b0];omega⟩⟩
  have il:=BG mem;refine⟨L.idxOf (j,0),by rw [hL];exact il,by rw [hL];exact à (L.length-L.idxOf (j,0)-1) _ ∅,?_⟩;unfold hm;rw [hS _ _ (Ia mem)];unfold F8;rw [b0,D.leaf j w hj ej,if_neg ∅,ej];simp [Jf,NP]
end
def Hk {Q:PV->Prop} (q:∀t:Tr,pY t->Q t.pv):eT.run Q:=KQ q
def Sz {t:Tr} (g:pY t) {Q:PV->Prop} (q:∀s,WG s t.aJ->Q (f6 s)):(cH t.pv).run Q:=by
 have hz:=g.size;have hdp:=g.depth;unfold cH;simp only [im,db,bR 2 (by decide) (by decide)];refine bf λd _ _=>?_;simp only [cE,aY,gt];cases c:d==0 with
 | true=>
  simp only [if_true];refine KP t ∅ Q ?_;rw [<- Z5];exact q _ (JY ∅)
 | false=>
  simp only [Ag,if_false,db];refine W.le.use (gM 12 t ∅ ∅) ?_;refine Lk t ∅ λds d D ahF=>?_;have RE:(splits t).length<=7:=by have:=Gx t;have:=g.few;omega
  have DDt:=DD.of (D.isD ∅);have hb:(bb t ds).length<=16:=by unfold bb;rw [An,oY];have:=IM t ds;omega
  refine OU DDt ∅ Q ?_;rw [<- aaw];exact q _ (L4 DDt hz hb)
theorem zi {f:PV->W PV}{S:PV->Prop}:∀{l:List PV},(∀x∈l,∀R:PV->Prop,(∀v,S v->R v)->(f x).run R)->∀{Q:List PV->Prop},(∀m,m.length=l.length->(∀v∈m,S v)->Q m)->(mapW l f).run Q
 | [],_,Q,q=>q [] rfl (λ_ h=>nomatch h)
 | x::l,h,Q,q=>by
  show (am (f x) λy=>am (mapW l f) λm=>bd (y::m)).run Q;simp only [db];refine h x (.head _) _ λv hv=>?_;refine zi (λy hy=>h y (.tail _ hy)) λm hm hs=>?_;exact q (v::m) (by simp [hm]) λu hu=>by
   rcases Ax.mp hu with rfl | hu
   ·exact hv
   ·exact hs u hu
theorem IG:∀{m:List PV}{ls:List Str},(∀v∈m,∃w∈ls,v=PV.str w)->∃ws:List Str,m=ws.map PV.str/\∀w∈ws,w∈ls
 | [],_,_=>⟨[],rfl,λ_ h=>nomatch h⟩
 | v::m,ls,h=>by
  obtain⟨w,hw,rfl⟩:=h v (.head _);obtain⟨ws,rfl,h2⟩:=IG (m:=m) (ls:=ls) λu hu=>h u (.tail _ hu);exact⟨w::ws,rfl,λx hx=>by
   rcases Ax.mp hx with rfl | hx
   ·exact hw
   ·exact h2 x hx⟩
def uX {t:Tr} (g:pY t) {Q:PV->Prop} (q:∀s:Tr,(∀w∈s.aJ,w∈t.aJ)->s.aJ.length<=10->Q s.pv):(dF t.pv).run Q:=by
 have hz:=g.size;have hdp:=g.depth;unfold dF;simp only [im,db];refine W.le.use (gM 12 t ∅ ∅) ?_
 let f:PV->Option PV:=λx=>match x with | .str w=>ap (.str w) | _=>bv
 have el:(t.nd 0).map Ent.pv=(AA t.size).map λj=>(en t 0 j).pv:=by
  apply BB;intro i;by_cases hi:i < t.size
  ·rw [Ak,gm t 0 i hi,Ak,BK hi];rfl
  ·rw [AN (by rw [de];omega),AN (by simp;omega)]
 rw [el];refine xi (λj=>match en t 0 j with | .word w=>ap (PV.str w) | .pair _ _=>bv) (λj hj R r=>?_) ?_
 ·cases e:en t 0 j with
  | word w=>rw [e] at r;simpa [Ent.pv] using r
  | pair a b=>rw [e] at r;simpa [Ent.pv] using r
 generalize hL:(AA t.size).filterMap (λj=>match en t 0 j with | .word w=>ap (PV.str w) | .pair _ _=>bv)=L;have Lm:∀v∈L,∃w∈t.aJ,v=PV.str w:=λv hv=>by
  rw [<- hL] at hv;obtain⟨j,hj,e⟩:=CY.mp hv;have hj:=AO.mp hj;cases e2:en t 0 j with
  | word w=>
   rw [e2] at e;exact⟨w,qZ t 0 j w hj e2,(Option.some.inj e).symm⟩
  | pair a b=>rw [e2] at e;cases e
 have Ll:L.length<=1000:=by
  rw [<- hL];have:=List.length_filterMap_le (λj=>match en t 0 j with | .word w=>ap (PV.str w) | .pair _ _=>bv) (AA t.size);rw [Ck] at this;omega
 have Ln:L≠[]:=λz=>by
  obtain⟨w,e⟩:=xN t 0;have:PV.str w∈L:=by
   rw [<- hL];exact CY.mpr ⟨0,AO.mpr t.size_pos,by rw [e]⟩
  rw [z] at this;cases this
 simp only [bR 8 (by decide) (by decide)];refine bf λd d0 d1=>?_;obtain⟨n,hn,n0,n1⟩:∃n:Int,ck [PV.int 6,PV.int 10] (if (d==0)=true then 1 else 0)=ap (.int n)/\0 < n/\n<=10:=by
  by_cases h:d=0
  ·subst h;exact⟨10,rfl,by decide,by decide⟩
  ·have e:(d==0)=false:=by simpa using h
   rw [e];exact⟨6,rfl,by decide,by decide⟩
 simp only [cE,gt,gG,aW,hn,ss,bR n n0 ∅];refine bf λk k0 k1=>?_;obtain⟨m,hm⟩:∃m:Nat,1+k=(m:Int):=⟨(1+k).toNat,by omega⟩;simp only [fC,gt,hm,eW,r9 (cf (i:=0) (j:=(m:Int)) ∅ ∅),A3];refine zi (S:=λv=>∃w∈t.aJ,v=PV.str w) (λx _ R r=>pick_run Ln Ll λv hv=>r v (Lm v hv)) λms hl hs=>?_;obtain⟨ws,rfl,hw⟩:=IG hs;rw [jG,Ah] at hl;refine yJ (λz=>by rw [z] at hl;simp at hl;omega) ∅ λs hp=>q s (λw h=>hw w (hp.mem_iff.mp h)) (by rw [hp.length_eq];omega)
inductive XT where
 | lf (p:List Nat) (d:Str)
 | nd (p:List Nat) (d:Str) (a b:XT)
namespace XT
def path:XT->List Nat
 | .lf p _=>p
 | .nd p _ _ _=>p
def pv:XT->PV
 | .lf p d=>.tup [.tup (au p),.str d]
 | .nd p d a b=>.tup [.tup (au p),.str d,a.pv,b.pv]
def post:XT->List XT
 | .lf p d=>[.lf p d]
 | .nd p d a b=>a.post++(b.post++[.nd p d a b])
def pI (g:List Sy) (p:List Nat):Prop:=(∀x∈p,x < g.length)/\p.length<=900
def In (P:List Nat->Prop):XT->Prop
 | .lf p _=>P p
 | .nd p _ a b=>P p/\a.In P/\b.In P
def lk (g:List Sy):List Nat->Bool
 | i::k::r=>decide (k∈(sy g i).un)&&lk g (k::r)
 | _=>true
def pk (g:List Sy) (p:List Nat):Bool:=!p.isEmpty&&lk g p
def hd (u:XT):Nat:=u.path.headD 0
def sh (g:List Sy):XT->Ent->Bool
 | .lf p _,.word _=>pk g p
 | .nd p _ _ _,.pair _ _=>pk g p
 | _,_=>false
def dk (g:List Sy):XT->Ent->Bool
 | .lf p d,.word w=>d=="found"&&hm g (p.getLastD 0) w
 | .nd p d a b,_=>decide ((d,a.hd,b.hd)∈z9 g (p.getLastD 0))
 | _,_=>false
def fm (g:List Sy):XT->Tr->Bool
 | .lf p _,.leaf _=>pk g p
 | .nd p _ a b,.node l r=>pk g p&&(fm g b r&&fm g a l)
 | _,_=>false
def dn (g:List Sy):XT->Tr->Bool
 | .lf p d,.leaf w=>d=="found"&&hm g (p.getLastD 0) w
 | .nd p d a b,.node l r=>dn g a l&&(dn g b r&&decide ((d,a.hd,b.hd)∈z9 g (p.getLastD 0)))
 | _,_=>false
def In.path {P:List Nat->Prop}{u:XT} (h:u.In P):P u.path:=by
 cases u with
 | lf=>exact h
 | nd=>exact h.1
def pv_eq (u:XT):∃l,u.pv=.tup (.tup (au u.path)::l):=by cases u <;> exact⟨_,rfl⟩
def yV {g:List Sy}{p:List Nat} (h:pk g p=true):∃q i,p=q++[i]:=qH λz=>by subst z;cases h
end XT
open XT
theorem u7 {g:List Sy}:∀{p:List Nat},(∀x∈p,x < g.length)->∃bs:List Bool,bs.all id=lk g p/\(mapW (f7 (au p) (au (p.drop 1))) λJb=>am (qE Jb) λnH=>am (am (du (f6 g) nH.1) aw) λl=>am (sM false nH.2 l) XB).le (.ret (bs.map PV.bl))
 | [],h=>⟨[],rfl,λQ q=>by
  have e:f7 (au []) (au (([]:List Nat).drop 1))=[]:=rfl;rw [e];exact q⟩
 | [i],h=>⟨[],rfl,λQ q=>by
  have e:f7 (au [i]) (au ([i].drop 1))=[]:=by show f7 [PV.int (i:Int)] []=[];rw [f7];simp
  rw [e];exact q⟩
 | i::k::r,h=>by
  obtain⟨bs,h1,h2⟩:=u7 (p:=k::r) λx hx=>h x (.tail _ hx);refine⟨decide (k∈(sy g i).un)::bs,by rw [Fp,h1];rfl,λQ q=>?_⟩;have e:f7 (au (i::k::r)) (au ((i::k::r).drop 1))=.tup [.int (i:Int),.int (k:Int)]::f7 (au (k::r)) (au ((k::r).drop 1)):=by show f7 (_::_) (_::_)=_;rw [f7];rfl
  rw [e];show (am (am (qE _) _) λy=>am (mapW _ _) λm=>bd (y::m)).run Q;simp only [pD,im,rD (h i (.head _)),aD,xr,Ag,if_false,TX,db];exact W.le.use h2 q
def I0 {g:List Sy}{p:List Nat} (h:pI g p):(jD (f6 g) (.tup (au p))).le (.ret (.bl (pk g p))):=λQ q=>by
 obtain⟨h,hl⟩:=h;unfold jD;cases p with
 | nil=>
  have q:Q (.bl false):=q;simpa [jx] using q
 | cons a p=>
 have c0:(((a::p).length:Int)==0)=false:=beq_eq_false_iff_ne.mpr (by simp;omega);simp only [im,db,dj,km,a9,gt,A1,Ag,if_false,br,bD,cE,aY,c0,aD];refine lY (λ_=>.bl true) (λk hk=>Qc (h k hk)) ?_;have e1:(a::p).map (λ_=>PV.bl true)=((a::p).map λ_=>true).map PV.bl:=by rw [AL];rfl
 have e2:((a::p).map λ_=>true).all id=true:=by simp
 rw [e1,mn,e2];have e3:gJ (au (a::p)) (ap 1) bv=au ((a::p).drop 1):=by
  have:=OX (au (a::p)) (a:=1) (by rw [bD];simp);rw [show ((1:Nat):Int)=1 from rfl] at this;rw [this];unfold au;rw [Fo]
 simp only [gt,a9,A1,Ag,if_false,iP,lL,e3,aD,db];refine⟨aU (by rw [bD];omega),?_⟩;show (mapW _ _).run _;obtain⟨bs,b1,b2⟩:=u7 h;refine W.le.use b2 ?_;rw [mn,b1];exact q
def K3 {g:List Sy}{u:XT} (hu:u.In (pI g)) (e:Ent):(fN (f6 g) e.pv u.pv).le (.ret (.bl (sh g u e))):=λQ q=>by
 have i0:∀(a:PV) (l:List PV),ck (a::l) 0=ap a:=λ_ _=>bL (j:=0) rfl;have i1:∀(a b:PV) (l:List PV),ck (a::b::l) 1=ap b:=λ_ _ _=>bL (j:=1) rfl;have hp:=hu.path;unfold fN;cases u <;> cases e <;> simp only [XT.pv,Ent.pv,im,dm,dj,eX,gF,a9,if_true,Ag,if_false,Mu,An,AU]
 ·show (LD (.bl true) _).run Q;simp only [iQ,aD,im,aW,i0,i1,ss,db,dm,eX];refine W.le.use (I0 hp) ?_;revert q;simp only [sh,XT.path];cases pk g _ <;> exact id
 ·exact q
 ·exact q
 ·show (LD (.bl true) _).run Q;simp only [iQ,aD,im,aW,i0,i1,ss,db,dm,eX];refine W.le.use (I0 hp) ?_;revert q;simp only [sh,XT.path];cases pk g _ <;> exact id
theorem zL {S T:Type} (f:PV->S->W (Lp S T)):∀(a b:List PV) (s:S),iD (a++b) s f=.bind (iD a s f) λo=>match o with | .go s'=>iD b s' f | .out t=>.ret (.out t)
 | [],b,s=>rfl
 | x::a,b,s=>by
  show am (f x s) (λo=>match o with | .go s'=>iD (a++b) s' f | .out t=>.ret (.out t))=am (f x s) λo=>am (match o with | .go s'=>iD a s' f | .out t=>.ret (.out t)) _;congr 1;funext o;cases o with
  | go s'=>exact zL f a b s'
  | out t=>rfl
def kn (lz:Int) (n:Nat):gn lz (n+1)=.int lz::gn (lz-1) n:=by
 unfold gn;rw [Df,Au,AL];refine congr (congrArg _ (by simp)) (CO λi _=>?_);show PV.int (lz-((i+1:Nat):Int))=_;congr 1;push_cast;omega
theorem vG (m:Nat):∀(lz:Int) (n:Nat),gn lz (n+m)=gn lz n++gn (lz-n) m
 | lz,0=>by simp [gn]
 | lz,n+1=>by
  rw [show n+1+m=(n+m)+1 by omega,kn,kn,vG m (lz-1) n,List.cons_append];congr 3;push_cast;omega
def S2 (g:List Sy) (S:List PV):XT->Ent->Lp (List PV) PV
 | .lf p _,.word _=>if pk g p=true then .go S else .out .aX
 | .nd p _ a b,.pair x y=>if pk g p=true then .go ((S.set x a.pv).set y b.pv) else .out .aX
 | _,_=>.out .aX
theorem tu {g:List Sy}:∀{u:XT}{s:Tr},fm g u s=true->u.post.length=s.size
 | .lf _ _,.leaf _,_=>rfl
 | .nd _ _ a b,.node l r,h=>by
  rw [fm,Av,Av] at h;show (a.post++(b.post++[_])).length=l.size+r.size+1;rw [Ae,Ae,tu h.2.1,tu h.2.2];rfl
def wG {α:Type}{A R:List α}{x v:α}{n:Nat} (h:n=A.length):(A++x::R).set n v=A++v::R:=by subst h;simp
def So {α:Type}:∀{M:List α}{n:Nat},n < M.length->∃A x R,M=A++x::R/\A.length=n
 | M,n,h=>⟨M.take n,M[n],M.drop (n+1),by simp,by simp;omega⟩
theorem xb {g:List Sy}{t:Tr}{f:PV->List PV->W (Lp (List PV) PV)} (hf:∀(j:Nat) (S:List PV) (u:XT),j < t.size->S.length=t.size->S[j]?=ap u.pv->u.In (pI g)->(f (.int (j:Int)) S).le (.ret (S2 g S u (en t 0 j)))) :
  ∀(s:Tr) (o:Nat),(∀k,k < s.size->en t 0 (o+k)=en s o k)->∀(u:XT),u.In (pI g)->∀A M B:List PV,A.length=o->M.length+1=s.size->A.length+(M.length+1+B.length)=t.size->
  (iD (gn (((o+M.length:Nat):Int)) s.size) (A++(M++u.pv::B)) f).le (.ret (if fm g u s=true then .go (A++(u.post.map XT.pv++B)) else .out .aX))
 | .leaf w,o,hs,u,hu,A,M,B,ha,hm,hz=>λQ q=>by
  have e1:(Tr.leaf w).size=0+1:=rfl;have e0:M=[]:=Cr ∅;subst e0;have en0:en t 0 o=.word w:=hs 0 ∅;rw [e1,kn];show (am (f _ _) _).run Q;simp only [db,AU,Nat.add_zero,EW] at *;refine W.le.use (hf o _ u ∅ (by simp;omega) (by rw [Aw ∅,ha,B9];rfl) hu) ?_;rw [en0];cases u with
  | lf p d=>
   have q:Q (if pk g p=true then _ else _):=q;cases c:pk g p <;> rw [c] at q <;> simp only [S2,c] <;> exact q
  | nd=>exact q
 | .node l r,o,hs,u,hu,A,M,B,ha,hm,hz=>λQ q=>by
  have es:(Tr.node l r).size=l.size+r.size+1:=rfl;have lp:=l.size_pos;have rp:=r.size_pos;have er:en t 0 (o+(l.size+r.size))=.pair (o+l.size-1) (o+l.size+r.size-1):=by rw [hs _ ∅,en,if_neg ∅,if_neg ∅]
  have hl:∀k,k < l.size->en t 0 (o+k)=en l o k:=λk hk=>by rw [hs k ∅,en,if_pos hk]
  have hr:∀k,k < r.size->en t 0 (o+l.size+k)=en r (o+l.size) k:=λk hk=>by rw [Bb,hs _ ∅,en,if_neg ∅,if_pos ∅,BX]
  rw [es,kn];show (am (f _ _) _).run Q;rw [db,show o+M.length=o+(l.size+r.size) by omega];refine W.le.use (hf (o+(l.size+r.size)) _ u ∅ (by simp;omega) (by rw [<- A4,Aw (by simp;omega)];simp [show o+(l.size+r.size)-(A.length+M.length)=0 by omega]) hu) ?_;rw [er];cases u with
  | lf p d=>exact q
  | nd p d a b=>
  have q:Q (if (pk g p&&(fm g b r&&fm g a l))=true then _ else _):=q;cases c:pk g p with
  | false=>
   rw [c] at q;simp only [S2,c];exact q
  | true=>
  rw [c,Bx] at q;simp only [S2,c,if_true];obtain⟨M1,x,M2,rfl,h1⟩:=So (M:=M) (n:=l.size-1) ∅;have h2:M1.length+(M2.length+1)=l.size+r.size:=by simp at hm;omega
  obtain⟨M3,y,rfl⟩:=qH (l:=M2) λz=>by subst z;simp at h2;omega
  simp at h2;have e1:((A++((M1++x::(M3++[y]))++(XT.nd p d a b).pv::B)).set (o+l.size-1) a.pv).set (o+l.size+r.size-1) b.pv=(A++(M1++[a.pv]))++(M3++b.pv::((XT.nd p d a b).pv::B)):=by
   rw [show A++((M1++x::(M3++[y]))++(XT.nd p d a b).pv::B)=(A++M1)++x::(M3++y::(XT.nd p d a b).pv::B) by simp,wG (by simp;omega),
    show (A++M1)++a.pv::(M3++y::(XT.nd p d a b).pv::B)=(A++(M1++a.pv::M3))++y::(XT.nd p d a b).pv::B by simp,wG (by simp;omega)]
   simp
  rw [e1,Nat.add_comm l.size r.size,vG,zL,db,show (((o+(r.size+l.size):Nat):Int)-1)=((o+l.size+M3.length:Nat):Int) by omega];refine W.le.use (xb hf r (o+l.size) hr b hu.2.2 (A++(M1++[a.pv])) M3 ((XT.nd p d a b).pv::B) (by simp;omega) ∅ (by simp;simp at hz;omega)) ?_;cases cb:fm g b r with
  | false=>
   rw [cb] at q;exact q
  | true=>
  rw [cb,Bx] at q;have e2:(A++(M1++[a.pv]))++(b.post.map XT.pv++(XT.nd p d a b).pv::B)=A++(M1++a.pv::(b.post.map XT.pv++(XT.nd p d a b).pv::B)):=by simp
  simp only [if_true];rw [e2,show ((o+l.size+M3.length:Nat):Int)-(r.size:Int)=((o+M1.length:Nat):Int) by omega];have e3:A++(a.post.map XT.pv++(b.post.map XT.pv++(XT.nd p d a b).pv::B))=A++((XT.nd p d a b).post.map XT.pv++B):=by simp [XT.post]
  have bl:(b.post.map XT.pv).length=r.size:=by rw [Ah];exact tu cb
  refine xb hf l o hl a hu.2.1 A M1 (b.post.map XT.pv++(XT.nd p d a b).pv::B) ha ∅ (by rw [Ae,bl];simp;simp at hz;omega) Q ?_;rw [e3];exact q
def PN {g:List Sy}{t:Tr} (hz:t.size<=900) {u:XT} (hu:u.In (pI g)):(c8 (f6 g) (.tup ((t.nd 0).map Ent.pv)) u.pv).le (.ret (if fm g u t=true then .cl (u.post.map XT.pv) else .aX)):=λQ q=>by
 have tp:=t.size_pos;unfold c8;simp only [im,db,aD];refine GV (λ_=>.aX) (λx hx=>rfl) ?_;have e0:((t.nd 0).map Ent.pv).map (λ_=>PV.aX)=Am (t.size-1) PV.aX++[PV.aX]:=by
  rw [EX,de,<- List.replicate_succ',Nat.sub_add_cancel tp]
 have ei:nX t.size (-1)=ap (t.size-1):=by
  unfold nX;rw [if_neg ∅,if_pos ∅];congr 1;omega
 have es:∀v,gY (Am (t.size-1) PV.aX++[.aX]) (.int (-1)) v=.ret (Am (t.size-1) PV.aX++[v]):=λv=>by
  show (match nX (Am (t.size-1) PV.aX++[PV.aX]).length (-1) with | some j=>_ | none=>_)=_;rw [Ae,A7,Dj,Nat.sub_add_cancel tp,ei];show bd _=_;rw [wG (by simp)]
 have ī:(((t.size:Nat):Int)-1 - -1).toNat=t.size:=by omega
 rw [e0];simp only [jb,gt,es,br,de,lK,JD,ī];refine⟨⟨trivial,cf ∅ ∅⟩,?_⟩;show (iD _ _ _).run _;rw [show (((t.size:Nat):Int)-1)=((0+(Am (t.size-1) PV.aX).length:Nat):Int) by simp;omega];refine xb (g:=g) (t:=t) (λj S v hj hS hv hi R r=>?_) t 0 (λk _=>by rw [AR]) u hu [] _ [] rfl (by simp;omega) (by simp;omega) _ ?_
 ·have þ:ck S (j:Int)=ap v.pv:=bL hv;simp only [aW,w5 t hj,ss,gt,þ,db,aD,im];refine W.le.use (K3 hi _) ?_;cases c:sh g v (en t 0 j) with
  | false=>
   have:S2 g S v (en t 0 j)=.out PV.aX:=by
    revert c;cases v <;> cases en t 0 j <;> simp [sh,S2]
   rw [this] at r;exact r
  | true=>
   simp only [a9,gt,A1,Ag,if_false,db,vo,aD,iP];cases e:en t 0 j with
   | word w=>
    cases v with
    | nd=>rw [e] at c;cases c
    | lf p d=>
     have ec:gJ [PV.tup (au p),.str d] (ap 2) bv=[]:=rfl;have ez:ub [] []=.ret []:=by unfold ub;rw [r9 (aU (by simp))];congr 1
     rw [e] at c r;have c:pk g p=true:=c;simp only [S2,c] at r;simp only [XT.pv,lL,ec,gt,aD,LS,jx,ez];exact r
   | pair x y=>
    cases v with
    | lf=>rw [e] at c;cases c
    | nd p d a b=>
     have ec:gJ [PV.tup (au p),.str d,a.pv,b.pv] (ap 2) bv=[a.pv,b.pv]:=rfl;obtain⟨ha,hb⟩:=eK t hj e;have ez:ub [PV.int (x:Int),PV.int (y:Int)] [a.pv,b.pv]=.ret [.tup [.int (x:Int),a.pv],.tup [.int (y:Int),b.pv]]:=by
      unfold ub;rw [r9 (aU (by simp))];congr 1
     rw [e] at c r;have c:pk g p=true:=c;simp only [S2,c] at r;simp only [XT.pv,lL,ec,gt,aD,LS,gL,jx,ez,dY,pD,im,db,jY (show x < S.length by omega),jY (l:=S.set x a.pv) (show y < (S.set x a.pv).length by rw [BL];omega)];exact r
 ·cases c:fm g u t with
  | false=>rw [c] at q;exact q
  | true=>rw [c] at q;simpa using q
def WH {g:List Sy}{i:Nat}{d:Dd} (h:d∈dl g i):d∈z9 g i:=by
 unfold dl at h;unfold z9;rcases Ax.mp h with rfl | h
 ·exact .head _
 refine AX _ ?_;rcases A5.mp h with h | h
 ·exact BU _ h
 ·refine AM _ (Dq.mpr ?_);rcases A5.mp h with h | h <;> obtain⟨o,ho,rfl⟩:=Ay.mp h <;> exact⟨o,ho,by simp⟩
def Wn (d e:Dd):kM (d2 d) (d2 e)=decide (d=e):=by
 obtain⟨n,x,y⟩:=d;obtain⟨m,u,v⟩:=e;rw [Cj];simp [d2];intro _;omega
def KO (d f:Str):pB (.tup [.str d,.tup []]) [PV.tup [.str f,.tup []]]=(d==f):=by
 unfold pB;rw [Cb,List.any_nil,Bool.or_false,TN,Oi,JA,Oi,TN,Wm,CU,CU,Cj,beq_iff_eq,beq_iff_eq];exact eq_comm
def N4 {c:Dd->PV} (fk:∀d,PV.kl (c d)=true) (fd:∀d,PV.iE (c d)<=2) (fe:∀d e,kM (c d) (c e)=decide (d=e)) {l:List Dd}{m:List PV} (d:Dd) (hp:m.Perm (l.map c)):sM false (c d) m=.ret (decide (d∈l)):=by
 have hm:∀x∈m,∃k∈l,c k=x:=λx hx=>Ay.mp (hp.mem_iff.mp hx);have h1:RA (c d) m:=⟨fk d,lI.mpr λx hx=>by
  obtain⟨k,_,rfl⟩:=hm x hx;exact fk k,Bp (lJ (n:=2) λx hx=>by
  obtain⟨k,_,rfl⟩:=hm x hx;exact fd k) (by decide)⟩
 have h2:pB (c d) m=decide (d∈l):=by
  unfold pB;rw [Cj,BP];refine⟨λ⟨y,hy,e⟩=>?_,λh=>⟨c d,hp.mem_iff.mpr (Ay.mpr ⟨d,by simpa using h,rfl⟩),zN _ (fk d)⟩⟩;obtain⟨k,hk,rfl⟩:=hm y hy;rw [fe] at e;have e:k=d:=by simpa using e
  simpa [<- e] using hk
 unfold sM;rw [r9 h1,h2];rfl
def FP {u:XT}{x:Nat}{r:List Nat} (h:u.path=x::r):dz u.pv=.ret (.int (x:Int)):=by
 obtain⟨l,e⟩:=u.pv_eq;have k0:∀(x:PV) (l:List PV),ck (x::l) 0=ap x:=λ_ _=>bL (j:=0) rfl;unfold dz;rw [e,h];simp only [im,aD,aW,gL,k0,ss]
def qV {u:XT} (h:u.path≠[]):∃r,u.path=u.hd::r:=by
 unfold XT.hd;cases e:u.path with
 | nil=>exact absurd e h
 | cons a r=>exact⟨r,rfl⟩
def gd (g:List Sy):XT->Prop
 | .lf _ _=>True
 | .nd _ _ a b=>a.path≠[]/\b.path≠[]
def done_ev {g:List Sy}{ws:List Str} (G:WG g ws) {u:XT}{e:Ent} (hu:pI g u.path) (hs:sh g u e=true) (hg:gd g u):(jF (f6 g) e.pv u.pv).le (.ret (.bl (dk g u e))):=λQ q=>by
 have i0:∀(a:PV) (l:List PV),ck (a::l) 0=ap a:=λ_ _=>bL (j:=0) rfl;have i1:∀(a b:PV) (l:List PV),ck (a::b::l) 1=ap b:=λ_ _ _=>bL (j:=1) rfl;have hl:∃p i,u.path=p++[i]:=by cases u <;> cases e <;> first | cases hs;done | exact yV hs
 obtain⟨p,i,e0⟩:=hl;have hi:i < g.length:=hu.1 i (by rw [e0];simp);unfold jF nS ma;cases u with
 | lf p' d=>
  cases e with
  | pair=>cases hs
  | word w=>
   have e0:p'=p++[i]:=e0;subst e0;have ec:gJ [PV.tup (au (p++[i])),.str d] (ap 2) bv=[]:=rfl;have em:∀f,mapW [] f=.ret []:=λ_=>rfl;have q:Q (.bl (d=="found"&&hm g ((p++[i]).getLastD 0) w)):=q;rw [show (p++[i]).getLastD 0=i by simp] at q;simp only [XT.pv,im,db,aD,aW,i0,i1,ss,gt,iP,lL,ec,em,Hz,jb,ke];unfold fq;simp only [Ent.pv,im,db,dm,eX,a9,gt,if_true,RG G hi];cases c:hm g i w with
   | false=>
    rw [c,CI] at q;exact⟨⟨by simp,by simp,by simp⟩,q⟩
   | true=>
    rw [c] at q;refine⟨⟨by simp,by simp,by simp⟩,?_⟩;show (XB (pB _ _)).run Q;rw [KO];rw [CU] at q;exact q
 | nd p' d a b=>
  cases e with
  | word=>cases hs
  | pair x y=>
   have e0:p'=p++[i]:=e0;subst e0;obtain⟨r1,h1⟩:=qV hg.1;obtain⟨r2,h2⟩:=qV hg.2;have ec:gJ [PV.tup (au (p++[i])),.str d,a.pv,b.pv] (ap 2) bv=[a.pv,b.pv]:=rfl;have em:mapW [a.pv,b.pv] (λp5=>dz p5)=.ret [.int (a.hd:Int),.int (b.hd:Int)]:=by
    show am (dz a.pv) (λu=>am (am (dz b.pv) λv=>am (bd []) λm=>bd (v::m)) λm=>bd (u::m))=_;rw [FP h1,FP h2];rfl
   have q:Q (.bl (decide ((d,a.hd,b.hd)∈z9 g ((p++[i]).getLastD 0)))):=q;rw [show (p++[i]).getLastD 0=i by simp] at q;simp only [XT.pv,im,db,aD,aW,i0,i1,ss,gt,iP,lL,ec,em,Hz,jb,ke];refine Lj G hi λm hm=>?_;have:=N4 Wl RU Wn (d,a.hd,b.hd) hm;have e6:d2 (d,a.hd,b.hd)=.tup [.str d,.tup [.int (a.hd:Int),.int (b.hd:Int)]]:=rfl;rw [e6] at this;rw [this];have e7:decide ((d,a.hd,b.hd)∈dl g i)=decide ((d,a.hd,b.hd)∈z9 g i):=by
    rw [Cj];simp only [decide_eq_true_eq];exact⟨WH,WK⟩
   rw [e7];exact q
theorem yC {α β:Type} (a:α->PV) (b:β->PV):∀(l:List α) (m:List β),f7 (l.map a) (m.map b)=(l.zip m).map λp=>.tup [a p.1,b p.2]
 | [],m=>by cases m <;> rfl
 | x::l,[]=>by simp [f7]
 | x::l,y::m=>by rw [Au,Au,f7,yC a b l m];rfl
def qX {g:List Sy}{u:XT}{s:Tr} (h:fm g u s=true):u.path≠[]:=by
 cases u <;> cases s <;> first | cases h;done | skip
 ·obtain⟨q,i,e⟩:=yV h;show _≠_;rw [XT.path,e];simp
 ·rw [fm,Av] at h;obtain⟨q,i,e⟩:=yV h.1;rw [XT.path,e];simp
theorem Hy {g:List Sy}:∀{u:XT}{s:Tr} (o:Nat),u.In (pI g)->fm g u s=true->(∀p∈(s.nd o).zip u.post,pI g p.2.path/\sh g p.2 p.1=true/\gd g p.2)/\(((s.nd o).zip u.post).map λp=>dk g p.2 p.1).all id=dn g u s
 | .lf p d,.leaf w,o,hi,h=>⟨λx hx=>by
   have:x=(.word w,.lf p d):=by simpa [Tr.nd,XT.post] using hx
   subst this;exact⟨hi,h,trivial⟩,by simp [Tr.nd,XT.post,dk,dn]⟩
 | .nd p d a b,.node l r,o,hi,h=>by
  rw [fm,Av,Av] at h;obtain⟨a1,a2⟩:=Hy o hi.2.1 h.2.2;obtain⟨b1,b2⟩:=Hy (o+l.size) hi.2.2 h.2.1;have e:((Tr.node l r).nd o).zip (XT.nd p d a b).post=(l.nd o).zip a.post++((r.nd (o+l.size)).zip b.post++[(.pair (o+l.size-1) (o+l.size+r.size-1),.nd p d a b)]):=by
   show (l.nd o++r.nd (o+l.size)++[_]).zip (a.post++(b.post++[_]))=_;rw [A4,List.zip_append (by rw [l.bz,tu h.2.2]),List.zip_append (by rw [r.bz,tu h.2.1])];rfl
  rw [e];refine⟨λx hx=>?_,?_⟩
  ·simp only [A5,Bh] at hx;rcases hx with hx | hx | rfl
   ·exact a1 x hx
   ·exact b1 x hx
   ·exact⟨hi.1,h.1,qX h.2.2,qX h.2.1⟩
  ·rw [A6,A6,List.all_append,List.all_append,a2,b2];simp [dn,dk]
def wy (g:List Sy) (u:XT) (t:Tr):Bool:=fm g u t&&((u.path.length:Int)==1&&dn g u t)
def zx {g:List Sy}{ws:List Str} (G:WG g ws) {t:Tr} (hw:t.Ws) (hz:t.size<=900) {u:XT} (hu:u.In (pI g)):(jB (f6 g) t.pv u.pv).le (.ret (.bl (wy g u t))):=λQ q=>by
 unfold jB;simp only [im,db];refine W.le.use (P0 hw hz) ?_;simp only [a9,gt,A1,Ag,if_false,db];refine W.le.use (nR t hz) ?_;refine W.le.use (PN hz hu) ?_;unfold wy at q;cases c:fm g u t with
 | false=>
  rw [c] at q;simp only [Ag,if_false,pF,PV.mE,aY,gt,if_true];exact q
 | true=>
 rw [c,Bx] at q;obtain⟨l,el⟩:=u.pv_eq;have k0:ck (PV.tup (au u.path)::l) 0=ap (.tup (au u.path)):=bL (j:=0) rfl;rw [el];simp only [if_true,pF,PV.mE,aY,gt,Ag,if_false,aD,aW,k0,ss,br,bD,pE,im,db];cases c1:(u.path.length:Int)==1 with
 | false=>
  rw [c1] at q;simpa using q
 | true=>
  rw [c1,Bx] at q;obtain⟨f1,f2⟩:=Hy 0 hu c;simp only [A1,Ag,if_false,bK,db,gt];refine⟨aU (by rw [de];omega),?_⟩;show (mapW _ _).run _;rw [yC];refine ka (λp=>.bl (dk g p.2 p.1)) (λp hp R r=>?_) ?_
  ·obtain⟨h1,h2,h3⟩:=f1 p hp;simp only [pD,im];exact done_ev G h1 h2 h3 R r
  ·rw [show ((t.nd 0).zip u.post).map (λp=>PV.bl (dk g p.2 p.1))=(((t.nd 0).zip u.post).map λp=>dk g p.2 p.1).map PV.bl by rw [AL];rfl,mn,f2];exact q
def Ra (g:List Sy):XT->Tr->Bool
 | .lf p d,.leaf w=>pk g p&&(d=="found"&&hm g (p.getLastD 0) w)
 | .nd p d a b,.node l r=>pk g p&&(Ra g a l&&(Ra g b r&&decide ((d,a.hd,b.hd)∈z9 g (p.getLastD 0))))
 | _,_=>false
theorem zl {g:List Sy}:∀(u:XT) (s:Tr),Ra g u s=(fm g u s&&dn g u s)
 | .lf _ _,.leaf _=>rfl
 | .lf _ _,.node _ _=>rfl
 | .nd _ _ _ _,.leaf _=>rfl
 | .nd p d a b,.node l r=>by
  rw [Ra,fm,dn,zl a l,zl b r];cases pk g p <;> cases fm g a l <;> cases fm g b r <;> cases dn g a l <;> rfl
def Nr {g:List Sy}{i:Nat} (h:i < g.length):dA (f6 g) (.int (i:Int))=.ret (.bl true):=by
 unfold dA f6;have c1:(0:Int)<=(i:Int):=by omega
 have c2:(i:Int) < (g.length:Int):=by omega
 simp only [im,R6,R3,R4,Wv,Fc,iQ,JG,br,Ah,mH,c1,c2,decide_true,pG]
theorem Nt (g:List Sy):∀(p:List Nat),((AA (p.length-1)).map λk=>decide (p.getD (k+1) 0∈(sy g (p.getD k 0)).un)).all id=lk g p
 | []=>rfl
 | [_]=>rfl
 | i::k::r=>by
  show ((AA (r.length+1)).map _).all id=_;rw [Df,Au,AL,Fp,lk,<- Nt g (k::r)];rfl
def eq_str (a b:Str):of2 dh (.str a) (.str b)=.ret (.bl (a==b)):=by rw [tE,r9 ⟨by simp,by simp,by simp⟩,JA]
def GO {p:List Nat}{k:Nat} (h:k < p.length):ck (au p) (k:Int)=ap (.int ((p.getD k 0:Nat):Int)):=bL (by
 unfold au;rw [Ak,Ap,Ad h];rfl)
def zj {g:List Sy}{p:List Nat} (h:pI g p):(cn (f6 g) (.tup (au p))).le (.ret (.bl (pk g p))):=λQ q=>by
 obtain⟨h,hl⟩:=h;unfold cn;simp only [im,db,dj,km,a9,gt,A1,Ag,if_false,eq_nil p ∅,aY,aD];cases p with
 | nil=>exact q
 | cons a p=>
 simp only [List.isEmpty_cons,Ag,if_false,db];refine lY (λ_=>.bl true) (λk hk=>Nr (h k hk)) ?_;have e1:(a::p).map (λ_=>PV.bl true)=((a::p).map λ_=>true).map PV.bl:=by rw [AL];rfl
 have e2:((a::p).map λ_=>true).all id=true:=by simp
 rw [e1,mn,e2];have e3:(((au (a::p)).length:Int)-1)=(((a::p).length-1:Nat):Int):=by rw [bD];simp
 simp only [gt,a9,A1,Ag,if_false,br,lK,e3,eW,r9 (cf (i:=0) (j:=(((a::p).length-1:Nat):Int)) ∅ ∅),A3,db,mf];refine lY (λk=>.bl (decide ((a::p).getD (k+1) 0∈(sy g ((a::p).getD k 0)).un))) (λk hk=>?_) ?_
 ·have hk:k < (a::p).length-1:=AO.mp hk;have at0:=GO (show k < (a::p).length by omega);have þ:=GO (show k+1 < (a::p).length by omega);rw [show ((k+1:Nat):Int)=(k:Int)+1 from rfl] at þ;have hg:(a::p).getD k 0 < g.length:=h _ (by
   rw [Ap,Ad (show k < (a::p).length by omega)];exact Co _)
  simp only [fC,im,aW,at0,þ,ss,f6,aD,Wh hg,Sy.pv,Gv,xr,Ag,if_false,TX]
 ·have e4:(AA ((a::p).length-1)).map (λk=>PV.bl (decide ((a::p).getD (k+1) 0∈(sy g ((a::p).getD k 0)).un)))=((AA ((a::p).length-1)).map λk=>decide ((a::p).getD (k+1) 0∈(sy g ((a::p).getD k 0)).un)).map PV.bl:=by rw [AL];rfl
  rw [e4,mn,Nt];exact q
theorem su {g:List Sy}{ws:List Str} (G:WG g ws) {t:Tr}:∀(s:Tr) (o n:Nat),(∀k,k < s.size->en t 0 (o+k)=en s o k)->o+s.size<=t.size->s.depth < n->∀u:XT,u.In (pI g)->(bV n (f6 g) (.cl ((t.nd 0).map Ent.pv)) (.int ((o+s.size-1:Nat):Int)) u.pv).le (.ret (.bl (Ra g u s)))
 | s,o,0,_,_,hd,_,_=>absurd hd (Nat.not_lt_zero _)
 | s,o,n+1,hs,hz,hd,u,hu=>λQ q=>by
  have sp:=s.size_pos;have i0:∀(a:PV) (l:List PV),ck (a::l) 0=ap a:=λ_ _=>bL (j:=0) rfl;have i1:∀(a b:PV) (l:List PV),ck (a::b::l) 1=ap b:=λ_ _ _=>bL (j:=1) rfl;have i2:∀(a b c d:PV),ck [a,b,c,d] 2=ap c:=λ_ _ _ _=>rfl;have i3:∀(a b c d:PV),ck [a,b,c,d] 3=ap d:=λ_ _ _ _=>rfl;have j0:ck [PV.int 4,.int 2] 0=ap (.int 4):=rfl;have j1:ck [PV.int 4,.int 2] 1=ap (.int 2):=rfl;have hp:=hu.path;unfold bV;simp only [im,db,bK,aW,w5 t (show o+s.size-1 < t.size by omega),ss,gt];cases s with
  | leaf w=>
   have e:en t 0 (o+(Tr.leaf w).size-1)=.word w:=hs 0 (by exact Nat.one_pos);rw [e];cases u with
   | nd p d a b=>
    simp only [XT.pv,Ent.pv,im,dm,dj,eX,km,a9,A1,Ag,if_false,gt,gG,if_true,aW,j1,ss,br,An,AU,pE,aY,db];exact q
   | lf p d=>
    have q:Q (.bl (pk g p&&(d=="found"&&hm g (p.getLastD 0) w))):=q;simp only [XT.pv,Ent.pv,im,dm,dj,eX,km,a9,A1,Ag,if_false,gt,gG,if_true,aW,j1,ss,br,An,AU,pE,aY,db,aD,i0,i1];show (am (cn (f6 g) (.tup (au p))) _).run _;rw [db];refine W.le.use (zj hp) ?_;cases c:pk g p with
    | false=>rw [c] at q;exact q
    | true=>
    rw [c,Bx] at q;obtain⟨x,i,rfl⟩:=yV c;rw [show (x++[i]).getLastD 0=i by simp] at q;have hi:i < g.length:=hp.1 i (by simp [XT.path]);have l2:=G.qE i hi;have k0:ck [(sy g i).nm,PV.int ((sy g i).lv:Int),.tup (au (sy g i).un),.tup (au (sy g i).be)] 0=ap (sy g i).nm:=rfl;have k2:ck [(sy g i).nm,PV.int ((sy g i).lv:Int),.tup (au (sy g i).un),.tup (au (sy g i).be)] 2=ap (.tup (au (sy g i).un)):=rfl;simp only [a9,gt,A1,Ag,if_false,db,jb,ke,ss,eq_str,dm,eX,f6,aD,im,Hr hi,Sy.pv,aW,k0,k2,eq_nil _ (show (sy g i).un.length<=1000 by omega),Oy (G.nm i hi) w];unfold hm at q;cases c1:d==("found":Str) <;> rw [c1] at q
    ·exact q
    rw [Bx] at q;cases c2:(sy g i).un.isEmpty <;> rw [c2] at q
    ·exact q
    ·exact q
  | node l r=>
   have lp:=l.size_pos;have rp:=r.size_pos;have es:(Tr.node l r).size=l.size+r.size+1:=rfl;have er:en t 0 (o+(Tr.node l r).size-1)=.pair (o+l.size-1) (o+l.size+r.size-1):=by rw [show o+(Tr.node l r).size-1=o+(l.size+r.size) by omega,hs _ ∅,en,if_neg ∅,if_neg ∅]
   have hl:∀k,k < l.size->en t 0 (o+k)=en l o k:=λk hk=>by rw [hs k ∅,en,if_pos hk]
   have hr:∀k,k < r.size->en t 0 (o+l.size+k)=en r (o+l.size) k:=λk hk=>by rw [Bb,hs _ ∅,en,if_neg ∅,if_pos ∅,BX]
   have Pt:max l.depth r.depth+1 < n+1:=hd;rw [er];cases u with
   | lf p d=>
    simp only [XT.pv,Ent.pv,im,dm,dj,gF,km,a9,A1,Ag,if_false,gt,gG,aW,j0,ss,br,An,AU,pE,aY,db];exact q
   | nd p d a b=>
    have q:Q (.bl (pk g p&&(Ra g a l&&(Ra g b r&&decide ((d,a.hd,b.hd)∈z9 g (p.getLastD 0)))))):=q;have hp:pI g p:=hp;simp only [XT.pv,Ent.pv,im,dm,dj,gF,km,a9,A1,Ag,if_false,gt,gG,aW,j0,ss,br,An,AU,pE,aY,db,aD,i0,i1,i2,i3];show (am (cn (f6 g) (.tup (au p))) _).run _;rw [db];refine W.le.use (zj hp) ?_;cases c:pk g p with
    | false=>rw [c] at q;exact q
    | true=>
    rw [c,Bx] at q;obtain⟨x,i,rfl⟩:=yV c;rw [show (x++[i]).getLastD 0=i by simp] at q;have hi:i < g.length:=hp.1 i (by simp);simp only [a9,gt,A1,Ag,if_false,db,jb,aW,ke,ss,dm,eX];refine W.le.use (su G l o n hl ∅ ∅ a hu.2.1) ?_;cases ca:Ra g a l with
    | false=>rw [ca] at q;exact q
    | true=>
    rw [ca,Bx] at q;simp only [a9,gt,A1,Ag,if_false,db];refine W.le.use (su G r (o+l.size) n hr ∅ ∅ b hu.2.2) ?_;cases cb:Ra g b r with
    | false=>rw [cb] at q;exact q
    | true=>
    rw [cb,Bx] at q;have la:a.path≠[]:=by rw [zl,Av] at ca;exact qX ca.1
    have lb:b.path≠[]:=by rw [zl,Av] at cb;exact qX cb.1
    obtain⟨r1,h1⟩:=qV la;obtain⟨r2,h2⟩:=qV lb;obtain⟨l1,g1⟩:=a.pv_eq;obtain⟨l2,g2⟩:=b.pv_eq;rw [g1,g2,h1,h2];simp only [a9,gt,A1,Ag,if_false,db,aD,im,aW,i0,gL,ss];refine W.le.use (vf G hi) ?_;have:=N4 (c:=d3) (λd=>by simp [d3]) (λd=>by simp [d3]) (λd e=>by
     obtain⟨n,x,y⟩:=d;obtain⟨m,u,v⟩:=e;rw [Cj];simp [d3];intro _;omega) (d,a.hd,b.hd) (.refl ((z9 g i).map d3))
    have e6:d3 (d,a.hd,b.hd)=.tup [.str d,.int (a.hd:Int),.int (b.hd:Int)]:=rfl;rw [e6] at this;rw [this];exact q
def pW (g:List Sy) (p:List Nat):Prop:=p≠[]/\(∀x∈p,x < g.length)/\p.length<=400
def XT.depth:XT->Nat
 | .lf _ _=>0
 | .nd _ _ a b=>max a.depth b.depth+1
def XT.In.mono {P R:List Nat->Prop} (h:∀p,P p->R p):∀{u:XT},u.In P->u.In R
 | .lf _ _,k=>h _ k
 | .nd _ _ _ _,k=>⟨h _ k.1,k.2.1.mono h,k.2.2.mono h⟩
def pW.i {g:List Sy}:∀p,pW g p->pI g p:=λp h=>⟨h.2.1,by have:=h.2.2;omega⟩
def T5 {g:List Sy}{ws:List Str} (G:WG g ws) {p:List Nat} (h:Ch g p):pW g p:=by
 have h1:=h.ne;refine⟨λz=>by subst z;exact h,h.lt,?_⟩;cases p with
 | nil=>simp
 | cons a p=>have:=h.len G;have:=h.lt a (.head _);have:=G.len;rw [An];omega
theorem vT {g:List Sy}{ws:List Str} (G:WG g ws) {t:Tr}:∀(s:Tr) (o:Nat),(∀k,k < s.size->en t 0 (o+k)=en s o k)->∀p w,W3 g t (o+s.size-1) p w->∃u:XT,u.pv=w/\u.In (pW g)/\u.depth=s.depth
 | .leaf x,o,hs,p,w,h=>by
  have e0:en t 0 o=.word x:=hs 0 (by show 0 < 1;decide);have ei:o+(Tr.leaf x).size-1=o:=by show o+1-1=o;omega
  rw [ei] at h;cases h with
  | @leaf _ q i w e c hh=>exact⟨.lf (q++[i]) "found",rfl,T5 G c,rfl⟩
  | node e _ _ _ _=>rw [e0] at e;cases e
 | .node l r,o,hs,p,w,h=>by
  have es:(Tr.node l r).size=l.size+r.size+1:=rfl;have er:en t 0 (o+(l.size+r.size))=.pair (o+l.size-1) (o+l.size+r.size-1):=by rw [hs _ ∅,en,if_neg ∅,if_neg ∅]
  have ei:o+(Tr.node l r).size-1=o+(l.size+r.size):=by omega
  rw [ei] at h;have hl:∀k,k < l.size->en t 0 (o+k)=en l o k:=λk hk=>by rw [hs k ∅,en,if_pos hk]
  have hr:∀k,k < r.size->en t 0 (o+l.size+k)=en r (o+l.size) k:=λk hk=>by rw [Bb,hs _ ∅,en,if_neg ∅,if_pos ∅,BX]
  cases h with
  | leaf e _ _=>rw [er] at e;cases e
  | @node _ q i a b nm x y p1 p2 wa wb e c hd h1 h2=>
  rw [er] at e;injection e with ea eb;subst ea;subst eb;obtain⟨u1,a1,a2,a3⟩:=vT G l o hl _ _ h1;obtain⟨u2,b1,b2,b3⟩:=vT G r (o+l.size) hr _ _ h2;exact⟨.nd (q++[i]) nm u1 u2,by rw [XT.pv,a1,b1],⟨T5 G c,a2,b2⟩,by rw [XT.depth,a3,b3];rfl⟩
def pK (p:List Nat) (i j:Option Int):List Nat:=(p.drop (HT.dW p.length 0 i)).take (HT.dW p.length p.length j-HT.dW p.length 0 i)
def Sn (p:List Nat) (i j:Option Int):gJ (au p) i j=au (pK p i j):=by
 unfold gJ pK au;rw [Ah,List.map_take,Fo]
def oy {p:List Nat}{i j:Option Int}:∀x∈pK p i j,x∈p:=λx h=>List.mem_of_mem_drop (List.mem_of_mem_take h)
def oA (p:List Nat) (i j:Option Int):(pK p i j).length<=p.length:=by
 unfold pK;rw [Cc,CJ];omega
def kB {a b:List Nat} (h:a.length<=450) (h2:b.length<=450):addW (.tup (au a)) (.tup (au b))=.ret (.tup (au (a++b))):=by
 rw [gH,r9 (aU (by rw [bD,bD];omega)),zd]
def kE {g:List Sy}{ws:List Str} (G:WG g ws) {u:XT} (hu:u.In (pW g)) {Q:PV->Prop} (q:∀y:XT,y.In (pI g)->Q y.pv):(cm (f6 g) u.pv).run Q:=by
 have gl:=G.len;have gp:=G.pos;obtain⟨hn,hm,hl⟩:=hu.path;have hn:=DP.mpr hn;have hI:u.In (pI g):=hu.mono pW.i;have k0:∀(x:PV) (l:List PV),ck (x::l) 0=ap x:=λ_ _=>bL (j:=0) rfl;have eg:qe cV [f6 g]=.ret (.int (g.length:Int)):=by unfold f6;rw [br,Ah]
 obtain⟨rest,er⟩:=u.pv_eq;unfold cm;rw [er];simp only [im,db,aD,aW,k0,ss,gt,br,bD,bR (u.path.length:Int) ∅ ∅,eg,bR (g.length:Int) ∅ ∅];refine bf λat' a0 a1=>?_;refine bf λst s0 s1=>?_;obtain⟨k,rfl⟩:∃k:Nat,at'=(k:Int):=⟨at'.toNat,by omega⟩;obtain⟨s,rfl⟩:∃k:Nat,st=(k:Int):=⟨st.toNat,by omega⟩;have e1:[PV.int (s:Int)]=au [s]:=rfl;have e2:[PV.int ((u.path.getD k 0:Nat):Int)]=au [u.path.getD k 0]:=rfl;have hk:k < u.path.length:=by omega
 have c1:=oA u.path bv (ap (k:Int));have c2:=oA u.path (ap ((k:Int)+1)) bv;have c3:=oA u.path (ap (k:Int)) bv;have m1:∀x∈pK u.path bv (ap (k:Int)),x < g.length:=λx h=>hm x (oy x h);have m2:∀x∈pK u.path (ap ((k:Int)+1)) bv,x < g.length:=λx h=>hm x (oy x h);have m3:∀x∈pK u.path (ap (k:Int)) bv,x < g.length:=λx h=>hm x (oy x h);have m4:∀x∈pK u.path bv (ap 1),x < g.length:=λx h=>hm x (oy x h);have c4:=oA u.path bv (ap 1);simp only [iP,lL,gt,Sn,fC,e1,GO hk,ss,aW,e2];generalize pK u.path bv (ap (k:Int))=C1 at *;generalize pK u.path (ap ((k:Int)+1)) bv=C2 at *;generalize pK u.path (ap (k:Int)) bv=C3 at *;generalize pK u.path bv (ap 1)=C4 at *;have hs:s < g.length:=by omega
 have hx:u.path.getD k 0 < g.length:=hm _ (by rw [Ap,Ad hk];exact Co _);generalize u.path.getD k 0=x at *;rw [kB (b:=[s]) ∅ (by simp)];simp only [gt];rw [kB (a:=C1++[s]) (b:=C2) (by simp;omega) ∅];simp only [gt];rw [kB (a:=C1++[s]) (b:=C3) (by simp;omega) ∅];simp only [gt];rw [kB (a:=C1) (b:=C2) ∅ ∅];simp only [gt,JE];rw [kB (a:=u.path) (b:=[s]) ∅ (by simp)];simp only [gt,jb,iP,RY,e2];rw [kB (a:=C1) (b:=[x]) ∅ (by simp)];simp only [gt];rw [kB (a:=C1++[x]) (b:=C3) (by simp;omega) ∅];have eL:∀l:List Nat,(au l).reverse=au l.reverse:=λl=>by unfold au;rw [List.map_reverse]
 have ePs:[PV.tup (au (C1++[s]++C2)),.tup (au (C1++[s]++C3)),.tup (au (C1++C2))]++[.tup (au (u.path++[s])),.tup (au u.path.reverse),.tup (au (C1++[x]++C3)),.tup (au C4)]=[C1++[s]++C2,C1++[s]++C3,C1++C2,u.path++[s],u.path.reverse,C1++[x]++C3,C4].map λp=>PV.tup (au p):=rfl;have hPs:∀p∈[C1++[s]++C2,C1++[s]++C3,C1++C2,u.path++[s],u.path.reverse,C1++[x]++C3,C4],pI g p:=λp hp=>by
  simp only [Ax,Bq,or_false] at hp;have lk:∀{l m:List Nat},(∀x∈l,x < g.length)->(∀x∈m,x < g.length)->∀x∈l++m,x < g.length:=λh1 h2 x hx=>(A5.mp hx).elim (h1 x) (h2 x);have o1:∀{y:Nat},y < g.length->∀x∈[y],x < g.length:=λh x hx=>by rw [Bh.mp hx];exact h
  rcases hp with rfl | rfl | rfl | rfl | rfl | rfl | rfl
  ·exact⟨lk (lk m1 (o1 hs)) m2,by simp;omega⟩
  ·exact⟨lk (lk m1 (o1 hs)) m3,by simp;omega⟩
  ·exact⟨lk m1 m2,by simp;omega⟩
  ·exact⟨lk hm (o1 hs),by simp;omega⟩
  ·exact⟨λx hx=>hm x (List.mem_reverse.mp hx),by simp;omega⟩
  ·exact⟨lk (lk m1 (o1 hx)) m3,by simp;omega⟩
  ·exact⟨m4,by omega⟩
 simp only [gt,eL];rw [pL (by simp),gt,ePs];have hP7:[C1++[s]++C2,C1++[s]++C3,C1++C2,u.path++[s],u.path.reverse,C1++[x]++C3,C4].length=7:=rfl;generalize [C1++[s]++C2,C1++[s]++C3,C1++C2,u.path++[s],u.path.reverse,C1++[x]++C3,C4]=Ps at *;simp only [bR 11 (by decide) (by decide)];refine bf λt t0 t1=>?_;simp only [mH,gt,aY];by_cases h7:t < 7
 ·obtain⟨n,rfl⟩:∃k:Nat,t=(k:Int):=⟨t.toNat,by omega⟩;have ô:n < Ps.length:=by omega
  have ea:ck (Ps.map λp=>PV.tup (au p)) (n:Int)=ap (.tup (au Ps[n])):=bL (by rw [Ak,Ad ô];rfl);have hp:=hPs _ (Co ô);have cr:gJ (PV.tup (au u.path)::rest) (ap 1) bv=rest:=by
   have:=OX (PV.tup (au u.path)::rest) (a:=1) (by simp);rw [show ((1:Nat):Int)=1 from rfl] at this;rw [this];rfl
  simp only [decide_eq_true h7,if_true,im,db,bK,aW,ea,ss,gt,cr,gH];cases u with
  | lf p d=>
   cases er;exact⟨aU (by simp),q (.lf _ d) hp⟩
  | nd p d a b=>
   cases er;exact⟨aU (by simp),q (.nd _ d a b) ⟨hp,hI.2⟩⟩
 ·rw [decide_eq_false h7];simp only [Ag,if_false,db,mH,gt,aY,br,An,cE];have dd:∀{R:PV->Prop},(∀d,R (.str d))->((a8 (.int 6)).bind λy=>Jq [PV.str "split",.str "doubled",.str "over",.str "found",.str "lost",.str ""] y).run R:=λh=>by
   simp only [bR 6 (by decide) (by decide),db];refine bf λd d0 d1=>?_;have:d=0\/d=1\/d=2\/d=3\/d=4\/d=5:=by omega
   rcases this with rfl | rfl | rfl | rfl | rfl | rfl <;> exact h _
  cases u with
  | lf p d=>
   cases er;have e1:gJ [PV.tup (au p),.str d] bv (ap 1)=[.tup (au p)]:=rfl;have e2:gJ [PV.tup (au p),.str d] (ap 2) bv=[]:=rfl;have fin:(w2 addW (w2 addW (bd (PV.tup [.tup (au p)])) (((a8 (.int 6)).bind λy=>Jq [PV.str "split",.str "doubled",.str "over",.str "found",.str "lost",.str ""] y).bind λkR=>bd (PV.tup [kR]))) (bd (PV.tup []))).run Q:=by
    simp only [im,db];refine dd λd=>?_;simp only [gt,gH,db];exact⟨aU (by simp),aU (by simp),q (.lf p d) hI⟩
   by_cases h9:t < 9
   ·simp only [decide_eq_true h9,if_true,gt,im,XT.path,e1,e2];exact fin
   ·simp only [decide_eq_false h9,Ag,if_false,db,gt,im,XT.path,e1,e2,An,AU,cE,aY];exact fin
  | nd p d a b=>
   cases er;have e1:gJ [PV.tup (au p),.str d,a.pv,b.pv] bv (ap 1)=[.tup (au p)]:=rfl;have e2:gJ [PV.tup (au p),.str d,a.pv,b.pv] (ap 2) bv=[a.pv,b.pv]:=rfl;have e3:gJ [PV.tup (au p),.str d,a.pv,b.pv] bv (ap 2)=[.tup (au p),.str d]:=rfl;have i2:ck [PV.tup (au p),.str d,a.pv,b.pv] 2=ap a.pv:=rfl;have i3:ck [PV.tup (au p),.str d,a.pv,b.pv] 3=ap b.pv:=rfl;by_cases h9:t < 9
   ·simp only [decide_eq_true h9,if_true,gt,im,XT.path,e1,e2,db];refine dd λd=>?_;simp only [gt,gH,db];exact⟨aU (by simp),aU (by simp),q (.nd p d a b) hI⟩
   ·simp only [decide_eq_false h9,Ag,if_false,db,gt,im,XT.path,e3,i2,i3,ss,An,AU,cE,aY];show (if (t==9)=true then _ else _:W PV).run Q;cases t==9
    ·simp only [Ag,if_false,db,gt,im,gH];exact⟨aU (by simp),q (.nd p d a a) ⟨hI.1,hI.2.1,hI.2.1⟩⟩
    ·simp only [if_true,db,gt,im,gH];exact⟨aU (by simp),q (.nd p d b a) ⟨hI.1,hI.2.2,hI.2.1⟩⟩
theorem oX {g:List Sy}{ws:List Str} (G:WG g ws) {v:XT} (hv:v.In (pI g)):∀(n:Nat) {u:XT},u.In (pW g)->u.depth < n->∀{Q:PV->Prop},(∀y:XT,y.In (pI g)->Q y.pv)->(bt n (f6 g) u.pv v.pv).run Q
 | 0,_,_,h,_,_=>absurd h (Nat.not_lt_zero _)
 | n+1,u,hu,hd,Q,q=>by
  have hI:u.In (pI g):=hu.mono pW.i;unfold bt;simp only [im,db,bR 8 (by decide) (by decide)];refine bf λt t0 t1=>?_;simp only [cE,aY,gt];cases t==0 with
  | true=>exact q v hv
  | false=>
  simp only [Ag,if_false,db,gt];cases u with
  | lf p d=>
   simp only [XT.pv,br,An,AU,gt,cE,aY,db];exact kE G hu q
  | nd p d a b=>
   have Pt:max a.depth b.depth+1 < n+1:=hd;have e3:gJ [PV.tup (au p),.str d,a.pv,b.pv] bv (ap 2)=[.tup (au p),.str d]:=rfl;have e4:gJ [PV.tup (au p),.str d,a.pv,b.pv] bv (ap 3)=[.tup (au p),.str d,a.pv]:=rfl;have i2:ck [PV.tup (au p),.str d,a.pv,b.pv] 2=ap a.pv:=rfl;have i3:ck [PV.tup (au p),.str d,a.pv,b.pv] 3=ap b.pv:=rfl;simp only [XT.pv,br,An,AU,gt,cE,aY,db];rw [if_neg (show ¬((((0+1+1+1+1:Nat):Int)==2)=true) by decide)];simp only [mH,gt,aY,db];by_cases h3:t < 3
   ·simp only [decide_eq_true h3,if_true];exact kE G hu q
   ·simp only [decide_eq_false h3,Ag,if_false,mH,db,gt,aY];by_cases h6:t < 6
    ·simp only [decide_eq_true h6,if_true,iP,im,lL,e3,aD,aW,i2,i3,ss,db,gt];refine oX G hv n hu.2.1 ∅ λy hy=>?_;simp only [gt,gH];exact⟨aU (by simp),q (.nd p d y b) ⟨hI.1,hy,hI.2.2⟩⟩
    ·simp only [decide_eq_false h6,Ag,if_false,iP,im,lL,e4,aD,aW,i2,i3,ss,db,gt];refine oX G hv n hu.2.2 ∅ λy hy=>?_;simp only [gt,gH];exact⟨aU (by simp),q (.nd p d a y) ⟨hI.1,hI.2.1,hy⟩⟩
def Nu {g:List Sy}{ws:List Str} (G:WG g ws) {t:Tr} (hz:t.size<=900) (hd:t.depth < 12) {u:XT} (hu:u.In (pI g)):(df (f6 g) t.pv u.pv).le (.ret (.bl (wy g u t))):=λQ q=>by
 have tp:=t.size_pos;unfold df;simp only [im,db];refine W.le.use (gM 12 t hd hz) ?_;have e1:((((t.nd 0).map Ent.pv).length:Int)-1)=((0+t.size-1:Nat):Int):=by rw [de];omega
 simp only [gE,lK,gt,e1];refine W.le.use (su G t 0 12 (λk _=>by rw [AR]) ∅ hd u hu) ?_;rw [zl];unfold wy at q;cases c:fm g u t with
 | false=>rw [c] at q;exact q
 | true=>
 rw [c,Bx] at q;cases c2:dn g u t with
 | false=>rw [c2,CI] at q;exact q
 | true=>
 rw [c2,CU] at q;obtain⟨l,el⟩:=u.pv_eq;have k0:ck (PV.tup (au u.path)::l) 0=ap (.tup (au u.path)):=bL (j:=0) rfl;rw [el];simp only [CU,iQ,aD,im,aW,k0,ss,br,bD,cE];exact q
def law17_ok:∀ns:List Int,ns.length<=63->(qQ (.cl (ns.map PV.int))).run (·=.bl true):=λns hn=>by
 unfold qQ;simp only [im,db,gE,Ah,Ww,Wx,gt];obtain⟨k,hk,k1⟩:∃k:Nat,(if (if (6:Int) < (ns.length:Int) then (6:Int) else (ns.length:Int)) > 1 then (if (6:Int) < (ns.length:Int) then (6:Int) else (ns.length:Int)) else 1)=(k:Int)/\k<=6:=by
  refine⟨(if (if (6:Int) < (ns.length:Int) then (6:Int) else (ns.length:Int)) > 1 then (if (6:Int) < (ns.length:Int) then (6:Int) else (ns.length:Int)) else 1).toNat,?_,?_⟩ <;> split <;> split <;> omega
 rw [hk];simp only [eW,r9 (cf (i:=0) (j:=(k:Int)) ∅ ∅),gt,A3];refine zK (λ_ _=>True) trivial (λi _ hi _=>?_) (λ_ _=>rfl);simp only [db];refine QA ∅ λl hl=>⟨hl,?_⟩;unfold gz;simp only [db,im];refine Hk λt g=>?_;refine Sz g λs G=>?_;refine uX g λu hu î=>?_;have ą:∀{u:Tr},u.aJ.length<=10->u.size<=900/\u.depth < 12:=λ{u} h=>⟨by have:=u.size_eq;omega,by have:=u.ox;omega⟩;obtain⟨hz,hd⟩:=ą î;have uw:u.Ws:=λw hw=>g.ws w (hu w hw);refine whole_run G hu hd hz λi0 w0 W0=>?_;obtain⟨x0,rfl,hx,hxd⟩:=vT G u 0 (λk _=>by rw [AR]) _ _ (by rw [AR];exact W0);simp only [gt,Om];refine uX g λv hv ZD=>?_;obtain⟨vz,vd⟩:=ą ZD;have vw:v.Ws:=λw hw=>g.ws w (hv w hw);simp only [gt,eW,r9 (cf (i:=0) (j:=(10:Int)) ∅ ∅),db];refine zK (n:=10) (λ_ _=>True) trivial (λj _ hj _=>?_) (λ_ _=>?_)
 ·have KI:∃o:Tr,((∀w∈o.aJ,w∈t.aJ)/\o.aJ.length<=10)/\ck [v.pv,u.pv] ((j:Int) % 2)=ap o.pv:=by
   rcases (show (j:Int) % 2=0\/(j:Int) % 2=1 by omega) with e | e <;> rw [e]
   ·exact⟨v,⟨hv,ZD⟩,rfl⟩
   ·exact⟨u,⟨hu,î⟩,rfl⟩
  obtain⟨o,⟨o1,o2⟩,eo⟩:=KI;obtain⟨oz,od⟩:=ą o2;simp only [bK,im,HA,r9 (show (0:Int) < 2 by decide),gt,aW,eo,ss,db];refine whole_run G o1 od oz λi1 w1 W1=>?_;obtain⟨x1,rfl,ZC,_⟩:=vT G o 0 (λk _=>by rw [AR]) _ _ (by rw [AR];exact W1);refine oX G (ZC.mono pW.i) 12 hx ∅ λy hy=>?_;refine W.le.use (zx G uw hz hy) ?_;simp only [R7,R5,gt,a9,A1,Ag,if_false,db];refine W.le.use (Nu G hz hd hy) ?_;simp only [Ow,gt,aY,beq_self_eq_true,A1,Ag,if_false]
 ·have e0:ck [v.pv,u.pv] 0=ap v.pv:=rfl;have hI:=hx.mono pW.i;simp only [Wf,db,bK,im,aW,e0,ss];refine W.le.use (zx G vw vz hI) ?_;refine W.le.use (Nu G vz vd hI) ?_;simp only [Ow,gt,aY,beq_self_eq_true,A1,Ag,if_false]
section
def top (i:Nat):ul:=PySem.Challenge.pw_treewithin_k17_ways_spoilt.main.body.getD i (.Pass ⟨0,0,0,0⟩)
def sc_is_whole:ar ["thing"] ["thing"] (ag (top 1)):=fi
def sc_is_row:ar ["thing","many"] ["thing","many"] (ag (top 2)):=fi
abbrev N_is_word:List Str:=["thing"]
def sc_is_word:ar N_is_word ["thing"] (ag (top 6)):=fi
abbrev lsc_is_word_0:nw:=nu [("sign",lo),("LETTERS",gi)]
def lc_is_word_0:aG (ag (top 6)) N_is_word lsc_is_word_0 ["sign"] [bv]:=lcs
def sc_is_grown:ar ["thing","is_leaf","often","seen","waiting","part"] ["thing","is_leaf","often"] (ag (top 7)):=fi
def sc_is_tree:ar ["thing"] ["thing"] (ag (top 8)):=fi
def sc_parts_of:ar ["tree","backward","waiting","part"] ["tree"] (ag (top 9)):=fi
def sc_nodes:ar ["tree","told","loose","part","other","one"] ["tree"] (ag (top 10)):=fi
def sc_halves:ar ["node"] ["node"] (ag (top 11)):=fi
abbrev N_ahead_of:List Str:=["tree","told","node","ahead","number","half"]
def sc_ahead_of:ar N_ahead_of ["tree"] (ag (top 12)):=fi
abbrev lsc_ahead_of_0:nw:=nu [("node",lo)]
def lc_ahead_of_0:aG (ag (top 12)) N_ahead_of lsc_ahead_of_0 ["node"] [bv]:=lcs
def sc_under_at:ar ["stays","stay"] ["stays","stay"] (ag (top 17)):=fi
def sc_beside_at:ar ["stays","stay"] ["stays","stay"] (ag (top 18)):=fi
def sc_is_home:ar ["stays","stay","word"] ["stays","stay","word"] (ag (top 19)):=fi
def sc_name_of:ar ["houses","house"] ["houses","house"] (ag (top 20)):=fi
abbrev N_lines_up:List Str:=["great","ahead","house","lines","above"]
def sc_lines_up:ar N_lines_up ["great"] (ag (top 21)):=fi
abbrev lsc_lines_up_0:nw:=nu [("house",lo)]
def lc_lines_up_0:aG (ag (top 21)) N_lines_up lsc_lines_up_0 ["house"] [bv]:=lcs
abbrev N_apart_from:List Str:=["lines","house"]
def sc_apart_from:ar N_apart_from ["lines","house"] (ag (top 22)):=fi
abbrev lsc_apart_from_0:nw:=nu [("far",lo),("house",fr),("lines",fr)]
def lc_apart_from_0:aG (ag (top 22)) N_apart_from lsc_apart_from_0 ["far","house","lines"] [bv,ap 1,ap 0]:=lcs
abbrev N_ground:List Str:=["great","houses","lines"]
def sc_ground:ar N_ground ["great"] (ag (top 23)):=fi
abbrev lsc_ground_0:nw:=nu [("house",lo),("name_of",gi),("halves",gi),("apart_from",gi),("houses",fr),("lines",fr)]
def lc_ground_0:aG (ag (top 23)) N_ground lsc_ground_0 ["house","houses","lines"] [bv,ap 1,ap 2]:=lcs
def sc_comes_in:ar ["way"] ["way"] (ag (top 29)):=fi
def sc_done_at:ar ["way"] ["way"] (ag (top 30)):=fi
abbrev N_ins_of:List Str:=["way"]
def sc_ins_of:ar N_ins_of ["way"] (ag (top 31)):=fi
abbrev lsc_ins_of_0:nw:=nu [("half",lo),("comes_in",gi)]
def lc_ins_of_0:aG (ag (top 31)) N_ins_of lsc_ins_of_0 ["half"] [bv]:=lcs
def sc_split_ins:ar ["ground","stay","under"] ["ground","stay"] (ag (top 32)):=fi
abbrev N_over_ins:List Str:=["ground","stay","beside"]
def sc_over_ins:ar N_over_ins ["ground","stay"] (ag (top 33)):=fi
abbrev lsc_over_ins_0:nw:=nu [("far",lo),("stay",fr)]
abbrev lsc_over_ins_1:nw:=nu [("far",lo),("stay",fr)]
def lc_over_ins_0:aG (ag (top 33)) N_over_ins lsc_over_ins_0 ["far","stay"] [bv,ap 1]:=lcs
def lc_over_ins_1:aG (ag (top 33)) N_over_ins lsc_over_ins_1 ["far","stay"] [bv,ap 1]:=lcs
abbrev N_deeds_at:List Str:=["ground","node","stay","split","over"]
def sc_deeds_at:ar N_deeds_at ["ground","node","stay"] (ag (top 34)):=fi
abbrev lsc_deeds_at_0:nw:=nu [("ins",lo),("SPLIT",gi)]
abbrev lsc_deeds_at_1:nw:=nu [("ins",lo),("OVER",gi)]
def lc_deeds_at_0:aG (ag (top 34)) N_deeds_at lsc_deeds_at_0 ["ins"] [bv]:=lcs
def lc_deeds_at_1:aG (ag (top 34)) N_deeds_at lsc_deeds_at_1 ["ins"] [bv]:=lcs
def sc_is_stay:ar ["ground","thing"] ["ground","thing"] (ag (top 35)):=fi
abbrev N_is_path:List Str:=["ground","thing"]
def sc_is_path:ar N_is_path ["ground","thing"] (ag (top 36)):=fi
abbrev lsc_is_path_0:nw:=nu [("stay",lo),("is_stay",gi),("ground",fr)]
abbrev lsc_is_path_1:nw:=nu [("stay",lo),("below",lo),("under_at",gi),("ground",fr)]
def lc_is_path_0:aG (ag (top 36)) N_is_path lsc_is_path_0 ["stay","ground"] [bv,ap 0]:=lcs
def lc_is_path_1:aG (ag (top 36)) N_is_path lsc_is_path_1 ["stay","below","ground"] [bv,bv,ap 0]:=lcs
def sc_is_formed:ar ["ground","node","thing","many"] ["ground","node","thing"] (ag (top 37)):=fi
abbrev N_ways_of_nodes:List Str:=["ground","told","thing","node","ways","number","way","half","part"]
def sc_ways_of_nodes:ar N_ways_of_nodes ["ground","told","thing"] (ag (top 38)):=fi
abbrev lsc_ways_of_nodes_0:nw:=nu [("node",lo)]
def lc_ways_of_nodes_0:aG (ag (top 38)) N_ways_of_nodes lsc_ways_of_nodes_0 ["node"] [bv]:=lcs
def sc_is_done:ar ["ground","node","way"] ["ground","node","way"] (ag (top 39)):=fi
abbrev N_is_way:List Str:=["ground","small","thing","told","ways"]
def sc_is_way:ar N_is_way ["ground","small","thing"] (ag (top 40)):=fi
abbrev lsc_is_way_0:nw:=nu [("node",lo),("way",lo),("is_done",gi),("ground",fr)]
def lc_is_way_0:aG (ag (top 40)) N_is_way lsc_is_way_0 ["node","way","ground"] [bv,bv,ap 0]:=lcs
abbrev N_split_dates:List Str:=["houses","dates"]
def sc_split_dates:ar N_split_dates ["houses","dates"] (ag (top 42)):=fi
abbrev lsc_split_dates_0:nw:=nu [("house",lo),("date",lo),("isinstance",gi),("str",gi)]
def lc_split_dates_0:aG (ag (top 42)) N_split_dates lsc_split_dates_0 ["house","date"] [bv,bv]:=lcs
def sc_standing:ar ["great","dates","begins","ahead","pairs","number","begin","house","date"] ["great","dates","begins"] (ag (top 43)):=fi
abbrev N_stay_of:List Str:=["houses","dates","begins","numbers","pair","house","layer","goes_on","below","under","beside"]
def sc_stay_of:ar N_stay_of ["houses","dates","begins","numbers","pair"] (ag (top 44)):=fi
abbrev lsc_stay_of_0:nw:=nu [("each",lo),("layer",fr),("numbers",fr)]
abbrev lsc_stay_of_1:nw:=nu [("far",lo),("house",fr),("layer",fr),("numbers",fr)]
def lc_stay_of_0:aG (ag (top 44)) N_stay_of lsc_stay_of_0 ["each","layer","numbers"] [bv,ap 6,ap 3]:=lcs
def lc_stay_of_1:aG (ag (top 44)) N_stay_of lsc_stay_of_1 ["far","house","layer","numbers"] [bv,ap 5,ap 6,ap 3]:=lcs
abbrev N_dated:List Str:=["great","dates","houses","begins","pairs","numbers"]
def sc_dated:ar N_dated ["great","dates"] (ag (top 45)):=fi
abbrev lsc_dated_0:nw:=nu [("number",lo),("pair",lo)]
abbrev lsc_dated_1:nw:=nu [("pair",lo),("stay_of",gi),("begins",fr),("dates",fr),("houses",fr),("numbers",fr)]
def lc_dated_0:aG (ag (top 45)) N_dated lsc_dated_0 ["number","pair"] [bv,bv]:=lcs
def lc_dated_1:aG (ag (top 45)) N_dated lsc_dated_1 ["pair","begins","dates","houses","numbers"] [bv,ap 3,ap 1,ap 2,ap 5]:=lcs
def sc__law_pot:ar ["_law_script","_law_k","_law_cell","_law_digits"] ["_law_script","_law_k"] (ag (top 47)):=fi
def sc__law_take:ar ["_law_pot_here","_law_many","_law_digit","_law_mixed"] ["_law_pot_here","_law_many"] (ag (top 48)):=fi
def sc__law_pick:ar ["_law_pot_here","_law_some"] ["_law_pot_here","_law_some"] (ag (top 49)):=fi
def sc__law_words:ar ["_law_pot_here","_law_many","_law_letters","_law_first","_law_turn","_law_stem","_law_ends","_law_found","_law_k","_law_letter"] ["_law_pot_here","_law_many"] (ag (top 50)):=fi
def sc__law_tree:ar ["_law_pot_here","_law_words_here","_law_some","_law_way_here","_law_at","_law_pair"] ["_law_pot_here","_law_words_here"] (ag (top 51)):=fi
def sc__law_great:ar ["_law_pot_here"] ["_law_pot_here"] (ag (top 52)):=fi
def sc__law_nodes:ar ["_law_tree_here","_law_rows","_law_many","_law_row"] ["_law_tree_here"] (ag (top 53)):=fi
abbrev N__law_dates:List Str:=["_law_pot_here","_law_rows","_law_dates_here","_law_house","_law_left","_law_date","_law_ready"]
def sc__law_dates:ar N__law_dates ["_law_pot_here","_law_rows"] (ag (top 54)):=fi
abbrev lsc__law_dates_0:nw:=nu [("_law_house",lo),("_law_row",lo),("isinstance",gi),("str",gi)]
abbrev lsc__law_dates_1:nw:=nu [("_law_house",lo),("_law_left",fr),("_law_rows",fr)]
def lc__law_dates_0:aG (ag (top 54)) N__law_dates lsc__law_dates_0 ["_law_house","_law_row"] [bv,bv]:=lcs
def lc__law_dates_1:aG (ag (top 54)) N__law_dates lsc__law_dates_1 ["_law_house","_law_left","_law_rows"] [bv,ap 4,ap 1]:=lcs
abbrev N__law_small:List Str:=["_law_pot_here","_law_great_here","_law_words_here","_law_many"]
def sc__law_small:ar N__law_small ["_law_pot_here","_law_great_here"] (ag (top 55)):=fi
abbrev lsc__law_small_0:nw:=nu [("_law_row",lo),("isinstance",gi),("str",gi)]
abbrev lsc__law_small_1:nw:=nu [("_law_k",lo),("_law_pick",gi),("_law_pot_here",fr),("_law_words_here",fr)]
def lc__law_small_0:aG (ag (top 55)) N__law_small lsc__law_small_0 ["_law_row"] [bv]:=lcs
def lc__law_small_1:aG (ag (top 55)) N__law_small lsc__law_small_1 ["_law_k","_law_pot_here","_law_words_here"] [bv,ap 0,ap 2]:=lcs
def sc__law_any_ground:ar ["_law_pot_here","_law_great_here"] ["_law_pot_here","_law_great_here"] (ag (top 56)):=fi
def sc__law_deeds:ar ["_law_stays","_law_stay","_law_name","_law_level","_law_under","_law_beside","_law_found","_law_other"] ["_law_stays","_law_stay"] (ag (top 57)):=fi
abbrev N__law_done:List Str:=["_law_stays","_law_rows","_law_can_here","_law_node","_law_stay","_law_row"]
def sc__law_done:ar N__law_done ["_law_stays","_law_rows","_law_can_here","_law_node","_law_stay"] (ag (top 58)):=fi
abbrev lsc__law_done_0:nw:=nu [("_law_one",lo),("_law_can_here",fr),("_law_row",fr)]
def lc__law_done_0:aG (ag (top 58)) N__law_done lsc__law_done_0 ["_law_one","_law_can_here","_law_row"] [bv,ap 2,ap 5]:=lcs
abbrev N__law_can:List Str:=["_law_stays","_law_rows","_law_found","_law_node","_law_stay","_law_on"]
def sc__law_can:ar N__law_can ["_law_stays","_law_rows"] (ag (top 59)):=fi
abbrev lsc__law_can_0:nw:=nu [("_law_low",lo),("_law_found",fr),("_law_node",fr)]
def lc__law_can_0:aG (ag (top 59)) N__law_can lsc__law_can_0 ["_law_low","_law_found","_law_node"] [bv,ap 2,ap 3]:=lcs
abbrev N__law_path:List Str:=["_law_pot_here","_law_stays","_law_rows","_law_can_here","_law_node","_law_stay","_law_path_here","_law_turn","_law_on","_law_ends"]
def sc__law_path:ar N__law_path ["_law_pot_here","_law_stays","_law_rows","_law_can_here","_law_node","_law_stay"] (ag (top 60)):=fi
abbrev lsc__law_path_0:nw:=nu [("_law_low",lo),("_law_can_here",fr),("_law_node",fr)]
abbrev lsc__law_path_1:nw:=nu [("_law_low",lo),("_law_can_here",fr),("_law_node",fr)]
def lc__law_path_0:aG (ag (top 60)) N__law_path lsc__law_path_0 ["_law_low","_law_can_here","_law_node"] [bv,ap 3,ap 4]:=lcs
def lc__law_path_1:aG (ag (top 60)) N__law_path lsc__law_path_1 ["_law_low","_law_can_here","_law_node"] [bv,ap 3,ap 4]:=lcs
def sc__law_way:ar ["_law_pot_here","_law_stays","_law_rows","_law_can_here","_law_node","_law_path_here","_law_deed","_law_one","_law_other","_law_row","_law_first"] ["_law_pot_here","_law_stays","_law_rows","_law_can_here","_law_node","_law_path_here"] (ag (top 61)):=fi
abbrev N__law_whole_way:List Str:=["_law_pot_here","_law_stays","_law_small_here","_law_rows","_law_can_here","_law_last","_law_some"]
def sc__law_whole_way:ar N__law_whole_way ["_law_pot_here","_law_stays","_law_small_here"] (ag (top 62)):=fi
abbrev lsc__law_whole_way_0:nw:=nu [("_law_stay",lo),("_law_done",gi),("_law_can_here",fr),("_law_last",fr),("_law_rows",fr),("_law_stays",fr)]
def lc__law_whole_way_0:aG (ag (top 62)) N__law_whole_way lsc__law_whole_way_0 ["_law_stay","_law_can_here","_law_last","_law_rows","_law_stays"] [bv,ap 4,ap 5,ap 3,ap 1]:=lcs
def sc__law_scene:ar ["_law_pot_here","_law_great_here","_law_stays","_law_small_here"] ["_law_pot_here"] (ag (top 63)):=fi
def qa:ar ["_law_stays","_law_thing"] ["_law_stays","_law_thing"] (ag (top 64)):=fi
abbrev iz:List Str:=["_law_stays","_law_thing"]
def qb:ar iz ["_law_stays","_law_thing"] (ag (top 65)):=fi
abbrev mX:nw:=nu [("_law_one",lo),("_law_is_stay",gi),("_law_stays",fr)]
abbrev mW:nw:=nu [("_law_k",lo),("_law_stays",fr),("_law_thing",fr)]
def iO:aG (ag (top 65)) iz mX ["_law_one","_law_stays"] [bv,ap 0]:=lcs
def iM:aG (ag (top 65)) iz mW ["_law_k","_law_stays","_law_thing"] [bv,ap 0,ap 1]:=lcs
def iY:ar ["_law_stays","_law_rows","_law_node","_law_thing","_law_row","_law_last"] ["_law_stays","_law_rows","_law_node","_law_thing"] (ag (top 66)):=fi
def k6:ar ["_law_stays","_law_small_here","_law_thing","_law_rows"] ["_law_stays","_law_small_here","_law_thing"] (ag (top 67)):=fi
def bE:ar ["_law_pot_here","_law_stays","_law_way_here","_law_at","_law_stay","_law_path_here","_law_paths","_law_turn"] ["_law_pot_here","_law_stays","_law_way_here"] (ag (top 68)):=fi
def kZ:ar ["_law_pot_here","_law_stays","_law_way_here","_law_other","_law_turn"] ["_law_pot_here","_law_stays","_law_way_here","_law_other"] (ag (top 69)):=fi
def sc_law:ar ["_law_script","_law_k","_law_pot_here","_law_great_here","_law_stays","_law_small_here","_law_way_here","_law_others","_law_turn","_law_other","_law_thing","_law_told"] ["_law_script"] (ag (top 70)):=fi
structure NB (v:EV):Prop where
 isinstance:v.mg "isinstance"=bv
 bool:v.mg "bool"=bv
 int:v.mg "int"=bv
 len:v.mg "len"=bv
 tuple:v.mg "tuple"=bv
 str:v.mg "str"=bv
 all:v.mg "all"=bv
 list:v.mg "list"=bv
 reversed:v.mg "reversed"=bv
 enumerate:v.mg "enumerate"=bv
 range:v.mg "range"=bv
 sorted:v.mg "sorted"=bv
 zip:v.mg "zip"=bv
 dict:v.mg "dict"=bv
 abs:v.mg "abs"=bv
 any:v.mg "any"=bv
 min:v.mg "min"=bv
 max:v.mg "max"=bv
variable {v:EV}
abbrev d_is_whole:DF:=⟨"is_whole",top 1,["thing"],1,λK=>eF K [.v] (cv 1 hJ)⟩
def k_is_whole (D:DI v d_is_whole) (q:NB v):D.O:=
 mx (m:=hJ) D sc_is_whole λaz _ _ _ _ _ _ hr=>
 (SF.bC (kH (cW rfl .int rfl q.isinstance (ae 0) rfl q.int boot_int) (lN (TY (cW rfl .bool rfl q.isinstance (ae 0) rfl q.bool boot_bool)))) λ_=>rfl)
abbrev d_is_row:DF:=⟨"is_row",top 2,["thing","many"],1,λK=>eF K [.v,.v] (cv 2 fM)⟩
def k_is_row (D:DI v d_is_row) (q:NB v):D.O:=
 pd (m:=fM) D sc_is_row λaz jy _ _ _ _ _ _ hr=>
 (SF.bC (kH (cW rfl .tup rfl q.isinstance (ae 0) rfl q.tuple boot_tuple) (lN (iu (c9 rfl (aL hr)) (cz rfl rfl q.len (ae 0)) (ae 1)))) λ_=>rfl)
abbrev d_is_word:DF:=⟨"is_word",top 6,["thing"],1,λK=>eF K [.v] (cv 1 jA)⟩
def k_is_word (D:DI v d_is_word) (q:NB v) {gV:Tok} (cT:v.mg "LONGEST_WORD"=ap (.int 8 gV)) {oV:Tok} (gP:v.mg "LETTERS"=ap (.str "abcdefghijklmnopqrstuvwxyz" oV)):D.O:=
 mx (m:=jA) D sc_is_word λaz _ _ _ _ _ _ hr=>
 (SF.sN (oQ.t (jk (eQ (bI rfl (cW rfl .str rfl q.isinstance (ae 0) rfl q.str tt) (λ_=>rfl))) (f9 (eQ (P6 zw zw ak (cz rfl rfl q.len (ae 0)) (xO cT rfl))))))
 (SF.bC lO λ_=>rfl)
 (SF.bC (vD rfl rfl rfl q.all (cB (gh rfl lc_is_word_0 (VY (ae 0)) (λ_ _ _ _ _=>(dQ 0 lc_is_word_0.nd)) (λ_ _ _ _ _ p2=>(iu (VU rfl) (ae 0) (tJ gP rfl))) rfl))) λ_=>rfl))
abbrev d_is_grown (ir:dL):DF:=⟨"is_grown",top 7,["thing","is_leaf","often"],2,λK=>eF K [.v,.f ir,.v] (cv 2 hU)⟩
def k_is_grown {ir:dL} (D:DI v (d_is_grown ir)) (Hl:Xc v.P v.w v.K v.mg v.base ir d_is_word.k d_is_word.ps (d_is_word.sp v.K)) (sV:d_is_row.C v):D.O:=
 pd (m:=hU) D sc_is_grown λaz GJ _ _ _ _ _ _ hr=>
 (SF.acw (i:=3) sc_is_grown.nd rfl (Cw rfl)
 (sl 4 sc_is_grown.nd (bc (n:=1) (af (ae 0) ao) rfl) λfj=>
 (SF.rB (hd:=(λ(s4:List (Key×PV)×List PV)=>([ap (.val az),ap (.adr ir),ap (.val GJ),ap (.od s4.1),ap (.ol bv s4.2),bv]:bh))) (s0:=([],fj)) (inj:=id) AI (.refl _) (λs4=>(SX rfl (cy 4) (λ_=>rfl))) (λ_=>trivial) (λs4=>
 (SF.wO 4 5 rfl (by decide) rfl rfl (.inl rfl) sc_is_grown.nd rfl (Cw rfl) λt7=>
 (SF.V0 (bI rfl (eC sV hr (af (ae 5) (af ak ao))) (λ_=>rfl))
 (SF.extend 4 rfl rfl rfl (.inl rfl) (aq (ae 5)) λgT=>
 (SF.gc rfl (.keep (.keep (.keep (.keep (.keep (.drop (.refl _)))))))))
 (SF.V0 (oQ.t (jk (eQ (bI rfl (Se 1 Hl hr (by first | exact Di rfl | omega) rfl (af (ae 5) ao) rfl) (λ_=>rfl))) (f9 (oQ.t (kY (X6 3 rfl (aL hr) (ae 5)) (iH (eQ (bI rfl (ae 2) (λ_=>rfl)))))))))
 (SF.ret (k:=λkI=>(Lp.out kI)) lO λ_=>rfl)
 (SF.putD 3 rfl (aL hr) rfl (.inl rfl) lO (ae 5) λIP=>
 (SF.gc rfl (.keep (.keep (.keep (.keep (.keep (.drop (.refl _))))))))))))) λs4=>
 (SF.bC lO λ_=>rfl))))
abbrev d_is_tree:DF:=⟨"is_tree",top 8,["thing"],3,λK=>eF K [.v] (cv 1 lZ)⟩
def k_is_tree (D:DI v d_is_tree) {tD:dL} (LG:v.mg "is_word"=ap (.ref tD)) (Ht:(d_is_grown tD).C v):D.O:=
 mx (m:=lZ) D sc_is_tree λaz _ _ _ _ _ _ hr=>
 (SF.bC (eC Ht hr (af (ae 0) (ad9 rfl LG (af lO ao)))) λ_=>rfl)
abbrev d_parts_of:DF:=⟨"parts_of",top 9,["tree"],1,λK=>gs K [.v] (cv 1 kc)⟩
def k_parts_of (D:DI v d_parts_of) (q:NB v):D.O:=
 Vw (m:=kc) D sc_parts_of λjm _ _ _ _ _ _ hr=>
 (sl 1 sc_parts_of.nd (bc (n:=0) ao rfl) λnh=>
 (sl 2 sc_parts_of.nd (bc (n:=1) (af (ae 0) ao) rfl) λfj=>
 (SF.Iw (hd:=(λ(s4:List PV×List PV)=>([ap (.val jm),ap (.ol bv s4.1),ap (.ol bv s4.2),bv]:bh))) (s0:=(nh,fj)) AI (.refl _) (λs4=>(SX rfl (cy 2) (λ_=>rfl))) (λs4=>
 (SF.wO 2 3 rfl (by decide) rfl rfl (.inl rfl) sc_parts_of.nd rfl (Cw rfl) λt7=>
 (SF.append 1 rfl rfl rfl (.inl rfl) (ae 3) λng=>
 (SF.V0 (eQ (bI rfl (cW rfl .str rfl q.isinstance (ae 3) rfl q.str tt) (λ_=>rfl)))
 (SF.extend 2 rfl rfl rfl (.inl rfl) (aq (ae 3)) λgT=>
 (SF.gc rfl (.keep (.keep (.keep (.drop (.refl _)))))))
 (SF.gc rfl (.keep (.keep (.keep (.drop (.refl _)))))))))) λs4=>
 (SF.k8 (Zi rfl rfl rfl q.list rfl q.reversed (GC 1)) λ_=>rfl))))
abbrev d_nodes:DF:=⟨"nodes",top 10,["tree"],2,λK=>eF K [.v] (cv 1 iL)⟩
def k_nodes (D:DI v d_nodes) (q:NB v) (Hn:d_parts_of.C v):D.O:=
 mx (m:=iL) D sc_nodes λjm _ _ _ _ _ _ hr=>
 (sl 1 sc_nodes.nd (bc (n:=0) ao rfl) λjT=>
 (sl 2 sc_nodes.nd (bc (n:=0) ao rfl) λxa=>
 (SF.xG (hd:=(λ(s4:List PV×List PV)=>([ap (.val jm),ap (.ol bv s4.1),ap (.ol bv s4.2),bv,bv,bv]:bh))) (s0:=(jT,xa)) AI rfl (cD rfl (vk (lC Hn hr (af (ae 0) ao)))) (.refl _) (dQ 3 sc_nodes.nd) (λs4 wU=>
 (SF.ifS (out1:=λ(UI:List PV×List PV)=>.nx ([ap (.val jm),ap (.ol bv UI.1),ap (.ol bv UI.2),ap (.val wU),bv,bv]:bh)) (bI rfl (cW rfl .str rfl q.isinstance (ae 3) rfl q.str tt) (λ_=>rfl))
 (SF.append 1 rfl rfl rfl (.inl rfl) (ae 3) λIE=>
 (SF.nil rfl (.refl _)))
 (SF.wO 2 4 rfl (by decide) rfl rfl (.inl rfl) sc_nodes.nd rfl (Cw rfl) λt20=>
 (SF.wO 2 5 rfl (by decide) rfl rfl (.inl rfl) sc_nodes.nd rfl (Cw rfl) λt22=>
 (SF.append 1 rfl rfl rfl (.inl rfl) (aM (n:=2) (af (ae 5) (af (ae 4) ao)) rfl) λID=>
 (SF.nil rfl (.keep (.keep (.keep (.keep (.drop (.drop (.refl _)))))))))))
 λUI=>(SF.append 2 rfl rfl rfl (.inl rfl) (lM (pH rfl rfl q.len (cy 1)) ak) λzk=>
 (SF.gc rfl (.keep (.keep (.keep (.drop (.refl _))))))))) λs4=>
 (SF.bC (fD rfl rfl q.tuple (cy 1)) λ_=>rfl))))
abbrev d_halves:DF:=⟨"halves",top 11,["node"],1,λK=>eF K [.v] (cv 1 dw)⟩
def k_halves (D:DI v d_halves) (q:NB v):D.O:=
 mx (m:=dw) D sc_halves λbG _ _ _ _ _ _ hr=>
 (SF.bC (Lf (bI rfl (cW rfl .str rfl q.isinstance (ae 0) rfl q.str tt) (λ_=>rfl)) (aM (n:=0) ao rfl) (ae 0)) λ_=>rfl)
abbrev d_ahead_of:DF:=⟨"ahead_of",top 12,["tree"],3,λK=>eF K [.v] (cv 1 ft)⟩
def k_ahead_of (D:DI v d_ahead_of) (q:NB v) (kf:d_nodes.C v) (ip:d_halves.C v):D.O:=
 mx (m:=ft) D sc_ahead_of λjm _ _ _ _ _ _ hr=>
 (sv 1 sc_ahead_of.nd (eC kf hr (af (ae 0) ao)) λjT=>
 (SF.nJ (i:=3) rfl sc_ahead_of.nd rfl rfl lc_ahead_of_0 (cD rfl (cp (ae 1))) (λ_ _ _ _ _=>(dQ 0 lc_ahead_of_0.nd)) (λ_ _ _ _ _ p5=>vB) rfl λyi=>
 (SF.RS (hd:=(λ(s7:List PV)=>([ap (.val jm),ap (.val jT),bv,ap (.ol bv s7),bv,bv]:bh))) (s0:=yi) AI rfl (nY rfl rfl q.enumerate (cp (ae 1))) (.refl _) (λ_=>(RM rfl (gb rfl (aQ (dQ 4 sc_ahead_of.nd) (aQ (dQ 2 sc_ahead_of.nd) d8))))) (λs7 t9=>
 (SF.xG (hd:=(λ(qc:List PV)=>([ap (.val jm),ap (.val jT),ap (.val t9.2),ap (.ol bv qc),ap (.val t9.1),bv]:bh))) (s0:=s7) AI rfl (cD rfl (cp (eC ip hr (af (ae 2) ao)))) (.refl _) (dQ 5 sc_ahead_of.nd) (λqc Jx=>
 (SF.GB 3 rfl rfl (.inl rfl) (ae 4) (ae 5) λFV=>
 (SF.gc rfl (.keep (.keep (.keep (.keep (.keep (.drop (.refl _)))))))))) λqc=>
 (SF.gc rfl (.keep (.keep (.drop (.keep (.drop (.refl _))))))))) λs7=>
 (SF.bC (fD rfl rfl q.tuple (cy 3)) λ_=>rfl))))
abbrev d_under_at:DF:=⟨"under_at",top 17,["stays","stay"],1,λK=>eF K [.v,.v] (cv 2 du)⟩
def k_under_at (D:DI v d_under_at) {wg:Tok} (oB:v.mg "UNDER"=ap (.int 2 wg)):D.O:=
 pd (m:=du) D sc_under_at λav bp _ _ _ _ _ _ hr=>
 (SF.bC (aB rfl (aq (aB rfl (aq (ae 0)) (ae 1) (λ_ _=>rfl))) (xO oB rfl) (λ_ _=>rfl)) λ_=>rfl)
abbrev d_beside_at:DF:=⟨"beside_at",top 18,["stays","stay"],1,λK=>eF K [.v,.v] (cv 2 fP)⟩
def k_beside_at (D:DI v d_beside_at) {rJ:Tok} (lQ:v.mg "BESIDE"=ap (.int 3 rJ)):D.O:=
 pd (m:=fP) D sc_beside_at λav bp _ _ _ _ _ _ hr=>
 (SF.bC (aB rfl (aq (aB rfl (aq (ae 0)) (ae 1) (λ_ _=>rfl))) (xO lQ rfl) (λ_ _=>rfl)) λ_=>rfl)
abbrev d_is_home:DF:=⟨"is_home",top 19,["stays","stay","word"],2,λK=>eF K [.v,.v,.v] (cv 3 jE)⟩
def k_is_home (D:DI v d_is_home) {Gs:Tok} (tR:v.mg "NAME"=ap (.int 0 Gs)) (ik:d_under_at.C v):D.O:=
 Kr (m:=jE) D sc_is_home λav bp SV _ _ _ _ _ _ hr=>
 (SF.bC (kH (iu (c9 rfl (aL hr)) (eC ik hr (af (ae 0) (af (ae 1) ao))) (aM (n:=0) ao rfl)) (lN (iu (c9 rfl (aL hr)) (aB rfl (aq (aB rfl (aq (ae 0)) (ae 1) (λ_ _=>rfl))) (xO tR rfl) (λ_ _=>rfl)) (ae 2)))) λ_=>rfl)
abbrev d_name_of:DF:=⟨"name_of",top 20,["houses","house"],1,λK=>eF K [.v,.v] (cv 2 eG)⟩
def k_name_of (D:DI v d_name_of) (q:NB v):D.O:=
 pd (m:=eG) D sc_name_of λfy lE _ _ _ _ _ _ hr=>
 (SF.bC (Lf (bI rfl (cW rfl .str rfl q.isinstance (aB rfl (aq (ae 0)) (ae 1) (λ_ _=>rfl)) rfl q.str tt) (λ_=>rfl)) (aB rfl (aq (ae 0)) (ae 1) (λ_ _=>rfl)) (ae 1)) λ_=>rfl)
abbrev d_lines_up:DF:=⟨"lines_up",top 21,["great"],4,λK=>gs K [.v] (cv 1 hE)⟩
def k_lines_up (D:DI v d_lines_up) (q:NB v) (m6:d_ahead_of.C v):D.O:=
 Vw (m:=hE) D sc_lines_up λdN _ _ _ _ _ _ hr=>
 (sv 1 sc_lines_up.nd (eC m6 hr (af (ae 0) ao)) λd9=>
 (SF.nJ (i:=3) rfl sc_lines_up.nd rfl rfl lc_lines_up_0 (cD rfl (cp (ae 1))) (λ_ _ _ _ _=>(dQ 0 lc_lines_up_0.nd)) (λ_ _ _ _ _ p5=>(aM (n:=0) ao rfl)) rfl λme=>
 (SF.xG (hd:=(λ(s9:List PV)=>([ap (.val dN),ap (.val d9),bv,ap (.ol bv s9),bv]:bh))) (s0:=me) AI rfl (Js rfl q.range (lM (cz rfl rfl q.len (ae 1)) ak) (jI ak) (jI ak)) (.refl _) (dQ 2 sc_lines_up.nd) (λs9 lB=>
 (sv 4 sc_lines_up.nd (Lf (cx G9 (aB rfl (aq (ae 1)) (ae 2) (λ_ _=>rfl)) vB) (aM (n:=0) ao rfl) (aB rfl (cy 3) (aB rfl (aq (ae 1)) (ae 2) (λ_ _=>rfl)) (λ_ _=>rfl))) λFX=>
 (SF.GB 3 rfl rfl (.inl rfl) (a7 rfl (aM (n:=1) (af (ae 2) ao) rfl) (ae 4)) (ae 2) λzp=>
 (SF.gc rfl (.keep (.keep (.drop (.keep (.drop (.refl _)))))))))) λs9=>
 (SF.Mv 3 rfl rfl))))
abbrev d_apart_from:DF:=⟨"apart_from",top 22,["lines","house"],1,λK=>eF K [.v,.v] (cv 2 eS)⟩
def k_apart_from (D:DI v d_apart_from) (q:NB v):D.O:=
 pd (m:=eS) D sc_apart_from λxf lE _ _ _ _ _ _ hr=>
 (SF.bC (fD rfl rfl q.tuple (fh (zq rfl lc_apart_from_0 (eV rfl q.range (cz rfl rfl q.len (ae 0))) (λ_ _ _ _ _=>(dQ 0 lc_apart_from_0.nd)) (λ_ _ _ _ _ p3=>(oQ.t (kY (wd rfl (aL hr) (ae 0) (aq (aB rfl (aq (ae 2)) (ae 1) (λ_ _=>rfl)))) (iH (wd rfl (aL hr) (ae 1) (aq (aB rfl (aq (ae 2)) (ae 0) (λ_ _=>rfl)))))))) (λ_ _ _ _ _ p3=>(ae 0)) rfl))) λ_=>rfl)
abbrev d_ground:DF:=⟨"ground",top 23,["great"],5,λK=>eF K [.v] (cv 1 lq)⟩
def k_ground (D:DI v d_ground) (q:NB v) (kf:d_nodes.C v) (Hq:d_lines_up.C v) (pC:d_name_of.C v) (ip:d_halves.C v) (xy:d_apart_from.C v):D.O:=
 mx (m:=lq) D sc_ground λdN _ _ _ _ _ _ hr=>
 (sv 1 sc_ground.nd (eC kf hr (af (ae 0) ao)) λfU=>
 (sl 2 sc_ground.nd (lC Hq hr (af (ae 0) ao)) λme=>
 SF.cU 2 rfl (SF.bC (fD rfl rfl q.tuple (fh (gh rfl lc_ground_0 (eV rfl q.range (cz rfl rfl q.len (ae 1))) (λ_ _ _ _ _=>(dQ 0 lc_ground_0.nd)) (λ_ _ _ _ _ p7=>(aM (n:=4) (af (eC pC hr (af (ae 1) (af (ae 0) ao))) (af ak (af (eC ip hr (af (aB rfl (aq (ae 1)) (ae 0) (λ_ _=>rfl)) ao)) (af (eC xy hr (af (ae 2) (af (ae 0) ao))) ao)))) rfl)) rfl))) λ_=>rfl)))
abbrev d_comes_in:DF:=⟨"comes_in",top 29,["way"],1,λK=>eF K [.v] (cv 1 dz)⟩
def k_comes_in (D:DI v d_comes_in):D.O:=
 mx (m:=dz) D sc_comes_in λoS _ _ _ _ _ _ hr=>
 (SF.bC (aB rfl (aq (aB rfl (aq (ae 0)) ak (λ_ _=>rfl))) ak (λ_ _=>rfl)) λ_=>rfl)
abbrev d_done_at:DF:=⟨"done_at",top 30,["way"],1,λK=>eF K [.v] (cv 1 ma)⟩
def k_done_at (D:DI v d_done_at):D.O:=
 mx (m:=ma) D sc_done_at λoS _ _ _ _ _ _ hr=>
 (SF.bC (aB rfl (aq (aB rfl (aq (ae 0)) ak (λ_ _=>rfl))) (jI ak) (λ_ _=>rfl)) λ_=>rfl)
abbrev d_ins_of:DF:=⟨"ins_of",top 31,["way"],2,λK=>eF K [.v] (cv 1 nS)⟩
def k_ins_of (D:DI v d_ins_of) (q:NB v) (Hv:d_comes_in.C v):D.O:=
 mx (m:=nS) D sc_ins_of λoS _ _ _ _ _ _ hr=>
 (SF.bC (fD rfl rfl q.tuple (fh (gh rfl lc_ins_of_0 (cD rfl (cp (eY rfl (ae 0) (cR ak) cM))) (λ_ _ _ _ _=>(dQ 0 lc_ins_of_0.nd)) (λ_ _ _ _ _ p5=>(eC Hv hr (af (ae 0) ao))) rfl))) λ_=>rfl)
abbrev d_split_ins:DF:=⟨"split_ins",top 32,["ground","stay"],2,λK=>gs K [.v,.v] (cv 2 fK)⟩
def k_split_ins (D:DI v d_split_ins) (q:NB v) (ik:d_under_at.C v):D.O:=
 Ks (m:=fK) D sc_split_ins λaV bp _ _ _ _ _ _ hr=>
 (sv 2 sc_split_ins.nd (eC ik hr (af (ae 0) (af (ae 1) ao))) λnC=>
 (SF.k8 (Zj (cx (c9 rfl (aL hr)) (cz rfl rfl q.len (ae 2)) ak) (bc (n:=2) (af (ae 2) (af (aM (n:=2) (af (aB rfl (aq (ae 2)) ak (λ_ _=>rfl)) (af (aB rfl (aq (ae 2)) ak (λ_ _=>rfl)) ao)) rfl) ao)) rfl) (bc (n:=0) ao rfl)) λ_=>rfl))
abbrev d_over_ins:DF:=⟨"over_ins",top 33,["ground","stay"],2,λK=>gs K [.v,.v] (cv 2 g9)⟩
def k_over_ins (D:DI v d_over_ins) (zF:d_beside_at.C v):D.O:=
 Ks (m:=g9) D sc_over_ins λaV bp _ _ _ _ _ _ hr=>
 (sv 2 sc_over_ins.nd (eC zF hr (af (ae 0) (af (ae 1) ao))) λtS=>
 (SF.k8 (vh rfl (cB (gh rfl lc_over_ins_0 (cD rfl (cp (ae 2))) (λ_ _ _ _ _=>(dQ 0 lc_over_ins_0.nd)) (λ_ _ _ _ _ p5=>(aM (n:=2) (af (ae 1) (af (ae 0) ao)) rfl)) rfl)) (cB (gh rfl lc_over_ins_1 (cD rfl (cp (ae 2))) (λ_ _ _ _ _=>(dQ 0 lc_over_ins_1.nd)) (λ_ _ _ _ _ p9=>(aM (n:=2) (af (ae 0) (af (ae 1) ao)) rfl)) rfl))) λ_=>rfl))
abbrev d_deeds_at:DF:=⟨"deeds_at",top 34,["ground","node","stay"],3,λK=>gs K [.v,.v,.v] (cv 3 fq)⟩
def k_deeds_at (D:DI v d_deeds_at) (q:NB v) {wo:Tok} (oD:v.mg "FOUND"=ap (.str "found" wo)) {wj:Tok} (oC:v.mg "SPLIT"=ap (.str "split" wj)) {Gr:Tok} (tQ:v.mg "OVER"=ap (.str "over" Gr)) {oW:Tok} (jK:v.mg "DOUBLED"=ap (.str "doubled" oW)) (KZ:d_is_home.C v) (zC:d_split_ins.C v) (Ho:d_over_ins.C v):D.O:=
 Zf (m:=fq) D sc_deeds_at λaV bG bp _ _ _ _ _ _ hr=>
 (SF.sN (bI rfl (cW rfl .str rfl q.isinstance (ae 1) rfl q.str tt) (λ_=>rfl))
 (SF.k8 (Zj (bI rfl (eC KZ hr (af (ae 0) (af (ae 2) (af (ae 1) ao)))) (λ_=>rfl)) (bc (n:=1) (af (aM (n:=2) (af (tJ oD rfl) (af (aM (n:=0) ao rfl) ao)) rfl) ao) rfl) (bc (n:=0) ao rfl)) λ_=>rfl)
 (SF.nJ (i:=3) rfl sc_deeds_at.nd rfl rfl lc_deeds_at_0 (cD rfl (vk (lC zC hr (af (ae 0) (af (ae 2) ao))))) (λ_ _ _ _ _=>(dQ 0 lc_deeds_at_0.nd)) (λ_ _ _ _ _ Jb=>(aM (n:=2) (af (tJ oC rfl) (af (ae 0) ao)) rfl)) rfl λIK=>
 SF.cU 3 rfl (SF.nJ (i:=4) rfl sc_deeds_at.nd rfl rfl lc_deeds_at_1 (cD rfl (vk (lC Ho hr (af (ae 0) (af (ae 2) ao))))) (λ_ _ _ _ _=>(dQ 0 lc_deeds_at_1.nd)) (λ_ _ _ _ _ p18=>(aM (n:=2) (af (tJ tQ rfl) (af (ae 0) ao)) rfl)) rfl λJc=>
 SF.cU 4 rfl (SF.k8 (Ri rfl (aL hr) rfl q.sorted (cB (vh rfl (cB (vh rfl (cB (bc (n:=1) (af (aM (n:=2) (af (tJ jK rfl) (af (aM (n:=2) (af (ae 2) (af (ae 2) ao)) rfl) ao)) rfl) ao) rfl)) (wJ (ae 3)))) (wJ (ae 4))))) λ_=>rfl))))
abbrev d_is_stay:DF:=⟨"is_stay",top 35,["ground","thing"],2,λK=>eF K [.v,.v] (cv 2 jC)⟩
def k_is_stay (D:DI v d_is_stay) (q:NB v) (Hs:d_is_whole.C v):D.O:=
 pd (m:=jC) D sc_is_stay λaV az _ _ _ _ _ _ hr=>
 (SF.bC (kH (eC Hs hr (af (ae 1) ao)) (lN (JK zw nW ak (ae 1) (cz rfl rfl q.len (ae 0))))) λ_=>rfl)
abbrev d_is_path:DF:=⟨"is_path",top 36,["ground","thing"],3,λK=>eF K [.v,.v] (cv 2 jD)⟩
def k_is_path (D:DI v d_is_path) (q:NB v) (KW:d_is_stay.C v) (ik:d_under_at.C v):D.O:=
 pd (m:=jD) D sc_is_path λaV az _ _ _ _ _ _ hr=>
 (SF.sN (oQ.t (jk (eQ (bI rfl (cW rfl .tup rfl q.isinstance (ae 1) rfl q.tuple boot_tuple) (λ_=>rfl))) (f9 (cx (c9 rfl (aL hr)) (cz rfl rfl q.len (ae 1)) ak))))
 (SF.bC lO λ_=>rfl)
 (SF.sN (eQ (bI rfl (vD rfl rfl rfl q.all (cB (gh rfl lc_is_path_0 (cD rfl (cp (ae 1))) (λ_ _ _ _ _=>(dQ 0 lc_is_path_0.nd)) (λ_ _ _ _ _ p2=>(eC KW hr (af (ae 1) (af (ae 0) ao)))) rfl))) (λ_=>rfl)))
 (SF.bC lO λ_=>rfl)
 (SF.bC (vD rfl rfl rfl q.all (cB (G7 rfl lc_is_path_1 (xo rfl rfl q.zip (cp (ae 1)) (cp (eY rfl (ae 1) (cR ak) cM))) (λ_ _ _ _ _=>(RM rfl (gb rfl (aQ (dQ 0 lc_is_path_1.nd) (aQ (dQ 1 lc_is_path_1.nd) d8))))) (λ_ _ _ _ _ nH=>(JJ rfl (aL hr) (ae 1) (aq (eC ik hr (af (ae 2) (af (ae 0) ao)))))) (Ny rfl rfl (by decide)) (by decide)))) λ_=>rfl)))
abbrev d_is_formed:DF:=⟨"is_formed",top 37,["ground","node","thing"],4,λK=>eF K [.v,.v,.v] (cv 3 fN)⟩
def k_is_formed (D:DI v d_is_formed) (q:NB v) (KY:d_is_path.C v) (sV:d_is_row.C v):D.O:=
 Kr (m:=fN) D sc_is_formed λaV bG az _ _ _ _ _ _ hr=>
 (sv 3 sc_is_formed.nd (Lf (bI rfl (cW rfl .str rfl q.isinstance (ae 1) rfl q.str tt) (λ_=>rfl)) ak ak) λNq=>
 (SF.bC (kH (eC sV hr (af (ae 2) (af (ae 3) ao))) (kH (eC KY hr (af (ae 0) (af (aB rfl (aq (ae 2)) ak (λ_ _=>rfl)) ao))) (lN (cW rfl .str rfl q.isinstance (aB rfl (aq (ae 2)) ak (λ_ _=>rfl)) rfl q.str tt)))) λ_=>rfl))
abbrev d_ways_of_nodes:DF:=⟨"ways_of_nodes",top 38,["ground","told","thing"],5,λK=>eF K [.v,.v,.v] (cv 3 c8)⟩
def k_ways_of_nodes (D:DI v d_ways_of_nodes) (q:NB v) (zE:d_is_formed.C v) (ip:d_halves.C v):D.O:=
 Kr (m:=c8) D sc_ways_of_nodes λaV uU az _ _ _ _ _ _ hr=>
 (SF.nJ (i:=4) rfl sc_ways_of_nodes.nd rfl rfl lc_ways_of_nodes_0 (cD rfl (cp (ae 1))) (λ_ _ _ _ _=>(dQ 0 lc_ways_of_nodes_0.nd)) (λ_ _ _ _ _ p3=>vB) rfl λL5=>
 (SF.GB 4 rfl rfl (.inl rfl) (ae 2) (jI ak) λmO=>
 (SF.Oc (hd:=(λ(Qm:List PV)=>([ap (.val aV),ap (.val uU),ap (.val az),bv,ap (.ol bv Qm),bv,bv,bv,bv]:bh))) (s0:=mO) (inj:=id) AI rfl (Js rfl q.range (lM (cz rfl rfl q.len (ae 1)) ak) (jI ak) (jI ak)) (.refl _) (dQ 5 sc_ways_of_nodes.nd) (λ_=>trivial) (λQm lW=>
 (sv 3 sc_ways_of_nodes.nd (aB rfl (aq (ae 1)) (ae 5) (λ_ _=>rfl)) λqO=>
 (sv 6 sc_ways_of_nodes.nd (aB rfl (cy 4) (ae 5) (λ_ _=>rfl)) λvU=>
 (SF.sN (eQ (bI rfl (eC zE hr (af (ae 0) (af (ae 3) (af (ae 6) ao)))) (λ_=>rfl)))
 (SF.ret (k:=λrz=>(Lp.out rz)) vB λ_=>rfl)
 (SF.RS (hd:=(λ(UG:List PV)=>([ap (.val aV),ap (.val uU),ap (.val az),ap (.val qO),ap (.ol bv UG),ap (.val lW),ap (.val vU),bv,bv]:bh))) (s0:=Qm) AI rfl (xo rfl rfl q.zip (cp (eC ip hr (af (ae 3) ao))) (cp (eY rfl (ae 6) (cR ak) cM))) (.refl _) (λ_=>(RM rfl (gb rfl (aQ (dQ 7 sc_ways_of_nodes.nd) (aQ (dQ 8 sc_ways_of_nodes.nd) d8))))) (λUG Ă=>
 (SF.GB 4 rfl rfl (.inl rfl) (ae 8) (ae 7) λIy=>
 (SF.gc rfl (.keep (.keep (.keep (.keep (.keep (.keep (.keep (.drop (.drop (.refl _))))))))))))) λUG=>
 (SF.gc rfl (.keep (.keep (.keep (.drop (.keep (.drop (.drop (.refl _)))))))))))))) λQm=>
 (SF.cU 4 rfl (SF.bC (ae 4) λ_=>rfl)))))
abbrev d_is_done:DF:=⟨"is_done",top 39,["ground","node","way"],4,λK=>eF K [.v,.v,.v] (cv 3 jF)⟩
def k_is_done (D:DI v d_is_done) (N9:d_ins_of.C v) (Hu:d_deeds_at.C v) (K1:d_done_at.C v):D.O:=
 Kr (m:=jF) D sc_is_done λaV bG oS _ _ _ _ _ _ hr=>
 (SF.bC (JJ rfl (aL hr) (aM (n:=2) (af (aB rfl (aq (ae 2)) ak (λ_ _=>rfl)) (af (eC N9 hr (af (ae 2) ao)) ao)) rfl) (fh (lC Hu hr (af (ae 0) (af (ae 1) (af (eC K1 hr (af (ae 2) ao)) ao)))))) λ_=>rfl)
abbrev d_is_way:DF:=⟨"is_way",top 40,["ground","small","thing"],6,λK=>eF K [.v,.v,.v] (cv 3 jB)⟩
def k_is_way (D:DI v d_is_way) (q:NB v) (KU:d_is_tree.C v) (kf:d_nodes.C v) (qr:d_ways_of_nodes.C v) (K0:d_is_done.C v):D.O:=
 Kr (m:=jB) D sc_is_way λaV Gz az _ _ _ _ _ _ hr=>
 (SF.sN (eQ (bI rfl (eC KU hr (af (ae 1) ao)) (λ_=>rfl)))
 (SF.bC lO λ_=>rfl)
 (sv 3 sc_is_way.nd (eC kf hr (af (ae 1) ao)) λGp=>
 (sv 4 sc_is_way.nd (eC qr hr (af (ae 0) (af (ae 3) (af (ae 2) ao)))) λmO=>
 (SF.sN (oQ.t (jk (cx G9 (ae 4) vB) (f9 (cx (zv rfl (aL hr)) (cz rfl rfl q.len (aB rfl (aq (ae 2)) ak (λ_ _=>rfl))) ak))))
 (SF.bC lO λ_=>rfl)
 (SF.bC (vD rfl rfl rfl q.all (cB (G7 rfl lc_is_way_0 (xo rfl rfl q.zip (cp (ae 3)) (cp (ae 4))) (λ_ _ _ _ _=>(RM rfl (gb rfl (aQ (dQ 0 lc_is_way_0.nd) (aQ (dQ 1 lc_is_way_0.nd) d8))))) (λ_ _ _ _ _ nH=>(eC K0 hr (af (ae 2) (af (ae 0) (af (ae 1) ao))))) (Ny rfl rfl (by decide)) (by decide)))) λ_=>rfl)))))
abbrev d_split_dates:DF:=⟨"split_dates",top 42,["houses","dates"],1,λK=>gs K [.v,.v] (cv 2 dX)⟩
def k_split_dates (D:DI v d_split_dates) (q:NB v):D.O:=
 Ks (m:=dX) D sc_split_dates λfy dP _ _ _ _ _ _ hr=>
 (SF.k8 (Ti rfl lc_split_dates_0 (xo rfl rfl q.zip (cp (ae 0)) (cp (ae 1))) (λ_ _ _ _ _=>(RM rfl (gb rfl (aQ (dQ 0 lc_split_dates_0.nd) (aQ (dQ 1 lc_split_dates_0.nd) d8))))) (λ_ _ _ _ _ t5=>(eQ (bI rfl (cW rfl .str rfl q.isinstance (ae 0) rfl q.str tt) (λ_=>rfl)))) (λ_ _ _ _ _ t5=>(ae 1)) (Ny rfl rfl (by decide)) (by decide)) λ_=>rfl)
abbrev d_standing:DF:=⟨"standing",top 43,["great","dates","begins"],4,λK=>gs K [.v,.v,.v] (cv 3 g8)⟩
def k_standing (D:DI v d_standing) (q:NB v) (m6:d_ahead_of.C v):D.O:=
 Zf (m:=g8) D sc_standing λdN dP ku _ _ _ _ _ _ hr=>
 (sv 3 sc_standing.nd (eC m6 hr (af (ae 0) ao)) λd9=>
 (sl 4 sc_standing.nd (bc (n:=0) ao rfl) λwW=>
 (SF.RS (hd:=(λ(s5:List PV)=>([ap (.val dN),ap (.val dP),ap (.val ku),ap (.val d9),ap (.ol bv s5),bv,bv,bv,bv]:bh))) (s0:=wW) AI rfl (nY rfl rfl q.enumerate (cp (ae 2))) (.refl _) (λ_=>(RM rfl (gb rfl (aQ (dQ 5 sc_standing.nd) (aQ (dQ 6 sc_standing.nd) d8))))) (λs5 t7=>
 (SF.RS (hd:=(λ(s9:List PV)=>([ap (.val dN),ap (.val dP),ap (.val ku),ap (.val d9),ap (.ol bv s9),ap (.val t7.1),ap (.val t7.2),bv,bv]:bh))) (s0:=s5) AI rfl (nY rfl rfl q.enumerate (cp (ae 1))) (.refl _) (λ_=>(RM rfl (gb rfl (aQ (dQ 7 sc_standing.nd) (aQ (dQ 8 sc_standing.nd) d8))))) (λs9 Yo=>
 (SF.V0 (oQ.t (kY (cx zw (ae 8) (ae 6)) (iH (oQ.t (jk (cx G9 (aB rfl (aq (ae 3)) (ae 7) (λ_ _=>rfl)) vB) (f9 (cx nW (ae 6) (aB rfl (aq (ae 1)) (aB rfl (aq (ae 3)) (ae 7) (λ_ _=>rfl)) (λ_ _=>rfl)))))))))
 (SF.append 4 rfl rfl rfl (.inl rfl) (aM (n:=2) (af (ae 7) (af (ae 5) ao)) rfl) λy7=>
 (SF.gc rfl (.keep (.keep (.keep (.keep (.keep (.keep (.keep (.drop (.drop (.refl _))))))))))))
 (SF.gc rfl (.keep (.keep (.keep (.keep (.keep (.keep (.keep (.drop (.drop (.refl _))))))))))))) λs9=>
 (SF.gc rfl (.keep (.keep (.keep (.keep (.keep (.drop (.drop (.refl _))))))))))) λs5=>
 (SF.Mv 4 rfl rfl))))
abbrev d_stay_of:DF:=⟨"stay_of",top 44,["houses","dates","begins","numbers","pair"],2,λK=>eF K [.v,.v,.v,.v,.v] (cv 5 jz)⟩
def k_stay_of (D:DI v d_stay_of) (q:NB v) (ip:d_halves.C v) (pC:d_name_of.C v):D.O:=
 Zc (m:=jz) D sc_stay_of λfy dP ku nP Nb _ _ _ _ _ _ hr=>
 (sv 5 sc_stay_of.nd (aB rfl (aq (ae 4)) ak (λ_ _=>rfl)) λmh=>
 (sv 6 sc_stay_of.nd (aB rfl (aq (ae 4)) ak (λ_ _=>rfl)) λnU=>
 (sv 7 sc_stay_of.nd (iu nW (aB rfl (aq (ae 1)) (ae 5) (λ_ _=>rfl)) (aB rfl (aq (ae 2)) (ae 6) (λ_ _=>rfl))) λvq=>
 (sv 8 sc_stay_of.nd (Lf (bI rfl (ae 7) (λ_=>rfl)) (aM (n:=1) (af (ae 5) ao) rfl) (eC ip hr (af (aB rfl (aq (ae 0)) (ae 5) (λ_ _=>rfl)) ao))) λbelow_4=>
 (sv 9 sc_stay_of.nd (fD rfl rfl q.tuple (fh (gh rfl lc_stay_of_0 (cD rfl (cp (ae 8))) (λ_ _ _ _ _=>(dQ 0 lc_stay_of_0.nd)) (λ_ _ _ _ _ p9=>(OO (aL hr) (ae 2) (aM (n:=2) (af (ae 0) (af (lM (ae 1) ak) ao)) rfl) (λ_ _=>rfl))) rfl))) λIB=>
 (sv 10 sc_stay_of.nd (fD rfl rfl q.tuple (fh (zq rfl lc_stay_of_1 (Ru (ae 3)) (λ_ _ _ _ _=>(dQ 0 lc_stay_of_1.nd)) (λ_ _ _ _ _ YY=>(oQ.t (kY (cx (c9 rfl (aL hr)) (aB rfl (aq (ae 0)) ak (λ_ _=>rfl)) (ae 2)) (iH (cx (zv rfl (aL hr)) (aB rfl (aq (ae 0)) ak (λ_ _=>rfl)) (ae 1)))))) (λ_ _ _ _ _ YY=>(OO (aL hr) (ae 3) (ae 0) (λ_ _=>rfl))) rfl))) λvM=>
 (SF.bC (aM (n:=4) (af (eC pC hr (af (ae 0) (af (ae 5) ao))) (af (ae 6) (af (ae 9) (af (ae 10) ao)))) rfl) λ_=>rfl)))))))
abbrev d_dated:DF:=⟨"dated",top 45,["great","dates"],5,λK=>eF K [.v,.v] (cv 2 md)⟩
def k_dated (D:DI v d_dated) (q:NB v) (kf:d_nodes.C v) (uF:d_split_dates.C v) (Hm:d_standing.C v) (KS:d_stay_of.C v):D.O:=
 pd (m:=md) D sc_dated λdN dP _ _ _ _ _ _ hr=>
 (sv 2 sc_dated.nd (eC kf hr (af (ae 0) ao)) λfU=>
 (sl 3 sc_dated.nd (vh rfl (cB (bc (n:=1) (af ak ao) rfl)) (cB (Rj rfl rfl q.sorted (cB (lC uF hr (af (ae 2) (af (ae 1) ao))))))) λtT=>
 SF.cU 3 rfl (sl 4 sc_dated.nd (lC Hm hr (af (ae 0) (af (ae 1) (af (ae 3) ao)))) λwV=>
 SF.cU 4 rfl (sv 5 sc_dated.nd (ad2 (Sl rfl rfl (aL hr) rfl q.dict (cB (G7 rfl lc_dated_0 (nY rfl rfl q.enumerate (cp (ae 4))) (λ_ _ _ _ _=>(RM rfl (gb rfl (aQ (dQ 0 lc_dated_0.nd) (aQ (dQ 1 lc_dated_0.nd) d8))))) (λ_ _ _ _ _ ă=>(aM (n:=2) (af (ae 1) (af (ae 0) ao)) rfl)) (Ny rfl rfl (by decide)) (by decide))))) λrY=>
 (SF.bC (fD rfl rfl q.tuple (fh (gh rfl lc_dated_1 (cD rfl (cp (ae 4))) (λ_ _ _ _ _=>(dQ 0 lc_dated_1.nd)) (λ_ _ _ _ _ p21=>(eC KS hr (af (ae 3) (af (ae 2) (af (ae 1) (af (ae 4) (af (ae 0) ao))))))) rfl))) λ_=>rfl)))))
abbrev d__law_pot:DF:=⟨"_law_pot",top 47,["_law_script","_law_k"],1,λK=>gs K [.v,.v] (cv 2 hV)⟩
def k__law_pot (D:DI v d__law_pot) (q:NB v):D.O:=
 Ks (m:=hV) D sc__law_pot λfv k_ _ _ _ _ _ _ hr=>
 (sv 2 sc__law_pot.nd ak λO1=>
 (SF.ifS (out1:=λ(s3:PV)=>.nx ([ap (.val fv),ap (.val k_),ap (.val s3),bv]:bh)) (cx nW (ae 1) (cz rfl rfl q.len (ae 0)))
 (sv 2 sc__law_pot.nd (aas rfl q.abs (aB rfl (aq (ae 0)) (ae 1) (λ_ _=>rfl))) λO0=>
 (SF.nil rfl (.refl _)))
 (SF.nil rfl (.refl _))
 λs3=>(sv 3 sc__law_pot.nd (pT (mI (ae 2) (pT (OG ak ak) (OG ak ak))) (oo rfl q.int (iu Zr (ae 2) (OG ak ak)))) λou=>
 (SF.k8 (bc (n:=3) (af (ae 3) (af (mI (a7 rfl (a7 rfl (ae 2) (pT ak (ae 1))) ak) ak) (af ak ao))) rfl) λ_=>rfl))))
abbrev d__law_take:DF:=⟨"_law_take",top 48,["_law_pot_here","_law_many"],1,λK=>eF K [.p (fg eR),.v] (cv 1 a8)⟩
def k__law_take (D:DI v d__law_take):D.O:=
 U4 (n:=1) (fnO (n:=1) (m:=fR) D.fn sc__law_take rfl λad dC l hl=>match l,hl with | [jy],_=>λ_ _ _ _ _ _ hr=>show SF _ _ _ [ap (.ol (ap ad) dC),ap (.val jy),bv,bv] _ (fR dC jy) _ from
 (SF.sN (cx Tq (aB rfl (cy 0) ak (λ_ _=>rfl)) ak)
 (sv 2 sc__law_take.nd (mI (aB rfl (cy 0) ak (λ_ _=>rfl)) (ae 1)) λJN=>
 (SF.GB 0 rfl rfl (.inl rfl) (TZ (aB rfl (cy 0) ak (λ_ _=>rfl)) (ae 1)) ak λmP=>
 (SF.YB 0 (k:=λx5=>(x5,mP)) rfl (ae 2) λ_=>rfl)))
 (SF.ad7 0 rfl rfl rfl (.inl rfl) ak ak VZ Zt λgZ=>
 (sv 3 sc__law_take.nd (mI (a7 rfl (a7 rfl (pT (aB rfl (cy 0) ak (λ_ _=>rfl)) ak) (pT ak (aB rfl (cy 0) ak (λ_ _=>rfl)))) ak) ak) λsi=>
 (SF.GB 0 rfl rfl (.inl rfl) (mI (pT (ae 3) (a7 rfl (a7 rfl (mI (ae 3) ak) (pT ak (aB rfl (cy 0) ak (λ_ _=>rfl)))) ak)) ak) ak λiI=>
 (SF.YB 0 (k:=λkI=>(kI,iI)) rfl (mI (TZ (aB rfl (cy 0) ak (λ_ _=>rfl)) ak) (ae 1)) λ_=>rfl)))))) P4
abbrev d__law_pick:DF:=⟨"_law_pick",top 49,["_law_pot_here","_law_some"],2,λK=>eF K [.p (fg eR),.v] (cv 1 bM)⟩
def k__law_pick (D:DI v d__law_pick) (q:NB v) (aE:d__law_take.C v):D.O:=
 mx (m:=bM) D sc__law_pick λMj _ _ _ _ _ _ hr=>
 (SF.bC (aB rfl (aq (ae 1)) (eC aE hr (bj 0 (af (cz rfl rfl q.len (ae 1)) ao))) (λ_ _=>rfl)) λ_=>rfl)
abbrev d__law_words:DF:=⟨"_law_words",top 50,["_law_pot_here","_law_many"],2,λK=>gs K [.p (fg eR),.v] (cv 1 dE)⟩
def k__law_words (D:DI v d__law_words) (q:NB v) (aE:d__law_take.C v):D.O:=
 Vw (m:=dE) D sc__law_words λjy _ _ _ _ _ _ hr=>
 (sv 2 sc__law_words.nd d6 λph=>
 (sv 3 sc__law_words.nd (eC aE hr (bj 0 (af ak ao))) λqY=>
 (sv 4 sc__law_words.nd (aB rfl (fh (bc (n:=6) (af ak (af ak (af ak (af ak (af ak (af ak ao)))))) rfl)) (eC aE hr (bj 0 (af ak ao))) (λ_ _=>rfl)) λGn=>
 (sv 5 sc__law_words.nd (aB rfl (fh (bc (n:=2) (af d6 (af d6 ao)) rfl)) (eC aE hr (bj 0 (af ak ao))) (λ_ _=>rfl)) λwq=>
 (sl 6 sc__law_words.nd (bc (n:=4) (af d6 (af d6 (af d6 (af d6 ao)))) rfl) λxM=>
 SF.cU 6 rfl (sl 7 sc__law_words.nd (bc (n:=0) ao rfl) λsZ=>
 (SF.xG (hd:=(λ(UH:List PV)=>([ap (.kK (fg eR)),ap (.val jy),ap (.val ph),ap (.val qY),ap (.val Gn),ap (.val wq),ap (.val (.cl xM)),ap (.ol bv UH),bv,bv]:bh))) (s0:=sZ) AI rfl (eV rfl q.range (ae 1)) (.refl _) (dQ 8 sc__law_words.nd) (λUH VS=>
 (sv 9 sc__law_words.nd (aap (ae 2) (mI (a7 rfl (ae 3) (pT (ae 4) (ae 8))) ak) (λ_ _=>rfl)) λve=>
 (SF.append 7 rfl rfl rfl (.inl rfl) (a7 rfl (a7 rfl (ae 5) (ae 9)) (aB rfl (aq (ae 6)) (mI (a7 rfl (ae 3) (ae 8)) ak) (λ_ _=>rfl))) λzI=>
 (SF.gc rfl (.keep (.keep (.keep (.keep (.keep (.keep (.keep (.keep (.drop (.drop (.refl _))))))))))))))) λUH=>
 (SF.Mv 7 rfl rfl))))))))
abbrev d__law_tree:DF:=⟨"_law_tree",top 51,["_law_pot_here","_law_words_here"],2,λK=>eF K [.p (fg eR),.v] (cv 1 fx)⟩
def k__law_tree (D:DI v d__law_tree) (q:NB v) (aE:d__law_take.C v):D.O:=
 mx (m:=fx) D sc__law_tree λeE _ _ _ _ _ _ hr=>
 (sl 2 sc__law_tree.nd (VE rfl rfl q.list (aq (ae 1))) λrL=>
 (sv 3 sc__law_tree.nd (eC aE hr (bj 0 (af ak ao))) λgR=>
 (SF.Iw (hd:=(λ(s4:List PV)=>([ap (.kK (fg eR)),ap (.val eE),ap (.ol bv s4),ap (.val gR),bv,bv]:bh))) (s0:=rL) AI (.refl _) (λs4=>(cx Tq (pH rfl rfl q.len (cy 2)) ak)) (λs4=>
 (sv 4 sc__law_tree.nd (aB rfl (fh (bc (n:=4) (af (eC aE hr (bj 0 (af (lM (pH rfl rfl q.len (cy 2)) ak) ao))) (af (lM (pH rfl rfl q.len (cy 2)) ak) (af ak (af ak ao)))) rfl)) (ae 3) (λ_ _=>rfl)) λnj=>
 (sv 5 sc__law_tree.nd (aM (n:=2) (af (aB rfl (cy 2) (ae 4) (λ_ _=>rfl)) (af (aB rfl (cy 2) (a7 rfl (ae 4) ak) (λ_ _=>rfl)) ao)) rfl) λqL=>
 (SF.ifS (out1:=λ(Mr:PV)=>.nx ([ap (.kK (fg eR)),ap (.val eE),ap (.ol bv s4),ap (.val gR),ap (.val nj),ap (.val Mr)]:bh)) (oQ.t (kY (cx (c9 rfl (aL hr)) (ae 3) ak) (iH (cx (c9 rfl (aL hr)) (eC aE hr (bj 0 (af ak ao))) ak))))
 (sv 5 sc__law_tree.nd (aM (n:=2) (af (aB rfl (cy 2) (a7 rfl (ae 4) ak) (λ_ _=>rfl)) (af (aB rfl (cy 2) (ae 4) (λ_ _=>rfl)) ao)) rfl) λqK=>
 (SF.nil rfl (.refl _)))
 (SF.nil rfl (.refl _))
 λMr=>(SF.Ys 2 rfl rfl (.inl rfl) (bc (n:=1) (af (ae 5) ao) rfl) (ae 4) (a7 rfl (ae 4) ak) λqG=>
 (SF.gc rfl (.keep (.keep (.keep (.keep (.drop (.drop (.refl _))))))))))))) λs4=>
 (SF.bC (aB rfl (cy 2) ak (λ_ _=>rfl)) λ_=>rfl))))
abbrev d__law_great:DF:=⟨"_law_great",top 52,["_law_pot_here"],3,λK=>eF K [.p (fg eR)] (cv 0 eT)⟩
def k__law_great (D:DI v d__law_great) (q:NB v) (lF:d__law_tree.C v) (xA:d__law_words.C v) (aE:d__law_take.C v):D.O:=
 Zd (m:=eT) D sc__law_great λ_ _ _ _ _ _ hr=>
 (SF.bC (eC lF hr (bj 0 (af (vC (lC xA hr (bj 0 (af (a7 rfl ak (eC aE hr (bj 0 (af (aB rfl (fh (bc (n:=2) (af ak (af ak ao)) rfl)) (oo rfl q.int (iu (c9 rfl (aL hr)) (eC aE hr (bj 0 (af ak ao))) ak)) (λ_ _=>rfl)) ao)))) ao)))) ao))) λ_=>rfl)
abbrev d__law_nodes:DF:=⟨"_law_nodes",top 53,["_law_tree_here"],12,λK=>gs K [.v] (cv 1 (bo 12))⟩
theorem k__law_nodes (D:DI v d__law_nodes) (q:NB v):∀n,gj v.P v.w v.K v.mg v.base mr (n+0) D.f D.fd ["_law_tree_here"] (gs v.K [.v] (cv 1 (bo n)))
 | 0=>Jy (Qe λl Q hl=>match l,hl with | [cX],_=>λh=>h.elim)
 | n+1=>have bJ:=D.cN (k__law_nodes D q n)
  fnL (k:=n+0) (n:=1) (m:=bo (n+1)) D.fn sc__law_nodes rfl (gk dD) λl hl=>match l,hl with | [cX],_=>λ_ _ _ _ _ _ hr=>show SF _ _ _ [ap (.val cX),bv,bv,bv] _ (bo (n+1) cX) _ from
 (SF.sN (bI rfl (cW rfl .str rfl q.isinstance (ae 0) rfl q.str tt) (λ_=>rfl))
 (SF.k8 (bc (n:=1) (af (ae 0) ao) rfl) λ_=>rfl)
 (sl 1 sc__law_nodes.nd (lC bJ hr (af (aB rfl (aq (ae 0)) ak (λ_ _=>rfl)) ao)) λwI=>
 (sv 2 sc__law_nodes.nd (pH rfl rfl q.len (cy 1)) λsk=>
 (SF.xG (hd:=(λ(s6:List PV)=>([ap (.val cX),ap (.ol bv s6),ap (.val sk),bv]:bh))) (s0:=wI) AI rfl (cD rfl (vk (lC bJ hr (af (aB rfl (aq (ae 0)) ak (λ_ _=>rfl)) ao)))) (.refl _) (dQ 3 sc__law_nodes.nd) (λs6 yO=>
 (SF.append 1 rfl rfl rfl (.inl rfl) (Lf (bI rfl (cW rfl .str rfl q.isinstance (ae 3) rfl q.str tt) (λ_=>rfl)) (ae 3) (aM (n:=2) (af (a7 rfl (aB rfl (aq (ae 3)) ak (λ_ _=>rfl)) (ae 2)) (af (a7 rfl (aB rfl (aq (ae 3)) ak (λ_ _=>rfl)) (ae 2)) ao)) rfl)) λMt=>
 (SF.gc rfl (.keep (.keep (.keep (.drop (.refl _)))))))) λs6=>
 (SF.k8 (vh rfl (GC 1) (cB (bc (n:=1) (af (aM (n:=2) (af (lM (ae 2) ak) (af (lM (pH rfl rfl q.len (cy 1)) ak) ao)) rfl) ao) rfl))) λ_=>rfl)))))
abbrev d__law_dates:DF:=⟨"_law_dates",top 54,["_law_pot_here","_law_rows"],3,λK=>eF K [.p (fg eR),.v] (cv 1 eU)⟩
def k__law_dates (D:DI v d__law_dates) (q:NB v) (bO:d__law_pick.C v) (aE:d__law_take.C v):D.O:=
 mx (m:=eU) D sc__law_dates λbA _ _ _ _ _ _ hr=>
 (sl 2 sc__law_dates.nd (NC (bc (n:=1) (af ak ao) rfl) (cz rfl rfl q.len (ae 1))) λko=>
 (sl 4 sc__law_dates.nd (Ti rfl lc__law_dates_0 (nY rfl rfl q.enumerate (cp (ae 1))) (λ_ _ _ _ _=>(RM rfl (gb rfl (aQ (dQ 0 lc__law_dates_0.nd) (aQ (dQ 1 lc__law_dates_0.nd) d8))))) (λ_ _ _ _ _ t9=>(eQ (bI rfl (cW rfl .str rfl q.isinstance (ae 1) rfl q.str tt) (λ_=>rfl)))) (λ_ _ _ _ _ t9=>(ae 0)) (Ny rfl rfl (by decide)) (by decide)) λG4=>
 (sv 5 sc__law_dates.nd ak λya=>
 (SF.Iw (hd:=(λ(qc:List PV×List PV×PV)=>([ap (.kK (fg eR)),ap (.val bA),ap (.ol bv qc.1),bv,ap (.ol bv qc.2.1),ap (.val qc.2.2),bv]:bh))) (s0:=(ko,G4,ya)) AI (.refl _) (λqc=>(Mb rfl (aL hr) (GC 4))) (λqc=>
 (SF.as (WX 4 rfl (WW (i:=6) rfl sc__law_dates.nd rfl rfl lc__law_dates_1 (cD rfl (cp (ae 4))) (λ_ _ _ _ _=>(dQ 0 lc__law_dates_1.nd)) (λ_ _ _ _ _ YX=>(oQ.t (kY (wd rfl (aL hr) (aB rfl (aq (aB rfl (aq (ae 2)) (ae 0) (λ_ _=>rfl))) ak (λ_ _=>rfl)) (aq (ae 1))) (iH (wd rfl (aL hr) (aB rfl (aq (aB rfl (aq (ae 2)) (ae 0) (λ_ _=>rfl))) ak (λ_ _=>rfl)) (aq (ae 1))))))) (λ_ _ _ _ _ YX=>(ae 0)) rfl)) λyQ=>
 SF.cU 6 rfl (sv 3 sc__law_dates.nd (eC bO hr (bj 0 (af (ae 6) ao))) λsP=>
 (sv 5 sc__law_dates.nd (a7 rfl (a7 rfl (ae 5) ak) (eC aE hr (bj 0 (af (aB rfl (fh (bc (n:=3) (af ak (af ak (af ak ao))) rfl)) (eC aE hr (bj 0 (af ak ao))) (λ_ _=>rfl)) ao)))) λxZ=>
 (SF.GB 2 rfl rfl (.inl rfl) (ae 5) (ae 3) λmJ=>
 (SF.remove 4 rfl rfl rfl (.inr (.inl rfl)) (ae 3) λJj=>
 (SF.gc rfl (.keep (.keep (.keep (.drop (.keep (.keep (.drop (.refl _))))))))))))))) λqc=>
 (SF.bC (fD rfl rfl q.tuple (cy 2)) λ_=>rfl)))))
abbrev d__law_small:DF:=⟨"_law_small",top 55,["_law_pot_here","_law_great_here"],13,λK=>eF K [.p (fg eR),.v] (cv 1 dF)⟩
def k__law_small (D:DI v d__law_small) (q:NB v) (bJ:d__law_nodes.C v) (aE:d__law_take.C v) (lF:d__law_tree.C v) (bO:d__law_pick.C v):D.O:=
 mx (m:=dF) D sc__law_small λdB _ _ _ _ _ _ hr=>
 (sl 2 sc__law_small.nd (zq rfl lc__law_small_0 (cD rfl (vk (lC bJ hr (af (ae 1) ao)))) (λ_ _ _ _ _=>(dQ 0 lc__law_small_0.nd)) (λ_ _ _ _ _ p4=>(bI rfl (cW rfl .str rfl q.isinstance (ae 0) rfl q.str tt) (λ_=>rfl))) (λ_ _ _ _ _ p4=>(ae 0)) rfl) λnA=>
 SF.cU 2 rfl (sv 3 sc__law_small.nd (a7 rfl ak (eC aE hr (bj 0 (af (aB rfl (fh (bc (n:=2) (af ak (af ak ao)) rfl)) (oo rfl q.int (iu (c9 rfl (aL hr)) (eC aE hr (bj 0 (af ak ao))) ak)) (λ_ _=>rfl)) ao)))) λNp=>
 (SF.bC (eC lF hr (bj 0 (af (vC (gh rfl lc__law_small_1 (eV rfl q.range (ae 3)) (λ_ _ _ _ _=>(dQ 0 lc__law_small_1.nd)) (λ_ _ _ _ _ p12=>(eC bO hr (bj 1 (af (ae 2) ao)))) rfl)) ao))) λ_=>rfl)))
abbrev d__law_any_ground:DF:=⟨"_law_any_ground",top 56,["_law_pot_here","_law_great_here"],13,λK=>eF K [.p (fg eR),.v] (cv 1 cH)⟩
def k__law_any_ground (D:DI v d__law_any_ground) (aE:d__law_take.C v) (Oa:d_ground.C v) (RL:d_dated.C v) (xD:d__law_dates.C v) (bJ:d__law_nodes.C v):D.O:=
 mx (m:=cH) D sc__law_any_ground λdB _ _ _ _ _ _ hr=>
 (SF.sN (cx (c9 rfl (aL hr)) (eC aE hr (bj 0 (af ak ao))) ak)
 (SF.bC (eC Oa hr (af (ae 1) ao)) λ_=>rfl)
 (SF.bC (eC RL hr (af (ae 1) (af (eC xD hr (bj 0 (af (vC (lC bJ hr (af (ae 1) ao))) ao))) ao))) λ_=>rfl))
abbrev d__law_deeds:DF:=⟨"_law_deeds",top 57,["_law_stays","_law_stay"],1,λK=>gs K [.v,.v] (cv 2 dG)⟩
def k__law_deeds (D:DI v d__law_deeds) (q:NB v):D.O:=
 Ks (m:=dG) D sc__law_deeds λav bp _ _ _ _ _ _ hr=>
 (SF.UE (aB rfl (aq (ae 0)) (ae 1) (λ_ _=>rfl)) (g_4 rfl (gb rfl (aQ (dQ 2 sc__law_deeds.nd) (aQ (dQ 3 sc__law_deeds.nd) (aQ (dQ 4 sc__law_deeds.nd) (aQ (dQ 5 sc__law_deeds.nd) d8)))))) λt3=>
 (sl 6 sc__law_deeds.nd (bc (n:=1) (af (aM (n:=3) (af d6 (af (ae 1) (af (ae 1) ao))) rfl) ao) rfl) λxF=>
 (SF.ifS (out1:=λ(Yx:List PV)=>.nx ([ap (.val av),ap (.val bp),ap (.val t3.1),ap (.val t3.2.1),ap (.val t3.2.2.1),ap (.val t3.2.2.2),ap (.ol bv Yx),bv]:bh)) (cx (c9 rfl (aL hr)) (cz rfl rfl q.len (ae 4)) ak)
 (SF.extend 6 rfl rfl rfl (.inl rfl) (fh (bc (n:=2) (af (aM (n:=3) (af d6 (af (aB rfl (aq (ae 4)) ak (λ_ _=>rfl)) (af (aB rfl (aq (ae 4)) ak (λ_ _=>rfl)) ao))) rfl) (af (aM (n:=3) (af d6 (af (aB rfl (aq (ae 4)) ak (λ_ _=>rfl)) (af (aB rfl (aq (ae 4)) ak (λ_ _=>rfl)) ao))) rfl) ao)) rfl)) λzJ=>
 (SF.nil rfl (.refl _)))
 (SF.nil rfl (.refl _))
 λYx=>(SF.xG (hd:=(λ(Ql:List PV)=>([ap (.val av),ap (.val bp),ap (.val t3.1),ap (.val t3.2.1),ap (.val t3.2.2.1),ap (.val t3.2.2.2),ap (.ol bv Ql),bv]:bh))) (s0:=Yx) AI rfl (cD rfl (cp (ae 5))) (.refl _) (dQ 7 sc__law_deeds.nd) (λQl ju=>
 (SF.extend 6 rfl rfl rfl (.inl rfl) (fh (bc (n:=2) (af (aM (n:=3) (af d6 (af (ae 1) (af (ae 7) ao))) rfl) (af (aM (n:=3) (af d6 (af (ae 7) (af (ae 1) ao))) rfl) ao)) rfl)) λoh=>
 (SF.gc rfl (.keep (.keep (.keep (.keep (.keep (.keep (.keep (.drop (.refl _)))))))))))) λQl=>
 (SF.Mv 6 rfl rfl)))))
abbrev d__law_done:DF:=⟨"_law_done",top 58,["_law_stays","_law_rows","_law_can_here","_law_node","_law_stay"],2,λK=>gs K [.v,.v,.v,.v,.v] (cv 5 cG)⟩
def k__law_done (D:DI v d__law_done) (q:NB v) (gC:d__law_deeds.C v):D.O:=
 acL (m:=cG) D sc__law_done λav bA ba bG bp _ _ _ _ _ _ hr=>
 (sv 5 sc__law_done.nd (aB rfl (aq (ae 1)) (ae 3) (λ_ _=>rfl)) λkD=>
 (SF.sN (bI rfl (cW rfl .str rfl q.isinstance (ae 5) rfl q.str tt) (λ_=>rfl))
 (SF.k8 (NC (bc (n:=1) (af (aM (n:=3) (af d6 (af (ae 4) (af (ae 4) ao))) rfl) ao) rfl) (oo rfl q.int (kH (iu (c9 rfl (aL hr)) (aB rfl (aq (aB rfl (aq (ae 0)) (ae 4) (λ_ _=>rfl))) ak (λ_ _=>rfl)) (aM (n:=0) ao rfl)) (lN (iu (c9 rfl (aL hr)) (aB rfl (aq (aB rfl (aq (ae 0)) (ae 4) (λ_ _=>rfl))) ak (λ_ _=>rfl)) (ae 5)))))) λ_=>rfl)
 (SF.k8 (zq rfl lc__law_done_0 (cD rfl (vk (lC gC hr (af (ae 0) (af (ae 4) ao))))) (λ_ _ _ _ _=>(dQ 0 lc__law_done_0.nd)) (λ_ _ _ _ _ Jb=>(oQ.t (kY (bI rfl (aB rfl (aq (aB rfl (aq (ae 1)) (aB rfl (aq (ae 2)) ak (λ_ _=>rfl)) (λ_ _=>rfl))) (aB rfl (aq (ae 0)) ak (λ_ _=>rfl)) (λ_ _=>rfl)) (λ_=>rfl)) (iH (bI rfl (aB rfl (aq (aB rfl (aq (ae 1)) (aB rfl (aq (ae 2)) ak (λ_ _=>rfl)) (λ_ _=>rfl))) (aB rfl (aq (ae 0)) ak (λ_ _=>rfl)) (λ_ _=>rfl)) (λ_=>rfl)))))) (λ_ _ _ _ _ Jb=>(ae 0)) rfl) λ_=>rfl)))
abbrev d__law_can:DF:=⟨"_law_can",top 59,["_law_stays","_law_rows"],3,λK=>gs K [.v,.v] (cv 2 hX)⟩
def k__law_can (D:DI v d__law_can) (q:NB v) (cK:d__law_done.C v):D.O:=
 Ks (m:=hX) D sc__law_can λav bA _ _ _ _ _ _ hr=>
 (SF.Yu (i:=2) sc__law_can.nd rfl (Cn rfl)
 (SF.xG (hd:=(λ(s3:(List dL×List (List PV)))=>([ap (.val av),ap (.val bA),ap (.qM s3.1 s3.2),bv,bv,bv]:bh))) (s0:=(([]:List dL),([]:List (List PV)))) AI rfl (eV rfl q.range (cz rfl rfl q.len (ae 1))) (.refl _) (dQ 3 sc__law_can.nd) (λs3 se=>
 (SF.Pb 2 rfl rfl rfl (.inr (.inl rfl)) (NC (bc (n:=1) (af lO ao) rfl) (cz rfl rfl q.len (ae 0))) λb9 tj=>
 (SF.xG (hd:=(λ(LQ:(List dL×List (List PV)))=>([ap (.val av),ap (.val bA),ap (.qM LQ.1 LQ.2),ap (.val se),bv,bv]:bh))) (s0:=(b9,tj)) AI rfl (eV rfl q.range (cz rfl rfl q.len (ae 0))) (.refl _) (dQ 4 sc__law_can.nd) (λLQ qF=>
 (sv 5 sc__law_can.nd (JL 2 rfl (T3 2 rfl (aar rfl rfl rfl q.any (cB (gh rfl lc__law_can_0 (cD rfl (cp (aB rfl (aq (aB rfl (aq (ae 0)) (ae 4) (λ_ _=>rfl))) ak (λ_ _=>rfl)))) (λ_ _ _ _ _=>(dQ 0 lc__law_can_0.nd)) (λ_ _ _ _ _ è=>(aB rfl (aq (aB rfl (aq (ae 1)) (ae 2) (λ_ _=>rfl))) (ae 0) (λ_ _=>rfl))) rfl))))) λTa=>
 (SF.Yv 2 rfl rfl rfl (.inr (.inl rfl)) (JL 2 rfl (T3 2 rfl (aak (ae 5) (lN (aal rfl (aL hr) (cB (lC cK hr (af (ae 0) (af (ae 1) (af (ae 2) (af (ae 3) (af (ae 4) ao)))))))))))) (ae 3) (ae 4) (λ_ _=>rfl) λzH=>
 (SF.gc rfl (.keep (.keep (.keep (.keep (.drop (.drop (.refl _))))))))))) λLQ=>
 (SF.gc rfl (.keep (.keep (.keep (.drop (.refl _))))))))) λs3=>
 (SF.Z6 2 rfl (SF.Mv 2 rfl rfl))))
abbrev d__law_path:DF:=⟨"_law_path",top 60,["_law_pot_here","_law_stays","_law_rows","_law_can_here","_law_node","_law_stay"],3,λK=>eF K [.p (fg eR),.v,.v,.v,.v,.v] (cv 5 eI)⟩
def k__law_path (D:DI v d__law_path) (q:NB v) (aE:d__law_take.C v) (cK:d__law_done.C v) (bO:d__law_pick.C v):D.O:=
 Zc (m:=eI) D sc__law_path λav bA ba bG bp _ _ _ _ _ _ hr=>
 (sl 6 sc__law_path.nd (bc (n:=1) (af (ae 5) ao) rfl) λlg=>
 (SF.xG (hd:=(λ(s4:List PV)=>([ap (.kK (fg eR)),ap (.val av),ap (.val bA),ap (.val ba),ap (.val bG),ap (.val bp),ap (.ol bv s4),bv,bv,bv]:bh))) (s0:=lg) AI rfl (eV rfl q.range (cz rfl rfl q.len (ae 1))) (.refl _) (dQ 7 sc__law_path.nd) (λs4 Uq=>
 (SF.Mn (i:=8) rfl sc__law_path.nd rfl rfl lc__law_path_0 (cD rfl (cp (aB rfl (aq (aB rfl (aq (ae 1)) (aB rfl (cy 6) (jI ak) (λ_ _=>rfl)) (λ_ _=>rfl))) ak (λ_ _=>rfl)))) (λ_ _ _ _ _=>(dQ 0 lc__law_path_0.nd)) (λ_ _ _ _ _ p8=>(bI rfl (aB rfl (aq (aB rfl (aq (ae 1)) (ae 2) (λ_ _=>rfl))) (ae 0) (λ_ _=>rfl)) (λ_=>rfl))) (λ_ _ _ _ _ p8=>(ae 0)) rfl λVo=>
 SF.cU 8 rfl (sv 9 sc__law_path.nd (aak (aaq rfl (aL hr) (cB (lC cK hr (af (ae 1) (af (ae 2) (af (ae 3) (af (ae 4) (af (aB rfl (cy 6) (jI ak) (λ_ _=>rfl)) ao)))))))) (lN (iu (c9 rfl (aL hr)) (eC aE hr (bj 0 (af ak ao))) ak))) λOD=>
 (SF.V0 (oQ.t (kY (Mb rfl (aL hr) (wJ (ae 8))) (iH (bI rfl (ae 9) (λ_=>rfl)))))
 (SF.append 6 rfl rfl rfl (.inl rfl) (eC bO hr (bj 0 (af (ae 8) ao))) λgw=>
 (SF.gc rfl (.keep (.keep (.keep (.keep (.keep (.keep (.keep (.drop (.drop (.drop (.refl _)))))))))))))
 (SF.gc rfl (.keep (.keep (.keep (.keep (.keep (.keep (.keep (.drop (.drop (.drop (.refl _)))))))))))))))) λs4=>
 (SF.Iw (hd:=(λ(Mq:List PV)=>([ap (.kK (fg eR)),ap (.val av),ap (.val bA),ap (.val ba),ap (.val bG),ap (.val bp),ap (.ol bv Mq),bv,bv,bv]:bh))) (s0:=s4) AI (.refl _) (λMq=>(X7 rfl (aL hr) (cB (lC cK hr (af (ae 1) (af (ae 2) (af (ae 3) (af (ae 4) (af (aB rfl (cy 6) (jI ak) (λ_ _=>rfl)) ao))))))))) (λMq=>
 (SF.append 6 rfl rfl rfl (.inl rfl) (eC bO hr (bj 0 (af (vC (zq rfl lc__law_path_1 (cD rfl (cp (aB rfl (aq (aB rfl (aq (ae 1)) (aB rfl (cy 6) (jI ak) (λ_ _=>rfl)) (λ_ _=>rfl))) ak (λ_ _=>rfl)))) (λ_ _ _ _ _=>(dQ 0 lc__law_path_1.nd)) (λ_ _ _ _ _ ç=>(bI rfl (aB rfl (aq (aB rfl (aq (ae 1)) (ae 2) (λ_ _=>rfl))) (ae 0) (λ_ _=>rfl)) (λ_=>rfl))) (λ_ _ _ _ _ ç=>(ae 0)) rfl)) ao))) λnN=>
 (SF.gc rfl (.refl _)))) λMq=>
 (SF.bC (fD rfl rfl q.tuple (cy 6)) λ_=>rfl))))
abbrev d__law_way:DF:=⟨"_law_way",top 61,["_law_pot_here","_law_stays","_law_rows","_law_can_here","_law_node","_law_path_here"],15,λK=>eF K [.p (fg eR),.v,.v,.v,.v,.v] (cv 5 (cZ 12))⟩
theorem k__law_way (D:DI v d__law_way) (bO:d__law_pick.C v) (cK:d__law_done.C v) (lG:d__law_path.C v):∀n,gj v.P v.w v.K v.mg v.base mr (n+3) D.f D.fd ["_law_pot_here","_law_stays","_law_rows","_law_can_here","_law_node","_law_path_here"] (eF v.K [.p (fg eR),.v,.v,.v,.v,.v] (cv 5 (cZ n)))
 | 0=>Jy (Gy λl Q hl=>match l,hl with | [av,bA,ba,bG,eB],_=>λh=>h.elim)
 | n+1=>have kg:=D.cN (k__law_way D bO cK lG n)
  fnV (k:=n+3) (n:=5) (m:=cZ (n+1)) D.fn sc__law_way rfl (aH (n:=5)) λl hl=>match l,hl with | [av,bA,ba,bG,eB],_=>λ_ _ _ _ _ _ hr=>show SF _ _ _ [ap (.kK (fg eR)),ap (.val av),ap (.val bA),ap (.val ba),ap (.val bG),ap (.val eB),bv,bv,bv,bv,bv] _ (cZ (n+1) av bA ba bG eB) _ from
 (SF.UE (eC bO hr (bj 0 (af (vC (lC cK hr (af (ae 1) (af (ae 2) (af (ae 3) (af (ae 4) (af (aB rfl (aq (ae 5)) (jI ak) (λ_ _=>rfl)) ao))))))) ao))) (g_3 rfl (gb rfl (aQ (dQ 6 sc__law_way.nd) (aQ (dQ 7 sc__law_way.nd) (aQ (dQ 8 sc__law_way.nd) d8))))) λt8=>
 (SF.sN (cx (c9 rfl (aL hr)) (ae 6) d6)
 (SF.bC (aM (n:=2) (af (ae 5) (af (ae 6) ao)) rfl) λ_=>rfl)
 (sv 9 sc__law_way.nd (aB rfl (aq (ae 2)) (ae 4) (λ_ _=>rfl)) λrP=>
 (sv 10 sc__law_way.nd (eC kg hr (bj 0 (af (ae 1) (af (ae 2) (af (ae 3) (af (aB rfl (aq (ae 9)) ak (λ_ _=>rfl)) (af (eC lG hr (bj 0 (af (ae 1) (af (ae 2) (af (ae 3) (af (aB rfl (aq (ae 9)) ak (λ_ _=>rfl)) (af (ae 7) ao))))))) ao))))))) λzM=>
 (SF.bC (aM (n:=4) (af (ae 5) (af (ae 6) (af (ae 10) (af (eC kg hr (bj 0 (af (ae 1) (af (ae 2) (af (ae 3) (af (aB rfl (aq (ae 9)) ak (λ_ _=>rfl)) (af (eC lG hr (bj 0 (af (ae 1) (af (ae 2) (af (ae 3) (af (aB rfl (aq (ae 9)) ak (λ_ _=>rfl)) (af (ae 8) ao))))))) ao))))))) ao)))) rfl) λ_=>rfl)))))
abbrev d__law_whole_way:DF:=⟨"_law_whole_way",top 62,["_law_pot_here","_law_stays","_law_small_here"],16,λK=>eF K [.p (fg eR),.v,.v] (cv 2 cg)⟩
def k__law_whole_way (D:DI v d__law_whole_way) (q:NB v) (bJ:d__law_nodes.C v) (Hx:d__law_can.C v) (cK:d__law_done.C v) (kg:d__law_way.C v) (bO:d__law_pick.C v):D.O:=
 pd (m:=cg) D sc__law_whole_way λav fH _ _ _ _ _ _ hr=>
 (sl 3 sc__law_whole_way.nd (lC bJ hr (af (ae 2) ao)) λjZ=>
 SF.cU 3 rfl (sl 4 sc__law_whole_way.nd (lC Hx hr (af (ae 1) (af (ae 3) ao))) λm9=>
 SF.cU 4 rfl (sv 5 sc__law_whole_way.nd (lM (cz rfl rfl q.len (ae 3)) ak) λly=>
 (SF.Mn (i:=6) rfl sc__law_whole_way.nd rfl rfl lc__law_whole_way_0 (eV rfl q.range (cz rfl rfl q.len (ae 1))) (λ_ _ _ _ _=>(dQ 0 lc__law_whole_way_0.nd)) (λ_ _ _ _ _ Xf=>(Mb rfl (aL hr) (cB (lC cK hr (af (ae 4) (af (ae 3) (af (ae 1) (af (ae 2) (af (ae 0) ao))))))))) (λ_ _ _ _ _ Xf=>(ae 0)) rfl λMi=>
 SF.cU 6 rfl (SF.bC (eC kg hr (bj 0 (af (ae 1) (af (ae 3) (af (ae 4) (af (ae 5) (af (aM (n:=1) (af (eC bO hr (bj 0 (af (ae 6) ao))) ao) rfl) ao))))))) λ_=>rfl)))))
abbrev d__law_scene:DF:=⟨"_law_scene",top 63,["_law_pot_here"],17,λK=>eF K [.p (fg eR)] (cv 0 gz)⟩
def k__law_scene (D:DI v d__law_scene) (xC:d__law_great.C v) (og:d__law_any_ground.C v) (kh:d__law_small.C v) (fu:d__law_whole_way.C v):D.O:=
 Zd (m:=gz) D sc__law_scene λ_ _ _ _ _ _ hr=>
 (sv 1 sc__law_scene.nd (eC xC hr (bj 0 ao)) λgA=>
 (sv 2 sc__law_scene.nd (eC og hr (bj 0 (af (ae 1) ao))) λwu=>
 (sv 3 sc__law_scene.nd (eC kh hr (bj 0 (af (ae 1) ao))) λjX=>
 (SF.bC (aM (n:=4) (af (ae 1) (af (ae 2) (af (ae 3) (af (eC fu hr (bj 0 (af (ae 2) (af (ae 3) ao)))) ao)))) rfl) λ_=>rfl))))
abbrev iw:DF:=⟨"_law_is_stay",top 64,["_law_stays","_law_thing"],1,λK=>eF K [.v,.v] (cv 2 dA)⟩
def sF (D:DI v iw) (q:NB v):D.O:=
 pd (m:=dA) D qa λav az _ _ _ _ _ _ hr=>
 (SF.bC (kH (cW rfl .int rfl q.isinstance (ae 1) rfl q.int boot_int) (kH (TY (cW rfl .bool rfl q.isinstance (ae 1) rfl q.bool boot_bool)) (lN (JK zw nW ak (ae 1) (cz rfl rfl q.len (ae 0)))))) λ_=>rfl)
abbrev iy:DF:=⟨"_law_is_path",top 65,["_law_stays","_law_thing"],2,λK=>eF K [.v,.v] (cv 2 cn)⟩
def sG (D:DI v iy) (q:NB v) (sW:iw.C v):D.O:=
 pd (m:=cn) D qb λav az _ _ _ _ _ _ hr=>
 (SF.sN (oQ.t (jk (eQ (bI rfl (cW rfl .tup rfl q.isinstance (ae 1) rfl q.tuple boot_tuple) (λ_=>rfl))) (jk (cx (c9 rfl (aL hr)) (ae 1) (aM (n:=0) ao rfl)) (f9 (eQ (bI rfl (vD rfl rfl rfl q.all (cB (gh rfl iO (cD rfl (cp (ae 1))) (λ_ _ _ _ _=>(dQ 0 iO.nd)) (λ_ _ _ _ _ p2=>(eC sW hr (af (ae 1) (af (ae 0) ao)))) rfl))) (λ_=>rfl)))))))
 (SF.bC lO λ_=>rfl)
 (SF.bC (vD rfl rfl rfl q.all (cB (gh rfl iM (eV rfl q.range (lM (cz rfl rfl q.len (ae 1)) ak)) (λ_ _ _ _ _=>(dQ 0 iM.nd)) (λ_ _ _ _ _ p7=>(JJ rfl (aL hr) (aB rfl (aq (ae 2)) (a7 rfl (ae 0) ak) (λ_ _=>rfl)) (aq (aB rfl (aq (aB rfl (aq (ae 1)) (aB rfl (aq (ae 2)) (ae 0) (λ_ _=>rfl)) (λ_ _=>rfl))) ak (λ_ _=>rfl))))) rfl))) λ_=>rfl))
abbrev kr:DF:=⟨"_law_looks",top 66,["_law_stays","_law_rows","_law_node","_law_thing"],14,λK=>eF K [.v,.v,.v,.v] (cv 4 (bV 12))⟩
theorem nV (D:DI v kr) (q:NB v) (lH:iy.C v) (gC:d__law_deeds.C v):∀n,gj v.P v.w v.K v.mg v.base mr (n+2) D.f D.fd ["_law_stays","_law_rows","_law_node","_law_thing"] (eF v.K [.v,.v,.v,.v] (cv 4 (bV n)))
 | 0=>Jy (Gy λl Q hl=>match l,hl with | [av,bA,bG,az],_=>λh=>h.elim)
 | n+1=>have gB:=D.cN (nV D q lH gC n)
  fnV (k:=n+2) (n:=4) (m:=bV (n+1)) D.fn iY rfl (gk (gk (gk (gk dD)))) λl hl=>match l,hl with | [av,bA,bG,az],_=>λ_ _ _ _ _ _ hr=>show SF _ _ _ [ap (.val av),ap (.val bA),ap (.val bG),ap (.val az),bv,bv] _ (bV (n+1) av bA bG az) _ from
 (sv 4 iY.nd (aB rfl (aq (ae 1)) (ae 2) (λ_ _=>rfl)) λkD=>
 (SF.sN (oQ.t (jk (eQ (bI rfl (cW rfl .tup rfl q.isinstance (ae 3) rfl q.tuple boot_tuple) (λ_=>rfl))) (f9 (cx (zv rfl (aL hr)) (cz rfl rfl q.len (ae 3)) (aB rfl (fh (bc (n:=2) (af ak (af ak ao)) rfl)) (oo rfl q.int (cW rfl .str rfl q.isinstance (ae 4) rfl q.str tt)) (λ_ _=>rfl))))))
 (SF.bC lO λ_=>rfl)
 (SF.sN (oQ.t (jk (eQ (bI rfl (eC lH hr (af (ae 0) (af (aB rfl (aq (ae 3)) ak (λ_ _=>rfl)) ao))) (λ_=>rfl))) (f9 (eQ (bI rfl (cW rfl .str rfl q.isinstance (aB rfl (aq (ae 3)) ak (λ_ _=>rfl)) rfl q.str tt) (λ_=>rfl))))))
 (SF.bC lO λ_=>rfl)
 (sv 5 iY.nd (aB rfl (aq (aB rfl (aq (ae 3)) ak (λ_ _=>rfl))) (jI ak) (λ_ _=>rfl)) λly=>
 (SF.sN (bI rfl (cW rfl .str rfl q.isinstance (ae 4) rfl q.str tt) (λ_=>rfl))
 (SF.bC (kH (iu (c9 rfl (aL hr)) (aB rfl (aq (ae 3)) ak (λ_ _=>rfl)) d6) (kH (iu (c9 rfl (aL hr)) (aB rfl (aq (aB rfl (aq (ae 0)) (ae 5) (λ_ _=>rfl))) ak (λ_ _=>rfl)) (aM (n:=0) ao rfl)) (lN (iu (c9 rfl (aL hr)) (aB rfl (aq (aB rfl (aq (ae 0)) (ae 5) (λ_ _=>rfl))) ak (λ_ _=>rfl)) (ae 4))))) λ_=>rfl)
 (SF.sN (oQ.t (jk (eQ (bI rfl (eC gB hr (af (ae 0) (af (ae 1) (af (aB rfl (aq (ae 4)) ak (λ_ _=>rfl)) (af (aB rfl (aq (ae 3)) ak (λ_ _=>rfl)) ao))))) (λ_=>rfl))) (f9 (eQ (bI rfl (eC gB hr (af (ae 0) (af (ae 1) (af (aB rfl (aq (ae 4)) ak (λ_ _=>rfl)) (af (aB rfl (aq (ae 3)) ak (λ_ _=>rfl)) ao))))) (λ_=>rfl))))))
 (SF.bC lO λ_=>rfl)
 (SF.bC (JJ rfl (aL hr) (aM (n:=3) (af (aB rfl (aq (ae 3)) ak (λ_ _=>rfl)) (af (aB rfl (aq (aB rfl (aq (aB rfl (aq (ae 3)) ak (λ_ _=>rfl))) ak (λ_ _=>rfl))) ak (λ_ _=>rfl)) (af (aB rfl (aq (aB rfl (aq (aB rfl (aq (ae 3)) ak (λ_ _=>rfl))) ak (λ_ _=>rfl))) ak (λ_ _=>rfl)) ao))) rfl) (fh (lC gC hr (af (ae 0) (af (ae 5) ao))))) λ_=>rfl)))))))
abbrev jd:DF:=⟨"_law_is_way",top 67,["_law_stays","_law_small_here","_law_thing"],15,λK=>eF K [.v,.v,.v] (cv 3 df)⟩
def ux (D:DI v jd) (q:NB v) (bJ:d__law_nodes.C v) (gB:kr.C v):D.O:=
 Kr (m:=df) D k6 λav fH az _ _ _ _ _ _ hr=>
 (sl 3 k6.nd (lC bJ hr (af (ae 1) ao)) λjZ=>
 SF.cU 3 rfl (SF.bC (kH (eC gB hr (af (ae 0) (af (ae 3) (af (lM (cz rfl rfl q.len (ae 3)) ak) (af (ae 2) ao))))) (lN (iu (c9 rfl (aL hr)) (cz rfl rfl q.len (aB rfl (aq (ae 2)) ak (λ_ _=>rfl))) ak))) λ_=>rfl))
abbrev eD:DF:=⟨"_law_node_spoilt",top 68,["_law_pot_here","_law_stays","_law_way_here"],2,λK=>eF K [.p (fg eR),.v,.v] (cv 2 cm)⟩
def mZ (D:DI v eD) (q:NB v) (aE:d__law_take.C v):D.O:=
 pd (m:=cm) D bE λav aO _ _ _ _ _ _ hr=>
 (SF.par (i:=3) (j:=4) rfl bE.nd rfl rfl (by decide) rfl rfl (eC aE hr (bj 0 (af (cz rfl rfl q.len (aB rfl (aq (ae 2)) ak (λ_ _=>rfl))) ao))) (eC aE hr (bj 0 (af (cz rfl rfl q.len (ae 1)) ao))) λuM wz=>
 (sv 5 bE.nd (aB rfl (aq (ae 2)) ak (λ_ _=>rfl)) λbu=>
 (sl 6 bE.nd (bc (n:=3) (af (a7 rfl (a7 rfl (eY rfl (ae 5) cM (cR (ae 3))) (aM (n:=1) (af (ae 4) ao) rfl)) (eY rfl (ae 5) (cR (a7 rfl (ae 3) ak)) cM)) (af (a7 rfl (a7 rfl (eY rfl (ae 5) cM (cR (ae 3))) (aM (n:=1) (af (ae 4) ao) rfl)) (eY rfl (ae 5) (cR (ae 3)) cM)) (af (a7 rfl (eY rfl (ae 5) cM (cR (ae 3))) (eY rfl (ae 5) (cR (a7 rfl (ae 3) ak)) cM)) ao))) rfl) λIZ=>
 SF.cU 6 rfl (sl 6 bE.nd (vh rfl (wJ (ae 6)) (cB (bc (n:=4) (af (a7 rfl (ae 5) (aM (n:=1) (af (ae 4) ao) rfl)) (af (WB rfl (ae 5) cM cM (cR (jI ak))) (af (a7 rfl (a7 rfl (eY rfl (ae 5) cM (cR (ae 3))) (aM (n:=1) (af (aB rfl (aq (ae 5)) (ae 3) (λ_ _=>rfl)) ao) rfl)) (eY rfl (ae 5) (cR (ae 3)) cM)) (af (eY rfl (ae 5) cM (cR ak)) ao)))) rfl))) λyZ=>
 SF.cU 6 rfl (sv 7 bE.nd (eC aE hr (bj 0 (af ak ao))) λnF=>
 (SF.sN (cx nW (ae 7) ak)
 (SF.bC (a7 rfl (aM (n:=1) (af (aB rfl (aq (ae 6)) (ae 7) (λ_ _=>rfl)) ao) rfl) (eY rfl (ae 2) (cR ak) cM)) λ_=>rfl)
 (SF.sN (oQ.t (jk (cx nW (ae 7) ak) (f9 (cx (c9 rfl (aL hr)) (cz rfl rfl q.len (ae 2)) ak))))
 (SF.bC (a7 rfl (a7 rfl (eY rfl (ae 2) cM (cR ak)) (aM (n:=1) (af (aB rfl (fh (bc (n:=6) (af d6 (af d6 (af d6 (af d6 (af d6 (af d6 ao)))))) rfl)) (eC aE hr (bj 0 (af ak ao))) (λ_ _=>rfl)) ao) rfl)) (eY rfl (ae 2) (cR ak) cM)) λ_=>rfl)
 (SF.sN (cx (c9 rfl (aL hr)) (ae 7) ak)
 (SF.bC (a7 rfl (eY rfl (ae 2) cM (cR ak)) (aM (n:=2) (af (aB rfl (aq (ae 2)) ak (λ_ _=>rfl)) (af (aB rfl (aq (ae 2)) ak (λ_ _=>rfl)) ao)) rfl)) λ_=>rfl)
 (SF.bC (a7 rfl (eY rfl (ae 2) cM (cR ak)) (aM (n:=2) (af (aB rfl (aq (ae 2)) ak (λ_ _=>rfl)) (af (aB rfl (aq (ae 2)) ak (λ_ _=>rfl)) ao)) rfl)) λ_=>rfl)))))))))
abbrev jc:DF:=⟨"_law_spoilt",top 69,["_law_pot_here","_law_stays","_law_way_here","_law_other"],14,λK=>eF K [.p (fg eR),.v,.v,.v] (cv 3 (bt 12))⟩
theorem mD (D:DI v jc) (q:NB v) (aE:d__law_take.C v) (iq:eD.C v):∀n,gj v.P v.w v.K v.mg v.base mr (n+2) D.f D.fd ["_law_pot_here","_law_stays","_law_way_here","_law_other"] (eF v.K [.p (fg eR),.v,.v,.v] (cv 3 (bt n)))
 | 0=>Jy (Gy λl Q hl=>match l,hl with | [av,aO,mR],_=>λh=>h.elim)
 | n+1=>have fB:=D.cN (mD D q aE iq n)
  fnV (k:=n+2) (n:=3) (m:=bt (n+1)) D.fn kZ rfl (aH (n:=3)) λl hl=>match l,hl with | [av,aO,mR],_=>λ_ _ _ _ _ _ hr=>show SF _ _ _ [ap (.kK (fg eR)),ap (.val av),ap (.val aO),ap (.val mR),bv] _ (bt (n+1) av aO mR) _ from
 (sv 4 kZ.nd (eC aE hr (bj 0 (af ak ao))) λvW=>
 (SF.sN (cx (c9 rfl (aL hr)) (ae 4) ak)
 (SF.bC (ae 3) λ_=>rfl)
 (SF.sN (oQ.t (jk (cx (c9 rfl (aL hr)) (cz rfl rfl q.len (ae 2)) ak) (f9 (cx nW (ae 4) ak))))
 (SF.bC (eC iq hr (bj 0 (af (ae 1) (af (ae 2) ao)))) λ_=>rfl)
 (SF.sN (cx nW (ae 4) ak)
 (SF.bC (a7 rfl (eY rfl (ae 2) cM (cR ak)) (aM (n:=2) (af (eC fB hr (bj 0 (af (ae 1) (af (aB rfl (aq (ae 2)) ak (λ_ _=>rfl)) (af (ae 3) ao))))) (af (aB rfl (aq (ae 2)) ak (λ_ _=>rfl)) ao)) rfl)) λ_=>rfl)
 (SF.bC (a7 rfl (eY rfl (ae 2) cM (cR ak)) (aM (n:=1) (af (eC fB hr (bj 0 (af (ae 1) (af (aB rfl (aq (ae 2)) ak (λ_ _=>rfl)) (af (ae 3) ao))))) ao) rfl)) λ_=>rfl)))))
abbrev d_law:DF:=⟨"law",top 70,["_law_script"],18,λK=>eF K [.v] (cv 1 qQ)⟩
def k_law (D:DI v d_law) (q:NB v) (Hw:d__law_pot.C v) (xB:d__law_scene.C v) (kh:d__law_small.C v) (fu:d__law_whole_way.C v) (fB:jc.C v) (zD:d_is_way.C v) (mF:jd.C v):D.O:=
 mx (m:=qQ) D sc_law λfv _ _ _ _ _ _ hr=>
 (SF.Oc (hd:=(λ(s6:Unit)=>([ap (.val fv),bv,bv,bv,bv,bv,bv,bv,bv,bv,bv,bv]:bh))) (s0:=()) (inj:=id) AI rfl (eV rfl q.range (aan rfl rfl q.max ak (aam rfl rfl q.min (cz rfl rfl q.len (ae 0)) ak))) (.refl _) (dQ 1 sc_law.nd) (λ_=>trivial) (λs6 Ċ=>
 (sl 2 sc_law.nd (lC Hw hr (af (ae 0) (af (ae 1) ao))) λrT=>SF.kK 2 rfl
 (SF.UE (eC xB hr (bj 2 ao)) (g_4 rfl (gb rfl (aQ (dQ 3 sc_law.nd) (aQ (dQ 4 sc_law.nd) (aQ (dQ 5 sc_law.nd) (aQ (dQ 6 sc_law.nd) d8)))))) λnH=>
 (sl 7 sc_law.nd (bc (n:=2) (af (eC kh hr (bj 2 (af (ae 3) ao))) (af (ae 5) ao)) rfl) λjt=>
 SF.cU 7 rfl (SF.Oc (hd:=(λ(Mr:Unit)=>([ap (.val fv),ap (.val Ċ),ap (.kK (fg eR)),ap (.val nH.1),ap (.val nH.2.1),ap (.val nH.2.2.1),ap (.val nH.2.2.2),ap (.val (.cl jt)),bv,bv,bv,bv]:bh))) (s0:=()) (inj:=Lp.out) AI rfl (eV rfl q.range ak) (.refl _) (dQ 8 sc_law.nd) (λ_=>trivial) (λMr IC=>
 (sv 9 sc_law.nd (eC fu hr (bj 2 (af (ae 4) (af (aB rfl (aq (ae 7)) (mI (ae 8) ak) (λ_ _=>rfl)) ao)))) λy9=>
 (sv 10 sc_law.nd (eC fB hr (bj 2 (af (ae 4) (af (ae 6) (af (ae 9) ao))))) λrG=>
 (sv 11 sc_law.nd (eC zD hr (af (ae 4) (af (ae 5) (af (ae 10) ao)))) λvX=>
 (SF.V0 (oQ.t (jk (eQ (bI rfl (cW rfl .bool rfl q.isinstance (ae 11) rfl q.bool boot_bool) (λ_=>rfl))) (f9 (cx (zv rfl (aL hr)) (ae 11) (eC mF hr (af (ae 4) (af (ae 5) (af (ae 10) ao))))))))
 (SF.ret (k:=λUe=>(Lp.out Ue)) lO λ_=>rfl)
 (SF.gc rfl (.keep (.keep (.keep (.keep (.keep (.keep (.keep (.keep (.drop (.drop (.drop (.drop (.refl _))))))))))))))))))) λMr=>
 (SF.V0 (cx (zv rfl (aL hr)) (eC zD hr (af (ae 4) (af (aB rfl (aq (ae 7)) ak (λ_ _=>rfl)) (af (ae 6) ao)))) (eC mF hr (af (ae 4) (af (aB rfl (aq (ae 7)) ak (λ_ _=>rfl)) (af (ae 6) ao)))))
 (SF.ret (k:=λXU=>(Lp.out XU)) lO λ_=>rfl)
 (SF.gc rfl (.keep (.drop (.drop (.drop (.drop (.drop (.drop (.drop (.refl _)))))))))))))))) λs6=>
 (SF.bC lO λ_=>rfl))
end
def all_d {K:Ab}{mg:Str->Option bm}{h:lw} (X:K.In h) (G:h.Ns ev mg) (HH:DX K "is_whole" (top 1)) (OJ:DX K "is_row" (top 2)) (K8:DX K "is_word" (top 6)) (HI:DX K "is_grown" (top 7)) (K9:DX K "is_tree" (top 8)) (HE:DX K "parts_of" (top 9)) (Sa:DX K "nodes" (top 10)) (OL:DX K "halves" (top 11)) (HL:DX K "ahead_of" (top 12)) (HC:DX K "under_at" (top 17)) (zT:DX K "beside_at" (top 18)) (Lc:DX K "is_home" (top 19)) (K7:DX K "name_of" (top 20)) (HG:DX K "lines_up" (top 21)) (xP:DX K "apart_from" (top 22)) (OM:DX K "ground" (top 23)) (HK:DX K "comes_in" (top 29)) (Lg:DX K "done_at" (top 30)) (OK:DX K "ins_of" (top 31)) (zR:DX K "split_ins" (top 32)) (HF:DX K "over_ins" (top 33)) (HJ:DX K "deeds_at" (top 34)) (La:DX K "is_stay" (top 35)) (Lb:DX K "is_path" (top 36)) (zS:DX K "is_formed" (top 37)) (qx:DX K "ways_of_nodes" (top 38)) (Ld:DX K "is_done" (top 39)) (OI:DX K "is_way" (top 40)) (uG:DX K "split_dates" (top 42)) (HD:DX K "standing" (top 43)) (K6:DX K "stay_of" (top 44)) (Sb:DX K "dated" (top 45)) (HN:DX K "_law_pot" (top 47)) (zV:DX K "_law_take" (top 48)) (zW:DX K "_law_pick" (top 49)) (xQ:DX K "_law_words" (top 50)) (zU:DX K "_law_tree" (top 51)) (xV:DX K "_law_great" (top 52)) (xT:DX K "_law_nodes" (top 53)) (xX:DX K "_law_dates" (top 54)) (xR:DX K "_law_small" (top 55)) (oq:DX K "_law_any_ground" (top 56)) (xW:DX K "_law_deeds" (top 57)) (zY:DX K "_law_done" (top 58)) (HP:DX K "_law_can" (top 59)) (zX:DX K "_law_path" (top 60)) (HM:DX K "_law_way" (top 61)) (pJ:DX K "_law_whole_way" (top 62)) (xS:DX K "_law_scene" (top 63)) (tK:DX K "_law_is_stay" (top 64)) (tL:DX K "_law_is_path" (top 65)) (xU:DX K "_law_looks" (top 66)) (uI:DX K "_law_is_way" (top 67)) (m7:DX K "_law_node_spoilt" (top 68)) (uH:DX K "_law_spoilt" (top 69)) {gV:Tok} (cT:AG K ev "LONGEST_WORD"=ap (ap (.int 8 gV))) {oV:Tok} (gP:AG K ev "LETTERS"=ap (ap (.str "abcdefghijklmnopqrstuvwxyz" oV))) {wg:Tok} (oB:AG K ev "UNDER"=ap (ap (.int 2 wg))) {rJ:Tok} (lQ:AG K ev "BESIDE"=ap (ap (.int 3 rJ))) {Gs:Tok} (tR:AG K ev "NAME"=ap (ap (.int 0 Gs))) {wo:Tok} (oD:AG K ev "FOUND"=ap (ap (.str "found" wo))) {wj:Tok} (oC:AG K ev "SPLIT"=ap (ap (.str "split" wj))) {Gr:Tok} (tQ:AG K ev "OVER"=ap (ap (.str "over" Gr))) {oW:Tok} (jK:AG K ev "DOUBLED"=ap (ap (.str "doubled" oW))) (vQ:AG K ev "isinstance"=ap bv) (Ud:AG K ev "bool"=ap bv) (XO:AG K ev "int"=ap bv) (XN:AG K ev "len"=ap bv) (PJ:AG K ev "tuple"=ap bv) (XI:AG K ev "str"=ap bv) (XR:AG K ev "all"=ap bv) (Ub:AG K ev "list"=ap bv) (Ga:AG K ev "reversed"=ap bv) (yD:AG K ev "enumerate"=ap bv) (PK:AG K ev "range"=ap bv) (L0:AG K ev "sorted"=ap bv) (XH:AG K ev "zip"=ap bv) (Uc:AG K ev "dict"=ap bv) (XS:AG K ev "abs"=ap bv) (XQ:AG K ev "any"=ap bv) (XJ:AG K ev "min"=ap bv) (XM:AG K ev "max"=ap bv):aaN K mg d_law:=by
 constructor
 rintro v rfl rfl D;have q:NB v:=⟨AH X G vQ,AH X G Ud,AH X G XO,AH X G XN,AH X G PJ,AH X G XI,AH X G XR,AH X G Ub,AH X G Ga,AH X G yD,AH X G PK,AH X G L0,AH X G XH,AH X G Uc,AH X G XS,AH X G XQ,AH X G XJ,AH X G XM⟩;replace cT:=BH X G cT;replace gP:=BH X G gP;replace oB:=BH X G oB;replace lQ:=BH X G lQ;replace tR:=BH X G tR;replace oD:=BH X G oD;replace oC:=BH X G oC;replace tQ:=BH X G tQ;replace jK:=BH X G jK;obtain⟨gQ⟩:=K8.mk2 (d:=d_is_word) X G;refine HH.go (d:=d_is_whole) X G (λD=>k_is_whole D q) λIk=>?_;refine OJ.go (d:=d_is_row) X G (λD=>k_is_row D q) λF0=>?_;have LO:=gQ.cA (k_is_word gQ q cT gP);have XF:=gQ.c (k_is_word gQ q cT gP);obtain⟨tZ⟩:=HI.mk2 (d:=(d_is_grown gQ.f)) X G;have Il:=tZ.c (k_is_grown tZ LO F0);refine K9.go (d:=d_is_tree) X G (λD=>k_is_tree D gQ.at' Il) λLI=>?_;refine HE.go (d:=d_parts_of) X G (λD=>k_parts_of D q) λIh=>?_;refine Sa.go (d:=d_nodes) X G (λD=>k_nodes D q Ih) λq9=>?_;refine OL.go (d:=d_halves) X G (λD=>k_halves D q) λoI=>?_;refine HL.go (d:=d_ahead_of) X G (λD=>k_ahead_of D q q9 oI) λtU=>?_;refine HC.go (d:=d_under_at) X G (λD=>k_under_at D oB) λnk=>?_;refine zT.go (d:=d_beside_at) X G (λD=>k_beside_at D lQ) λF2=>?_;refine Lc.go (d:=d_is_home) X G (λD=>k_is_home D tR nk) λLL=>?_;refine K7.go (d:=d_name_of) X G (λD=>k_name_of D q) λvN=>?_;refine HG.go (d:=d_lines_up) X G (λD=>k_lines_up D q tU) λIj=>?_;refine xP.go (d:=d_apart_from) X G (λD=>k_apart_from D q) λyn=>?_;refine OM.go (d:=d_ground) X G (λD=>k_ground D q q9 Ij vN oI yn) λPk=>?_;refine HK.go (d:=d_comes_in) X G (λD=>k_comes_in D) λIo=>?_;refine Lg.go (d:=d_done_at) X G (λD=>k_done_at D) λLN=>?_;refine OK.go (d:=d_ins_of) X G (λD=>k_ins_of D q Io) λPj=>?_;refine zR.go (d:=d_split_ins) X G (λD=>k_split_ins D q nk) λFZ=>?_;refine HF.go (d:=d_over_ins) X G (λD=>k_over_ins D F2) λIi=>?_;refine HJ.go (d:=d_deeds_at) X G (λD=>k_deeds_at D q oD oC tQ jK LL FZ Ii) λIm=>?_;refine La.go (d:=d_is_stay) X G (λD=>k_is_stay D q Ik) λLJ=>?_;refine Lb.go (d:=d_is_path) X G (λD=>k_is_path D q LJ nk) λLK=>?_;refine zS.go (d:=d_is_formed) X G (λD=>k_is_formed D q LK F0) λF1=>?_;refine qx.go (d:=d_ways_of_nodes) X G (λD=>k_ways_of_nodes D q F1 oI) λqC=>?_;refine Ld.go (d:=d_is_done) X G (λD=>k_is_done D Pj Im LN) λLM=>?_;refine OI.go (d:=d_is_way) X G (λD=>k_is_way D q LI q9 qC LM) λPh=>?_;refine uG.go (d:=d_split_dates) X G (λD=>k_split_dates D q) λuO=>?_;refine HD.go (d:=d_standing) X G (λD=>k_standing D q tU) λIg=>?_;refine K6.go (d:=d_stay_of) X G (λD=>k_stay_of D q oI vN) λLH=>?_;refine Sb.go (d:=d_dated) X G (λD=>k_dated D q q9 uO Ig LH) λSG=>?_;refine HN.go (d:=d__law_pot) X G (λD=>k__law_pot D q) λIq=>?_;refine zV.go (d:=d__law_take) X G (λD=>k__law_take D) λbX=>?_;refine zW.go (d:=d__law_pick) X G (λD=>k__law_pick D q bX) λfY=>?_;refine xQ.go (d:=d__law_words) X G (λD=>k__law_words D q bX) λyo=>?_;refine zU.go (d:=d__law_tree) X G (λD=>k__law_tree D q bX) λpX=>?_;refine xV.go (d:=d__law_great) X G (λD=>k__law_great D q pX yo bX) λyr=>?_;refine xT.go (d:=d__law_nodes) X G (λD=>k__law_nodes D q 12) λgK=>?_;refine xX.go (d:=d__law_dates) X G (λD=>k__law_dates D q fY bX) λyt=>?_;refine xR.go (d:=d__law_small) X G (λD=>k__law_small D q gK bX pX fY) λoJ=>?_;refine oq.go (d:=d__law_any_ground) X G (λD=>k__law_any_ground D bX Pk SG yt gK) λoM=>?_;refine xW.go (d:=d__law_deeds) X G (λD=>k__law_deeds D q) λoK=>?_;refine zY.go (d:=d__law_done) X G (λD=>k__law_done D q oK) λiU=>?_;refine HP.go (d:=d__law_can) X G (λD=>k__law_can D q iU) λIr=>?_;refine zX.go (d:=d__law_path) X G (λD=>k__law_path D q bX iU fY) λF3=>?_;refine HM.go (d:=d__law_way) X G (λD=>k__law_way D fY iU F3 12) λIp=>?_;refine pJ.go (d:=d__law_whole_way) X G (λD=>k__law_whole_way D q gK Ir iU Ip fY) λjM=>?_;refine xS.go (d:=d__law_scene) X G (λD=>k__law_scene D yr oM oJ jM) λyp=>?_;refine tK.go (d:=iw) X G (λD=>sF D q) λtV=>?_;refine tL.go (d:=iy) X G (λD=>sG D q tV) λtW=>?_;refine xU.go (d:=kr) X G (λD=>nV D q tW oK 12) λyq=>?_;refine uI.go (d:=jd) X G (λD=>ux D q gK yq) λuQ=>?_;refine m7.go (d:=eD) X G (λD=>mZ D q bX) λnr=>?_;refine uH.go (d:=jc) X G (λD=>mD D q bX nr 12) λuP=>?_;exact k_law D q Iq yp oJ jM uP Ph uQ
def walk {l:EO}{q:f8}{Î:List Str}{XP:(Str->Option bm)->lw->Prop}{YP:lc->lw->Prop}{d:DefRec}{K:Params->Ab} (hn:l.most=ap 63) (ZX:d.params.defaults=[])
  (hY:∀(w:lc) (h:lw),YP w h->(K w.params).In h)
  (F:∀(w:lc) (mg:Str->Option bm) (fa:dL) (h:lw),(K w.params).In h->h.Ns ev mg->mg d.name=ap (.ref fa)->
   ∃fd:sw,(∀(s:ce) (u:bm),BindsTo s fd ⟨[u],[]⟩ [("_law_script",u)])/\∀base:lw,(K w.params).In base->base.Ns ev mg->gj l.prog w (K w.params) mg base mr 18 fa fd ["_law_script"] (IL (K w.params))) :
  PySem.W.WalkO q Î XP YP l.row.toRowW d [] (λf vs=>FN f vs):=
 L2.PQ (n:=63) (k:=18) (x:="_law_script") (CX:=λ_=>mr) (sp:=λw=>IL (K w.params)) hn (by decide) ZX ⟨rfl,by decide,by decide,rfl⟩ hY F (λ_ _ a ns hl hO hS=>⟨a,ns,rfl,hO,hS,hl,λ_=>rfl⟩) λ_ _ _ _ _ z=>z
end My
open PySem PySem.W PyProof.Rows
inductive PySem.W.Fast|tw284378923244943310|tw13591270136494252809|tw15474095176668808115|tw9005893264976804463|tw12223209363264437399|tw4032113873106021232|tw4835093713264191786|tw14677267696010612963|tw9045687356670884179|tw14990139335155584466|tw15583451269756680713|tw9396799314246713632|tw2425597235455749348|tw8874812445836861967|tw9860390074089790096|tw2517672206130348120|tw1679863146155564027|tw16306577234008766191|tw1314012685512941843|tw18202556924819813460|tw2550328934836951566|tw1495823068876207066|tw3844286898346740439|tw3661203833010193830|tw1455220451623179911|tw14200879081453131538|tw12840386092629168079|tw5104761421486498840|tw10385570986487972212|tw15963741127764848737|tw1110953015182562082|tw4628037460878709154|tw8688175679468795928|tw4713670297276028744|tw11948967962537756217|tw1217009452551254297|tw8578702069123567786|tw5088688460627712099|tw14860823521929763663|tw15121082666625914562|tw15574547617597373028|tw17029513704534707902|tw9572860492479568681|tw4013245338164604357|tw13481071701839951313|tw68110701526195418|tw3985627588546146730|tw534982293517514075|tw5354774402373126755|tw1684956607588749647|tw12201408857953418329|tw1463393831277433569|tw9421678287971265771|tw10388507912700516879|tw2711395298942734220|tw1015753130972998511|tw8375727473959194012|tw16503588004769350986|tw14078838996190868530|tw415145066246255611|tw14249984684902208188|tw8819434406791250918|tw13115764800880590965|tw1471193631294388195|tw17387876939322179221|tw16501656270593453194|tw17860927644572739785|tw6177607376050555537|tw10348569379154254705|tw1516442984133476170|tw14790081549153213426|tw9062972311927195298|tw15158234794458798783|tw15647125671778998646|tw3698482324047603176|tw1501108736433774491|tw18285845582563529391|tw8827413665693322147|tw15109518161261197375|tw16728247614008323694|tw8497906406232231572|tw14906638316996079322|tw2152525336812271078|tw9035140042748132265|tw1573499566589792391|tw17318800548806352387|tw2794125804525884912|tw82748021598641322|tw1351363238676062790|tw10781766274691505128|tw17977958215901833586|tw16696538579500911240|tw6376922048937369904|tw3466065982543893424|tw1555379711365345459|tw2251307424424680031|tw11332644186848583491|tw16162914984833831789|tw3920922561280907604|tw8810985078939963484
def PySem.W.Fast.tw16095739064554445692:=PySem.Challenge.pw_treewithin_k17_ways_spoilt
theorem PySem.W.Fast.te16095739064554445692:PySem.Challenge.pw_treewithin_k17_ways_spoilt=PySem.W.Fast.tw16095739064554445692:=rfl
set_option maxRecDepth 100000 in
set_option maxHeartbeats 0 in
theorem PySem.Challenge.cw_treewithin_k17_ways_spoilt_holds : PySem.Challenge.rw_treewithin_k17_ways_spoilt.Holds := by
 w_on;o_law;k_head;(case hw=>w_witness2)
 k_fill
 refine My.walk (l:=PySem.Challenge.rw_treewithin_k17_ways_spoilt) rfl rfl (fun w h Y=>PySem.W.kIn_of Y) ?F
 case F=>
  intro w mg fa h KX G hmg;refine' FL.mkAll (st:=My.top 70) (k:=18) My.law17_ok KX G hmg ?e (fun _ _ _ _ _ _=>FL.us1 fun _=>rfl) (My.all_d KX G ..)
  all_goals try first | (refine' FL.dx ?a ?l ?c ?k;(case a=>k_is);(case l=>k_is);(case c=>k_is);(case k=>k_is)) | k_is
#print axioms PySem.Challenge.cw_treewithin_k17_ways_spoilt_holds
