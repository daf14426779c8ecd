import PyProof.Rows.All
import Wide.All
import OpenK.AllK
import Wide.FinOn
import Lean
import PyProof.EqAt
import PyProof.EqKinds
import PyProof.TupleCall
import PyProof.NeKinds
import PyProof.FactsAll.tuple_2
import PyProof.FactsAll.str_0
import PyProof.FactsAll.str_1
import PyProof.FactsAll.str_2
import PyProof.FactsAll.str_3
import PyProof.Rows.MinMaxN
import PyProof.Rows.SumAny
import PyProof.Rows.SetFrom
import PyProof.ReprRoads
import PyProof.Rows.StrKeys3
import PyProof.CallFns
import KE.KSortTup
import KE.KDictSum
import PySem.Challenge.RW_treewithin_k21_little_ways_put_together
local macro_rules | `(tactic| omega) => `(tactic| lia)
open PySem renaming wpAny_bind -> Aa, wpAny_pure -> Af, wpAny_callSpecial?_slot -> AR, wpAny_field -> AZ, Value -> A5, wpAny_holding -> A6, wpAny_call_entry -> A9, wpAny_newObj_type -> Bb, wpAny_setField_rec -> Be, wpAny_truthy_bool -> Bw, wpAny_seqItems -> Bx, wpAny_Call_Name_kw -> BC, Addr -> BG, wpAny_mono -> BH, mem_of_lookup -> BJ, wpAny_typeNameOfWhole_keyiter -> BQ, Str -> BU, Expr -> BW, wpAny_passesOwn -> Ca, wpAny_typeOf -> Ce, wpAny_typeNameOf_keyiter -> Cg, Pos -> Cj, wpAny_of_eq -> Cp, wpAny_rule -> CD, wpAny_newTuple -> CF, wpAny_attempt -> CP, wpAny_pyIter_list -> C2, wpAny_pyIter_enum -> C3, wpAny_isInstance -> Dh, wpAny_standAt -> Dm, wpAny_updateSeq_pair -> Ds, wpAny_letGo -> Du, wpAny_updateSeq -> Dz, wpAny_specialOf -> DA, wpAny_execs_nil -> DB, Shared -> DM, wpAny_setField -> DY, wpAny_pyIter_tuple -> DZ, wpAny_letOwnedTupleGo_enum -> D1, wpAny_sequenceKey -> D9, wpAny_dictEntries -> Ea, wpAny_onRaise -> Ee, wpAny_comprehension_free -> Ef, wpAny_dictEpoch -> EG, wpAny_listPart -> ET, Heap -> Ff, Obj -> Fu, call -> FA
open PySem.W renaming Frag -> Ab, nsIn -> AD, mg_none_of -> AI, kia_one -> A8, kitOne -> Bq, mg_of -> BF, fnOf -> BP, KasT -> DK, keepIn -> DR, codeIn -> DS, methodObj -> D5, kitx_list -> D6, kitx_dict -> D7, cellsFrom_some -> Ep, kas_rev -> EB, instObj -> EC, OpenLaw -> ED, lookIn -> EO, findIn -> ER, kitx_tuple -> Fc, plainGet -> Fo, kat_cons -> Fp, kas_sort -> Fq
open List renaming length_append -> Ad, getElem?_eq_getElem -> Ae, size_toArray -> Ai, length_map -> Aj, getElem?_map -> Ak, replicate -> Al, getElem?_eq_some_iff -> Am, length_cons -> An, getD_eq_getElem?_getD -> Ar, map_cons -> Au, mem_map -> Av, getElem?_append_right -> AA, mem_append_right -> AB, range -> AE, mem_cons -> AG, map_map -> AL, mem_cons_of_mem -> AM, mem_range -> AO, getElem?_append_left -> AV, append_assoc -> AW, mem_singleton -> AX, map_append -> AY, length_nil -> A1, mem_filter -> A3, getElem?_eq_none -> A4, mem_append -> Ba, idxOf_lt_length_of_mem -> Bg, length_replicate -> Bi, not_mem_nil -> Bk, lookup_cons -> Bl, drop_eq_getElem_cons -> Bo, mem_cons_self -> Br, replicate_succ -> Bu, filterMap_cons -> Bv, find?_cons -> BA, mem_append_left -> BD, getElem?_replicate -> BE, length_set -> BK, pairwise_iff_getElem -> BL, length_filter_le -> BM, mem_of_getElem? -> BR, getElem?_set_ne -> BS, flatten_cons -> BV, forIn_cons -> BX, getElem?_range -> B1, flatMap_append -> B2, length -> B4, any_cons -> B5, append_nil -> Cb, ext_getElem? -> Cf, length_take -> Cn, all_eq_true -> Co, eq_nil_of_length_eq_zero -> Cq, take_of_length_le -> Cs, getElem?_set_self -> Ct, length_range -> CA, mergeSort_perm -> CJ, map_congr_left -> CK, length_reverse -> CM, reverse_cons -> C5, range_succ_eq_map -> C6, pairwise_lt_range -> C7, nodup_append -> C8, replicate_append_replicate -> C9, length_singleton -> Dc, length_drop -> Dj, getElem_mem -> Dk, filter_cons -> Dl, getElem_toArray -> Dv, nodup_cons -> DE, getElem_of_mem -> DH, pairwise_cons -> D3, pairwise_map -> Eb, length_erase_of_mem -> Eg, pairwise_mergeSort -> Ek, mem_flatMap -> El, drop_length -> Em, map_nil -> Eu, length_pos_of_mem -> Ew, filter_eq_nil_iff -> Ex, drop_eq_nil_of_le -> Ey, of_mem_zip -> EH, nil_append -> EI, map_const' -> EJ, getElem?_toArray -> EL, filterMap_append -> EM, take_succ -> EX, nodup_nil -> EY, getElem?_of_mem -> EZ, reverse_append -> E6, map_eq_nil_iff -> E7, length_pos_iff -> E8, all_cons -> Fb, map_set -> Fm, map -> FC
open Bool renaming false_eq_true -> Ag, and_eq_true -> Aw, false_ne_true -> AQ, not_true -> AU, true_and -> Bs, and_false -> CG, and_true -> CS, eq_iff_iff -> CT, not_false -> E1, false_and -> E2
open PySem.Heap renaming get?_push_of_some -> Ah, get?_push_size -> Ap, lt_size -> Aq, SameBut -> B3, get?_update_self -> Cv, size_push -> CC, get?_update_other -> CZ, size_update -> Eh, get?_update_ne -> E5, ExtBut -> Fw
open Nat renaming le_refl -> Ao, ne_of_lt -> Ay, lt_of_lt_of_le -> Az, zero_add -> AJ, lt_irrefl -> A2, add_assoc -> A7, zero_le -> Bn, le_trans -> Bp, le_add_right -> Bt, add_sub_cancel_left -> Cm, le_of_ble_eq_true -> Cy, lt_or_ge -> C4, lt_succ_self -> Di, strongRecOn -> DC, le_of_lt -> DN, eq_or_lt_of_le -> D2, mul_le_mul -> EU, le_succ -> EW, succ_mul -> Fi, sub_zero -> Fj
open PySem.Value renaming ref -> Ax, none -> AN, type -> Cr, bool -> CB, str -> DP, int -> DQ
open PySem.PassesOwn renaming never -> AH
open Int renaming toNat_natCast -> Bc, emod_lt_of_pos -> BO, emod_nonneg -> BZ, le_refl -> CW, eq_ofNat_of_zero_le -> En, zero_add -> Ez
open PySem.NameKind renaming free -> Bd, cell -> E9
open PyProof.Rows renaming callWith_type1 -> Bf, slot_tuple_getitem -> Bh
open PySem.Obj renaming mapSeq -> Bj, data_mapFields -> CU, isFreed_of_fields -> EK
open False renaming elim -> Bm
open PySem.F renaming slot_dict_keyiterator_next -> Bz, slot_tuple_iterator_next -> B7, plainAttrs_list -> Ci, slot_enumerate_next -> Cw, args_tuple_add_2 -> CN, slot_list_getattribute -> CO, entry_tuple_add -> CV, slot_tuple_add -> C1, args_dict_keyiterator_next_1 -> Df, entry_dict_keyiterator_next -> Dn, args_list_extend_2 -> Dp, slot_zip_next -> Dw, args_tuple_iterator_next_1 -> Dx, entry_list_extend -> DG, entry_tuple_iterator_next -> DL, slot_list_extend -> DV, args_enumerate_next_1 -> Ei, entry_enumerate_next -> Er
open Ne renaming symm -> BI
open PySem.AutoSeq1 renaming wpAny_loadPart' -> BN, sub_tuple_tuple -> Dg, sub_tuple_list -> Dq, sub_list_tuple -> Dr, sub_list_list -> Dy, idx_int -> Et
open True renaming intro -> B6
open PySem.Calls renaming spliced_cons -> B8, spliced_nil -> Cz, Name_function_global -> DW, callWith_builtin -> Es
open Or renaming inr -> B9, inl -> Ck
open ForInStep renaming yield -> Cc
open PySem.Str renaming ofString -> Cd, length_append -> CY
open Option renaming map_some -> Cu, getD_none -> Ej, isSome_map -> Fh
open And renaming right -> CH
open Array renaming getElem?_eq_getElem -> CI, length_toList -> DJ, perm_iff_toList_perm -> D4, size_append -> Ec, toList_inj -> Eo, getElem?_eq_none -> EA, getElem?_toList -> EN
open PySem.SeqAt renaming EqAt -> De
open PySem.SeqAt.RcNeAt renaming lists_lengths -> DT, lists -> Fd
open PySem.SeqAt.EqAt renaming int_int -> DU, of_refs -> Fe, same -> Fx
open PySem.EqBoolInt renaming of_rcne -> D8, of_rc -> EE
open PySem.SeqAt.RcAt renaming lists_lengths -> Ed, tuples -> Fg, lists -> Fs
open PySem.Data renaming seq -> ES
open Sum renaming inr -> E3, inl -> E4
open PySem.IsL renaming isList -> Ft
open PyProof.Rows.IsTup renaming new -> Fv
open PySem.Flow renaming ret -> Fy
open PySem.Fin renaming done -> Fz
set_option compiler.extract_closed false
set_option Elab.async false
set_option linter.all false
set_option maxRecDepth 100000
set_option maxHeartbeats 1000000
open Option renaming some→ap,none→bn
open PyProof.Rows renaming boot_str→r9,seqObj→tt,IntsAre→wE,envOfC→Db,AllBare→Gc
open PySem renaming Value→ce,Addr→cr,Shared→db,wpAny→ev,model→f8,mainGlobals→ga,starEach→gl,Expr→im,compareOp→kw,eval→lc,swapsWith→lm,tupleKind→lw,Heap→mo,behindInMarks→nn,bootBuiltins→nw,Scope→o0,cLine→pc,binaryOp→re,Stmt→sn,attributeBase→ss,holding→sw,Program→sB,sysModules→sK,sliceBounds→tz,rawInt→t0,World→ul,IntMulOk→u8,call_meets→wf,assignEach→wn,setField→wv,NameKind→ww,Builtin→wP,Around→wS,assign→xz,PassesOwn→xL,swapsWithSole→zn,swappedStores→BT,setItem→Ch,tupleKind_room_in1→Da,builtinsNs→Ev,FuncData→EQ,storedH→Fa,getItem→Fk,typeLookup→FB,codeAny→FM,backTo→FS,letOwnedTupleGo→GE
local macro_rules | `(∅)=>`(by omega)
local macro_rules | `(⋯)=>`(by decide)
open PySem PySem.Spec PyProof.Rows
abbrev O.{u}(α:Type u):=List α
namespace L2
end L2
namespace My
end My
namespace PL
end PL
namespace FL
end FL
open L2 My PL FL
namespace L2
abbrev Key:=Sum Int Str
def ux:Key->ce->Bool
 | .inl k,v=>Value.isInt k v
 | .inr x,v=>Value.isStrOf x v
def acn(w:ul):Key->Int
 | .inl k=>hashInt k
 | .inr x=>hashStr w x
def bO:∀{k:Key}{v:ce},ux k v=true->(∃i t,k=E4 i/\v=DQ i t)\/(∃x t,k=E3 x/\v=DP x t)
 | .inl i,v,h=>by
  obtain⟨t,e⟩:=Value.isInt_shape (k:=i) (v:=v) h;exact .inl ⟨i,t,rfl,e⟩
 | .inr x,v,h=>by
  obtain⟨t,e⟩:=Value.isStrOf_shape (x:=x) (v:=v) h;exact .inr ⟨x,t,rfl,e⟩
def J5(i:Int)(t:Tok):ux (.inl i) (.int i t)=true:=by simp[ux,Value.isInt]
def J4(x:Str)(t:Tok):ux (.inr x) (.str x t)=true:=by simp[ux,Value.isStrOf]
def VB(a b:Int):decide ((E4 a:Key)=E4 b)=(a==b):=by
 by_cases e:a=b
 ·subst e;simp
 ·have h:¬(E4 a:Key)=E4 b:=λq=>e (E4.inj q);rw[decide_eq_false h];exact(beq_eq_false_iff_ne.mpr e).symm
def Vy(a b:Str):decide ((E3 a:Key)=E3 b)=decide (a=b):=by
 by_cases e:a=b
 ·subst e;simp
 ·have h:¬(E3 a:Key)=E3 b:=λq=>e (E3.inj q);rw[decide_eq_false h,decide_eq_false e]
def VA(a:Int)(b:Str):decide ((E4 a:Key)=E3 b)=false:=decide_eq_false (λq=>nomatch q)
def Vz(a:Str)(b:Int):decide ((E3 a:Key)=E4 b)=false:=decide_eq_false (λq=>nomatch q)
def bG(prog:sB)(w:ul):PySem.KeyKind prog w Key where
 is:=ux
 hash:=acn w
 inj:=λv a b ha hb=>by
  rcases bO ha with⟨i,t,rfl,rfl⟩ | ⟨x,t,rfl,rfl⟩
  ·rcases bO hb with⟨j,u,rfl,e⟩ | ⟨y,u,rfl,e⟩
   ·injection e with e1 _;rw[e1]
   ·exact nomatch e
  ·rcases bO hb with⟨j,u,rfl,e⟩ | ⟨y,u,rfl,e⟩
   ·exact nomatch e
   ·injection e with e1 _;rw[e1]
 byValue:=λk v h=>by
  rcases bO h with⟨i,t,rfl,rfl⟩ | ⟨x,t,rfl,rfl⟩ <;> rfl
 pyHash:=λhv h=>by
  rcases bO hv with⟨i,t,rfl,rfl⟩ | ⟨x,t,rfl,rfl⟩
  ·exact wpAny_pyHash_int h
  ·exact wpAny_pyHash_str h
 eqBool:=λhu hv h=>by
  rcases bO hu with⟨i,t,rfl,rfl⟩ | ⟨x,t,rfl,rfl⟩
  ·rcases bO hv with⟨j,u,rfl,rfl⟩ | ⟨y,u,rfl,rfl⟩
   ·rw[VB]at h;exact wpAny_eqBool_int h
   ·rw[VA]at h;exact De.int_str i t y u _ _ _ _ h
  ·rcases bO hv with⟨j,u,rfl,rfl⟩ | ⟨y,u,rfl,rfl⟩
   ·rw[Vz]at h;exact De.str_int x t j u _ _ _ _ h
   ·rw[Vy]at h;exact wpAny_eqBool_str h
 «strs»:=λk x t v h=>by
  rcases bO h with⟨i,u,rfl,e⟩ | ⟨y,u,rfl,e⟩
  ·exact nomatch e
  ·injection e with e1 _;subst e1;cases v <;> rfl
def yC(prog:sB)(w:ul)(i:Int)(t:Tok):(bG prog w).is (.inl i) (.int i t)=true:=J5 i t
def yB(prog:sB)(w:ul)(x:Str)(t:Tok):(bG prog w).is (.inr x) (.str x t)=true:=J4 x t
end L2
variable{us:O A5}{u:A5}{κ α β:Type}{a b e:BG}{P:PySem.Program}{w:PySem.World}{h h':Ff}{ob:Fu}
namespace L2
inductive V where
 | aN | bl (b:Bool) | int (i:Int) | str (x:Str) | Wz (b:Array UInt8) | Xi (b:UInt64) | ref (a:cr) | ty (n:String)
 deriving DecidableEq
def RelV:V->ce->Prop
 | .aN,u=>u=AN
 | .bl b,u=>u=CB b
 | .int i,u=>∃t,u=DQ i t
 | .str x,u=>∃t,u=DP x t
 | .Wz b,u=>∃t,u=Value.bytes b t
 | .Xi b,u=>∃t,u=Value.float b t
 | .ref a,u=>u=Ax a
 | .ty n,u=>u=Cr n
abbrev Vals:O V->O ce->Prop:=Paired RelV
def Vals.length{xs:O V}(r:Vals xs us):xs.length=us.length:=Paired.length r
theorem Vals.get:∀{xs:O V}{us:O ce}{i:Nat}{x:V},Vals xs us->xs[i]?=ap x->∃u,us[i]?=ap u/\RelV x u
 | _,_,_,_,.nil,e=>by simp at e
 | _,_,0,_,.cons r _,e=>by simp at e;subst e;exact⟨_,rfl,r⟩
 | _,_,i+1,x,.cons _ t,e=>by
  obtain⟨u,h1,h2⟩:=Vals.get (i:=i) (x:=x) t (by simpa using e);exact⟨u,by simpa using h1,h2⟩
theorem Vals.set{x:V}(r:RelV x u):∀{xs:O V}{us:O ce} (i:Nat),Vals xs us->Vals (xs.set i x) (us.set i u)
 | _,_,_,.nil=>.nil
 | _,_,0,.cons _ t=>.cons r t
 | _,_,i+1,.cons q t=>.cons q (Vals.set r i t)
theorem Vals.append:∀{xs ys:O V}{us ws:O ce},Vals xs us->Vals ys ws->Vals (xs++ys) (us++ws)
 | _,_,_,_,.nil,s=>s
 | _,_,_,_,.cons r t,s=>.cons r (Vals.append t s)
theorem Vals.take:∀{xs:O V}{us:O ce} (n:Nat),Vals xs us->Vals (xs.take n) (us.take n)
 | _,_,0,_=>.nil
 | _,_,_+1,.nil=>.nil
 | _,_,n+1,.cons r t=>.cons r (Vals.take n t)
theorem Vals.drop:∀{xs:O V}{us:O ce} (n:Nat),Vals xs us->Vals (xs.drop n) (us.drop n)
 | _,_,0,r=>r
 | _,_,_+1,.nil=>.nil
 | _,_,n+1,.cons _ t=>Vals.drop n t
def sN:Option V->Option ce->Prop
 | some v,ap u=>RelV v u
 | none,bn=>True
 | _,_=>False
def KV:O (κ×V)->O (κ×ce)->Prop:=Paired λ(p:κ×V) (q:κ×ce)=>p.1=q.1/\RelV p.2 q.2
def kV:Key->V
 | .inl i=>.int i
 | .inr x=>.str x
inductive HO where
 | lst (xs:List V)
 | tup (xs:List V)
 | dK (kvs:List (Key×V)) | dT (kvs:List (List Key×V))
 | set (S:Int->Bool) (n:Nat)
 | ins (C dx:cr) (fs:List (Str×V))
 | own (x:cr)
 | xd (fs:List (Str×V))
 | met (f x:cr)
 | rng (lo hi:Int)
 | cz (o:Obj) (u:HO)
 | LW (ps:Array ce)
 | ext (φ:mo->Prop)
abbrev Hp:=cr->Option HO
def upd(H:Hp)(a:cr)(o:HO):Hp:=λb=>if b=a then ap o else H b
def aO{H:Hp}{o:HO}:upd H a o a=ap o:=by unfold upd;rw[if_pos rfl]
def au{H:Hp}{o:HO}(h:b≠a):upd H a o b=H b:=by unfold upd;rw[if_neg h]
def IE{H:Hp}{o u:HO}(h:H a=ap o)(h':H b=ap u)(d:o≠u):a≠b:=by
 intro e;subst e;rw[h]at h';exact d (Option.some.inj h')
def bt{H:Hp}{o:HO}(h:H a=ap o)(h':H b=bn):a≠b:=by
 intro e;subst e;rw[h]at h';cases h'
section
variable(P:sB)(w:ul)
def aY(H:Hp)(h:mo)(a:cr):HO->Prop
 | .lst xs=>xs.length<=sizeLine/\∃(ar:O ce) (n:Nat),Vals xs ar/\h.get? a=ap {cls:=.type "list",data:=.seq ar.toArray n}
 | .tup xs=>xs.length<=sizeLine/\∃ar:O ce,Vals xs ar/\IsTup h a ar.toArray
 | .dK kvs=>kvs.length<=sizeLine/\(a==sK)=false/\∃vs,KV kvs vs/\h.DictOf (bG P w) a vs
 | .dT kvs=>kvs.length<=sizeLine/\(a==sK)=false/\∃xs:O (O Key×cr×ce),
   Paired (λ(p:O Key×V) (q:O Key×cr×ce)=>p.1=q.1/\H q.2.1=ap (.tup (p.1.map kV))/\RelV p.2 q.2.2) kvs xs/\
   ∃o es ep,h.get? a=ap o/\o.ExactDict/\o.data=.dict es ep/\es.toList=xs.map (entryOfKey (lw (bG P w)))/\(xs.map (·.1)).Nodup
 | .set S n=>h.SetOf (intKind P w) a S n
 | .ins C dx fs=>H dx=ap (.own a)/\fs.length<=1000/\dx≠a/\h.get? a=ap (EC C dx)/\
   ∃mA,h.Ns1 dx mA/\(∀f,sN (fs.lookup f) (mA f))/\PySem.Within mA (fs.map (·.1))
 | .own _=>∃o,h.get? a=ap o
 | .xd fs=>∃mA,h.Ns1 a mA/\∀f,sN (fs.lookup f) (mA f)
 | .rng lo hi=>∃t u v,h.get? a=ap {cls:=.type "range",data:=.fields #[.int lo t,.int hi u,.int 1 v]}
 | .cz o u=>h.get? a=ap o/\aY H h a u
 | .LW ps=>h.get? a=ap {cls:=.none,data:=.fields ps}
 | .met f x=>h.get? a=ap (D5 (.ref f) (.ref x))
 | .ext φ=>φ h/\(∃o,h.get? a=ap o)/\∀h1 h2:mo,φ h1->(∀o,h1.get? a=ap o->h2.get? a=ap o)->φ h2
def kj(H:Hp)(h:mo):Prop:=∀a o,H a=ap o->aY P w H h a o
end
section
variable{H H':Hp}{o:HO}
def aY.lt(x:aY P w H h a o):a < h.objs.size:=by
 cases o with
 | lst xs=>obtain⟨_,_,_,_,e⟩:=x;exact Aq e
 | tup xs=>obtain⟨_,_,_,p⟩:=x;exact p.lt
 | dK kvs=>obtain⟨_,_,_,_,o,_,_,e,_⟩:=x;exact Aq e
 | dT kvs=>obtain⟨_,_,_,_,o,_,_,e,_⟩:=x;exact Aq e
 | set S n=>obtain⟨o,_,_,_,e,_⟩:=x;exact Aq e
 | ins C dx fs=>obtain⟨_,_,_,e,_⟩:=x;exact Aq e
 | own y=>obtain⟨_,e⟩:=x;exact Aq e
 | xd fs=>obtain⟨_,⟨_,_,_,e,_⟩,_⟩:=x;exact Aq e
 | rng lo hi=>obtain⟨_,_,_,e⟩:=x;exact Aq e
 | cz ob u=>obtain⟨e,_⟩:=x;exact Aq e
 | LW ps=>exact Aq (show h.get? a=ap _ from x)
 | met f y=>exact Aq (show h.get? a=ap _ from x)
 | ext φ=>obtain⟨_,⟨_,e⟩,_⟩:=x;exact Aq e
theorem Paired.Vm{F G:α->β->Prop}:∀{l₁:List α}{l₂:List β},Paired F l₁ l₂->(∀a b,F a b->G a b)->Paired G l₁ l₂
 | _,_,.nil,_=>.nil
 | _,_,.cons r t,f=>.cons (f _ _ r) (Paired.Vm t f)
def aY.vi(x:aY P w H h a o)(k:∀b u,(b=a\/H b=ap (.own a))->h.get? b=ap u->h'.get? b=ap u)
  (ho:∀b,H b=ap (.own a)->H' b=ap (.own a)) (ht:∀b xs,H b=ap (.tup xs)->H' b=ap (.tup xs)):aY P w H' h' a o:=by
 induction o with
 | lst xs=>obtain⟨z,ar,n,r,e⟩:=x;exact⟨z,ar,n,r,k _ _ (.inl rfl) e⟩
 | tup xs=>obtain⟨z,ar,r,ob,e,c⟩:=x;exact⟨z,ar,r,ob,k _ _ (.inl rfl) e,c⟩
 | dK kvs=>obtain⟨z,y,vs,r,ob,es,ep,e,c⟩:=x;exact⟨z,y,vs,r,ob,es,ep,k _ _ (.inl rfl) e,c⟩
 | dT kvs=>
  obtain⟨z,y,xs,r,ob,es,ep,e,c⟩:=x;exact⟨z,y,xs,Paired.Vm r λp q z=>⟨z.1,ht _ _ z.2.1,z.2.2⟩,ob,es,ep,k _ _ (.inl rfl) e,c⟩
 | set S n=>obtain⟨ob,es,ep,t,e,c⟩:=x;exact⟨ob,es,ep,t,k _ _ (.inl rfl) e,c⟩
 | ins C dx fs=>
  obtain⟨d,z,ne,e,mA,⟨od,es,ep,e2,c⟩,r⟩:=x;exact⟨ho _ d,z,ne,k _ _ (.inl rfl) e,mA,⟨od,es,ep,k _ _ (.inr d) e2,c⟩,r⟩
 | own y=>obtain⟨ob,e⟩:=x;exact⟨ob,k _ _ (.inl rfl) e⟩
 | xd fs=>obtain⟨mA,⟨od,es,ep,e,c⟩,r⟩:=x;exact⟨mA,⟨od,es,ep,k _ _ (.inl rfl) e,c⟩,r⟩
 | rng lo hi=>obtain⟨t,u,v,e⟩:=x;exact⟨t,u,v,k _ _ (.inl rfl) e⟩
 | cz ob u ih=>obtain⟨e,q⟩:=x;exact⟨k _ _ (.inl rfl) e,ih q⟩
 | LW ps=>
  have e:h.get? a=ap {cls:=.none,data:=.fields ps}:=x;show h'.get? a=ap {cls:=.none,data:=.fields ps};exact k a _ (.inl rfl) e
 | met f y=>
  have e:h.get? a=ap (D5 (.ref f) (.ref y)):=x;show h'.get? a=ap (D5 (.ref f) (.ref y));exact k a _ (.inl rfl) e
 | ext φ=>obtain⟨p,⟨o,e⟩,st⟩:=x;exact⟨st _ _ p λo q=>k _ _ (.inl rfl) q,⟨o,k _ _ (.inl rfl) e⟩,st⟩
def kj.lt(x:kj P w H h)(e:H a=ap o):a < h.objs.size:=(x a o e).lt
def kj.fresh(x:kj P w H h)(e:h.objs.size<=a):H a=bn:=by
 cases q:H a with
 | none=>rfl
 | some u=>exact absurd (Az (x.lt q) e) (A2 _)
def kj.kept(x:kj P w H h)(k:∀b u,h.get? b=ap u->h'.get? b=ap u):kj P w H h':=λa o e=>
 (x a o e).vi (λb u _ q=>k b u q) (λ_ q=>q) λ_ _ q=>q
def kj.laid(x:kj P w H h)(k:∀b u,h.get? b=ap u->h'.get? b=ap u)(hp:h.objs.size<=a)(new:aY P w (upd H a o) h' a o):kj P w (upd H a o) h':=λb u e=>by
 have hn:=x.fresh hp;by_cases hb:b=a
 ·subst hb;rw[aO]at e;cases e;exact new
 ·rw[au hb]at e;exact(x b u e).vi (λc v _ q=>k c v q) (λc q=>by rw[au (bt q hn)];exact q) λc xs q=>by rw[au (bt q hn)];exact q
end
def Rd(H:Hp)(a:cr)(u:HO):Prop:=H a=ap u\/∃o,H a=ap (.cz o u)
def Rd.ok{H:Hp}{u:HO}(r:Rd H a u)(x:kj P w H h):aY P w H h a u:=by
 rcases r with r | ⟨o,r⟩
 ·exact x a u r
 ·obtain⟨_,q⟩:=x a _ r;exact q
def Z8:Option HO->Prop
 | some (.lst _)=>True
 | some (.dK _)=>True
 | some (.dT _)=>True
 | some (.set _ _)=>True
 | some (.ins _ _ _)=>True
 | some (.ext _)=>True
 | _=>False
section
variable{H:Hp}{x:cr}{o':HO}
def kj.write(ok:kj P w H h)(mu:Z8 (H x))(he:e=x\/H e=ap (.own x))(k:∀b u,b≠e->h.get? b=ap u->h'.get? b=ap u)(Xb:∃u,h'.get? e=ap u)
  (new:aY P w (upd H x o') h' x o'):kj P w (upd H x o') h':=λb u q=>by
 have QR:∀c y,H c=ap (.own y)->c≠x:=λc y r z=>by subst z;rw[r]at mu;exact mu
 have ab6:∀c xs,H c=ap (.tup xs)->c≠x:=λc xs r z=>by subst z;rw[r]at mu;exact mu
 by_cases hb:b=x
 ·subst hb;rw[aO]at q;cases q;exact new
 ·rw[au hb]at q;by_cases VY:b=e
  ·have q':H b=ap (.own x):=by
    rcases he with z | z
    ·exact absurd (VY.trans z) hb
    ·rw[VY];exact z
   rw[q]at q';cases q';obtain⟨v,hv⟩:=Xb;exact⟨v,by rw[VY];exact hv⟩
  ·refine(ok b u q).vi (λc v hc r=>k c v ?_ r) (λc r=>by rw[au (QR c b r)];exact r) λc xs r=>by rw[au (ab6 c xs r)];exact r
   rcases hc with rfl | hc
   ·exact VY
   ·rintro rfl;rcases he with z | z
    ·exact QR c b hc z
    ·rw[hc]at z;cases z;exact hb rfl
end
structure Un(fs ex:List cr)(H H':Hp)(h h':mo):Prop where
 keep:∀b o,h.get? b=ap o->H b=bn->b∉fs->b∉ex->h'.get? b=ap o
 slot:∀b o,h.get? b=ap o->H b=bn->b∈fs->b∉ex->∃sl,h'.get? b=ap {o with slots:=sl}
 free:∀b o,h.get? b=ap o->H b=bn->b∉ex->H' b=bn
 there:∀b o,h.get? b=ap o->b∉ex->∃o',h'.get? b=ap o'
 dc:∀b xs,H b=ap (.tup xs)->H' b=ap (.tup xs)
 rJ:∀b o u,H b=ap (.cz o u)->H' b=ap (.cz o u)
 vf:∀b ps,H b=ap (.LW ps)->∃more,H' b=ap (.LW (ps++more))
section
variable{fs ex:O cr}{H H1:Hp}{h1:mo}{x:cr}{o:HO}
def Un.any(u:Un fs ex H H1 h h1)(q:h.get? b=ap ob)(n:H b=bn)(hx:b∉ex):∃sl,h1.get? b=ap {ob with slots:=sl}:=by
 by_cases hb:b∈fs
 ·exact u.slot b ob q n hb hx
 ·exact⟨ob.slots,u.keep b ob q n hb hx⟩
def Un.kept(k:∀b u,h.get? b=ap u->h'.get? b=ap u):Un fs ex H H h h':=
 ⟨λb ob q _ _ _=>k b ob q,λb ob q _ _ _=>⟨ob.slots,k b ob q⟩,λ_ _ _ n _=>n,λb ob q _=>⟨ob,k b ob q⟩,λ_ _ q=>q,λ_ _ _ q=>q,λ_ ps q=>⟨#[],by rw[q];simp⟩⟩
def Un.refl:Un fs ex H H h h:=Un.kept λ_ _ q=>q
def Un.laid(k:∀b u,h.get? b=ap u->h'.get? b=ap u)(hp:h.objs.size<=a)(hn:H a=bn):Un fs ex H (upd H a o) h h' where
 keep:=λb u q _ _ _=>k b u q
 slot:=λb u q _ _ _=>⟨u.slots,k b u q⟩
 free:=λb u q n _=>by rw[au (Ay (Az (Aq q) hp))];exact n
 there:=λb u q _=>⟨u,k b u q⟩
 dc:=λb xs q=>by rw[au (bt q hn)];exact q
 rJ:=λb u xs q=>by rw[au (bt q hn)];exact q
 vf:=λb ps q=>⟨#[],by rw[au (bt q hn),q];simp⟩
def Un.write(mu:Z8 (H x))(he:e=x\/H e=ap (.own x))(k:∀b u,b≠e->h.get? b=ap u->h'.get? b=ap u)(Xb:∃u,h'.get? e=ap u):Un fs ex H (upd H x o) h h':=by
 have hx:∀b,H b=bn->b≠x:=λb n z=>by subst z;rw[n]at mu;exact mu
 have hb:∀b,H b=bn->b≠e:=λb n z=>by
  subst z;rcases he with r | r
  ·exact hx b n r
  ·rw[n]at r;cases r
 have hm:∀b u,H b=ap u->¬Z8 (ap u)->b≠x:=λb u q nm z=>by subst z;rw[q]at mu;exact nm mu
 refine⟨λb u q n _ _=>k b u (hb b n) q,λb u q n _ _=>⟨u.slots,k b u (hb b n) q⟩,λb u q n _=>by rw[au (hx b n)];exact n,λb u q _=>?_,
  λb xs q=>by rw[au (hm b _ q λz=>z)];exact q,λb u xs q=>by rw[au (hm b _ q λz=>z)];exact q,λb ps q=>⟨#[],by rw[au (hm b _ q λz=>z),q];simp⟩⟩
 by_cases VY:b=e
 ·subst VY;exact Xb
 ·exact⟨u,k b u VY q⟩
end
def trk(h:mo)(H:Hp):O cr:=(AE h.objs.size).filter λa=>(H a).isSome
def wI(h:mo)(H:Hp):mo:=PySem.W.hideAll h (trk h H)
def Kp(h:mo)(H:Hp):(wI h H).objs.size=h.objs.size:=PySem.W.hideAll_size _ _
def NG{H:Hp}{o:Obj}(e:h.get? b=ap o)(n:H b=bn):(wI h H).get? b=ap o:=
 PySem.W.hideAll_get _ e λhm=>by
  have q:=(A3.mp hm).2;rw[n]at q;simp at q
def QK{H:Hp}{o:Obj}(e:(wI h H).get? b=ap o):h.get? b=ap o/\H b=bn:=by
 have e':=PySem.W.of_hideAll (trk h H) e;refine⟨e',?_⟩;cases q:H b with
 | none=>rfl
 | some x=>
  have hm:b∈trk h H:=A3.mpr ⟨AO.mpr (Aq e'),by simp[q]⟩;have z:(wI h H).get? b=bn:=PySem.W.hideAll_none (trk h H) hm;rw[z]at e;cases e
def Si(g h:mo)(L:cr):O (cr×Obj):=(AE h.objs.size).filterMap λa=>if a=L\/(g.get? a).isSome=true then bn else (h.get? a).map λo=>(a,o)
def rest(g h:mo)(L d:cr):O (cr×Obj):=(Si g h L).filter λp=>decide (p.1≠d)
end L2
variable{H H':L2.Hp}{o:Fu}{Z:O (BG×Fu)}{s s':DM}{g':Array PySem.GenState}{ch:O BG}{it:BG}{i j:Nat}{M:PySem.Model}{A:PySem.Around}{E:A5->DM->Prop}{v:L2.V}{Q:Unit->DM->Prop}
namespace L2
structure Mod(K:Ab)(mg:Str->Option ce)(base:mo):Prop where
 kin:K.In base
 glob:base.Ns ga mg
 blt:∃mb,base.Ns Ev mb/\∀x:Str,x≠"__name__"->mb x=nw x
 nolimit:base.NoLimit
 bm:∃bm ob,mg "__builtins__"=ap (.ref bm)/\bm≠Ev/\base.get? bm=ap ob/\ob.cls=.type "module"/\ob.dict=ap Ev/\ob.data=.plain
structure Cx where
 prog:sB
 w:ul
 K:Ab
 mg:Str->Option ce
 base:mo
 A:wS
 N:List Str
 s₀:db
 H₀:Hp
 env:Env
 outer:List Env
 stack:List Env
 ex:List cr
 fn:Str->Bool
 calm:Bool
 pn:List (cr×Obj)
 xe:ce->db->Prop
abbrev ir(x:Str):Prop:=(x==("__debug__":Str))=false
abbrev zS(x:Str):Prop:=(x==("__classdict__":Str))=false
abbrev gV(X:Cx)(e:im)(es:O im):Prop:=gl (e::es) X.env=(false,lc e X.env)::gl es X.env
abbrev mr(X:Cx)(p:Pos)(es:O im):Prop:=(FS p (gl es X.env)).any (·.1)=false
abbrev u9(X:Cx)(e:im):Prop:=∀x,foldedSetIterable e X.env x=pure x
abbrev HWa(X:Cx)(p:Pos)(l:O im):Prop:=((FS p (gl l X.env)).all (λx=>!x.1)&&(backToKw p (keywordEach [] X.env)).all (λx=>x.1.isSome)&&decide (l.length+([]:O Keyword).length+(if ([]:O Keyword).isEmpty then 0 else 1) < 30))=true
abbrev TY(p q:Pos):Prop:=(p.endLine==q.line)=true
abbrev O1(X:Cx)(y:Str):Prop:=X.fn y=true\/X.env.scope.names.lookup y=ap .local
def LA(l:O Env):O cr:=l.filterMap (·.frame)
abbrev Cx.fs(X:Cx):O cr:=LA X.outer
def xH(sc:o0)(x:Str):Prop:=sc.names.lookup x=ap .local\/sc.names.lookup x=ap .cell\/sc.names.lookup x=ap .free
def Loc(sc:o0)(x:Str):Prop:=sc.names.lookup x=ap .local\/sc.names.lookup x=ap .cell
def Look(env:Env)(h:mo)(m:Str->Option ce)(x:Str)(u:ce):Prop:=
 (env.kindOf x=ap .local/\m x=ap u)\/((env.kindOf x=ap .cell\/env.kindOf x=ap .free)/\∃c,env.cells.lookup x=ap c/\h.IsCell c (ap u))
structure Cx.Ok(X:Cx):Prop where
 mod:Mod X.K X.mg X.base
 kind:X.env.scope.kind=.function
 glob:X.env.globals=ga
 blt:X.env.builtins=Ev
 above:X.s₀.heap.objs.size<=X.env.locals
 inj:∀x y c,X.env.cells.lookup x=ap c->X.env.cells.lookup y=ap c->x=y
 has:∀x,(X.env.kindOf x=ap .cell\/X.env.kindOf x=ap .free)->∃c,X.env.cells.lookup x=ap c
 Z2:∀x c,X.fn x=true->X.env.cells.lookup x=ap c->X.s₀.heap.objs.size<=c
 hd:X.calm=true->X.A.handled=bn
 frames:X.A.frames=ap X.stack
 stk:X.stack=X.outer\/(X.stack=X.env::X.outer/\X.env.frame=ap X.env.locals)
 exf:∀b∈X.ex,b≠X.env.locals/\∀x c,X.env.cells.lookup x=ap c->c≠b
 bs:∀b o,X.base.get? b=ap o->X.s₀.heap.get? b=ap o/\X.H₀ b=bn
 TX:X.base.objs.size<=X.s₀.heap.objs.size
 MR:∀b o,X.base.get? b=ap o->b∉X.ex
 N2:∀b∈X.ex,b∉X.fs
 rH:X.s₀.heap.FunFrames X.base X.outer
 Xf:∀b∈X.fs,X.H₀ b=bn
structure Inv(X:Cx)(Z:List (cr×Obj))(σ:List (Option V))(H:Hp)(s:db):Prop where
 ok:X.Ok
 os:s.os=X.s₀.os
 bare:Gc s.gens
 base:Un X.fs X.ex X.H₀ H X.s₀.heap s.heap
 loc:∃m,s.heap.Ns X.env.locals m/\∀(i:Nat) (x:Str) (v:V),X.N[i]?=ap x->σ[i]?=ap (ap v)->xH X.env.scope x->∃u,RelV v u/\Look X.env s.heap m x u
 cell:∀x c,X.env.cells.lookup x=ap c->∃v,s.heap.IsCell c v
 free:H X.env.locals=bn
 jy:∀x c,X.env.cells.lookup x=ap c->H c=bn
 pin:∀p∈X.pn++Z,s.heap.get? p.1=ap p.2/\H p.1=bn/\p.1≠X.env.locals/\p.1∉X.fs/\∀v,p.2.data≠.cell v
 bj:kj X.prog X.w H s.heap
 len:σ.length=X.N.length
section
variable{X:Cx}{σ:O (Option V)}
def Cx.Ok.ab8(ok:X.Ok)(e:X.base.get? b=ap o):b∉X.fs:=λhb=>by
 have:=(ok.rH.mem hb).1;rw[e]at this;cases this
def Inv.bs(I:Inv X Z σ H s):∀b o,X.base.get? b=ap o->s.heap.get? b=ap o/\H b=bn:=λb o e=>
 ⟨I.base.keep b o (I.ok.bs b o e).1 (I.ok.bs b o e).2 (I.ok.ab8 e) (I.ok.MR b o e),I.base.free b o (I.ok.bs b o e).1 (I.ok.bs b o e).2 (I.ok.MR b o e)⟩
def Inv.bk(I:Inv X Z σ H s):∀b o,X.base.get? b=ap o->s.heap.get? b=ap o:=λb o e=>(I.bs b o e).1
def Inv.mod(I:Inv X Z σ H s):Mod X.K X.mg X.base:=I.ok.mod
def Inv.tJ(I:Inv X Z σ H s):X.K.In s.heap:=I.ok.mod.kin.keeps I.bk
def Inv.lt(I:Inv X Z σ H s):X.env.locals < s.heap.objs.size:=let ⟨_,hn,_⟩:=I.loc;hn.lt
def Inv.sz(I:Inv X Z σ H s):X.s₀.heap.objs.size<=s.heap.objs.size:=Bp I.ok.above (DN I.lt)
def Inv.ab7(I:Inv X Z σ H s)(h:s.heap.objs.size<=a):a∉X.fs:=λhb=>by
 obtain⟨_,o,ho,_⟩:=I.ok.rH.mem hb;exact absurd (Az (Aq ho) (Bp I.sz h)) (A2 _)
def Inv.Ww(I:Inv X Z σ H s):∀x c,X.env.cells.lookup x=ap c->c≠X.env.locals:=λx c e z=>by
 obtain⟨v,o,ho,hd⟩:=I.cell x c e;obtain⟨m,⟨o',es,ep,NC,ę,_⟩,_⟩:=I.loc;rw[z,NC]at ho;cases ho;rw[ę]at hd;cases hd
def Inv.rH(I:Inv X Z σ H s):s.heap.FunFrames X.base X.outer:=by
 have all:∀(l:O Env),(∀b∈LA l,b∈X.fs)->X.s₀.heap.FunFrames X.base l->s.heap.FunFrames X.base l:=by
  intro l
  induction l with
  | nil=>intro _ _;trivial
  | cons env r ih=>
   intro hs hl;obtain⟨hk,⟨L,o,hf,hn,ho,hd⟩,hr⟩:=hl;have hL:=hs L (by unfold LA;rw[Bv,hf];exact Br);obtain⟨sl,e⟩:=I.base.slot L o ho (I.ok.Xf L hL) hL λz=>I.ok.N2 L z hL;exact⟨hk,⟨L,_,hf,hn,e,hd⟩,ih (λb hb=>hs b (by unfold LA;rw[Bv,hf];exact AM _ hb)) hr⟩
 exact all X.outer (λ_ hb=>hb) I.ok.rH
def Inv.stack(I:Inv X Z σ H s):s.heap.FunFrames X.base X.stack:=by
 rcases I.ok.stk with e | ⟨e,hf⟩
 ·rw[e];exact I.rH
 ·rw[e];obtain⟨m,hn,_⟩:=I.loc;refine .cons (by rw[I.ok.kind];decide) hf hn ?_ I.rH;exact Heap.get?_none_of_le (Bp I.ok.TX I.ok.above)
def Inv.FR(I:Inv X Z σ H s):∀b∈LA X.stack,b∈X.env.locals::X.fs:=λb hb=>by
 rcases I.ok.stk with e | ⟨e,hf⟩
 ·rw[e]at hb;exact AM _ hb
 ·rw[e]at hb;unfold LA at hb;rw[Bv,hf]at hb;exact hb
def Inv.H9(I:Inv X Z σ H s):∀b∈LA X.stack,H b=bn:=λb hb=>by
 rcases AG.mp (I.FR b hb) with e | hb
 ·rw[e];exact I.free
 ·obtain⟨_,o,ho,_⟩:=I.ok.rH.mem hb;exact I.base.free b o ho (I.ok.Xf b hb) λz=>I.ok.N2 b z hb
def Inv.step{t':Nat}{d':Drawn}(I:Inv X Z σ H s)
  (Pc:∀b∈ch,(b∈X.ex\/X.s₀.heap.objs.size<=b)/\b≠X.env.locals/\(∀x c,X.env.cells.lookup x=ap c->c≠b)/\∀p∈X.pn++Z,p.1≠b)
  (keep:∀b o,b≠X.env.locals->b∉X.fs->b∉ch->s.heap.get? b=ap o->H b=bn->h'.get? b=ap o)
  (slot:∀b o,b≠X.env.locals->b∈X.fs->b∉ch->s.heap.get? b=ap o->H b=bn->∃sl,h'.get? b=ap {o with slots:=sl}) (free:∀b o,b∉ch->s.heap.get? b=ap o->H b=bn->H' b=bn)
  (there:∀b o,b∉ch->s.heap.get? b=ap o->∃o',h'.get? b=ap o')
  (dc:∀b xs,H b=ap (.tup xs)->H' b=ap (.tup xs)) (rJ:∀b o u,H b=ap (.cz o u)->H' b=ap (.cz o u)) (vf:∀b ps,H b=ap (.LW ps)->∃more,H' b=ap (.LW (ps++more)))
  (ns:∀m,s.heap.Ns X.env.locals m->h'.Ns X.env.locals m) (bj:kj X.prog X.w H' h') (hg:Gc g') :
  Inv X Z σ H' {s with heap:=h',gens:=g',drawn:=d',toks:=t'}:=by
 have neL:∀b o,X.s₀.heap.get? b=ap o->b≠X.env.locals:=λb o e=>Ay (Az (Aq e) I.ok.above);have ê:∀b o,X.s₀.heap.get? b=ap o->b∉X.ex->b∉ch:=λb o e hx hb=>by
  rcases (Pc b hb).1 with z | z
  ·exact hx z
  ·exact absurd (Az (Aq e) z) (A2 _)
 have Û:∀x c,X.env.cells.lookup x=ap c->∀v,s.heap.IsCell c v->h'.IsCell c v:=λx c e v ⟨o,ho,hd⟩=>by
  have YN:c∉ch:=λz=>(Pc c z).2.2.1 x c e rfl;by_cases hc:c∈X.fs
  ·obtain⟨sl,q⟩:=slot c o (I.Ww x c e) hc YN ho (I.jy x c e);exact⟨_,q,hd⟩
  ·exact⟨o,keep c o (I.Ww x c e) hc YN ho (I.jy x c e),hd⟩
 refine⟨I.ok,I.os,hg,⟨λb o e n hb hx=>?_,λb o e n hb hx=>?_,λb o e n hx=>?_,λb o e hx=>?_,λb xs e=>dc b xs (I.base.dc b xs e),λb o xs e=>rJ b o xs (I.base.rJ b o xs e),λb ps e=>?_⟩,?_,λx c e=>?_,?_,λx c e=>?_,λp hp=>?_,bj,I.len⟩
 ·exact keep b o (neL b o e) hb (ê b o e hx) (I.base.keep b o e n hb hx) (I.base.free b o e n hx)
 ·obtain⟨sl,e1⟩:=I.base.slot b o e n hb hx;obtain⟨sl',e2⟩:=slot b _ (neL b o e) hb (ê b o e hx) e1 (I.base.free b o e n hx);exact⟨sl',e2⟩
 ·obtain⟨o',e1⟩:=I.base.there b o e hx;exact free b o' (ê b o e hx) e1 (I.base.free b o e n hx)
 ·obtain⟨o',e1⟩:=I.base.there b o e hx;exact there b o' (ê b o e hx) e1
 ·obtain⟨m1,e1⟩:=I.base.vf b ps e;obtain⟨m2,e2⟩:=vf b _ e1;exact⟨m1++m2,by rw[e2,Array.append_assoc]⟩
 ·obtain⟨m,hn,hl⟩:=I.loc;refine⟨m,ns m hn,λi x v e1 e2 e3=>?_⟩;obtain⟨u,r,l⟩:=hl i x v e1 e2 e3;refine⟨u,r,?_⟩;rcases l with l | ⟨k,c,e,z⟩
  ·exact .inl l
  ·exact .inr ⟨k,c,e,Û x c e _ z⟩
 ·obtain⟨v,z⟩:=I.cell x c e;exact⟨v,Û x c e v z⟩
 ·obtain⟨m,⟨o,_,_,ho,_⟩,_⟩:=I.loc;exact free _ o (λz=>(Pc _ z).2.1 rfl) ho I.free
 ·obtain⟨v,o,ho,hd⟩:=I.cell x c e;exact free c o (λz=>(Pc c z).2.2.1 x c e rfl) ho (I.jy x c e)
 ·obtain⟨e,n,ne,nf,d⟩:=I.pin p hp;have YN:p.1∉ch:=λz=>(Pc p.1 z).2.2.2 p hp rfl;exact⟨keep p.1 p.2 ne nf YN e n,free p.1 p.2 YN e n,ne,nf,d⟩
def Inv.un{t':Nat}(I:Inv X Z σ H s)(u:Un X.fs [] H H' s.heap h')(bj:kj X.prog X.w H' h'):Inv X Z σ H' {s with heap:=h',toks:=t'}:=by
 obtain⟨m,⟨o,es,ep,ho,r⟩,_⟩:=id I.loc;obtain⟨sl,hL⟩:=u.any ho I.free (by simp);exact I.step (g':=s.gens) (d':=s.drawn) (ch:=[]) (λ_ z=>nomatch z) (λb o _ hb _ e n=>u.keep b o e n hb (by simp)) (λb o _ hb _ e n=>u.slot b o e n hb (by simp)) (λb o _ e n=>u.free b o e n (by simp)) (λb o _ e=>u.there b o e (by simp)) u.dc u.rJ u.vf (λm' hm=>by
  obtain⟨o',ö,ø,NC,r'⟩:=hm;rw[ho]at NC;cases NC;exact⟨_,ö,ø,hL,r'⟩) bj I.bare
def Inv.call{t':Nat}{d':Drawn}(I:Inv X Z σ H s)(u:Un (LA X.stack) ch H H' s.heap h')(bj:kj X.prog X.w H' h')(hg:Gc g')
  (Pc:∀b∈ch,(b∈X.ex\/X.s₀.heap.objs.size<=b)/\b≠X.env.locals/\(∀x c,X.env.cells.lookup x=ap c->c≠b)/\∀p∈X.pn++Z,p.1≠b) :
  Inv X Z σ H' {s with heap:=h',gens:=g',drawn:=d',toks:=t'}:=by
 obtain⟨m,⟨o,es,ep,ho,r⟩,_⟩:=id I.loc;obtain⟨sl,hL⟩:=u.any ho I.free λz=>(Pc _ z).2.1 rfl;exact I.step (ch:=ch) Pc (λb o hL hb hc e n=>u.keep b o e n (λz=>(AG.mp (I.FR b z)).elim hL hb) hc) (λb o _ _ hc e n=>u.any e n hc) (λb o hc e n=>u.free b o e n hc) (λb o hc e=>u.there b o e hc) u.dc u.rJ u.vf (λm' hm=>by
  obtain⟨o',ö,ø,NC,r'⟩:=hm;rw[ho]at NC;cases NC;exact⟨_,ö,ø,hL,r'⟩) bj hg
def Inv.turned{t':Nat}(I:Inv X Z σ H s)(k:∀b o,b≠it->s.heap.get? b=ap o->h'.get? b=ap o)(hn:H it=bn)(hL:it≠X.env.locals)
  (h1:it∈X.ex\/X.s₀.heap.objs.size<=it) (h2:∀x c,X.env.cells.lookup x=ap c->c≠it) (h3:∀p∈X.pn++Z,p.1≠it):Inv X Z σ H {s with heap:=h',toks:=t'}:=by
 have S1:∀b u,H b=ap u->b≠it:=λb u e z=>by rw[z,hn]at e;cases e
 refine I.step (g':=s.gens) (d':=s.drawn) (ch:=[it]) (λb hb=>?_) (λb o _ _ hc e _=>k b o (λz=>hc (by simp[z])) e) (λb o _ _ hc e _=>⟨o.slots,k b o (λz=>hc (by simp[z])) e⟩) (λ_ _ _ _ n=>n)
  (λb o hc e=>⟨o,k b o (λz=>hc (by simp[z])) e⟩) (λ_ _ e=>e) (λ_ _ _ e=>e) (λb ps e=>⟨#[],by rw[e];simp⟩) (λm hm=>?_) (λb u e=>?_) I.bare
 ·have e:b=it:=by simpa using hb
  subst e;exact⟨h1,hL,h2,h3⟩
 ·obtain⟨o,es,ep,ho,r⟩:=hm;exact⟨o,es,ep,k _ o (BI hL) ho,r⟩
 ·refine(I.bj b u e).vi (λc v hc q=>k c v ?_ q) (λ_ q=>q) λ_ _ q=>q;rcases hc with z | z
  ·rw[z];exact S1 b u e
  ·exact S1 c _ z
def Inv.tok(I:Inv X Z σ H s)(t:Nat):Inv X Z σ H {s with toks:=t}:=I.un (h':=s.heap) (t':=t) Un.refl I.bj
def Inv.kept{t':Nat}(I:Inv X Z σ H s)(k:∀b u,s.heap.get? b=ap u->h'.get? b=ap u):Inv X Z σ H {s with heap:=h',toks:=t'}:=I.un (Un.kept k) (I.bj.kept k)
def Inv.laid{o:HO}{t':Nat}(I:Inv X Z σ H s)(k:∀b u,s.heap.get? b=ap u->h'.get? b=ap u)(hp:s.heap.objs.size<=a)(new:aY X.prog X.w (upd H a o) h' a o) :
  Inv X Z σ (upd H a o) {s with heap:=h',toks:=t'}:=I.un (Un.laid k hp (I.bj.fresh hp)) (I.bj.laid k hp new)
def Inv.write{x:cr}{o:HO}{t':Nat}(I:Inv X Z σ H s)(mu:Z8 (H x))(he:e=x\/H e=ap (.own x))(k:∀b u,b≠e->s.heap.get? b=ap u->h'.get? b=ap u)(Xb:∃u,h'.get? e=ap u)
  (new:aY X.prog X.w (upd H x o) h' x o):Inv X Z σ (upd H x o) {s with heap:=h',toks:=t'}:=I.un (Un.write mu he k Xb) (I.bj.write mu he k Xb new)
def Inv.Iq{ym:O (cr×Obj)}(I:Inv X Z σ H s)(h:∀p∈ym,s.heap.get? p.1=ap p.2/\H p.1=bn/\p.1≠X.env.locals/\p.1∉X.fs/\∀v,p.2.data≠.cell v):Inv X ym σ H s:=
 ⟨I.ok,I.os,I.bare,I.base,I.loc,I.cell,I.free,I.jy,λp hp=>(Ba.mp hp).elim (λz=>I.pin p (BD _ z)) (h p),I.bj,I.len⟩
def yx{N:O Str}(hN:N.Nodup){x:Str}(a:N[i]?=ap x)(b:N[j]?=ap x):i=j:=by
 obtain⟨h1,e1⟩:=Am.mp a;obtain⟨h2,e2⟩:=Am.mp b;exact(List.getElem_inj hN).mp (e1.trans e2.symm)
def uh{x:Str}(I:Inv X Z σ H s)(hN:X.N.Nodup)(hi:X.N[i]?=ap x)(hx:Loc X.env.scope x)(r:RelV v u)
  (h:∀s',Inv X Z (σ.set i (ap v)) H s'->(∃a,B3 a s.heap s'.heap/\(a=X.env.locals\/X.env.cells.lookup x=ap a))->Q () s') (hf:O1 X x:=by first | exact .inl rfl | exact .inr rfl | assumption):ev M A (storeName X.env x u) Q E s:=by
 obtain⟨m,hn,hl⟩:=id I.loc;have acY:(X.env.scope.kind==.class||(X.env.scope.kind==.module&&X.env.locals != X.env.globals))=false:=by rw[I.ok.kind];rfl
 have Zi:i < σ.length:=by rw[I.len];exact(Am.mp hi).1
 have Ww:=I.Ww;have Ð:∀{a:cr}{h':mo},(∃o,s.heap.get? a=ap o/\H a=bn)->B3 a s.heap h'->kj X.prog X.w H h':=λ{a h'} ha hs b ob e=>by
  obtain⟨_,_,Ts⟩:=ha;refine(I.bj b ob e).vi (λc w' hc q=>(hs.2 c ?_).trans q) (λ_ q=>q) λ_ _ q=>q;rintro rfl;rcases hc with rfl | hc
  ·rw[Ts]at e;cases e
  ·rw[Ts]at hc;cases hc
 rcases hx with hk | hk
 ·refine wpAny_storeName_local hk hn (λh' hn' hs=>?_) acY;obtain⟨oL,_,_,ñ,_⟩:=id hn;refine h _ ⟨I.ok,I.os,I.bare,⟨λb o e n hb hx=>?_,λb o e n hb hx=>?_,I.base.free,λb o e hx=>?_,I.base.dc,I.base.rJ,I.base.vf⟩,⟨_,hn',λj y v' e1 e2 e3=>?_⟩,λy c e=>?_,I.free,I.jy,λp hp=>?_,Ð ⟨oL,ñ,I.free⟩ hs,by simpa using I.len⟩ ⟨_,hs,.inl rfl⟩
  ·exact(hs.2 b (Ay (Az (Aq e) I.ok.above))).trans (I.base.keep b o e n hb hx)
  ·obtain⟨sl,e1⟩:=I.base.slot b o e n hb hx;exact⟨sl,(hs.2 b (Ay (Az (Aq e) I.ok.above))).trans e1⟩
  ·obtain⟨o',e1⟩:=I.base.there b o e hx;exact⟨o',(hs.2 b (Ay (Az (Aq e) I.ok.above))).trans e1⟩
  ·by_cases hj:j=i
   ·subst hj;rw[hi]at e1;cases e1;rw[Ct Zi]at e2;cases e2;exact⟨u,r,.inl ⟨hk,by simp⟩⟩
   ·rw[BS (BI hj)]at e2;obtain⟨u',r',q⟩:=hl j y v' e1 e2 e3;refine⟨u',r',?_⟩;rcases q with⟨k,e⟩ | ⟨k,c,e,z⟩
    ·refine .inl ⟨k,?_⟩;have:y≠x:=λe=>hj (yx hN e1 (e▸hi));simp[this,e]
    ·exact .inr ⟨k,c,e,z.sameBut hs (Ww y c e)⟩
  ·obtain⟨w',z⟩:=I.cell y c e;exact⟨w',z.sameBut hs (Ww y c e)⟩
  ·obtain⟨e,n,ne,nf,d⟩:=I.pin p hp;exact⟨(hs.2 p.1 ne).trans e,n,ne,nf,d⟩
 ·have Zo:X.fn x=true:=by
   rcases hf with z | z
   ·exact z
   ·rw[z]at hk;cases hk
  obtain⟨c,hc⟩:=I.ok.has x (.inl hk);obtain⟨w',z⟩:=I.cell x c hc;refine wpAny_storeName_cell I.ok.kind hk hc z (λh' Pd hs=>?_);obtain⟨oc,hoc,acL⟩:=id z;refine h {s with heap:=h'} ⟨I.ok,I.os,I.bare,⟨λb o e n hb hx=>?_,λb o e n hb hx=>?_,I.base.free,λb o e hx=>?_,I.base.dc,I.base.rJ,I.base.vf⟩,⟨m,hn.sameBut hs (BI (Ww x c hc)),λj y v' e1 e2 e3=>?_⟩,λy c' e=>?_,I.free,I.jy,λp hp=>?_,Ð ⟨oc,hoc,I.jy x c hc⟩ hs,by simpa using I.len⟩ ⟨c,hs,.inr hc⟩
  ·exact(hs.2 b (Ay (Az (Aq e) (I.ok.Z2 x c Zo hc)))).trans (I.base.keep b o e n hb hx)
  ·obtain⟨sl,e1⟩:=I.base.slot b o e n hb hx;exact⟨sl,(hs.2 b (Ay (Az (Aq e) (I.ok.Z2 x c Zo hc)))).trans e1⟩
  ·obtain⟨o',e1⟩:=I.base.there b o e hx;exact⟨o',(hs.2 b (Ay (Az (Aq e) (I.ok.Z2 x c Zo hc)))).trans e1⟩
  ·by_cases hj:j=i
   ·subst hj;rw[hi]at e1;cases e1;rw[Ct Zi]at e2;cases e2;exact⟨u,r,.inr ⟨.inl hk,c,hc,Pd⟩⟩
   ·rw[BS (BI hj)]at e2;obtain⟨u',r',q⟩:=hl j y v' e1 e2 e3;refine⟨u',r',?_⟩;rcases q with q | ⟨k,c',e,z'⟩
    ·exact .inl q
    ·refine .inr ⟨k,c',e,z'.sameBut hs ?_⟩;rintro rfl;exact hj (yx hN e1 (I.ok.inj _ _ _ e hc▸hi))
  ·by_cases hcc:c'=c
   ·subst hcc;exact⟨_,Pd⟩
   ·obtain⟨w2,z2⟩:=I.cell y c' e;exact⟨w2,z2.sameBut hs hcc⟩
  ·obtain⟨e,n,ne,nf,d⟩:=I.pin p hp;refine⟨(hs.2 p.1 ?_).trans e,n,ne,nf,d⟩;intro q;rw[q,hoc]at e;have q':oc=p.2:=Option.some.inj e;exact d w' (by rw[<- q'];exact acL)
def mC{x:Str}(I:Inv X Z σ H s)(hN:X.N.Nodup)(hi:X.N[i]?=ap x)(hx:Loc X.env.scope x)(r:RelV v u)
  (h:∀s',Inv X Z (σ.set i (ap v)) H s'->Q () s') (hf:O1 X x:=by first | exact .inl rfl | exact .inr rfl | assumption):ev M A (storeName X.env x u) Q E s:=
 uh I hN hi hx r (λs' I' _=>h s' I') hf
def Inv.Z1(I:Inv X Z σ H s)(ho:s'.os=s.os)(u:Un (LA X.stack) ch H H' s.heap s'.heap)(bj:kj X.prog X.w H' s'.heap)(hg:Gc s'.gens)
  (Pc:∀b∈ch,(b∈X.ex\/X.s₀.heap.objs.size<=b)/\b≠X.env.locals/\(∀x c,X.env.cells.lookup x=ap c->c≠b)/\∀p∈X.pn++Z,p.1≠b):Inv X Z σ H' s':=by
 obtain⟨h',g',d',t',o'⟩:=s';have e:o'=s.os:=ho;subst e;exact I.call (g':=g') (t':=t') (d':=d') u bj hg Pc
end
abbrev XK:=ce->Option cr->Hp->Prop
abbrev St:=O (Option V)
abbrev VK:=V->Hp->Prop
abbrev TE:=St->Hp->VK->Prop
abbrev TT:=St->Hp->(Bool->Hp->Prop)->Prop
abbrev TA:=St->Hp->(O V->Hp->Prop)->Prop
structure Ends where
 nx:St->Hp->Prop
 rt:VK
 bk:St->Hp->Prop:=λ_ _=>False
 ct:St->Hp->Prop:=λ_ _=>False
abbrev TS:=Ends->St->Hp->Prop
def EP(X:Cx)(Z:O (cr×Obj))(σ:St)(Q:VK)(u:ce)(s':db):Prop:=∃v H',Inv X Z σ H' s'/\RelV v u/\Q v H'
def TP(X:Cx)(Z:O (cr×Obj))(σ:St)(Q:Bool->Hp->Prop)(b:Bool)(s':db):Prop:=∃H',Inv X Z σ H' s'/\Q b H'
def AP(X:Cx)(Z:O (cr×Obj))(σ:St)(Q:O V->Hp->Prop)(us:O ce)(s':db):Prop:=∃vs H',Inv X Z σ H' s'/\Vals vs us/\Q vs H'
def SP(X:Cx)(Z:O (cr×Obj))(D:Ends)(f:Flow)(s':db):Prop:=
 match f with
 | .next=>∃σ' H',Inv X Z σ' H' s'/\D.nx σ' H'
 | .brk=>∃σ' H',Inv X Z σ' H' s'/\D.bk σ' H'
 | .cont=>∃σ' H',Inv X Z σ' H' s'/\D.ct σ' H'
 | .ret u=>∃v σ' H',Inv X Z σ' H' s'/\RelV v u/\D.rt v H'
def PE(X:Cx)(e:im)(t:TE):Prop:=
 ∀(Z:O (cr×Obj)) (s:db) (σ:St) (H:Hp) (Q:VK),Inv X Z σ H s->t σ H Q->ev (f8 X.prog X.w) X.A (lc e X.env) (EP X Z σ Q) X.xe s
def PT(X:Cx)(e:im)(t:TT):Prop:=
 ∀(Z:O (cr×Obj)) (s:db) (σ:St) (H:Hp) (Q:Bool->Hp->Prop),Inv X Z σ H s->t σ H Q->ev (f8 X.prog X.w) X.A (isTrue e X.env (lc e X.env)) (TP X Z σ Q) X.xe s
def PW(X:Cx)(e:im)(t:TT):Prop:=
 ∀(Å:Sem ce) (Z:O (cr×Obj)) (s:db) (σ:St) (H:Hp) (Q:Bool->Hp->Prop),Inv X Z σ H s->t σ H Q->ev (f8 X.prog X.w) X.A (isTrue e X.env Å) (TP X Z σ Q) X.xe s
def PW.pt{X:Cx}{e:im}{t:TT}(h:PW X e t):PT X e t:=h _
def PA(X:Cx)(es:O im)(t:TA):Prop:=
 ∀(pos:Pos) (Z:O (cr×Obj)) (s:db) (σ:St) (H:Hp) (Q:O V->Hp->Prop),Inv X Z σ H s->t σ H Q->ev (f8 X.prog X.w) X.A (spliced (FS pos (gl es X.env))) (AP X Z σ Q) X.xe s
def PS(X:Cx)(st:sn)(t:TS):Prop:=
 ∀(Z:O (cr×Obj)) (s:db) (σ:St) (H:Hp) (D:Ends),Inv X Z σ H s->t D σ H->ev (f8 X.prog X.w) X.A (exec st X.env) (SP X Z D) X.xe s
def qh(X:Cx)(st:O sn)(t:TS):Prop:=
 ∀(Z:O (cr×Obj)) (s:db) (σ:St) (H:Hp) (D:Ends),Inv X Z σ H s->t D σ H->ev (f8 X.prog X.w) X.A (execs st X.env) (SP X Z D) X.xe s
def bp{t:Sem α}{Q Q':α->db->Prop}(h:ev M A t Q E s)(hQ:∀a s,Q a s->Q' a s):ev M A t Q' E s:=BH h hQ λ_ _ x=>x
end L2
variable{x:BU}{a:BW}{X:L2.Cx}{σ:L2.St}{Q:A5->DM->Prop}{ta tb:L2.TE}{R:L2.V->L2.V->L2.Hp->Prop}{pos:Cj}{op:PySem.CmpOp}
namespace L2
section
def bin{b:im}(ha:PE X a ta)(hb:PE X b tb)(I:Inv X Z σ H s)(h:ta σ H λx H1=>tb σ H1 λy H2=>R x y H2){Q:α->db->Prop}{f:ce->ce->Sem α}
  (hf:∀v u s2 x y H2,Inv X Z σ H2 s2->RelV x v->RelV y u->R x y H2->ev (f8 X.prog X.w) X.A (f v u) Q X.xe s2) :
  ev (f8 X.prog X.w) X.A (lc a X.env) (λv s₁=>ev (f8 X.prog X.w) X.A (lc b X.env) (λu s₂=>ev (f8 X.prog X.w) X.A (f v u) Q X.xe s₂) X.xe s₁) X.xe s:=by
 refine bp (ha Z s σ H _ I h) λv s1 ⟨x,H1,I1,r1,q1⟩=>?_;refine bp (hb Z s1 σ H1 _ I1 q1) λu s2 ⟨y,H2,I2,r2,q2⟩=>?_;exact hf v u s2 x y H2 I2 r1 r2 q2
def XM(i:Nat):TE:=λσ H Q=>∃v,σ[i]?=ap (ap v)/\Q v H
def tC(v:V):TE:=λ_ H Q=>Q v H
def de(hN:X.N[i]?=ap x)(hv:xH X.env.scope x)(hd:ir x:=by decide)(ib:zS x:=by decide):PE X (.Name x pos) (XM i):=by
 intro Z s σ H Q I h;obtain⟨v,e,h⟩:=h;obtain⟨m,hn,hl⟩:=I.loc;obtain⟨u,r,l⟩:=hl i x v hN e hv;have fin:EP X Z σ Q u s:=⟨v,H,I,r,h⟩;rcases l with⟨hk,hm⟩ | ⟨hk,c,hc,Tu⟩
 ·exact wpAny_Name (wpAny_loadName_local I.ok.kind hk hn hm fin) hd
 ·rcases hk with hk | hk
  ·exact wpAny_Name (wpAny_loadName_cell I.ok.kind hk hc Tu fin) hd
  ·exact wpAny_Name (wpAny_loadName_free I.ok.kind hk hc Tu fin ib) hd
def UZ{i j pos}:PE X (.Constant (.int i) j pos) (tC (.int i)):=λ_ _ _ H _ I h=>wpAny_Constant_int ⟨.int i,H,I.tok _,⟨_,rfl⟩,h⟩
def Yx{b j pos}:PE X (.Constant (.bool b) j pos) (tC (.bl b)):=λ_ _ _ H _ I h=>Constant_bool ⟨.bl b,H,I,rfl,h⟩
def UY{j pos}:PE X (.Constant .none j pos) (tC .aN):=λ_ _ _ H _ I h=>Constant_none ⟨.aN,H,I,rfl,h⟩
def UU{x j pos}:PE X (.Constant (.str x) j pos) (tC (.str x)):=λ_ _ _ H _ I h=>Calls.Constant_str ⟨.str x,H,I.tok _,⟨_,rfl⟩,h⟩
def Gl(X:Cx)(x:Str):Prop:=X.env.kindOf x=ap .globalImplicit
def IJ(I:Inv X Z σ H s)(hg:Gl X x)(hm:X.mg x=ap u)(h:Q u s)
  (hd:ir x:=by decide):ev (f8 X.prog X.w) X.A (lc (.Name x pos) X.env) Q E s:=
 DW I.ok.kind hg (Calls.loadGlobal_global (by rw[I.ok.glob];exact I.mod.glob.keeps I.bk) hm h) hd
def iT(I:Inv X Z σ H s)(hg:Gl X x)(hm:X.mg x=bn)(hv:nw x=ap u)(h:Q u s)
  (hn:x≠"__name__":=by decide) (hd:ir x:=by decide):ev (f8 X.prog X.w) X.A (lc (.Name x pos) X.env) Q E s:=by
 obtain⟨mb,h1,h2⟩:=I.mod.blt;exact DW I.ok.kind hg (Calls.loadGlobal_builtin (by rw[I.ok.glob];exact I.mod.glob.keeps I.bk) hm (by rw[I.ok.blt];exact h1.keeps I.bk) ((h2 x hn).trans hv) h) hd
def vD(hg:Gl X x)(hm:X.mg x=ap u)(r:RelV v u)(hd:ir x:=by decide):PE X (.Name x pos) (tC v):=
 λ_ _ _ H _ I h=>IJ I hg hm ⟨v,H,I,r,h⟩ hd
def Qx(hg:Gl X x)(hm:X.mg x=bn)(hv:nw x=ap u)(r:RelV v u)(hn:x≠"__name__":=by decide)(hd:ir x:=by decide):PE X (.Name x pos) (tC v):=
 λ_ _ _ H _ I h=>iT I hg hm hv ⟨v,H,I,r,h⟩ hn hd
variable{b:im}
def PC(X:Cx)(op:CmpOp)(a b:im)(t:TE):Prop:=
 ∀(Z:O (cr×Obj)) (s:db) (σ:St) (H:Hp) (Q:VK),Inv X Z σ H s->t σ H Q->
  ev (f8 X.prog X.w) X.A (lc a X.env) (λv s₁=>ev (f8 X.prog X.w) X.A (lc b X.env) (λu s₂=>ev (f8 X.prog X.w) X.A (kw op v u) (EP X Z σ Q) X.xe s₂) X.xe s₁) X.xe s
def tB(t:TE):TT:=λσ H Q=>t σ H λx H1=>∃c,x=.bl c/\Q c H1
def UN{t:TE}(h:PC X op a b t)(h1:nn op b=false:=by first | exact YL _ ⋯ ⋯ | rfl):PT X (.Compare a [op] [b] pos) (tB t):=by
 intro Z s σ H Q I hw;refine wpAny_isTrue_Compare1 (bp (h Z s σ H _ I hw) λv s1 h1=>bp h1 λu s2 h2=>bp h2 λc s3 ⟨x,H1,I1,r1,q1⟩=>?_) h1;obtain⟨d,rfl,q⟩:=q1;cases r1;exact Bw ⟨H1,I1,q⟩
variable{tA æ:TT}{rest:O im}
def abL(t u:TT):TT:=λσ H Q=>t σ H λc H1=>if c=true then u σ H1 Q else Q false H1
def tOr(t u:TT):TT:=λσ H Q=>t σ H λc H1=>if c=true then Q true H1 else u σ H1 Q
def abF(t:TT):TT:=λσ H Q=>t σ H λc H1=>Q (!c) H1
def Qi(ha:PT X a tA):PW X (.BoolOp .And [a] pos) tA:=by
 intro wh Z s σ H Q I h;refine isTrue_and (bp (ha Z s σ H Q I h) λc s1 e=>?_);cases c with
 | true=>exact isTrue_and_nil e
 | false=>exact e
def UJ(ha:PT X a tA):PW X (.BoolOp .Or [a] pos) tA:=by
 intro wh Z s σ H Q I h;refine isTrue_or (bp (ha Z s σ H Q I h) λc s1 e=>?_);cases c with
 | false=>exact isTrue_or_nil e
 | true=>exact e
def UK(ha:PT X a tA)(hb:PW X (.BoolOp .And (b::rest) pos) æ):PW X (.BoolOp .And (a::b::rest) pos) (abL tA æ):=by
 intro wh Z s σ H Q I h;refine isTrue_and (bp (ha Z s σ H _ I h) λc s1 ⟨H1,I1,q1⟩=>?_);cases c with
 | true=>exact hb wh Z s1 σ H1 Q I1 q1
 | false=>exact⟨H1,I1,q1⟩
def Yr(ha:PT X a tA)(hb:PW X (.BoolOp .Or (b::rest) pos) æ):PW X (.BoolOp .Or (a::b::rest) pos) (tOr tA æ):=by
 intro wh Z s σ H Q I h;refine isTrue_or (bp (ha Z s σ H _ I h) λc s1 ⟨H1,I1,q1⟩=>?_);cases c with
 | true=>exact⟨H1,I1,q1⟩
 | false=>exact hb wh Z s1 σ H1 Q I1 q1
def UM(ha:PT X a tA):PT X (.UnaryOp .Not a pos) (abF tA):=by
 intro Z s σ H Q I h;exact isTrue_not (ha Z s σ H (λc H1=>Q (!c) H1) I h)
def X2(ta tb:TE):TE:=λσ H Q=>ta σ H λx H1=>∃c,x=.bl c/\if c=true then tb σ H1 Q else Q (.bl false) H1
def XQ(ta:TE):TE:=λσ H Q=>ta σ H λx H1=>∃c,x=.bl c/\Q (.bl (!c)) H1
def UW{op}{t:TE}(h:PE X a t):PE X (.BoolOp op [a] pos) t:=λZ s σ H Q I hw=>BoolOp_one (h Z s σ H Q I hw)
def U1(ha:PE X a ta)(hb:PE X (.BoolOp .And (b::rest) pos) tb):PE X (.BoolOp .And (a::b::rest) pos) (X2 ta tb):=by
 intro Z s σ H Q I h;refine BoolOp_and (bp (ha Z s σ H _ I h) λv s1 ⟨x,H1,I1,r1,q1⟩=>?_);obtain⟨c,rfl,q1⟩:=q1;cases r1;refine Bw ?_;cases c with
 | true=>exact hb Z s1 σ H1 Q I1 q1
 | false=>exact⟨.bl false,H1,I1,rfl,q1⟩
def UX(ha:PE X a ta):PE X (.UnaryOp .Not a pos) (XQ ta):=by
 intro Z s σ H Q I h;refine UnaryOp_ (bp (ha Z s σ H _ I h) λv s1 ⟨x,H1,I1,r1,q1⟩=>?_);obtain⟨c,rfl,q1⟩:=q1;cases r1;exact not_of (Bw ⟨.bl (!c),H1,I1,rfl,q1⟩)
def tIf(t:TT)(ta tb:TE):TE:=λσ H Q=>t σ H λc H1=>if c=true then ta σ H1 Q else tb σ H1 Q
def yn{c:im}(hc:PT X c tA)(ha:PE X a ta)(hb:PE X b tb):PE X (.IfExp c a b pos) (tIf tA ta tb):=by
 intro Z s σ H Q I h;refine wpAny_IfExp (bp (hc Z s σ H _ I h) λd s1 ⟨H1,I1,q1⟩=>?_);cases d with
 | true=>exact ha Z s1 σ H1 Q I1 q1
 | false=>exact hb Z s1 σ H1 Q I1 q1
end
end L2
variable{xs ys:O L2.V}{e tg:BW}{y:L2.V}{D:L2.Ends}{te to:L2.TE}{es:O BW}{n:Nat}{Ö px py pt jB:Cj}{body:O PySem.Stmt}
namespace L2
def cT(K:Ab)(H:Hp)(a:cr)(xs:O V):Prop:=
 Rd H a (.lst xs)\/
  ∃(o:Obj) (ar:Array ce) (n:Nat),K.lookup a=ap o/\o.cls=.type "list"/\o.dict=bn/\o.data=.seq ar n/\ar.size<=sizeLine/\Vals xs ar.toList
def dz(K:Ab)(H:Hp)(a:cr)(xs:O V):Prop:=
 Rd H a (.tup xs)\/
  ∃(o:Obj) (ar:Array ce) (n:Nat),K.lookup a=ap o/\o.cls=.type "tuple"/\o.data=.seq ar n/\ar.size<=sizeLine/\Vals xs ar.toList
def adv:ce->Option V
 | .none=>ap .aN
 | .bool b=>ap (.bl b)
 | .int i _=>ap (.int i)
 | .str x _=>ap (.str x)
 | .bytes b _=>ap (.Wz b)
 | .float b _=>ap (.Xi b)
 | .ref a=>ap (.ref a)
 | .type n=>ap (.ty n)
 | _=>bn
def RelV.abs{x:V}(r:RelV x u):adv u=ap x:=by
 cases x with
 | aN=>cases r;rfl
 | bl _=>cases r;rfl
 | int _=>obtain⟨t,rfl⟩:=r;rfl
 | str _=>obtain⟨t,rfl⟩:=r;rfl
 | Wz _=>obtain⟨t,rfl⟩:=r;rfl
 | Xi _=>obtain⟨t,rfl⟩:=r;rfl
 | ref _=>cases r;rfl
 | ty _=>cases r;rfl
def RelV.inj{x:V}(r:RelV x u)(q:RelV y u):x=y:=Option.some.inj (r.abs.symm.trans q.abs)
theorem Vals.inj:∀{xs ys:O V}{us:O ce},Vals xs us->Vals ys us->xs=ys
 | _,_,_,.nil,.nil=>rfl
 | _,_,_,.cons r t,.cons r' t'=>by rw[r.inj r',Vals.inj t t']
section
variable{a:cr}
def cT.of{K:Ab}(h:H a=ap (.lst xs)):cT K H a xs:=.inl (.inl h)
def dz.of{K:Ab}(h:H a=ap (.tup xs)):dz K H a xs:=.inl (.inl h)
theorem Inv.list(I:Inv X Z σ H s)(h:cT X.K H a xs):∃ar:O ce,Vals xs ar/\PlainL s.heap a ar.toArray/\xs.length<=sizeLine:=by
 rcases h with h | ⟨o,ar,n,hk,hc,hd,hs,hz,r⟩
 ·obtain⟨z,ar,n,r,e⟩:=h.ok I.bj;exact⟨ar,r,⟨_,n,e,rfl,rfl,rfl⟩,z⟩
 ·refine⟨ar.toList,r,⟨o,n,I.tJ a o hk,hc,hd,by simpa using hs⟩,?_⟩;have e:=r.length;simp only[DJ]at e;omega
theorem Inv.tuple(I:Inv X Z σ H s)(h:dz X.K H a xs):∃ar:O ce,Vals xs ar/\IsTup s.heap a ar.toArray/\xs.length<=sizeLine:=by
 rcases h with h | ⟨o,ar,n,hk,hc,hs,hz,r⟩
 ·obtain⟨z,ar,r,p⟩:=h.ok I.bj;exact⟨ar,r,p,z⟩
 ·refine⟨ar.toList,r,⟨o,I.tJ a o hk,hc,n,by simpa using hs⟩,?_⟩;have e:=r.length;simp only[DJ]at e;omega
def Inv.yI(I:Inv X Z σ H s)(h:cT X.K H a xs)(h':cT X.K H a ys):xs=ys:=by
 obtain⟨ar,r,⟨o,n,e,_,_,d⟩,_⟩:=I.list h;obtain⟨its',r',⟨o',n',e',_,_,d'⟩,_⟩:=I.list h';rw[e]at e';cases e';rw[d]at d';injection d' with d1 _;have:ar=its':=by simpa using congrArg Array.toList d1
 subst this;exact r.inj r'
def Inv.kl(I:Inv X Z σ H s)(h:dz X.K H a xs)(h':dz X.K H a ys):xs=ys:=by
 obtain⟨ar,r,⟨o,e,_,n,d⟩,_⟩:=I.tuple h;obtain⟨its',r',⟨o',e',_,n',d'⟩,_⟩:=I.tuple h';rw[e]at e';cases e';rw[d]at d';injection d' with d1 _;have:ar=its':=by simpa using congrArg Array.toList d1
 subst this;exact r.inj r'
end
abbrev Cx.sV(X:Cx)(E:ce->db->Prop):Cx:={X with xe:=E}
abbrev Cx.SY(X:Cx):Cx:=X.sV λ_ _=>False
def Cx.Ok.sV(ok:X.Ok)(E:ce->db->Prop):(X.sV E).Ok:=
 ⟨ok.mod,ok.kind,ok.glob,ok.blt,ok.above,ok.inj,ok.has,ok.Z2,ok.hd,ok.frames,ok.stk,ok.exf,ok.bs,ok.TX,ok.MR,ok.N2,ok.rH,ok.Xf⟩
def Cx.Ok.jH(ok:(X.sV E).Ok):X.Ok:=
 ⟨ok.mod,ok.kind,ok.glob,ok.blt,ok.above,ok.inj,ok.has,ok.Z2,ok.hd,ok.frames,ok.stk,ok.exf,ok.bs,ok.TX,ok.MR,ok.N2,ok.rH,ok.Xf⟩
section
def Inv.sV(I:Inv X Z σ H s)(E:ce->db->Prop):Inv (X.sV E) Z σ H s:=⟨I.ok.sV E,I.os,I.bare,I.base,I.loc,I.cell,I.free,I.jy,I.pin,I.bj,I.len⟩
def Inv.jH(I:Inv (X.sV E) Z σ H s):Inv X Z σ H s:=⟨I.ok.jH,I.os,I.bare,I.base,I.loc,I.cell,I.free,I.jy,I.pin,I.bj,I.len⟩
def SP.jH{f:Flow}(h:SP (X.sV E) Z D f s'):SP X Z D f s':=by
 cases f with
 | next=>obtain⟨σ',H',I,q⟩:=h;exact⟨σ',H',I.jH,q⟩
 | brk=>obtain⟨σ',H',I,q⟩:=h;exact⟨σ',H',I.jH,q⟩
 | cont=>obtain⟨σ',H',I,q⟩:=h;exact⟨σ',H',I.jH,q⟩
 | ret u=>obtain⟨v,σ',H',I,r,q⟩:=h;exact⟨v,σ',H',I.jH,r,q⟩
def qh.SY{st:O sn}{t:TS}(h:qh X.SY st t):qh X st t:=λZ s σ H D I hw=>
 BH (h Z s σ H D (I.sV _) hw) (λ_ _ q=>q.jH) λ_ _ z=>Bm z
end
section
variable{st:sn}{rest:O sn}{t u:TS}
def XR:TS:=λD σ H=>D.nx σ H
def abC(t u:TS):TS:=λD σ H=>t {D with nx:=u D} σ H
def vv:qh X [] XR:=λ_ _ σ H _ I h=>DB ⟨σ,H,I,h⟩
def yg(h1:PS X st t)(h2:qh X rest u):qh X (st::rest) (abC t u):=by
 intro Z s σ H D I h;refine wpAny_execs_cons (bp (h1 Z s σ H {D with nx:=u D} I h) λf s1 q=>?_);cases f with
 | next=>
  obtain⟨σ',H',I',q⟩:=q;exact h2 Z s1 σ' H' D I' q
 | ret v=>exact q
 | brk=>exact q
 | cont=>exact q
def Qj(h1:PS X st t):qh X [st] t:=by
 intro Z s σ H D I h;refine wpAny_execs_cons (bp (h1 Z s σ H D I h) λf s1 q=>?_);cases f with
 | next=>exact DB q
 | ret v=>exact q
 | brk=>exact q
 | cont=>exact q
def XX:TS:=λD σ H=>D.ct σ H
def yj:PS X (.Continue pos) XX:=λ_ _ σ H _ I h=>wpAny_Continue ⟨σ,H,I,h⟩
def Inv.quiet(I:Inv X Z σ H s):interactive X.env=false:=by simp[interactive,I.ok.kind]
def XU(te:TE):TS:=λD σ H=>te σ H λ_ H1=>D.nx σ H1
def pW(he:PE X e te)(hs:lm e bn pos.line X.env=pure false:=by rfl):PS X (.Expr e pos) (XU te):=by
 intro Z s σ H D I h;exact wpAny_Expr_any (bp (he Z s σ H _ I h) λv s1 ⟨x,H1,I1,r1,q1⟩=>⟨σ,H1,I1,q1⟩) I.quiet hs
def abD(te:TE):TS:=λD σ H=>te σ H D.rt
def vA(he:PE X e te):PS X (.Return (ap e) pos) (abD te):=by
 intro Z s σ H D I h;exact wpAny_Return_some (bp (he Z s σ H _ I h) λv s1 ⟨x,H1,I1,r1,q1⟩=>⟨x,σ,H1,I1,r1,q1⟩)
def abI(c:TT)(t u:TS):TS:=λD σ H=>c σ H λb H1=>if b=true then t D σ H1 else u D σ H1
def Mt{c:im}{a b:O sn}{tc:TT}(hc:PT X c tc)(ha:qh X a t)(hb:qh X b u):PS X (.If c a b pos) (abI tc t u):=by
 intro Z s σ H D I h;refine wpAny_If (bp (hc Z s σ H _ I h) λd s1 ⟨H1,I1,q1⟩=>?_);cases d with
 | true=>exact ha Z s1 σ H1 D I1 q1
 | false=>exact hb Z s1 σ H1 D I1 q1
def Ug:TS:=λ_ _ _=>False
end
abbrev TG:=V->St->Hp->(St->Hp->Prop)->Prop
abbrev WM:=O V->St->Hp->(St->Hp->Prop)->Prop
def PG(X:Cx)(È:im)(t:TG):Prop:=
 ∀(Z:O (cr×Obj)) (s:db) (σ:St) (H:Hp) (v:V) (u:ce) (Q:St->Hp->Prop),Inv X Z σ H s->RelV v u->t v σ H Q->
  ev (f8 X.prog X.w) X.A (xz È X.env u) (λ_ s'=>∃σ' H',Inv X Z σ' H' s'/\Q σ' H') X.xe s
def PGs(X:Cx)(ts:O im)(t:WM):Prop:=
 ∀(Z:O (cr×Obj)) (s:db) (σ:St) (H:Hp) (vs:O V) (us:O ce) (Q:St->Hp->Prop),Inv X Z σ H s->Vals vs us->t vs σ H Q->
  ev (f8 X.prog X.w) X.A (assignInOrder ((wn ts X.env).map (·.2)) us) (λ_ s'=>∃σ' H',Inv X Z σ' H' s'/\Q σ' H') X.xe s
abbrev HM:=V->V->V->Hp->(Hp->Prop)->Prop
def HN(X:Cx)(t:HM):Prop:=
 ∀(Z:O (cr×Obj)) (s:db) (σ:St) (H:Hp) (o i v:V) (ov iv u:ce) (Q:Hp->Prop),Inv X Z σ H s->RelV o ov->RelV i iv->RelV v u->t o i v H Q->
  ev (f8 X.prog X.w) X.A (Ch ov iv u) (λ_ s'=>∃H',Inv X Z σ H' s'/\Q H') X.xe s
abbrev Z6:=V->V->Hp->VK->Prop
def PIp(X:Cx)(op:Operator)(t:Z6):Prop:=
 ∀(Z:O (cr×Obj)) (s:db) (σ:St) (H:Hp) (x y:V) (v u:ce) (Q:VK),Inv X Z σ H s->RelV x v->RelV y u->t x y H Q->
  ev (f8 X.prog X.w) X.A (inplaceOp op v u) (EP X Z σ Q) X.xe s
section
def dD(i:Nat):TG:=λv σ H Q=>Q (σ.set i (ap v)) H
def Qq(hN:X.N.Nodup)(hi:X.N[i]?=ap x)(hx:Loc X.env.scope x)(hf:O1 X x:=by first | exact .inl rfl | exact .inr rfl | assumption):PG X (.Name x pos) (dD i):=by
 intro Z s σ H v u Q I r h;exact wpAny_assign_Name (mC I hN hi hx r (λs' I'=>⟨_,H,I',h⟩) hf)
def V5:WM:=λvs σ H Q=>vs=[]/\Q σ H
def rG(t:TG)(u:WM):WM:=λvs σ H Q=>∃v r,vs=v::r/\t v σ H λσ' H'=>u r σ' H' Q
def eg:PGs X [] V5:=by
 intro Z s σ H vs us Q I r h;obtain⟨e,h⟩:=h;subst e;cases r;exact assignInOrder_nil ⟨σ,H,I,h⟩
def aX{t:TG}{u:WM}(h1:PG X e t)(h2:PGs X es u)
  (hs:(wn (e::es) X.env).map (·.2)=xz e X.env::(wn es X.env).map (·.2):=by rfl):PGs X (e::es) (rG t u):=by
 intro Z s σ H vs us Q I r h;obtain⟨v,vr,e1,h⟩:=h;subst e1;cases r with
 | cons r rr=>
  rw[hs];refine assignInOrder_cons (bp (h1 Z s σ H _ _ _ I r h) λ_ s1 ⟨σ1,H1,I1,q1⟩=>?_);exact h2 Z s1 σ1 H1 _ _ Q I1 rr q1
def V3(K:Ab)(n:Nat)(t:WM):TG:=λv σ H Q=>∃a xs,v=.ref a/\dz K H a xs/\xs.length=n/\t xs σ H Q
def gK{k:Nat}{t:WM}(hc:X.calm=true)(h:PGs X es t)
  (hn:(wn es X.env).length=n:=by rfl) (zW:(wn es X.env).findIdx? (·.1)=bn:=by rfl):PG X (.Tuple es k pos) (V3 X.K n t):=by
 intro Z s σ H v u Q I r hw;obtain⟨a,xs,e1,hq,hl,hw⟩:=hw;subst e1;cases r;obtain⟨ar,rv,ht,hz⟩:=I.tuple hq;refine assign_Tuple_tuple (I.ok.hd hc) ht (by simp[hn,<- hl,rv.length]) zW λh' hx=>?_;have I1:Inv X Z σ H {s with heap:=h'}:=I.kept (t':=s.toks) λb o e=>hx b o (Ay (Aq e)) e;exact h Z _ σ H xs _ Q I1 (by simpa using rv) hw
def ac9(to ti:TE)(t:HM):TG:=λv σ H Q=>to σ H λo H1=>ti σ H1 λi H2=>t o i v H2 λH3=>Q σ H3
def UT{o i:im}{ti:TE}{t:HM}(ho:PE X o to)(hi:PE X i ti)(hs:HN X t)
  (ha:∀v,xz (.Subscript o i pos) X.env v=(do
   let ov <- sw [v] (lc o X.env)
   let iv <- sw [v,ov] (lc i X.env)
   standAt pos
   sw [v,ov,iv] (Ch ov iv v)
   release [v,ov,iv] []):=by intro _;rfl):PG X (.Subscript o i pos) (ac9 to ti t):=by
 intro Z s σ H v u Q I r h;refine Aa (A6 (bp (ho Z s σ H _ I h) λov s1 ⟨x,H1,I1,r1,q1⟩=>?_));refine Aa (A6 (bp (hi Z s1 σ H1 _ I1 q1) λiv s2 ⟨y,H2,I2,r2,q2⟩=>?_));refine Aa (Dm (Aa (A6 (bp (hs Z s2 σ H2 x y v ov iv u _ I2 r1 r2 r q2) λ_ s3 ⟨H3,I3,q3⟩=>?_))));exact wpAny_release ⟨σ,H3,I3,q3⟩
def Uj(te:TE)(g:TG):TS:=λD σ H=>te σ H λx H1=>g x σ H1 D.nx
def FZ{g:TG}(he:PE X e te)(hg:PG X tg g)(hs:zn [tg] e pos.line X.env=pure false:=by rfl)(hw:BT [tg] e X.env=pure bn:=by rfl)
  (h1:(wn [tg] X.env).map (·.2)=[xz tg X.env]:=by rfl):PS X (.Assign [tg] e pos) (Uj te g):=by
 intro Z s σ H D I h;refine wpAny_Assign_stores (bp (he Z s σ H _ I h) λv s1 ⟨x,H1,I1,r1,q1⟩=>?_) hs hw;rw[h1];exact bp (hg Z s1 σ H1 x v _ I1 r1 q1) λ_ s2 q=>q
def vz(hN:X.N.Nodup)(hi:X.N[i]?=ap x)(hx:Loc X.env.scope x)(he:PE X e te)(hs:lm e (ap (.Name x Ö)) pos.line X.env=pure false:=by rfl)(hf:O1 X x:=by first | exact .inl rfl | exact .inr rfl | assumption) :
  PS X (.Assign [.Name x Ö] e pos) (Uj te (dD i)):=by
 intro Z s σ H D I h;refine wpAny_Assign_Name (bp (he Z s σ H _ I h) λv s1 ⟨y,H1,I1,r1,q1⟩=>?_) hs;exact mC I1 hN hi hx r1 (λs2 I2=>⟨_,H1,I2,q1⟩) hf
def abE(i j:Nat)(ta:TA):TS:=λD σ H=>ta σ H λvs H1=>∃v w,vs=[v,w]/\D.nx ((σ.set i (ap v)).set j (ap w)) H1
def UP{y:Str}{b:im}{ta:TA}{kt k2 UO}(hc:X.calm=true)(hN:X.N.Nodup)(hi:X.N[i]?=ap x)(hj:X.N[j]?=ap y)(ó:i≠j)
  (hx:X.env.scope.names.lookup x=ap .local) (hy:X.env.scope.names.lookup y=ap .local) (ha:PA X [a,b] ta)
  (hw:BT [.Tuple [.Name x px,.Name y py] kt pt] (.Tuple [a,b] k2 UO) X.env=pure (ap [x,y]))
  (hs:zn [.Tuple [.Name x px,.Name y py] kt pt] (.Tuple [a,b] k2 UO) pos.line X.env=pure false:=by rfl) :
  PS X (.Assign [.Tuple [.Name x px,.Name y py] kt pt] (.Tuple [a,b] k2 UO) pos) (abE i j ta):=by
 intro Z s σ H D I h;refine Aa (Dm ?_);refine Aa (Af ?_);rw[if_neg ⋯];refine Aa (Tuple_ (bp (ha _ Z s σ H _ I h) λus s1 ⟨vs,H1,I1,r1,q1⟩=>?_));obtain⟨v,w,e1,q1⟩:=q1;subst e1;obtain⟨u1,u2,rfl,rv,yb⟩:∃u1 u2,us=[u1,u2]/\RelV v u1/\RelV w u2:=by
  cases r1 with
  | cons p q=>
   cases q with
   | cons p' q'=>
    cases q';exact⟨_,_,rfl,p,p'⟩
 refine Bb ?_ (by show 2<=sizeLine;decide);have I2:Inv X Z σ H1 {s1 with heap:=s1.heap.push {cls:=.type "tuple",data:=.seq [u1,u2].toArray}}:=I1.kept (t':=s1.toks) λb o e=>Ah _ e;rw[hw];refine Aa (Af ?_);refine Aa (CD (Aa (unpackItems_tuple (items:=#[u1,u2]) (I.ok.hd hc) (Fv s1.heap _) λh' uC=>?_)));have I3:=I2.kept (h':=h') (t':=s1.toks) λb o e=>uC b o (Ay (Aq e)) e;show ev _ _ (assignInOrder [λv=>bindName X.env y v,λv=>bindName X.env x v] [u2,u1] >>= λ_=>pure Flow.next) _ _ _;refine Aa (assignInOrder_cons (wpAny_bindName (mC I3 hN hj (.inl hy) yb (λs2 I4=>?_) (.inr hy))));refine assignInOrder_cons (wpAny_bindName (mC I4 hN hi (.inl hx) rv (λs3 I5=>assignInOrder_nil (Af ?_)) (.inr hx)));rw[List.set_comm _ _ (BI ó)]at I5;exact⟨_,H1,I5,q1⟩
def X1(to ti te:TE)(Py:V->V->Hp->VK->Prop)(å:Z6)(Pw:HM):TS:=λD σ H=>to σ H λo H1=>ti σ H1 λi H2=>Py o i H2 λx H3=>te σ H3 λy H4=>å x y H4 λz H5=>Pw o i z H5 λH6=>D.nx σ H6
def Z7(X:Cx)(t:V->V->Hp->VK->Prop):Prop:=
 ∀(Z:O (cr×Obj)) (s:db) (σ:St) (H:Hp) (o i:V) (ov iv:ce) (Q:VK),Inv X Z σ H s->RelV o ov->RelV i iv->t o i H Q->
  ev (f8 X.prog X.w) X.A (Fk ov iv) (EP X Z σ Q) X.xe s
def Ql{o i:im}{ti:TE}{Py:V->V->Hp->VK->Prop}{å:Z6}{Pw:HM}{op:Operator}(ho:PE X o to)(hi:PE X i ti)(hg:Z7 X Py)(he:PE X e te)(hp:PIp X op å)(hs:HN X Pw)
  (ha:∀ov iv new,augStore i ov iv new=(do sw [new,ov,iv] (Ch ov iv new);release [new,ov,iv] [];pure .next):=by intros;rfl):PS X (.AugAssign (.Subscript o i jB) op e pos) (X1 to ti te Py å Pw):=by
 intro Z s σ H D I h;refine wpAny_AugAssign_SubscriptAny (bp (ho Z s σ H _ I h) λov s1 ⟨x1,H1,I1,r1,q1⟩=>?_) ha;refine bp (hi Z s1 σ H1 _ I1 q1) λiv s2 ⟨x2,H2,I2,r2,q2⟩=>?_;refine bp (hg Z s2 σ H2 x1 x2 ov iv _ I2 r1 r2 q2) λÊ s3 ⟨x3,H3,I3,r3,q3⟩=>?_;refine bp (he Z s3 σ H3 _ I3 q3) λv s4 ⟨x4,H4,I4,r4,q4⟩=>?_;refine bp (hp Z s4 σ H4 x3 x4 Ê v _ I4 r3 r4 q4) λnew s5 ⟨x5,H5,I5,r5,q5⟩=>?_;exact bp (hs Z s5 σ H5 x1 x2 x5 ov iv new _ I5 r1 r2 r5 q5) λ_ s6 ⟨H6,I6,q6⟩=>⟨σ,H6,I6,q6⟩
def ipI(f:Int->Int->Int):Z6:=λx y H Q=>∃i j,x=.int i/\y=.int j/\Q (.int (f i j)) H
def VJ:PIp X .Add (ipI λi j=>i+j):=by
 intro Z s σ H x y v u Q I r1 r2 h;obtain⟨i,j,e1,e2,q⟩:=h;subst e1;subst e2;obtain⟨t,rfl⟩:=r1;obtain⟨t',rfl⟩:=r2;exact iadd_int ⟨.int _,H,I.tok _,⟨_,rfl⟩,q⟩
end
section
def Ue(c:TT)(tb:TS):TS:=λD σ H=>∃W:Nat->St->Hp->Prop,(∃m,W m σ H)/\∀m σ H,W m σ H->
 c σ H λb H1=>if b=true then ∃N:St->Hp->Prop,(∀σ' H',N σ' H'->∃m',m' < m/\W m' σ' H')/\tb {D with nx:=N,ct:=N,bk:=D.nx} σ H1 else D.nx σ H1
def yh{c:im}{tc:TT}{tb:TS}(hp:xL (f8 X.prog X.w) X.A X.env X.xe)(hc:PT X c tc)(hb:qh X body tb):PS X (.While c body [] pos) (Ue tc tb):=by
 intro Z s σ H D I h;obtain⟨W,⟨m0,w0⟩,turn⟩:=h;refine wpAny_While (codeAny_whileLoop (λn s'=>∃σ' H',Inv X Z σ' H' s'/\W n σ' H') ?_ m0 ⟨σ,H,I,w0⟩);rintro n s1 ⟨σ1,H1,I1,w1⟩;refine Ca hp (bp (hc Z s1 σ1 H1 _ I1 (turn n σ1 H1 w1)) λb s2 ⟨H2,I2,q2⟩=>?_);cases b with
 | true=>
  obtain⟨N,hN,q2⟩:=q2;refine Ca hp (bp (hb Z s2 σ1 H2 _ I2 q2) λf s3 q3=>?_);cases f with
  | next=>
   obtain⟨σ3,H3,I3,n3⟩:=q3;obtain⟨m',hm,w3⟩:=hN σ3 H3 n3;exact⟨m',hm,σ3,H3,I3,w3⟩
  | cont=>
   obtain⟨σ3,H3,I3,n3⟩:=q3;obtain⟨m',hm,w3⟩:=hN σ3 H3 n3;exact⟨m',hm,σ3,H3,I3,w3⟩
  | brk=>exact q3
  | ret v=>exact q3
 | false=>
  exact DB ⟨σ1,H2,I2,q2⟩
end
structure It where
 go:Nat->Hp->Prop
 Sz:Nat->Hp->V->Hp->Prop
 stop:Nat->Hp->Prop
def t6(X:Cx)(Z:O (cr×Obj))(H:Hp)(b:cr):Prop:=
 H b=bn/\b≠X.env.locals/\b∉X.fs/\(b∈X.ex\/X.s₀.heap.objs.size<=b)/\(∀x c,X.env.cells.lookup x=ap c->c≠b)/\∀p∈X.pn++Z,p.1≠b
def Inv.wQ(I:Inv X Z σ H s)(hb:s.heap.objs.size<=b)(hn:H' b=bn):t6 X Z H' b:=by
 refine⟨hn,Nat.ne_of_gt (Az I.lt hb),I.ab7 hb,.inr (Bp I.sz hb),λx c e z=>?_,λp hp z=>?_⟩
 ·obtain⟨v,q⟩:=I.cell x c e;exact absurd (Az q.lt (by rw[z];exact hb)) (A2 _)
 ·exact absurd (Az (Aq (I.pin p hp).1) (by rw[z];exact hb)) (A2 _)
structure Turn(P:sB)(w:ul)(K:Ab)(tg:im)(J:It)(fp:List cr)(it:cr)(tn:Nat->mo->Prop):Prop where
 mem:it∈fp
 obj:∀i h,tn i h->∀b∈fp,∃o,h.get? b=ap o/\∀v,o.data≠.cell v
 keep:∀i h h',tn i h->(∀b∈fp,∀o,h.get? b=ap o->h'.get? b=ap o)->tn i h'
 item:∀(X:Cx),X.prog=P->X.w=w->X.K=K->X.calm=true->∀(i:Nat) (Z:List (cr×Obj)) (s:db) (σ:St) (H:Hp) (E:ce->db->Prop),Inv X Z σ H s->(∀b∈fp,t6 X Z H b)->tn i s.heap->J.go i H->
  ev (f8 P w) X.A (pyNext (.ref it)) (λr s1=>∃u,r=ap u/\
   ev (f8 P w) X.A (GE tg (.ref it) u) (λ_ s2=>∃x H',Inv X Z σ H' s2/\RelV x u/\J.Sz i H x H'/\tn (i+1) s2.heap/\∀b∈fp,H' b=bn) E s1) E s
 done:∀(X:Cx),X.prog=P->X.w=w->X.K=K->X.calm=true->∀(i:Nat) (Z:List (cr×Obj)) (s:db) (σ:St) (H:Hp) (E:ce->db->Prop),Inv X Z σ H s->(∀b∈fp,t6 X Z H b)->tn i s.heap->J.stop i H->
  ev (f8 P w) X.A (pyNext (.ref it)) (λr s1=>r=bn/\Inv X Z σ H s1) E s
 self:∀(A:wS) (i:Nat) (s:db) (Q:ce->db->Prop) (E:ce->db->Prop),tn i s.heap->Q (.ref it) s->ev (f8 P w) A (pyIter (.ref it)) Q E s
abbrev TI:=St->Hp->(It->Hp->Prop)->Prop
def PIE(X:Cx)(Z:O (cr×Obj))(σ:St)(tg:im)(R:It->Hp->Prop)(ì:ce)(s2:db):Prop:=
 ∃(it:cr) (fp:O cr) (tn:Nat->mo->Prop) (J:It) (H':Hp),ì=.ref it/\Inv X Z σ H' s2/\Turn X.prog X.w X.K tg J fp it tn/\tn 0 s2.heap/\(∀b∈fp,t6 X Z H' b)/\R J H'
def PI(X:Cx)(tg iter:im)(wi:TI):Prop:=
 ∀(Z:O (cr×Obj)) (s:db) (σ:St) (H:Hp) (R:It->Hp->Prop),Inv X Z σ H s->wi σ H R->
  ev (f8 X.prog X.w) X.A (lc iter X.env) (λv s1=>ev (f8 X.prog X.w) X.A (pyIter v) (PIE X Z σ tg R) X.xe s1) X.xe s
def rD{n:String}{vs:Array ce}{Q:Unit->db->Prop}(ho:s.heap.get? it=ap o)(hc:o.cls=.type n)(hd:o.data=.fields vs)
  (hn:["enumerate","zip","dict_itemiterator","dict_reverseitemiterator","odict_iterator","itertools.zip_longest","itertools.pairwise"].contains n=false) (hQ:Q () s):ev M A (GE tg (.ref it) u) Q E s:=by
 unfold GE;cases tg <;> first
  | exact Af hQ
  | (cases u <;> first
    | exact Af hQ
    | (
      refine Aa (wpAny_load ho ?_);rw[hc,hd];show ev M A (if (["enumerate","zip","dict_itemiterator","dict_reverseitemiterator","odict_iterator","itertools.zip_longest","itertools.pairwise"].contains n&&vs[0]?==ap (t0 _))=true then _ else _) Q E s;rw[if_neg (by intro h;rw[hn,E2]at h;cases h)];exact Af hQ))
def Itl(K:Ab)(a:cr):It:=
 ⟨λi H=>∃xs x,cT K H a xs/\xs[i]?=ap x,λi H x H'=>H'=H/\∀xs,cT K H a xs->xs[i]?=ap x,λi H=>∃xs,cT K H a xs/\xs.length<=i⟩
def Itt(K:Ab)(a:cr):It:=
 ⟨λi H=>∃xs x,dz K H a xs/\xs[i]?=ap x,λi H x H'=>H'=H/\∀xs,dz K H a xs->xs[i]?=ap x,λi H=>∃xs,dz K H a xs/\xs.length<=i⟩
def Itr(lo:Int)(n:Nat):It:=⟨λi _=>i < n,λi H x H'=>H'=H/\x=.int (lo+i),λi _=>n<=i⟩
theorem JA{K:Ab}(a it:cr):Turn P w K tg (Itl K a) [it] it (λi h=>h.IsListIter it a i) where
 mem:=by simp
 obj:=λi h st b hb=>by
  have e:b=it:=by simpa using hb
  subst e;obtain⟨o,e,c,d⟩:=st;exact⟨o,e,λv z=>by rw[d]at z;cases z⟩
 keep:=λi h h' st k=>st.at λo e=>k it (by simp) o e
 item:=by
  intro X hP hw hK hc i Z s σ H E I hf st hg;subst hP hw hK;obtain⟨xs,x,hq,hx⟩:=hg;obtain⟨ar,rv,p,hz⟩:=I.list hq;obtain⟨u,hu,ru⟩:=rv.get hx;obtain⟨f0,f1,f2,f3,f4,f5⟩:=hf it (by simp);refine wpAny_pyNext_list_item st p.isList (x:=u) (by simpa using hu) λh' mw sb=>?_;have I1:Inv X Z σ H {s with heap:=h'}:=I.turned (t':=s.toks) (λb o hb e=>(sb.2 b hb).trans e) f0 f1 f3 f4 f5;obtain⟨o,e,c,d⟩:=id mw;exact⟨u,rfl,rD (s:={s with heap:=h'}) e c d ⋯ ⟨x,H,I1,ru,⟨rfl,λys hy=>by rw[I.yI hy hq];exact hx⟩,mw,λb hb=>(hf b hb).1⟩⟩
 done:=by
  intro X hP hw hK hc i Z s σ H E I hf st hg;subst hP hw hK;obtain⟨xs,hq,hx⟩:=hg;obtain⟨ar,rv,p,hz⟩:=I.list hq;obtain⟨f0,f1,f2,f3,f4,f5⟩:=hf it (by simp);have hl:=rv.length;exact wpAny_pyNext_list_end (I.ok.hd hc) st p.isList (by simp;omega) λh' eb=>⟨rfl,I.turned (t':=s.toks) (λb o hb e=>eb b o hb e) f0 f1 f3 f4 f5⟩
 self:=λ_ _ _ _ _ st h=>wpAny_pyIter_listiter st h
theorem FI{K:Ab}(a it:cr):Turn P w K tg (Itt K a) [it] it (λi h=>h.IsTupleIter it a i) where
 mem:=by simp
 obj:=λi h st b hb=>by
  have e:b=it:=by simpa using hb
  subst e;obtain⟨o,e,c,d⟩:=st;exact⟨o,e,λv z=>by rw[d]at z;cases z⟩
 keep:=λi h h' st k=>st.at λo e=>k it (by simp) o e
 item:=by
  intro X hP hw hK hc i Z s σ H E I hf st hg;subst hP hw hK;obtain⟨xs,x,hq,hx⟩:=hg;obtain⟨ar,rv,p,hz⟩:=I.tuple hq;obtain⟨u,hu,ru⟩:=rv.get hx;obtain⟨f0,f1,f2,f3,f4,f5⟩:=hf it (by simp);refine wpAny_pyNext_tuple_item st (show s.heap.IsTuple a ar.toArray from p) (x:=u) (by simpa using hu) λh' mw sb=>?_;have I1:Inv X Z σ H {s with heap:=h'}:=I.turned (t':=s.toks) (λb o hb e=>(sb.2 b hb).trans e) f0 f1 f3 f4 f5;obtain⟨o,e,c,d⟩:=id mw;exact⟨u,rfl,rD (s:={s with heap:=h'}) e c d ⋯ ⟨x,H,I1,ru,⟨rfl,λys hy=>by rw[I.kl hy hq];exact hx⟩,mw,λb hb=>(hf b hb).1⟩⟩
 done:=by
  intro X hP hw hK hc i Z s σ H E I hf st hg;subst hP hw hK;obtain⟨xs,hq,hx⟩:=hg;obtain⟨ar,rv,p,hz⟩:=I.tuple hq;obtain⟨f0,f1,f2,f3,f4,f5⟩:=hf it (by simp);have hl:=rv.length;exact wpAny_pyNext_tuple_end (I.ok.hd hc) st (show s.heap.IsTuple a ar.toArray from p) (by simp;omega) λh' eb=>⟨rfl,I.turned (t':=s.toks) (λb o hb e=>eb b o hb e) f0 f1 f3 f4 f5⟩
 self:=λ_ _ _ _ _ st h=>wpAny_pyIter_tupleiter st h
theorem FK{K:Ab}(it:cr)(lo:Int)(n:Nat):Turn P w K tg (Itr lo n) [it] it (λi h=>IsRangeIter h it (lo+(i:Nat)*1) ((n:Int)-(i:Nat)) 1) where
 mem:=by simp
 obj:=λi h st b hb=>by
  have e:b=it:=by simpa using hb
  subst e;exact⟨_,st,λv z=>by
   have z':=z;cases z'⟩
 keep:=λi h h' st k=>k it (by simp) _ st
 item:=by
  intro X hP hw hK hc i Z s σ H E I hf st hg;subst hP hw hK;obtain⟨f0,f1,f2,f3,f4,f5⟩:=hf it (by simp);have W:=Walks.range (prog:=X.prog) (w:=X.w) (I.ok.hd hc) it lo 1 n;refine W.item i s _ _ hg st λv h' tk hv mw kk=>?_;obtain⟨t,rfl⟩:=hv;have I1:Inv X Z σ H {s with heap:=h',toks:=tk}:=I.turned (λb o hb e=>kk b o (by simpa using hb) e) f0 f1 f3 f4 f5;refine⟨_,rfl,rD (s:={s with heap:=h',toks:=tk}) (n:="range_iterator") mw rfl rfl ⋯ ⟨.int (lo+i),H,I1,⟨t,?_⟩,⟨rfl,rfl⟩,mw,λb hb=>(hf b hb).1⟩⟩;rw[Int.mul_one]
 done:=by
  intro X hP hw hK hc i Z s σ H E I hf st hg;obtain⟨f0,f1,f2,f3,f4,f5⟩:=hf it (by simp);exact wpAny_pyNext_range_end (I.ok.hd hc) st (by have:n<=i:=hg;omega) λh' eb=>⟨rfl,I.turned (t':=s.toks) (λb o hb e=>eb b o hb e) f0 f1 f3 f4 f5⟩
 self:=λ_ _ _ _ _ st h=>wpAny_pyIter_rangeiter st h
end L2
variable{p:Cj}{fp:O BG}{iter:BW}{wi:L2.TI}
namespace L2
section
theorem Mj{R:It->Hp->Prop}{lo hi:Int}{t u v:Tok}{tk:Nat}(I:Inv X Z σ H s)(h1:-(2 ^ 62)<=lo)(h2:lo < 2 ^ 62)(h3:-(2 ^ 62)<=hi)(h4:hi < 2 ^ 62)
  (q:R (Itr lo (hi-lo).toNat) H):ev (f8 X.prog X.w) X.A (pyIter (.ref s.heap.objs.size)) (PIE X Z σ tg R) E {s with heap:=s.heap.push {cls:=.type "range",data:=.fields #[.int lo t,.int hi u,.int 1 v]},toks:=tk}:=by
 refine wpAny_pyIter_range (IsRange.new ..) (small_one h1 h2 h3 h4) ?_;have I1:Inv X Z σ H {s with heap:=s.heap.push {cls:=.type "range",data:=.fields #[.int lo t,.int hi u,.int 1 v]},toks:=tk}:=I.kept λb o e=>Ah _ e;refine⟨(s.heap.push {cls:=.type "range",data:=.fields #[.int lo t,.int hi u,.int 1 v]}).objs.size,[(s.heap.push {cls:=.type "range",data:=.fields #[.int lo t,.int hi u,.int 1 v]}).objs.size],_,_,H,rfl,
  I1.kept (t':=tk) λb o e=>Ah _ e,FK _ lo (hi-lo).toNat,?_,λb hb=>?_,q⟩
 ·have e1:lo+((0:Nat):Int)*1=lo:=by simp
  have e2:(((hi-lo).toNat:Nat):Int)-((0:Nat):Int)=Builtin.Range.rangeSize lo hi 1:=by rw[rangeSize_one];split <;> omega
  show IsRangeIter _ _ (lo+((0:Nat):Int)*1) ((((hi-lo).toNat:Nat):Int)-((0:Nat):Int)) 1;rw[e1,e2];exact Ap _ rfl
 ·have e:b=(s.heap.push {cls:=.type "range",data:=.fields #[.int lo t,.int hi u,.int 1 v]}).objs.size:=by simpa using hb
  subst e;exact I1.wQ (Ao _) (I1.bj.fresh (Ao _))
def Y2(ta:TA):TI:=λσ H R=>ta σ H λvs H1=>∃j:Int,vs=[.int j]/\-(2 ^ 62)<=j/\j < 2 ^ 62/\R (Itr 0 j.toNat) H1
theorem JS{ta:TA}(hg:Gl X "range")(hm:X.mg "range"=bn)(ha:PA X [a] ta)(hs:gl [a] X.env=[(false,lc a X.env)]:=by rfl):PI X tg (.Call (.Name "range" p) [a] [] pos) (Y2 ta):=by
 intro Z s σ H R I h;refine Call_ (iT I hg hm boot_range (Bf (bp (ha pos Z s σ H _ I h) λus s1 ⟨vs,H1,I1,r1,q1⟩=>?_) hs rfl));obtain⟨j,e,q1,q2,q⟩:=q1;subst e;cases r1 with
 | cons r rr=>
  cases rr;obtain⟨t,rfl⟩:=r;exact call_range_1 (Mj I1 ∅ ∅ q1 q2 (by simpa using q))
def abJ(wi:TI)(g:TG)(tb:TS):TS:=λD σ H=>wi σ H λJ H1=>∃W:Nat->Nat->St->Hp->Prop,(∃m,W 0 m σ H1)/\∀i m σ H,W i m σ H->
 (J.stop i H/\D.nx σ H)\/(J.go i H/\∃N:St->Hp->Prop,(∀σ' H',N σ' H'->∃m',m' < m/\W (i+1) m' σ' H')/\∀x H',J.Sz i H x H'->g x σ H' λσ2 H2=>tb {D with nx:=N,ct:=N,bk:=D.nx} σ2 H2)
def nZ(fp:O cr)(h:mo):O (cr×Obj):=fp.filterMap λb=>(h.get? b).map λo=>(b,o)
def iH(hb:b∈fp)(e:h.get? b=ap o):(b,o)∈nZ fp h:=List.mem_filterMap.mpr ⟨b,hb,by rw[e];rfl⟩
def JV{p:cr×Obj}(hp:p∈nZ fp h):p.1∈fp/\h.get? p.1=ap p.2:=by
 obtain⟨b,hb,e⟩:=List.mem_filterMap.mp hp;cases q:h.get? b with
 | none=>rw[q]at e;cases e
 | some o=>
  rw[q]at e;have e':=Option.some.inj e;subst e';exact⟨hb,q⟩
def Inv.pinned(I:Inv X Z σ H s)(hf:∀b∈fp,t6 X Z H b)(ho:∀b∈fp,∃o,s.heap.get? b=ap o/\∀v,o.data≠.cell v):Inv X (Z++nZ fp s.heap) σ H s:=
 I.Iq λp hp=>(Ba.mp hp).elim (λz=>I.pin p (AB _ z)) λz=>by
  obtain⟨hb,e⟩:=JV z;obtain⟨f0,f1,f2,_⟩:=hf p.1 hb;obtain⟨o,e',d⟩:=ho p.1 hb;rw[e]at e';cases e';exact⟨e,f0,f1,f2,d⟩
def Inv.jI{pl:O (cr×Obj)}(I:Inv X (Z++pl) σ H s):Inv X Z σ H s:=I.Iq λp hp=>I.pin p (AB _ (BD _ hp))
def Mu{g:TG}{tb:TS}(hp:xL (f8 X.prog X.w) X.A X.env X.xe)(hc:X.calm=true)(hi:PI X tg iter wi)(hg:PG X tg g)(hb:qh X body tb)
  (hs:u9 X iter:=by intro _;rfl):PS X (.For tg iter body [] pos) (abJ wi g tb):=by
 intro Z s σ H D I h;refine wpAny_For (bp (hi Z s σ H _ I h) λv s1 h1=>bp h1 λì s2 h2=>?_) hs;obtain⟨it,fp,tn,J,H2,e,I2,T,JG,f2,W,⟨m0,w0⟩,turn⟩:=h2;subst e;have Ul:∀{H':Hp},(∀b∈fp,H' b=bn)->∀b∈fp,t6 X Z H' b:=λhn b hb=>⟨hn b hb,(f2 b hb).2⟩;refine codeAny_forLoop_any (λn s'=>∃i σ' H',Inv X Z σ' H' s'/\tn i s'.heap/\(∀b∈fp,H' b=bn)/\W i n σ' H') ?_ m0 ⟨0,σ,H2,I2,JG,λb hb=>(f2 b hb).1,w0⟩;rintro n s3 ⟨i,σ3,H3,I3,X6,ZD,w3⟩;rcases turn i n σ3 H3 w3 with⟨stop,qn⟩ | ⟨go,N,hN,step⟩
 ·refine Ca hp (bp (T.done X rfl rfl rfl hc i Z s3 σ3 H3 X.xe I3 (Ul ZD) X6 stop) λr s4 ⟨hr,I4⟩=>?_);subst hr;exact DB ⟨σ3,H3,I4,qn⟩
 ·refine Ca hp (bp (T.item X rfl rfl rfl hc i Z s3 σ3 H3 X.xe I3 (Ul ZD) X6 go) λr s4 ⟨u,hr,h4⟩=>?_);subst hr;refine Ca hp (bp h4 λ_ s5 ⟨x,H5,I5,r5,y5,Um,Ğ⟩=>?_);have Ģ:=I5.pinned (Ul Ğ) (T.obj _ _ Um);refine Ca hp (bp (hg _ s5 σ3 H5 x u _ Ģ r5 (step x H5 y5)) λ_ s6 ⟨σ6,H6,I6,q6⟩=>?_);refine Ca hp (bp (hb _ s6 σ6 H6 _ I6 q6) λf s7 q7=>?_);have again:∀{σ7:St}{H7:Hp},Inv X (Z++nZ fp s5.heap) σ7 H7 s7->N σ7 H7->∃m,m < n/\∃i σ' H',Inv X Z σ' H' s7/\tn i s7.heap/\(∀b∈fp,H' b=bn)/\W i m σ' H':=λ{σ7 H7} I7 n7=>by
   obtain⟨m',hm,w7⟩:=hN σ7 H7 n7;refine⟨m',hm,i+1,σ7,H7,I7.jI,T.keep _ _ _ Um λb hb o e=>(I7.pin (b,o) (AB _ (AB _ (iH hb e)))).1,λb hb=>?_,w7⟩;obtain⟨o,e,d⟩:=T.obj _ _ Um b hb;exact(I7.pin (b,o) (AB _ (AB _ (iH hb e)))).2.1
  cases f with
  | next=>obtain⟨σ7,H7,I7,n7⟩:=q7;exact again I7 n7
  | cont=>obtain⟨σ7,H7,I7,n7⟩:=q7;exact again I7 n7
  | brk=>obtain⟨σ7,H7,I7,q7⟩:=q7;exact⟨σ7,H7,I7.jI,q7⟩
  | ret v=>obtain⟨x7,σ7,H7,I7,r7,q7⟩:=q7;exact⟨x7,σ7,H7,I7.jI,r7,q7⟩
end
end L2
variable{i:Int}{g:Int->Int->Int}{Lw:PySem.CmpOp}{ar:O A5}
namespace L2
abbrev R2:=V->V->Hp->VK->Prop
def f6(X:Cx)(f:ce->ce->Sem ce)(r:R2):Prop:=
 ∀(Z:O (cr×Obj)) (s:db) (σ:St) (H:Hp) (x y:V) (v u:ce) (Q:VK),Inv X Z σ H s->RelV x v->RelV y u->r x y H Q->
  ev (f8 X.prog X.w) X.A (f v u) (EP X Z σ Q) X.xe s
def UnR(X:Cx)(f:ce->Sem ce)(r:V->Hp->VK->Prop):Prop:=
 ∀(Z:O (cr×Obj)) (s:db) (σ:St) (H:Hp) (x:V) (v:ce) (Q:VK),Inv X Z σ H s->RelV x v->r x H Q->
  ev (f8 X.prog X.w) X.A (f v) (EP X Z σ Q) X.xe s
def bJ(X:Cx)(f:ce)(r:O V->Hp->VK->Prop):Prop:=
 ∀(Z:O (cr×Obj)) (s:db) (σ:St) (H:Hp) (xs:O V) (us:O ce) (Q:VK),Inv X Z σ H s->Vals xs us->r xs H Q->
  ev (f8 X.prog X.w) X.A (call f us) (EP X Z σ Q) X.xe s
def ady(X:Cx)(r:V->Hp->(Bool->Hp->Prop)->Prop):Prop:=
 ∀(Z:O (cr×Obj)) (s:db) (σ:St) (H:Hp) (x:V) (v:ce) (Q:Bool->Hp->Prop),Inv X Z σ H s->RelV x v->r x H Q->
  ev (f8 X.prog X.w) X.A (truthy v) (TP X Z σ Q) X.xe s
def SE(r:R2)(ta tb:TE):TE:=λσ H Q=>ta σ H λx H1=>tb σ H1 λy H2=>r x y H2 Q
def tUn(r:V->Hp->VK->Prop)(ta:TE):TE:=λσ H Q=>ta σ H λx H1=>r x H1 Q
def rI(C:Int->Int->Prop)(g:Int->Int->V):R2:=λx y H Q=>∃i j,x=.int i/\y=.int j/\C i j/\Q (g i j) H
def Qe(g:Int->Int->V):R2:=λx y H Q=>∃i j,x=.int i/\y=.int j/\Q (g i j) H
def rU(g:Int->V):V->Hp->VK->Prop:=λx H Q=>∃i,x=.int i/\Q (g i) H
section
variable{b:im}
def WA(ha:PE X a ta)(hb:PE X b tb)(I:Inv X Z σ H s)
  (h:ta σ H λx H1=>tb σ H1 λy H2=>R x y H2) {f:ce->ce->Sem ce}
  (hf:∀v u s2 x y H2,Inv X Z σ H2 s2->RelV x v->RelV y u->R x y H2->ev (f8 X.prog X.w) X.A (f v u) Q X.xe s2) :
  ev (f8 X.prog X.w) X.A (lc a X.env) (λv s₁=>ev (f8 X.prog X.w) X.A (lc b X.env) (λu s₂=>ev (f8 X.prog X.w) X.A (f v u) Q X.xe s₂) X.xe s₁) X.xe s:=by
 refine bp (ha Z s σ H _ I h) λv s1 ⟨x,H1,I1,r1,q1⟩=>?_;refine bp (hb Z s1 σ H1 _ I1 q1) λu s2 ⟨y,H2,I2,r2,q2⟩=>?_;exact hf v u s2 x y H2 I2 r1 r2 q2
def Ir{op:Operator}{r:R2}(ho:f6 X (re op) r)(ha:PE X a ta)(hb:PE X b tb):PE X (.BinOp a op b pos) (SE r ta tb):=by
 intro Z s σ H Q I h;exact wpAny_BinOp (WA ha hb I h λv u s2 x y H2 I2 rx ry q=>ho Z s2 σ H2 x y v u Q I2 rx ry q)
def Yu{op:UnaryOp}{r:V->Hp->VK->Prop}(ho:UnR X (unaryOp op) r)(ha:PE X a ta):PE X (.UnaryOp op a pos) (tUn r ta):=by
 intro Z s σ H Q I h;exact UnaryOp_ (bp (ha Z s σ H _ I h) λv s1 ⟨x,H1,I1,r1,q1⟩=>ho Z s1 σ H1 x v Q I1 r1 q1)
def opI{f:ce->ce->Sem ce}{C:Int->Int->Prop}
  (rule:∀(i j:Int) (t u:Tok) (s:db) (Q:ce->db->Prop) (E:ce->db->Prop),C i j->Q (.int (g i j) s.toks) {s with toks:=s.toks+1}->ev (f8 X.prog X.w) X.A (f (.int i t) (.int j u)) Q E s) :
  f6 X f (rI C λi j=>.int (g i j)):=by
 intro Z s σ H x y v u Q I rx ry h;obtain⟨i,j,rfl,rfl,hc,q⟩:=h;obtain⟨t,rfl⟩:=rx;obtain⟨t',rfl⟩:=ry;exact rule i j t t' s _ _ hc ⟨.int (g i j),H,I.tok _,⟨_,rfl⟩,q⟩
def YG{f:ce->ce->Sem ce}
  (rule:∀(i j:Int) (t u:Tok) (s:db) (Q:ce->db->Prop) (E:ce->db->Prop),Q (.int (g i j) s.toks) {s with toks:=s.toks+1}->ev (f8 X.prog X.w) X.A (f (.int i t) (.int j u)) Q E s) :
  f6 X f (Qe λi j=>.int (g i j)):=by
 intro Z s σ H x y v u Q I rx ry h;obtain⟨i,j,rfl,rfl,q⟩:=h;obtain⟨t,rfl⟩:=rx;obtain⟨t',rfl⟩:=ry;exact rule i j t t' s _ _ ⟨.int (g i j),H,I.tok _,⟨_,rfl⟩,q⟩
def QJ{f:ce->ce->Sem ce}{g:Int->Int->Bool}
  (rule:∀(i j:Int) (t u:Tok) (s:db) (Q:ce->db->Prop) (E:ce->db->Prop),Q (.bool (g i j)) s->ev (f8 X.prog X.w) X.A (f (.int i t) (.int j u)) Q E s) :
  f6 X f (Qe λi j=>.bl (g i j)):=by
 intro Z s σ H x y v u Q I rx ry h;obtain⟨i,j,rfl,rfl,q⟩:=h;obtain⟨t,rfl⟩:=rx;obtain⟨t',rfl⟩:=ry;exact rule i j t t' s _ _ ⟨.bl (g i j),H,I,rfl,q⟩
def Sx(i j:Int):Prop:=0 < j/\j < 1073741824
def O5(i j:Int):Prop:=0<=j/\j<=1000000/\i.natAbs < 2 ^ 64
def Sw(i j:Int):Prop:=(-(2 ^ 64) < i/\i < 2 ^ 64)\/(-(2 ^ 64) < j/\j < 2 ^ 64)
def Sw.ok{j:Int}(h:Sw i j):u8 i j:=by
 rcases h with⟨h1,h2⟩ | ⟨h1,h2⟩
 ·exact .of_left (intBits_le_64 h1 h2)
 ·exact .of_right (intBits_le_64 h1 h2)
def Vd:f6 X (re .Add) (Qe λi j=>.int (i+j)):=YG λ_ _ _ _ _ _ _ q=>add_int q
def U4:f6 X (re .Sub) (Qe λi j=>.int (i-j)):=YG λ_ _ _ _ _ _ _ q=>sub_int q
theorem QD:f6 X (re .FloorDiv) (rI Sx λi j=>.int (i / j)):=opI λi j _ _ _ _ _ hc q=>by
 have h1:(0:Int) < j:=hc.1;have h2:j < 1073741824:=hc.2;exact floordiv_int ∅ (by rw[Int.fdiv_eq_ediv_of_nonneg i ∅];exact q) (.inl (PyProof.noPylong_small ∅))
theorem U8:f6 X (re .Mod) (rI (λ_ j=>0 < j) λi j=>.int (i % j)):=opI λi j _ _ _ _ _ hc q=>by
 have h1:(0:Int) < j:=hc;exact mod_int' ∅ (by rw[Int.fmod_eq_emod_of_nonneg i ∅];exact q)
def U6:f6 X (re .Pow) (rI O5 λi j=>.int (i ^ j.toNat)):=opI λ_ _ _ _ _ _ _ hc q=>pow_int_small hc.1 hc.2.1 hc.2.2 q
def unI{f:ce->Sem ce}{g:Int->Int}
  (rule:∀(i:Int) (t:Tok) (s:db) (Q:ce->db->Prop) (E:ce->db->Prop),Q (.int (g i) s.toks) {s with toks:=s.toks+1}->ev (f8 X.prog X.w) X.A (f (.int i t)) Q E s) :
  UnR X f (rU λi=>.int (g i)):=by
 intro Z s σ H x v Q I rx h;obtain⟨i,rfl,q⟩:=h;obtain⟨t,rfl⟩:=rx;exact rule i t s _ _ ⟨.int (g i),H,I.tok _,⟨_,rfl⟩,q⟩
def Ub:UnR X (unaryOp .USub) (rU λi=>.int (-i)):=unI λ_ _ _ _ _ q=>neg_int q
end
section
variable{b c:im}{tc:TE}
def NU{Q:VK}{k k':Bool}(I:Inv X Z σ H s)(q:Q (.bl k) H)(e:k=k'):EP X Z σ Q (.bool k') s:=by
 subst e;exact⟨.bl k,H,I,rfl,q⟩
def YC:f6 X (kw .Lt) (Qe λi j=>.bl (decide (i < j))):=QJ λ_ _ _ _ _ _ _ q=>lt_int q
def YD:f6 X (kw .LtE) (Qe λi j=>.bl (decide (i<=j))):=QJ λ_ _ _ _ _ _ _ q=>le_int q
def YE:f6 X (kw .Gt) (Qe λi j=>.bl (decide (j < i))):=QJ λ_ _ _ _ _ _ _ q=>gt_int q
def YF:f6 X (kw .GtE) (Qe λi j=>.bl (decide (j<=i))):=QJ λ_ _ _ _ _ _ _ q=>ge_int q
def JU:f6 X (kw .In) (λx y H Q=>∃i j,x=.str i/\y=.str j/\Q (.bl (!(Builtin.Str.occurrences j i 0 j.length 1).isEmpty)) H):=by
 intro Z s σ H x y v u Q I rx ry h;obtain⟨i,j,rfl,rfl,q⟩:=h;obtain⟨t,rfl⟩:=rx;obtain⟨t',rfl⟩:=ry;exact in_str (NU I q rfl)
def U9:f6 X (kw .Is) (λx y H Q=>y=.aN/\Q (.bl (decide (x=.aN))) H):=by
 intro Z s σ H x y v u Q I rx ry h;obtain⟨rfl,q⟩:=h;cases ry;refine is_none_gen (NU I q ?_);cases x <;> first
  | (cases rx;rfl)
  | (obtain⟨t,rfl⟩:=rx;rfl)
def f6.or{f:ce->ce->Sem ce}{r r':R2}(h:f6 X f r)(h':f6 X f r'):f6 X f (λx y H Q=>r x y H Q\/r' x y H Q):=by
 intro Z s σ H x y v u Q I rx ry q;rcases q with q | q
 ·exact h Z s σ H x y v u Q I rx ry q
 ·exact h' Z s σ H x y v u Q I rx ry q
def lM(b:im)(h:op≠.In:=by decide)(h2:op≠.NotIn:=by decide):nn op b=false:=by
 have e1:(op==CmpOp.In)=false:=by cases op <;> first | rfl | exact absurd rfl h
 have e2:(op==CmpOp.NotIn)=false:=by cases op <;> first | rfl | exact absurd rfl h2
 cases b <;> simp[nn,e1,e2]
def vE{r:R2}(ho:f6 X (kw op) r)(ha:PE X a ta)(hb:PE X b tb)(hm:nn op b=false):PE X (.Compare a [op] [b] pos) (SE r ta tb):=by
 intro Z s σ H Q I h;exact wpAny_Compare1 (WA ha hb I h λv u s2 x y H2 I2 rx ry q=>ho Z s2 σ H2 x y v u Q I2 rx ry q) hm
def SD(t:TE):TT:=λσ H Q=>t σ H λx H'=>∃k,x=.bl k/\Q k H'
def vt{r:R2}(ho:f6 X (kw op) r)(ha:PE X a ta)(hb:PE X b tb)(hm:nn op b=false):PT X (.Compare a [op] [b] pos) (SD (SE r ta tb)):=by
 intro Z s σ H Q I h;refine wpAny_isTrue_Compare1 (bp (ha Z s σ H _ I h) λv s1 ⟨x,H1,I1,r1,q1⟩=>bp (hb Z s1 σ H1 _ I1 q1) λu s2 ⟨y,H2,I2,r2,q2⟩=>
  bp (ho Z s2 σ H2 x y v u _ I2 r1 r2 q2) λc s3 ⟨z,H3,I3,r3,k,e,q3⟩=>?_) hm
 subst e;cases r3;exact Bw ⟨H3,I3,q3⟩
def FP(r r':R2)(ta tb tc:TE):TE:=λσ H Q=>ta σ H λx H1=>tb σ H1 λy H2=>r x y H2 λz H3=>∃k,z=.bl k/\
 (if k=true then tc σ H3 λw' H4=>r' y w' H4 Q else Q (.bl false) H3)
def MH{r r':R2}(ho:f6 X (kw op) r)(NC:f6 X (kw Lw) r')(ha:PE X a ta)(hb:PE X b tb)(hc:PE X c tc)
  (hm:lastMarks [op,Lw] [b,c]=false:=by with_unfolding_all rfl):PE X (.Compare a [op,Lw] [b,c] pos) (FP r r' ta tb tc):=by
 intro Z s σ H Q I h;refine Compare_chain (bp (ha Z s σ H _ I h) λv s1 ⟨x,H1,I1,r1,q1⟩=>chain_link (bp (hb Z s1 σ H1 _ I1 q1) λu s2 ⟨y,H2,I2,r2,q2⟩=>
  bp (ho Z s2 σ H2 x y v u _ I2 r1 r2 q2) λd s3 ⟨z,H3,I3,r3,k,e,q3⟩=>?_)) hm
 subst e;cases r3;refine Bw ?_;cases k with
 | false=>exact ite_ff ⟨.bl false,H3,I3,rfl,q3⟩
 | true=>exact ite_tt (chain_last (bp (hc Z s3 σ H3 _ I3 q3) λw' s4 ⟨z',H4,I4,r4,q4⟩=>NC Z s4 σ H4 y z' u w' Q I4 r2 r4 q4))
def Ms{r r':R2}(ho:f6 X (kw op) r)(NC:f6 X (kw Lw) r')(ha:PE X a ta)(hb:PE X b tb)(hc:PE X c tc)
  (hm:lastMarks [op,Lw] [b,c]=false:=by with_unfolding_all rfl):PT X (.Compare a [op,Lw] [b,c] pos) (SD (FP r r' ta tb tc)):=by
 intro Z s σ H Q I h;refine isTrue_chain (bp (ha Z s σ H _ I h) λv s1 ⟨x,H1,I1,r1,q1⟩=>test_link (bp (hb Z s1 σ H1 _ I1 q1) λu s2 ⟨y,H2,I2,r2,q2⟩=>
  bp (ho Z s2 σ H2 x y v u _ I2 r1 r2 q2) λd s3 ⟨z,H3,I3,r3,k,e,q3⟩=>?_)) hm
 subst e;cases r3;refine Bw ?_;cases k with
 | false=>
  obtain⟨k',e',q'⟩:=q3;cases e';exact ite_ff ⟨H3,I3,q'⟩
 | true=>
  refine ite_tt (test_last (bp (hc Z s3 σ H3 _ I3 q3) λw' s4 ⟨z',H4,I4,r4,q4⟩=>bp (NC Z s4 σ H4 y z' u w' _ I4 r2 r4 q4) λd' s5 ⟨z2,H5,I5,r5,k2,e2,q5⟩=>?_));subst e2;cases r5;exact Bw ⟨H5,I5,q5⟩
def WK(K:Ab)(x:V)(H:Hp)(k:Bool):Prop:=
 match x with
 | .aN=>k=false
 | .bl b=>k=b
 | .int i=>k=(i != 0)
 | .str y=>y.length<=sizeLine/\k=((y.length:Int) != 0)
 | .Wz y=>y.size<=sizeLine/\k=((y.size:Int) != 0)
 | .ref p=>(∃xs,cT K H p xs/\k=!xs.isEmpty)\/(∃xs,dz K H p xs/\k=!xs.isEmpty)\/∃kvs,H p=ap (.dK kvs)/\k=!kvs.isEmpty
 | _=>False
def GO{kvs:O (κ×V)}{vs:O (κ×ce)}(r:KV kvs vs):(!vs.isEmpty)=!kvs.isEmpty:=by
 cases r <;> rfl
def rg(r:Vals xs ar):(!ar.toArray.isEmpty)=!xs.isEmpty:=by
 cases r <;> simp
def vZ:(sizeLine:Nat) < 2 ^ 63:=by rw[sizeLine_eq];decide
theorem Uc:ady X (λx H Q=>∃k,WK X.K x H k/\Q k H):=by
 intro Z s σ H x v Q I rx h;obtain⟨k,e,q⟩:=h;have hs:=sizeLine_eq;cases x with
 | aN=>
  cases rx;have e':=e;subst e';exact truthy_none ⟨H,I,q⟩
 | bl b=>
  cases rx;have e':=e;subst e';exact Bw ⟨H,I,q⟩
 | int i=>
  obtain⟨t,rfl⟩:=rx;have e':=e;subst e';exact PySem.P.truthy_int ⟨H,I,q⟩
 | str y=>
  obtain⟨t,rfl⟩:=rx;obtain⟨hy,e'⟩:y.length<=sizeLine/\k=((y.length:Int) != 0):=e;subst e';exact PySem.P.truthy_str ∅ ⟨H,I.tok _,q⟩
 | Wz y=>
  obtain⟨t,rfl⟩:=rx;obtain⟨hy,e'⟩:y.size<=sizeLine/\k=((y.size:Int) != 0):=e;subst e';exact PySem.W.truthy_bytes ∅ ⟨H,I.tok _,q⟩
 | ref p=>
  cases rx;have e':=e;rcases e' with⟨xs,hx,e'⟩ | ⟨xs,hx,e'⟩ | ⟨kvs,hx,e'⟩
  ·subst e';obtain⟨ar,r,pl,hz⟩:=I.list hx;have Á:=r.length;exact wpAny_truthy_list pl.isList (by simp only[Ai];omega) ⟨H,I.tok _,by rw[rg r];exact q⟩
  ·subst e';obtain⟨ar,r,pl,hz⟩:=I.tuple hx;have Á:=r.length;exact truthy_tuple pl (by simp only[Ai];omega) ⟨H,I.tok _,by rw[rg r];exact q⟩
  ·subst e';obtain⟨hz,hS,vs,r,m⟩:kvs.length<=sizeLine/\(p==sK)=false/\∃vs,KV kvs vs/\s.heap.DictOf (bG X.prog X.w) p vs:=I.bj p _ hx;have Á:=Paired.length r;exact wpAny_truthy_dict hS m ∅ ⟨H,I.tok _,by rw[GO r];exact q⟩
 | _=>exact(show False from e).elim
def Mr(ha:PE X a ta)(he:∀Å,isTrue a X.env Å=(do let v <- Å;standAt a.pos;sw [v] (truthy v))) :
  PT X a (λσ H Q=>ta σ H λx H'=>∃k,WK X.K x H' k/\Q k H'):=by
 intro Z s σ H Q I h;exact isTrue_plain (bp (ha Z s σ H _ I h) λv s1 ⟨x,H1,I1,r1,q1⟩=>Uc Z s1 σ H1 x v Q I1 r1 q1) (he _)
def F5:f6 X (re .Add) (λx y H Q=>∃i j,x=.str i/\y=.str j/\i.length+j.length<=sizeLine/\Q (.str (i++j)) H):=by
 intro Z s σ H x y v u Q I rx ry h;obtain⟨i,j,rfl,rfl,hz,q⟩:=h;obtain⟨t,rfl⟩:=rx;obtain⟨t',rfl⟩:=ry;exact add_str (λt' tk=>⟨.str (i++j),H,I.tok _,⟨_,rfl⟩,q⟩) hz
def vals1{x:V}(r:Vals [x] us):∃u,us=[u]/\RelV x u:=by
 cases r with
 | cons r1 r2=>cases r2;exact⟨_,rfl,r1⟩
def vals2{x:V}(r:Vals [x,y] us):∃u w',us=[u,w']/\RelV x u/\RelV y w':=by
 cases r with
 | cons r1 r2=>
  cases r2 with
  | cons r3 r4=>cases r4;exact⟨_,_,rfl,r1,r3⟩
def OE:bJ X (.builtin "abs") (λxs H Q=>∃i,xs=[.int i]/\Q (.int (if i < 0 then -i else i)) H):=by
 intro Z s σ H xs us Q I r h;obtain⟨i,rfl,q⟩:=h;obtain⟨u,rfl,t,rfl⟩:=vals1 r;exact call_abs_int λu tk=>⟨.int (if i < 0 then -i else i),H,I.tok _,⟨_,rfl⟩,q⟩
def K8(hc:X.calm=true):bJ X (.builtin "max") (λxs H Q=>∃i j,xs=[.int i,.int j]/\Q (.int (if j > i then j else i)) H):=by
 intro Z s σ H xs us Q I r h;obtain⟨i,j,rfl,q⟩:=h;obtain⟨u,w',rfl,⟨t,rfl⟩,⟨t',rfl⟩⟩:=vals2 r;refine max_two_ints (I.ok.hd hc) λh' tk k=>⟨_,H,I.kept k,?_,q⟩;by_cases hj:j > i
 ·rw[if_pos hj,if_pos hj];exact⟨_,rfl⟩
 ·rw[if_neg hj,if_neg hj];exact⟨_,rfl⟩
def K7(hc:X.calm=true):bJ X (.builtin "min") (λxs H Q=>∃i j,xs=[.int i,.int j]/\Q (.int (if j < i then j else i)) H):=by
 intro Z s σ H xs us Q I r h;obtain⟨i,j,rfl,q⟩:=h;obtain⟨u,w',rfl,⟨t,rfl⟩,⟨t',rfl⟩⟩:=vals2 r;refine min_two_ints (I.ok.hd hc) λh' tk k=>⟨_,H,I.kept k,?_,q⟩;by_cases hj:j < i
 ·rw[if_pos hj,if_pos hj];exact⟨_,rfl⟩
 ·rw[if_neg hj,if_neg hj];exact⟨_,rfl⟩
def Lb:bJ X (.type "int") (λxs H Q=>(∃i,xs=[.int i]/\Q (.int i) H)\/∃k,xs=[.bl k]/\Q (.int (if k then 1 else 0)) H):=by
 intro Z s σ H xs us Q I r h;rcases h with⟨i,rfl,q⟩ | ⟨k,rfl,q⟩
 ·obtain⟨u,rfl,t,rfl⟩:=vals1 r;exact call_int_int ⟨.int i,H,I,⟨_,rfl⟩,q⟩
 ·obtain⟨u,rfl,r1⟩:=vals1 r;cases r1;exact call_int_bool ⟨.int (if k then 1 else 0),H,I.tok _,⟨_,rfl⟩,q⟩
def Z9(K:Ab)(x:V)(H:Hp)(n:Nat):Prop:=
 match x with
 | .str y=>y.length<=sizeLine/\n=y.length
 | .Wz y=>y.size<=sizeLine/\n=y.size
 | .ref p=>(∃xs,cT K H p xs/\n=xs.length)\/∃xs,dz K H p xs/\n=xs.length
 | _=>False
theorem OD:bJ X (.builtin "len") (λxs H Q=>∃x n,xs=[x]/\Z9 X.K x H n/\Q (.int n) H):=by
 intro Z s σ H xs us Q I r h;obtain⟨x,n,rfl,e,q⟩:=h;obtain⟨u,rfl,rx⟩:=vals1 r;have hs:=sizeLine_eq;cases x with
 | str y=>
  obtain⟨t,rfl⟩:=rx;obtain⟨hy,e'⟩:y.length<=sizeLine/\n=y.length:=e;subst e';exact len_str ∅ ⟨.int _,H,I.tok _,⟨_,rfl⟩,q⟩
 | Wz y=>
  obtain⟨t,rfl⟩:=rx;obtain⟨hy,e'⟩:y.size<=sizeLine/\n=y.size:=e;subst e';exact PySem.W.len_bytes ∅ ⟨.int _,H,I.tok _,⟨_,rfl⟩,q⟩
 | ref p=>
  cases rx;have e':=e;rcases e' with⟨xs,hx,e'⟩ | ⟨xs,hx,e'⟩
  ·subst e';obtain⟨ar,r',pl,hz⟩:=I.list hx;have Á:=r'.length;exact Calls.call_len_list pl.isList (by simp only[Ai];omega) ⟨.int xs.length,H,I.tok _,⟨_,by simp only[Ai];rw[Á]⟩,q⟩
  ·subst e';obtain⟨ar,r',pl,hz⟩:=I.tuple hx;have Á:=r'.length;exact len_tuple pl (by simp only[Ai];omega) ⟨.int xs.length,H,I.tok _,⟨_,by simp only[Ai];rw[Á]⟩,q⟩
 | _=>exact(show False from e).elim
end
end L2
variable{a:BG}{mA:BU->Option A5}
namespace L2
structure WO(h:mo)(x dx C:cr)(mA:Str->Option ce):Prop where
 obj:h.get? x=ap (EC C dx)
 ns:h.Ns1 dx mA
 ne:dx≠x
def J0{dx:cr}(n:h.Ns1 dx mA):∃od,h.get? dx=ap od/\∀name,EO name od=ap (mA name):=by
 obtain⟨o,es,ep,ho,hd,hk,_,hm⟩:=n;refine⟨o,ho,λname=>?_⟩;have e:=hm name;unfold nsFind findBy at e;rw[<- Array.find?_toList]at e;unfold EO;rw[hd];dsimp only
 split
 ·rename_i y q;rw[q]at e;exact congrArg ap e
 ·rename_i q;rw[q]at e;have a:es.toList.any (·.refKey)=false:=by
   rw[List.any_eq_false];intro y hy;obtain⟨z,t,acR⟩:=hk y (Array.mem_toList_iff.mp hy);simp[DictEntry.refKey,acR]
  have a':¬es.toList.any (·.refKey)=true:=by rw[a];exact AQ
  rw[if_neg a'];exact congrArg ap e
def WO.look{x dx C:cr}(I:WO h x dx C mA):∃od,PySem.W.InstAt h x (EC C dx) C (ap od)/\∀name,EO name od=ap (mA name):=
 let ⟨od,ho,hl⟩:=J0 I.ns
 ⟨od,⟨I.obj,rfl,rfl,ho⟩,hl⟩
def sN.some_of{o:Option ce}(r:sN (ap v) o):∃u,o=ap u/\RelV v u:=by
 cases o with
 | none=>exact(show False from r).elim
 | some u=>exact⟨u,rfl,r⟩
section
variable{C dx:cr}{fs:O (Str×V)}
def Rm(bj:kj P w H h)(e:H a=ap (.ins C dx fs)):∃mA,WO h a dx C mA/\(∀f,sN (fs.lookup f) (mA f))/\PySem.Within mA (fs.map (·.1))/\fs.length<=1000/\H dx=ap (.own a):=by
 obtain⟨d,z,ne,ob,mA,n,r,q⟩:=(show aY P w H h a (.ins C dx fs) from bj a _ e);exact⟨mA,⟨ob,n,ne⟩,r,q,z,d⟩
end
structure Cls(K:Ab)(C:cr):Prop where
 pg:Fo K C Str.empty=true
 hd:PySem.W.hasDictIn K C=true
 po:PySem.W.plainOver K C=true
 sa:ER K (.ref C) "__setattr__"=ap (ap (.builtin "object.__setattr__"))
def Cls.get{K:Ab}{C:cr}(c:Cls K C)(f:Str):Fo K C f=true:=c.pg
def O0(K:Ab)(C:cr)(f:Str):Prop:=ER K (.ref C) f=ap bn
section
variable{c:ce}{b:Bool}
inductive kX(K:Ab)(H:Hp):V->ce->Prop where
 | aN:kX K H .aN (.type "NoneType")
 | bl (x:Bool):kX K H (.bl x) (.type "bool")
 | int (i:Int):kX K H (.int i) (.type "int")
 | str (x:Str):kX K H (.str x) (.type "str")
 | Xi (x:UInt64):kX K H (.Xi x) (.type "float")
 | lst {a:cr}{xs:List V} (e:H a=ap (.lst xs)):kX K H (.ref a) (.type "list")
 | cz {a:cr}{o:Obj}{xs:List V} (e:H a=ap (.cz o (.lst xs))):kX K H (.ref a) (.type "list")
 | tup {a:cr}{xs:List V} (e:H a=ap (.tup xs)):kX K H (.ref a) (.type "tuple")
 | dK {a:cr}{kvs:List (Key×V)} (e:H a=ap (.dK kvs)):kX K H (.ref a) (.type "dict")
 | dT {a:cr}{kvs:List (List Key×V)} (e:H a=ap (.dT kvs)):kX K H (.ref a) (.type "dict")
 | ins {a C dx:cr}{fs:List (Str×V)} (e:H a=ap (.ins C dx fs)) (cl:Cls K C) (ha:ER K (.ref C) "__class__"=ap (ap (.builtin "object.__class__")))
   (hn:PySem.W.specialIn K (.builtin "object.__class__") "__get__"=ap (ap (.builtin "getset_descriptor.__get__"))) (htk:PySem.W.takesIn K (.builtin "object.__class__")=ap true)
   (hm:PySem.W.mroIn K C (.type "object")=ap true):kX K H (.ref a) (.ref C)
def Ki{x:V}{t:ce}(I:Inv X Z σ H s)(rx:RelV x u)(ty:kX X.K H x t)(e:Bq X.K t c=ap b)(h:∀tk,Q (.bool b) {s with toks:=tk}) :
  ev (f8 X.prog X.w) A (call (.builtin "isinstance") [u,c]) Q E s:=by
 cases ty with
 | aN=>cases (show u=AN from rx);exact A8 PySem.W.kitx_none I.tJ B6 e (λz=>nomatch z) h
 | bl y=>cases (show u=CB y from rx);exact A8 PySem.W.kitx_bool I.tJ B6 e (λz=>nomatch z) h
 | int i=>obtain⟨t,q⟩:=(show ∃t,u=DQ i t from rx);cases q;exact A8 PySem.W.kitx_int I.tJ B6 e (λz=>nomatch z) h
 | str y=>obtain⟨t,q⟩:=(show ∃t,u=DP y t from rx);cases q;exact A8 PySem.W.kitx_str I.tJ B6 e (λz=>nomatch z) h
 | Xi y=>obtain⟨t,q⟩:=(show ∃t,u=Value.float y t from rx);cases q;exact A8 PySem.W.kitx_float I.tJ B6 e (λz=>nomatch z) h
 | @lst a xs ea=>
  cases (show u=Ax a from rx);obtain⟨_,_,n,_,h1⟩:=(show aY X.prog X.w H s.heap a (.lst xs) from I.bj a _ ea);exact A8 D6 I.tJ ⟨_,h1,rfl⟩ e (λz=>nomatch z) h
 | @cz a ob xs ea=>
  cases (show u=Ax a from rx);obtain⟨_,_,_,n,_,h1⟩:=(show aY X.prog X.w H s.heap a (.cz ob (.lst xs)) from I.bj a _ ea);exact A8 D6 I.tJ ⟨_,h1,rfl⟩ e (λz=>nomatch z) h
 | @tup a xs ea=>
  cases (show u=Ax a from rx);obtain⟨_,_,_,p⟩:=(show aY X.prog X.w H s.heap a (.tup xs) from I.bj a _ ea);obtain⟨o,h1,h2,_⟩:=p;exact A8 Fc I.tJ ⟨o,h1,h2⟩ e (λz=>nomatch z) h
 | @dK a kvs ea=>
  cases (show u=Ax a from rx);obtain⟨_,_,vs,_,p⟩:=(show aY X.prog X.w H s.heap a (.dK kvs) from I.bj a _ ea);obtain⟨o,es,ep,h1,h2,_⟩:=p;exact A8 D7 I.tJ ⟨o,h1,h2.1⟩ e (λz=>nomatch z) h
 | @dT a kvs ea=>
  cases (show u=Ax a from rx);obtain⟨_,_,xs,_,o,es,ep,h1,h2,_⟩:=(show aY X.prog X.w H s.heap a (.dT kvs) from I.bj a _ ea);exact A8 D7 I.tJ ⟨o,h1,h2.1⟩ e (λz=>nomatch z) h
 | @ins a C dx fs ea cl ha hn htk hm=>
  cases (show u=Ax a from rx);obtain⟨mA,O_,_⟩:=Rm I.bj ea;obtain⟨od,J,_⟩:=O_.look;exact A8 (PySem.W.kitx_own (cl.get _) cl.hd ha hn htk hm) I.tJ J e (λz=>nomatch z) h
end
end L2
variable{v Ç pm eE ct oc:A5}{vs:O L2.V}{mg:BU->Option A5}{base:Ff}{fd:PySem.FuncData}{ps:O BU}{Â:Cj}{sc scope:PySem.Scope}{qual:BU}{an od:Option BG}{QA:Array (Option A5)}
namespace L2
structure d7(k:Nat)(A:wS):Prop where
 hd:A.handled=bn
 dp:A.depth+3*k+5 < recursionLimit
 un:A.units+16*k+200 < pc
 gd:A.guards=ap []
theorem d7.mono{k:Nat}(r:d7 k A)(h:j<=k):d7 j A:=⟨r.hd,by have:=r.dp;omega,by have:=r.un;omega,r.gd⟩
theorem d7.deeper{k:Nat}(r:d7 (k+1) A)(env:Env):d7 k (A.deeper env):=
 ⟨r.hd,by have:=r.dp;show A.depth+1+3*k+5 < _;omega,by have:=r.un;show A.units+3+16*k+200 < _;omega,r.gd⟩
theorem d7.depth{k:Nat}(r:d7 k A):A.depth < recursionLimit:=by have:=r.dp;omega
def abG:TA:=λ_ H Q=>Q [] H
def XY(ta:TE)(tr:TA):TA:=λσ H Q=>ta σ H λx H1=>tr σ H1 λxs H2=>Q (x::xs) H2
section
variable{t:TA}
def cW:PA X [] abG:=λ_ _ _ _ H Q I h=>Cz ⟨[],H,I,.nil,h⟩
def a9(ha:PE X e te)(hr:PA X es t)(hs:gV X e es:=by rfl):PA X (e::es) (XY te t):=by
 intro pos Z s σ H Q I h;rw[hs];refine B8 (bp (ha Z s σ H _ I h) λu s1 ⟨x,H1,I1,r1,q1⟩=>?_);exact bp (hr pos Z s1 σ H1 _ I1 q1) λus s2 ⟨xs,H2,I2,r2,q2⟩=>⟨x::xs,H2,I2,.cons r1 r2,q2⟩
end
abbrev Sp:=O V->Hp->VK->XK->Prop
abbrev O4:=O Env->Hp->db->XK->ce->db->Prop
structure Ss(P:sB)(w:ul)(K:Ab)(mg:Str->Option ce)(base:mo)(A:wS)(outer:List Env)(s:db)(H:Hp):Prop where
 frames:A.frames=ap outer
 mod:Mod K mg base
 bs:∀b o,base.get? b=ap o->s.heap.get? b=ap o/\H b=bn
 TX:base.objs.size<=s.heap.objs.size
 rH:s.heap.FunFrames base outer
 Xf:∀b∈LA outer,H b=bn
 bj:kj P w H s.heap
 bare:Gc s.gens
def CE(outer:O Env)(P:sB)(w:ul)(H:Hp)(s:db)(Q:VK)(u:ce)(s':db):Prop:=
 ∃v H',s'.os=s.os/\Gc s'.gens/\Un (LA outer) [] H H' s.heap s'.heap/\kj P w H' s'.heap/\RelV v u/\Q v H'
def CR(CX:O4)(outer:O Env)(P:sB)(w:ul)(H:Hp)(s:db)(Q:VK)(E:XK)(r:Result)(s':db):Prop:=
 match r with
 | .ok (.ret u)=>CE outer P w H s Q u s'
 | .ok _=>False
 | .error e=>CX outer H s E e s'
structure gc(P:sB)(w:ul)(K:Ab)(mg:Str->Option ce)(base:mo)(CX:O4)(k:Nat)(f:cr)(fd:EQ)(ps:List Str)(sp:Sp):Prop where
 len:∀vs H Q E,sp vs H Q E->vs.length=ps.length
 run:∀(A:wS) (outer:List Env) (s:db) (H:Hp) (args:Args) (us:List ce) (vs:List V) (Q:VK) (E:XK),d7 k A->Ss P w K mg base A outer s H->BindsTo s fd args (ps.zip us)->Vals vs us->sp vs H Q E->
  FM (f8 P w) A (.call (.ref f) args) (CR CX outer P w H s Q E) s
def gc.imp{K:Ab}{CX:O4}{k:Nat}{f:cr}{sp sp':Sp}(F:gc P w K mg base CX k f fd ps sp)
  (h:∀vs H Q E,sp' vs H Q E->sp vs H Q E):gc P w K mg base CX k f fd ps sp':=
 ⟨λvs H Q E q=>F.len vs H Q E (h _ _ _ _ q),λA outer s H args us vs Q E hr he hb hv hs=>F.run A outer s H args us vs Q E hr he hb hv (h _ _ _ _ hs)⟩
section
def Inv.adn(I:Inv X Z σ H s):Ss X.prog X.w X.K X.mg X.base X.A X.stack s H:=
 ⟨I.ok.frames,I.ok.mod,I.bs,Bp I.ok.TX I.sz,I.stack,I.H9,I.bj,I.bare⟩
def Inv.after{Q:VK}(I:Inv X Z σ H s)(h:CE X.stack X.prog X.w H s Q u s'):EP X Z σ Q u s':=by
 obtain⟨v,H',os,bare,un,bj,r,q⟩:=h;obtain⟨hh,g,d,t,os'⟩:=s';obtain rfl:os'=s.os:=os;exact⟨v,H',I.call (h':=hh) (g':=g) (d':=d) (t':=t) (ch:=[]) un bj bare (λb z=>absurd z (by simp)),r,q⟩
end
def Binds(K:Ab)(fd:EQ)(ps:O Str)(ds:O ce):Prop:=
 ∀(s:db) (us:O ce),K.In s.heap->(us++ds).length=ps.length->BindsTo s fd ⟨us,[]⟩ (ps.zip (us++ds))
def Binds.all{K:Ab}(h:∀us:O ce,us.length=ps.length->bindArgs fd ⟨us,[]⟩=pure (ps.zip us)):Binds K fd ps []:=λs us _ hl=>by
 rw[Cb]at hl ⊢;exact .of_eq (h us hl)
def Passes(CX:O4)(X:Cx)(E:XK):Prop:=∀(Z:O (cr×Obj)) (σ:St) (H:Hp) (s:db) (e:ce) (s':db),Inv X Z σ H s->CX X.stack H s E e s'->X.xe e s'
section
variable{CX:O4}{k:Nat}{f:cr}{sp:Sp}{dvs:O V}{ds:O ce}{E:XK}
def Md{Q:VK}(F:gc X.prog X.w X.K X.mg X.base CX k f fd ps sp)(hr:d7 k X.A)(hb:Binds X.K fd ps ds)(hd:Vals dvs ds)(hx:Passes CX X E)
  (I:Inv X Z σ H s) (r:Vals vs us) (h:sp (vs++dvs) H Q E):ev (f8 X.prog X.w) X.A (call (.ref f) us) (EP X Z σ Q) X.xe s:=by
 have r2:Vals (vs++dvs) (us++ds):=r.append hd;have hl:(us++ds).length=ps.length:=by rw[<- r2.length];exact F.len _ _ _ _ h
 refine wpAny_call (codeAny_mono (F.run X.A X.stack s H ⟨us,[]⟩ (us++ds) (vs++dvs) Q E hr I.adn (hb s us I.tJ hl) r2 h) λr s' hq=>?_);cases r with
 | error e=>exact hx Z σ H s e s' I hq
 | ok fl=>
  cases fl with
  | ret u=>exact I.after hq
  | next=>exact Bm hq
  | brk=>exact Bm hq
  | cont=>exact Bm hq
end
structure da(N P:List Str)(sc:o0):Prop where
 kind:sc.kind=.function
 co:sc.isCoroutine=false
 gen:sc.isGenerator=false
 nd:N.Nodup
 pre:N.take P.length=P
 par:∀x∈P,sc.names.lookup x=ap .local\/sc.names.lookup x=ap .cell
 Vf:∀y∈sc.names,y.2≠.free
theorem uR{kindOf:Str->Option ww}:∀{binds:O (Str×ce)}{m:Str->Option ce},(∀v,(x,v)∉binds)->bindL kindOf binds m x=m x
 | [],_,_=>rfl
 | (n,v)::r,m,h=>by
  unfold bindL;rw[uR λw hw=>h w (AM _ hw)]
  split
  ·have:x≠n:=by rintro rfl;exact h v Br
   simp[this]
  ·rfl
theorem uT{kindOf:Str->Option ww}:∀{binds:O (Str×ce)}{m:Str->Option ce},(∀v,(x,v)∉binds)->bindC kindOf binds m x=m x
 | [],_,_=>rfl
 | (n,v)::r,m,h=>by
  unfold bindC;rw[uT λw hw=>h w (AM _ hw)]
  split
  ·rfl
  ·have:x≠n:=by rintro rfl;exact h v Br
   simp[this]
theorem uS{kindOf:Str->Option ww}:∀{P:O Str}{vs:O ce}{i:Nat}{m:Str->Option ce},P.Nodup->P[i]?=ap x->vs[i]?=ap v->kindOf x=ap .local->
  bindL kindOf (P.zip vs) m x=ap v
 | [],_,_,_,_,h,_,_=>by simp at h
 | _::_,[],_,_,_,_,h,_=>by simp at h
 | p::P,w::vs,0,m,nd,h1,h2,hk=>by
  simp at h1 h2;subst h1;subst h2;show bindL kindOf ((p,w)::P.zip vs) m p=_;unfold bindL;rw[uR λv hv=>(DE.mp nd).1 (EH hv).1,if_pos hk];simp
 | p::P,w::vs,i+1,m,nd,h1,h2,hk=>by
  show bindL kindOf ((p,w)::P.zip vs) m x=_;unfold bindL;exact uS (i:=i) (DE.mp nd).2 (by simpa using h1) (by simpa using h2) hk
theorem uU{kindOf:Str->Option ww}:∀{P:O Str}{vs:O ce}{i:Nat}{m:Str->Option ce},P.Nodup->P[i]?=ap x->vs[i]?=ap v->kindOf x≠ap .local->
  bindC kindOf (P.zip vs) m x=ap v
 | [],_,_,_,_,h,_,_=>by simp at h
 | _::_,[],_,_,_,_,h,_=>by simp at h
 | p::P,w::vs,0,m,nd,h1,h2,hk=>by
  simp at h1 h2;subst h1;subst h2;show bindC kindOf ((p,w)::P.zip vs) m p=_;unfold bindC;rw[uT λv hv=>(DE.mp nd).1 (EH hv).1,if_neg hk];simp
 | p::P,w::vs,i+1,m,nd,h1,h2,hk=>by
  show bindC kindOf ((p,w)::P.zip vs) m x=_;unfold bindC;exact uU (i:=i) (DE.mp nd).2 (by simpa using h1) (by simpa using h2) hk
def start(N:O Str)(vs:O V):St:=vs.map ap++Al (N.length-vs.length) bn
def tT(CX:O4)(P:sB)(w:ul)(K:Ab)(mg:Str->Option ce)(base:mo)(N:O Str)(qual:Str)(scope:o0)(f:cr)(cd:ce)(A:wS)(outer:O Env)(s:db)(H:Hp)(E:XK):Cx where
 prog:=P
 w:=w
 K:=K
 mg:=mg
 base:=base
 A:=A.deeper (Db qual scope s.heap.objs.size f cd)
 N:=N
 s₀:=s
 H₀:=H
 env:=Db qual scope s.heap.objs.size f cd
 outer:=outer
 stack:=Db qual scope s.heap.objs.size f cd::outer
 ex:=[]
 calm:=true
 fn:=λ_=>true
 pn:=[]
 xe:=λe s'=>ev (f8 P w) (A.deeper (Db qual scope s.heap.objs.size f cd)) (leaving (Db qual scope s.heap.objs.size f cd) e) (λ_ Yc=>CX outer H s E e Yc) (λe' Yc=>CX outer H s E e' Yc) s'
def zE(h:sc.names.lookup x=ap .cell):∃c,(cellsFrom n sc.names []).lookup x=ap c:=by
 have q:=Ep sc.names n [] (.inl h);exact Option.isSome_iff_exists.mp q
theorem Kk{CX:O4}{K:Ab}{N:O Str}{f:cr}{cd:ce}{outer:O Env}{s1:db}{E:XK}
  (S:da N ps scope) (hd:A.handled=bn) (e0:Ss P w K mg base A outer s H) (hl:vs.length=ps.length) (r:Vals vs us)
  (x:InCallC s s.heap.objs.size (bindL (Db qual scope s.heap.objs.size f cd).kindOf (ps.zip us) λ_=>bn) (cellsFrom (s.heap.objs.size+1) scope.names []) (bindC (Db qual scope s.heap.objs.size f cd).kindOf (ps.zip us) λ_=>bn) s1) :
  Inv (tT CX P w K mg base N qual scope f cd A outer s H E) [] (start N vs) H s1:=by
 have dr:ps.length<=N.length:=by have:=congrArg B4 S.pre;rw[Cn]at this;omega
 obtain⟨h1,tk,rfl,hk⟩:=x.done;have YM:∀b:cr,b∉(tT CX P w K mg base N qual scope f cd A outer s H E).ex:=λb z=>absurd (show b∈([]:O cr) from z) (by simp);refine⟨⟨e0.mod,S.kind,rfl,rfl,Ao _,λy z c h1 h2=>?_,λy hy=>?_,λy c _ h=>?_,λ_=>hd,Around.frames_deeper e0.frames,.inr ⟨rfl,rfl⟩,λb z=>absurd z (YM b),e0.bs,e0.TX,λb _ _=>YM b,λb z=>absurd z (YM b),e0.rH,e0.Xf⟩,
  rfl,e0.bare,Un.kept hk,⟨_,x.toInCall.ns,λi y v h1 h2 h3=>?_⟩,λy c h=>⟨_,x.cell y c h⟩,e0.bj.fresh (Ao _),λy c h=>?_,λp hp=>absurd (show p∈([]:O (cr×Obj)) from hp) (by simp),e0.bj.kept hk,?_⟩
 ·exact name_of_addr x.apart (BJ h1) (BJ h2)
 ·rcases hy with hy | hy
  ·exact zE hy
  ·exact absurd rfl (S.Vf _ (BJ hy))
 ·exact DN (x.above y c (BJ h))
 ·have hi:i < vs.length:=by
   unfold start at h2;by_cases hi:i < vs.length
   ·exact hi
   ·rw[AA (by simpa using hi)]at h2;rw[BE]at h2
    split at h2 <;> cases h2
  have ha:vs[i]?=ap v:=by
   unfold start at h2;rw[AV (by simpa using hi),Ak]at h2;cases e:vs[i]? with
   | none=>rw[e]at h2;cases h2
   | some a=>rw[e]at h2;cases h2;rfl
  obtain⟨u,hu,rv⟩:=r.get ha;have hp:ps[i]?=ap y:=by
   rw[<- S.pre,List.getElem?_take_of_lt ∅];exact h1
  have ndP:ps.Nodup:=by rw[<- S.pre];exact S.nd.sublist (List.take_sublist _ _)
  refine⟨u,rv,?_⟩;rcases S.par y (BR hp) with k | k
  ·exact .inl ⟨k,uS ndP hp hu k⟩
  ·obtain⟨c,e⟩:=zE (n:=s.heap.objs.size+1) k;refine .inr ⟨.inl k,c,e,?_⟩;have q:=x.cell y c e;rw[uU ndP hp hu (by show scope.names.lookup y≠_;rw[k];decide)]at q;exact q
 ·exact e0.bj.fresh (DN (x.above y c (BJ h)))
 ·unfold start;show _=N.length;rw[Ad,Aj,Bi];omega
def ZG{CX:O4}{K:Ab}{k:Nat}{f:cr}{name:Str}{params:Arguments}{dV kV:ce}{N:O Str}{sp:Sp}(lk:K.lookup f=ap ⟨oc,od,.func (BP name qual params body scope dV kV Ç pm an eE ct),QA⟩)(ib:DS K eE qual=true)(S:da N ps scope)
  (len:∀vs H Q E,sp vs H Q E->vs.length=ps.length)
  (NJ:∀(A:wS) (outer:O Env) (s:db) (H:Hp) (vs:O V) (Q:VK) (E:XK),d7 k (A.deeper (Db qual scope s.heap.objs.size f eE))->sp vs H Q E->
   ∃t,qh (tT CX P w K mg base N qual scope f eE A outer s H E) body t/\t {nx:=λ_ H'=>Q .aN H',rt:=Q} (start N vs) H) :
  gc P w K mg base CX (k+1) f (BP name qual params body scope dV kV Ç pm an eE ct) ps sp:=by
 refine⟨len,λA outer s H args us vs Q E hr e0 hb r Ru=>?_⟩;have hl:=len _ _ _ _ Ru;have KX:K.In s.heap:=e0.mod.kin.keeps λb o e=>(e0.bs b o e).1;have lim:s.heap.NoLimit:=e0.mod.nolimit.keeps λb o e=>(e0.bs b o e).1;have Zh:∀y∈ps.zip us,scope.names.lookup y.1=ap .local\/(scope.names.lookup y.1=ap .cell/\((cellsFrom (s.heap.objs.size+1) scope.names []).lookup y.1).isSome=true):=λ⟨n,v⟩ hy=>by
  rcases S.par n (EH hy).1 with q | q
  ·exact .inl q
  ·exact .inr ⟨q,Ep _ _ _ (.inl q)⟩
 refine codeAny_call_function hr.depth (KX _ _ lk) rfl S.co S.gen rfl (PySem.W.codeRec_of KX ib) (hb _ _ _ _ ?_);refine wpAny_newFunctionEnv_cells S.kind Zh λenv he s1 x=>?_;subst he;refine⟨lim.keeps x.toInCall.keep,codeAny_func ?_⟩;obtain⟨t,ht,hq⟩:=NJ A outer s H vs Q E (hr.deeper _) Ru;have I:Inv (tT CX P w K mg base N qual scope f eE A outer s H E) [] (start N vs) H s1:=Kk S hr.hd e0 hl r x;refine BH (ht [] s1 (start N vs) H _ I hq) (λfl s' hs=>?_) λe s' hs=>hs;have fin:∀{σ':St}{H':Hp}{v:V}{u:ce},Inv (tT CX P w K mg base N qual scope f eE A outer s H E) [] σ' H' s'->RelV v u->Q v H'->CE outer P w H s Q u s':=
  λ{σ' H' v u} J rv q=>⟨v,H',J.os,J.bare,J.base,J.bj,rv,q⟩
 cases fl with
 | ret u=>
  obtain⟨v,σ',H',J,rv,q⟩:=hs;exact fin J rv q
 | next=>
  obtain⟨σ',H',J,q⟩:=hs;exact fin (v:=V.aN) (u:=AN) J rfl q
 | brk=>
  obtain⟨_,_,_,q⟩:=hs;exact Bm q
 | cont=>
  obtain⟨_,_,_,q⟩:=hs;exact Bm q
end L2
variable{T:String}
namespace L2
section
variable{t:TA}{id:String}{r:O V->Hp->VK->Prop}
def tCB(r:O V->Hp->VK->Prop)(t:TA):TE:=λσ H Q=>t σ H λvs H1=>r vs H1 Q
def fw(hc:bJ X (.builtin id) r)(hg:Gl X x)(hm:X.mg x=bn)(hv:nw x=ap (.builtin id))(ha:PA X (e::es) t)(hn:x≠"__name__":=by decide)(m6:ir x:=by decide)
  (he:gV X e es:=by rfl) (dr:mr X pos es:=by rfl):PE X (.Call (.Name x p) (e::es) [] pos) (tCB r t):=by
 intro Z s σ H Q I h;refine BC (iT I hg hm hv ?_ hn m6);exact PyProof.Rows.callWith_builtin1 (bp (ha pos Z s σ H _ I h) λus s1 ⟨vs,H1,I1,r1,q1⟩=>hc Z s1 σ H1 vs us Q I1 r1 q1) he dr
def kr(hc:bJ X (.type T) r)(hg:Gl X x)(hm:X.mg x=bn)(hv:nw x=ap (.type T))(ha:PA X (e::es) t)(hn:x≠"__name__":=by decide)(m6:ir x:=by decide)
  (he:gV X e es:=by rfl) (dr:mr X pos es:=by rfl):PE X (.Call (.Name x p) (e::es) [] pos) (tCB r t):=by
 intro Z s σ H Q I h;refine BC (iT I hg hm hv ?_ hn m6);exact Bf (bp (ha pos Z s σ H _ I h) λus s1 ⟨vs,H1,I1,r1,q1⟩=>hc Z s1 σ H1 vs us Q I1 r1 q1) he dr
end
end L2
variable{hi:Option Int}{prog:PySem.Program}{l:BG}{items:Array A5}{ns ms:O Int}{vl vu:A5}
namespace HT
open PySem PyProof.Rows
def lexLt:O Int->O Int->Bool
 | [],[]=>false
 | [],_::_=>true
 | _::_,[]=>false
 | x::xs,y::ys=>if x=y then lexLt xs ys else decide (x < y)
theorem Gs(x y:Int)(xs ys:O Int):lexLt (x::xs) (y::ys)=if x=y then lexLt xs ys else decide (x < y):=rfl
def Oa(A:wS)(s:db)(a:Int)(t:Tok)(c:Int)(u:Tok):∃e,De A s (.int a t) (.int c u) e/\(e=true↔a=c):=
 ⟨(a==c),DU a t c u,by simp⟩
def Mi(A:wS)(s:db)(a:Int)(t:Tok)(c:Int)(u:Tok)(prog:sB)(w:ul)(E:ce->db->Prop)(Q:ce->db->Prop)(h:Q (.bool (decide (a < c))) s) :
  ev (f8 prog w) A (richCompare .Lt (.int a t) (.int c u)) Q E s:=
 (PyProof.Rows.lt_int h:ev (f8 prog w) A (kw .Lt (.int a t) (.int c u)) Q E s)
section
open PySem.SeqAt
open PySem.AutoSeq1 (wpAny_loadPart')
open PySem.MeetsSeq PySem.MeetsSeq2 PySem.MeetsSeq3
theorem sY(l b:cr)(items bL:Array ce)(n n2:Nat)(dd R6:Option cr)(sl O9:Array (Option ce))(ns ms:O Int)(hi:wE items.toList ns)(hj:wE bL.toList ms) :
  Meets (wP.«tuple.__lt__» ⟨[.ref l,.ref b],[]⟩)
   (λ_ R s=>s.heap.get? l=ap {cls:=.type "tuple",dict:=dd,data:=.seq items n,slots:=sl}/\s.heap.get? b=ap {cls:=.type "tuple",dict:=R6,data:=.seq bL n2,slots:=O9}/\
    R (.ok (.ret (.bool (lexLt ns ms)))) s):=
 .of_wp λprog w A R s h=>by
  obtain⟨hp,g,d,tk,os⟩:=s;obtain⟨hl,hb,h⟩:=h;have f2:=AutoSeq1.sub_tuple_tuple;have z1:items.size=ns.length:=by rw[<- hi.length];simp
  have z2:bL.size=ms.length:=by rw[<- hj.length];simp
  wp_walk using wpAny_loadPart' hl,wpAny_loadPart' hb,wpAny_forIn_list _ (λrest b s'=>b.1=bn/\s'=⟨hp,g,d,tk,os⟩/\∃(vs ws:O ce) (IC W2:O Int),rest=vs.zip ws/\
   wE vs IC/\wE ws W2/\IC.length+bL.size=W2.length+items.size/\R (.ok (.ret (.bool (lexLt IC W2)))) ⟨hp,g,d,tk,os⟩) _
  case turn=>
   rintro⟨y,x⟩ rest b s' ⟨õ,rfl,vs,ws,IC,W2,hz,hvi,hwi,Á,hR⟩;cases hvi with
   | nil=>rw[List.zip_nil_left]at hz;cases hz
   | cons a t acy=>
    cases hwi with
    | nil=>rw[List.zip_nil_right]at hz;cases hz
    | cons c u acx=>
     rw[List.zip_cons_cons]at hz;injection hz with hyx Zb;injection hyx with hy hx;subst hy hx;rw[Gs]at hR;simp only[An]at Á;obtain⟨e,he,Zk⟩:=Oa A.in1 ⟨hp,g,d,tk,os⟩ a t c u;refine Aa (he prog w _ _ ?_);cases e with
     | true=>
      rw[if_pos (Zk.mp rfl)]at hR
      wp_walk
      exact⟨rfl,rfl,_,_,_,_,Zb,acy,acx,by omega,hR⟩
     | false=>
      rw[if_neg (λq=>absurd (Zk.mpr q) AQ)]at hR;have hri:=Mi A.in1 ⟨hp,g,d,tk,os⟩ a t c u prog w
      wp_walk using hri
      exact⟨_,rfl,by simpa using hR⟩
  case fin=>
   rintro⟨b1,b2⟩ s' ⟨õ,rfl,vs,ws,IC,W2,hz,hvi,hwi,Á,hR⟩;simp only at õ;subst õ;have hv:lexLt IC W2=decide (items.size < bL.size):=by
    cases hvi with
    | nil=>
     cases hwi with
     | nil=>
      exact(decide_eq_false ∅).symm
     | cons c u hw=>
      simp only[A1,An]at Á;exact(decide_eq_true ∅).symm
    | cons a t hv=>
     cases hwi with
     | nil=>
      simp only[A1,An]at Á;exact(decide_eq_false ∅).symm
     | cons c u hw=>
      rw[List.zip_cons_cons]at hz;cases hz
   rw[hv]at hR
   wp_walk
   exact⟨_,rfl,by simpa[Builtin.Tuple.tupleCompareSizes]using hR⟩
  case h=>
   exact⟨rfl,rfl,items.toList,bL.toList,ns,ms,rfl,hi,hj,by omega,h⟩
end
section
def Gp{bL:Array ce}(hl:IsTup s.heap l items)(hb:IsTup s.heap b bL)(hi:wE items.toList ns)(hj:wE bL.toList ms)
  (hu:A.units < pc) (h:Q (.bool (lexLt ns ms)) s):ev (f8 prog w) A (kw .Lt (.ref l) (.ref b)) Q E s:=by
 obtain⟨⟨cls,dd,data,sl⟩,ho,hc,n,hd⟩:=id hl;obtain⟨⟨Wy,R6,data2,O9⟩,Ko,NI,n2,Ó⟩:=id hb;simp only at hc hd NI Ó;subst hc hd NI Ó;exact richCompare_meets_room (op:=.Lt) ⟨_,ho,rfl⟩ ⟨_,Ko,rfl⟩ PySem.F.slot_tuple_lt PySem.F.entry_tuple_lt (PySem.F.args_tuple_lt_2 _ _) (sY l b items bL n n2 dd R6 sl O9 ns ms hi hj)
  ⟨ho,Ko,show CB (lexLt ns ms)≠Value.notImplemented/\Q (.bool (lexLt ns ms)) s from⟨(λx=>nomatch x),h⟩⟩ hu
def R9{t:cr}{vs ws:O ce}(ht:IsTup s.heap t vs.toArray)(hb:IsTup s.heap b ws.toArray)(hv:vs≠[])
  (h1:ws=[]->Q (.ref t) s) (h2:ws≠[]->Q (.ref s.heap.objs.size) {s with heap:=s.heap.push {cls:=.type "tuple",data:=.seq (vs++ws).toArray}})
  (hsz:vs.length+ws.length<=sizeLine):ev (f8 prog w) A (re .Add (.ref t) (.ref b)) Q E s:=by
 obtain⟨⟨cls,dd,data,sl⟩,ho,hc,n,hd⟩:=id ht;obtain⟨⟨Wy,R6,data2,O9⟩,Ko,NI,n2,Ó⟩:=id hb;simp only at hc hd NI Ó;subst hc hd NI Ó;have e:vs.toArray++ws.toArray=(vs++ws).toArray:=by simp
 by_cases hw:ws=[]
 ·exact concat_meets ⟨_,ho,rfl⟩ ⟨_,Ko,rfl⟩ noFill_tuple_add seq_tuple_add C1 CV (CN _ _)
   (tuple_addW1 t b vs.toArray ws.toArray n n2 dd R6 sl O9 (by simpa using hv) (by simp[hw])) ⟨ho,Ko,h1 hw⟩
 ·refine concat_meets ⟨_,ho,rfl⟩ ⟨_,Ko,rfl⟩ noFill_tuple_add seq_tuple_add C1 CV (CN _ _)
   (tuple_addW2 t b vs.toArray ws.toArray n n2 dd R6 sl O9 (by simpa using hv) (by simpa using hw) (by rw[Ai,Ai];exact hsz)) ⟨ho,Ko,?_⟩
  rw[e];exact h2 hw
def dj(n d:Nat):Option Int->Nat
 | none=>d
 | some v=>if v < 0 then (v+(n:Int)).toNat else min v.toNat n
theorem Mb(n d:Nat):dj n d bn=d:=rfl
theorem P5(n d k:Nat):dj n d (ap (k:Int))=min k n:=by
 show(if (k:Int) < 0 then ((k:Int)+(n:Int)).toNat else min (k:Int).toNat n)=min k n;rw[if_neg ∅,Bc]
theorem Jn(v:Int)(n d:Nat):(if v < 0 then max (v+(n:Int)) 0 else min v (n:Int))=((dj n d (ap v):Nat):Int):=by
 show(if v < 0 then max (v+(n:Int)) 0 else min v (n:Int))=(((if v < 0 then (v+(n:Int)).toNat else min v.toNat n):Nat):Int);by_cases hv:v < 0
 ·simp only[if_pos hv];omega
 ·simp only[if_neg hv];omega
theorem HC(lo hi:Option Int)(n:Nat):Builtin.Slice.sliceAdjust lo hi 1 (n:Int)=(((dj n 0 lo:Nat):Int),((dj n n hi:Nat):Int)):=by
 have h1:¬((1:Int) < 0):=by omega
 unfold Builtin.Slice.sliceAdjust;refine Prod.ext ?_ ?_
 ·cases lo with
  | none=>rfl
  | some v=>exact Jn v n 0
 ·cases hi with
  | none=>rfl
  | some v=>exact Jn v n n
theorem F0(i j:Nat):Builtin.Slice.slicePlaces (i:Int) (j:Int) 1=j-i:=by
 unfold Builtin.Slice.slicePlaces;have h1:(1:Int) > 0:=by omega
 split <;> omega
def qv{o:Option Int}{Q:Option Int->db->Prop}(p:IsPart v o)(h:Q o s):ev (f8 prog w) A (Builtin.Slice.slicePartIndex v) Q E s:=by
 cases p with
 | none=>exact slicePart_none h
 | int i t=>exact slicePart_int h
def gX{sl:cr}{lo:Option Int}{Q:Int×Int×Nat->db->Prop}(hs:s.heap.IsSliceOf sl vl vu .none)(pl:IsPart vl lo)(pu:IsPart vu hi)
  (h:Q (((dj n 0 lo:Nat):Int),1,dj n n hi-dj n 0 lo) s):ev (f8 prog w) A (Builtin.Slice.sliceApplied (.ref sl) (pure (n:Int))) Q E s:=by
 obtain⟨os,Lx,Xc,RA⟩:=id hs;refine Aa (Aa (AZ Lx RA (x:=vl) rfl (Aa (AZ Lx RA (x:=vu) rfl (Aa (AZ Lx RA (x:=.none) rfl (Af ?_)))))));refine Aa (slicePart_none ?_);refine Aa (qv pl (Aa (qv pu (Aa (Af ?_)))));show ev _ _ (match Builtin.Slice.sliceAdjust lo hi 1 (n:Int) with | (lo,hi)=>pure (lo,(1:Int),Builtin.Slice.slicePlaces lo hi 1)) _ _ s;rw[HC lo hi n];show ev _ _ (pure (((dj n 0 lo:Nat):Int),(1:Int),Builtin.Slice.slicePlaces ((dj n 0 lo:Nat):Int) ((dj n n hi:Nat):Int) 1)) _ _ s;rw[F0];exact Af h
theorem Mv(xs:Array ce)(i k:Nat):((AE k).filterMap λ(m:Nat)=>xs[((i:Int)+(m:Int)*1).toNat]?).toArray=((xs.toList.drop i).take k).toArray:=by
 have e:(λ(m:Nat)=>xs[((i:Int)+(m:Int)*1).toNat]?)=λm=>xs[i+m]?:=by
  funext m;have:((i:Int)+(m:Int)*1).toNat=i+m:=by omega
  rw[this]
 rw[e];have:=pick_run xs i k;rw[List.filterMap_map]at this;have e2:((λx=>xs[x]?)∘λx=>i+x)=λm=>xs[i+m]?:=rfl;rw[e2]at this;rw[this]
theorem m8{t sl:cr}{lo:Option Int}(ht:IsTup s.heap t items)(hs:s.heap.IsSliceOf sl vl vu .none)(pl:IsPart vl lo)(pu:IsPart vu hi)
  (hw:¬(dj items.size 0 lo=0/\dj items.size items.size hi=items.size))
  (h:Q (.ref s.heap.objs.size) {s with heap:=s.heap.push {cls:=.type "tuple",data:=.seq ((items.toList.drop (dj items.size 0 lo)).take (dj items.size items.size hi-dj items.size 0 lo)).toArray}})
  (hsz:items.size<=sizeLine):ev (f8 prog w) A (Fk (.ref t) (.ref sl)) Q E s:=by
 have IV:sizeOk (.seq ((items.toList.drop (dj items.size 0 lo)).take (dj items.size items.size hi-dj items.size 0 lo)).toArray):=by
  show((items.toList.drop (dj items.size 0 lo)).take (dj items.size items.size hi-dj items.size 0 lo)).toArray.size<=sizeLine;rw[Ai,Cn,Dj,DJ];omega
 obtain⟨os,Lx,Xc,RA⟩:=id hs;have Xe:s.TypeIs (.ref sl) "slice":=⟨os,Lx,Xc⟩;unfold Fk
 try with_reducible refine A6 ?_
 first | refine Aa (Af ?_) | skip
 refine Aa (D9 ht.typeIs ⋯ ?_);refine Aa (AR (name:=Cd "__getitem__") ht.typeIs Bh
  (A9 Bh ht.typeIs entry_tuple_getitem ?_ (args_tuple_getitem _ _)))
 show ev _ _ (Builtin.Tuple.tupleItemsOf (.ref t) >>= _) _ _ s;refine Aa (tupleItemsOf_ ht ?_);refine Aa (Ce Xe ?_);refine Aa (gX hs pl pu ?_);have hno:¬((((dj items.size 0 lo:Nat):Int)==0&&(1:Int)==1&&(dj items.size items.size hi-dj items.size 0 lo)==items.size)=true):=by
  intro q;rw[Aw,Aw]at q;have q1:=eq_of_beq q.1.1;have q2:=eq_of_beq q.2;exact hw ⟨by omega,by omega⟩
 show ev _ _ (if (((dj items.size 0 lo:Nat):Int)==0&&(1:Int)==1&&(dj items.size items.size hi-dj items.size 0 lo)==items.size)=true then _ else _) _ _ s;rw[if_neg hno,Mv]
 first
  | exact Aa (m:=Builtin.Tuple.tupleExact _) (Bb (Af ⟨_,rfl,Af h⟩) IV)
  | exact Aa (m:=Builtin.Tuple.tupleExact _) (Bb (Aa (Af (Af ⟨_,rfl,Af h⟩))) IV)
  | exact Aa (Aa (m:=Builtin.Tuple.tupleExact _) (Bb (Af (Af ⟨_,rfl,Af h⟩)) IV))
  | exact Aa (Aa (m:=Builtin.Tuple.tupleExact _) (Bb (Af ⟨_,rfl,Af h⟩) IV))
end
end HT
variable{p2:Cj}
namespace L2
abbrev TO:=St->Hp->(Option Int->Hp->Prop)->Prop
def PO(X:Cx)(e:Option im)(t:TO):Prop:=
 ∀(Z:O (cr×Obj)) (s:db) (σ:St) (H:Hp) (Q:Option Int->Hp->Prop),Inv X Z σ H s->t σ H Q->
  ev (f8 X.prog X.w) X.A (evalPart e X.env) (λu s'=>∃o H',Inv X Z σ H' s'/\IsPart u o/\Q o H') X.xe s
def PJ:TO:=λ_ H Q=>Q bn H
def XO(t:TE):TO:=λσ H Q=>t σ H λx H1=>∃i,x=.int i/\Q (ap i) H1
def intsAre_of:∀{us:O ce},Vals (ns.map V.int) us->wE us ns:=by
 induction ns with
 | nil=>intro us r;rw[Eu]at r;cases r;exact .nil
 | cons n ns ih=>
  intro us r;rw[Au]at r;cases r with
  | cons r1 r2=>
   obtain⟨t,e⟩:=r1;subst e;exact .cons n t (ih r2)
section
variable{lo hi:Option im}{tl th:TO}
def Qo:PO X bn PJ:=by
 intro Z s σ H Q I h;exact Af ⟨bn,H,I,.none,h⟩
def Qn(h:PE X e te):PO X (ap e) (XO te):=by
 intro Z s σ H Q I hw;refine bp (h Z s σ H _ I hw) λu s1 ⟨x,H1,I1,r1,q1⟩=>?_;obtain⟨i,rfl,q⟩:=q1;obtain⟨t,rfl⟩:=r1;exact⟨ap i,H1,I1,.int i t,q⟩
def SlR(X:Cx)(r:V->Option Int->Option Int->Hp->VK->Prop):Prop:=
 ∀(Z:O (cr×Obj)) (s:db) (σ:St) (H:Hp) (x:V) (v vl vu:ce) (lo hi:Option Int) (sl:cr) (Q:VK),Inv X Z σ H s->RelV x v->s.heap.IsSliceOf sl vl vu .none->IsPart vl lo->IsPart vu hi->r x lo hi H Q->
  ∃T id,FB (.type T) "__getitem__"=pure (ap (.builtin id))/\s.TypeIs v T/\ev (f8 X.prog X.w) X.A (Fk v (.ref sl)) (EP X Z σ Q) X.xe s
def tSl(r:V->Option Int->Option Int->Hp->VK->Prop)(te:TE)(tl th:TO):TE:=λσ H Q=>te σ H λx H1=>tl σ H1 λl H2=>th σ H2 λu H3=>r x l u H3 Q
def MC{r:V->Option Int->Option Int->Hp->VK->Prop}(hr:SlR X r)(he:PE X e te)(hl:PO X lo tl)(hu:PO X hi th):PE X (.Subscript e (.Slice lo hi bn p2) pos) (tSl r te tl th):=by
 intro Z s σ H Q I h;refine Subscript_ (bp (he Z s σ H _ I h) λv s1 ⟨x,H1,I1,r1,q1⟩=>?_);refine wpAny_Slice (bp (hl Z s1 σ H1 _ I1 q1) λvl s2 ⟨l,H2,I2,pl,q2⟩=>bp (hu Z s2 σ H2 _ I2 q2) λvu s3 ⟨u,H3,I3,pu,q3⟩=>?_);rw[evalPart_none];refine Af ?_;have I4:Inv X Z σ H3 {s3 with heap:=s3.heap.push {cls:=.type "slice",data:=.fields #[vl,vu,.none]}}:=I3.kept (t':=s3.toks) λb ob q=>Ah _ q;obtain⟨T,id,hT,ht,hg⟩:=hr Z {s3 with heap:=s3.heap.push {cls:=.type "slice",data:=.fields #[vl,vu,.none]}} σ H3 x v vl vu l u s3.heap.objs.size Q I4 r1 (Heap.IsSliceOf.new ..) pl pu q3;show ev (f8 X.prog X.w) X.A (subscriptTail e (.Slice lo hi bn p2) v (.ref s3.heap.objs.size)) (EP X Z σ Q) X.xe {s3 with heap:=s3.heap.push {cls:=.type "slice",data:=.fields #[vl,vu,.none]}};exact tail_any (ops:=[.ref s3.heap.objs.size,v]) ht hT hg (by with_unfolding_all rfl)
def xk(xs:O V)(lo hi:Option Int):O V:=(xs.drop (HT.dj xs.length 0 lo)).take (HT.dj xs.length xs.length hi-HT.dj xs.length 0 lo)
theorem o9(xs:O V)(lo hi:Option Int):(xk xs lo hi).length<=xs.length:=by
 unfold xk;rw[Cn,Dj];omega
def abZ(K:Ab):V->Option Int->Option Int->Hp->VK->Prop:=λx lo hi H Q=>∃a xs,x=.ref a/\dz K H a xs/\
 ¬(HT.dj xs.length 0 lo=0/\HT.dj xs.length xs.length hi=xs.length)/\∀p,H p=bn->Q (.ref p) (upd H p (.tup (xk xs lo hi)))
def Uq:SlR X (abZ X.K):=by
 intro Z s σ H x v vl vu lo hi sl Q I rx hs pl pu h;obtain⟨a,xs,rfl,hx,hw,q⟩:=h;cases rx;obtain⟨ar,r,ht,hz⟩:=I.tuple hx;have Á:ar.toArray.size=xs.length:=by rw[Ai];exact r.length.symm
 refine⟨"tuple",_,Bh.lookup,ht.typeIs,?_⟩;refine HT.m8 ht hs pl pu (by rw[Á];exact hw) ?_ (by rw[Á];exact hz);rw[Á];refine⟨.ref s.heap.objs.size,_,I.laid (t':=s.toks) (o:=.tup (xk xs lo hi)) (λb ob q=>Ah _ q) (Ao _) ?_,rfl,q _ (I.bj.fresh (Ao _))⟩;exact⟨Bp (o9 xs lo hi) hz,_,(r.drop (HT.dj xs.length 0 lo)).take (HT.dj xs.length xs.length hi-HT.dj xs.length 0 lo),Fv _ _⟩
def SS(K:Ab):R2:=λx y H Q=>∃a b xs ys,x=.ref a/\y=.ref b/\dz K H a xs/\dz K H b ys/\xs≠[]/\xs.length+ys.length<=sizeLine/\
 (ys=[]->Q (.ref a) H)/\(ys≠[]->∀p,H p=bn->Q (.ref p) (upd H p (.tup (xs++ys))))
def Vals.iG(r:Vals xs us):us=[]↔xs=[]:=by
 cases r with
 | nil=>simp
 | cons _ _=>simp
def IA:f6 X (re .Add) (SS X.K):=by
 intro Z s σ H x y v u Q I rx ry h;obtain⟨a,b,xs,ys,rfl,rfl,ha,hb,hx,hz,q1,q2⟩:=h;cases rx;cases ry;obtain⟨ar,r1,p1,_⟩:=I.tuple ha;obtain⟨bQ,r2,p2,_⟩:=I.tuple hb;refine HT.R9 p1 p2 (λz=>hx (r1.iG.mp z)) (λz=>⟨.ref a,H,I,rfl,q1 (r2.iG.mp z)⟩) (λz=>?_) (by rw[<- r1.length,<- r2.length];exact hz);refine⟨.ref s.heap.objs.size,_,I.laid (t':=s.toks) (o:=.tup (xs++ys)) (λb ob q=>Ah _ q) (Ao _) ?_,rfl,q2 (λw=>z (r2.iG.mpr w)) _ (I.bj.fresh (Ao _))⟩;exact⟨by rw[Ad];exact hz,_,r1.append r2,Fv _ _⟩
end
end L2
variable{r':L2.R2}{its':O A5}
namespace L2
def rf(n:Nat)(i:Int):Option Nat:=if 0<=i then (if i < n then ap i.toNat else bn) else if -(n:Int)<=i then ap (i+n).toNat else bn
def cx(xs:List α)(i:Int):Option α:=(rf xs.length i).bind λj=>xs[j]?
theorem IP(h:rf n i=ap j):seqIndex? i n=ap j/\j < n/\-(n:Int)<=i/\i < n:=by
 unfold rf at h;by_cases h0:0<=i
 ·rw[if_pos h0]at h;by_cases h1:i < n
  ·rw[if_pos h1]at h;have e:=Option.some.inj h;exact⟨by rw[seqIndex_of h0 h1,e],by omega,by omega,h1⟩
  ·rw[if_neg h1]at h;cases h
 ·rw[if_neg h0]at h;by_cases h1:-(n:Int)<=i
  ·rw[if_pos h1]at h;have e:=Option.some.inj h;exact⟨by rw[seqIndex_neg ∅ h1,e],by omega,h1,by omega⟩
  ·rw[if_neg h1]at h;cases h
def xq{xs:List α}{v:α}(h:cx xs i=ap v):∃j,seqIndex? i xs.length=ap j/\xs[j]?=ap v/\j < xs.length/\-(xs.length:Int)<=i/\i < xs.length:=by
 unfold cx at h;cases e:rf xs.length i with
 | none=>rw[e]at h;cases h
 | some j=>
  rw[e]at h;obtain⟨h1,h2,h3,h4⟩:=IP e;exact⟨j,h1,h,h2,h3,h4⟩
theorem bo{xs:List α}{v:α}(h:xs[j]?=ap v):cx xs (j:Int)=ap v:=by
 have hj:=(Am.mp h).1;have e:rf xs.length (j:Int)=ap j:=by
  unfold rf;rw[if_pos ∅,if_pos ∅];simp
 unfold cx;rw[e];exact h
theorem OP(xs:List α)(v:α):cx (xs++[v]) (-1)=ap v:=by
 have hl:(xs++[v]).length=xs.length+1:=by simp
 have e:rf (xs++[v]).length (-1)=ap xs.length:=by
  unfold rf;rw[hl,if_neg ⋯,if_pos ∅];congr 1;omega
 unfold cx;rw[e];simp
def xD(b:im):Prop:=∀o i,subscripted b false o i=operate [o,i] (Fk o i)
def Pe(X:Cx)(r:R2):Prop:=
 ∀(value Æ:im) (Z:O (cr×Obj)) (s:db) (σ:St) (H:Hp) (x y:V) (v u:ce) (Q:VK),Inv X Z σ H s->RelV x v->RelV y u->r x y H Q->
  subscripted Æ false v u=operate [v,u] (Fk v u)->ev (f8 X.prog X.w) X.A (subscriptTail value Æ v u) (EP X Z σ Q) X.xe s
def MtR(X:Cx)(id:String)(r:V->O V->Hp->VK->Prop):Prop:=
 ∀(Z:O (cr×Obj)) (s:db) (σ:St) (H:Hp) (x:V) (xs:O V) (v:ce) (us:O ce) (Q:VK),Inv X Z σ H s->RelV x v->Vals xs us->r x xs H Q->
  ev (f8 X.prog X.w) X.A (call (.builtin id) (v::us)) (EP X Z σ Q) X.xe s
section
variable{X:Cx}{a b:im}{ta tb:TE}{pos:Pos}
def Pe.or{r:R2}(h:Pe X r)(h':Pe X r'):Pe X (λx y H Q=>r x y H Q\/r' x y H Q):=by
 intro value Æ Z s σ H x y v u Q I rx ry q hs;rcases q with q | q
 ·exact h value Æ Z s σ H x y v u Q I rx ry q hs
 ·exact h' value Æ Z s σ H x y v u Q I rx ry q hs
def SU{r:R2}(hr:Pe X r)(ha:PE X a ta)(hb:PE X b tb)(hs:xD b):PE X (.Subscript a b pos) (SE r ta tb):=by
 intro Z s σ H Q I h;exact Subscript_ (WA ha hb I h λv u s2 x y H2 I2 rx ry q=>hr a b Z s2 σ H2 x y v u Q I2 rx ry q (hs _ _))
def Yk(K:Ab):R2:=λx y H Q=>∃p xs i v,x=.ref p/\y=.int i/\cT K H p xs/\cx xs i=ap v/\Q v H
def Yj(K:Ab):R2:=λx y H Q=>∃p xs i v,x=.ref p/\y=.int i/\dz K H p xs/\cx xs i=ap v/\Q v H
def UE:R2:=λx y H Q=>∃z i c,x=.str z/\y=.int i/\z.length<=sizeLine/\cx z.cps.toList i=ap c/\Q (.str ⟨#[c]⟩) H
theorem Ri:Pe X (Yk X.K):=by
 intro value Æ Z s σ H x y v u Q I rx ry h hs;obtain⟨p,xs,i,z,rfl,rfl,hq,he,q⟩:=h;cases rx;obtain⟨t,rfl⟩:=ry;obtain⟨ar,r,pl,hz⟩:=I.list hq;obtain⟨j,h1,h2,h3,h4,h5⟩:=xq he;obtain⟨w,ew,yb⟩:=r.get h2;have hl:=r.length;have hn:=vZ;have fin:EP X Z σ Q w s:=⟨z,H,I,yb,q⟩;by_cases h0:0<=i
 ·have hj:i.toNat=j:=by
   rw[seqIndex_of h0 h5]at h1;exact Option.some.inj h1
  exact item_listR pl.isList h0 ∅ (by rw[hj];simpa using ew) fin hs
 ·have hj:(i+(ar.toArray.size:Int)).toNat=j:=by
   rw[seqIndex_neg ∅ h4]at h1;rw[Ai,<- hl];exact Option.some.inj h1
  exact subscriptTail_builtinR (x:=w) pl.isList.typeIs slot_list_getitem.lookup
   (wpAny_getItem_list_neg (Q:=λr s'=>r=w/\EP X Z σ Q r s') pl.isList ∅ (by rw[Ai] <;> omega) ∅ (by rw[hj];simpa using ew) ⟨rfl,fin⟩) hs
theorem VF:Pe X (Yj X.K):=by
 intro value Æ Z s σ H x y v u Q I rx ry h hs;obtain⟨p,xs,i,z,rfl,rfl,hq,he,q⟩:=h;cases rx;obtain⟨t,rfl⟩:=ry;obtain⟨ar,r,pl,hz⟩:=I.tuple hq;obtain⟨j,h1,h2,h3,h4,h5⟩:=xq he;obtain⟨w,ew,yb⟩:=r.get h2;have hl:=r.length;have hn:=vZ;have fin:EP X Z σ Q w s:=⟨z,H,I,yb,q⟩;exact subscriptTail_builtinR (x:=w) pl.typeIs slot_tuple_getitem.lookup
  (getItem_tuple (j:=j) (Q:=λr s'=>r=w/\EP X Z σ Q r s') pl ∅ ∅ (by rw[Ai,<- hl];exact h1) (by simpa using ew) ⟨rfl,fin⟩) hs
theorem Nu:Pe X UE:=by
 intro value Æ Z s σ H x y v u Q I rx ry h hs;obtain⟨z,i,c,rfl,rfl,hz,he,q⟩:=h;obtain⟨t,rfl⟩:=rx;obtain⟨t',rfl⟩:=ry;obtain⟨j,h1,h2,h3,h4,h5⟩:=xq he;have hl:z.cps.toList.length=z.length:=by simp[Str.length]
 rw[hl]at h1 h4 h5;have hn:=vZ;exact tail_any (typeIs_str s z t) slot_str_getitem.lookup (getItem_str (c:=c) (by
  have e1:decide (i < -(2 ^ 63:Int))=false:=decide_eq_false ∅;have e2:decide (i≥2 ^ 63)=false:=decide_eq_false ∅;rw[e1,e2,Bool.or_false]) (by rw[h1];simpa using h2) ⟨.str ⟨#[c]⟩,H,I.tok _,⟨_,rfl⟩,q⟩) hs
def rIx(K:Ab):R2:=λx y H Q=>Yk K x y H Q\/Yj K x y H Q\/UE x y H Q
def VG:Pe X (rIx X.K):=Ri.or (VF.or Nu)
def Gn(ar:O ce)(n j:Nat)(u:ce):Bj (·.setIfInBounds j u) {cls:=.type "list",data:=.seq ar.toArray n}={cls:=.type "list",data:=.seq (ar.set j u).toArray n}:=by
 simp[Bj]
def Inv.lst{Z:O (cr×Obj)}{σ:St}{H:Hp}{s:db}{p:cr}{xs:O V}(I:Inv X Z σ H s)(h:H p=ap (.lst xs)) :
  ∃(ar:O ce) (n:Nat),Vals xs ar/\s.heap.get? p=ap {cls:=.type "list",data:=.seq ar.toArray n}/\xs.length<=sizeLine:=by
 obtain⟨z,ar,n,r,e⟩:=I.bj p _ h;exact⟨ar,n,r,e,z⟩
def Inv.Vn{p:cr}{n':Nat}{f:Obj->Obj}(I:Inv X Z σ H s)(h:H p=ap (.lst xs))
  (ho:s.heap.get? p=ap {cls:=.type "list",data:=.seq ar.toArray n}) (hf:f {cls:=.type "list",data:=.seq ar.toArray n}={cls:=.type "list",data:=.seq its'.toArray n'}) (r:Vals ys its') (hz:ys.length<=sizeLine) (t:Nat) :
  Inv X Z σ (upd H p (.lst ys)) {s with heap:=s.heap.update p f,toks:=t}:=by
 have e:(s.heap.update p f).get? p=ap {cls:=.type "list",data:=.seq its'.toArray n'}:=by
  rw[Cv f ho (by rw[hf] <;> rfl),hf]
 refine I.write (x:=p) (e:=p) (by rw[h];trivial) (.inl rfl) (λb u hb q=>(CZ _ _ (BI hb)).trans q) ⟨_,e⟩ ?_;exact⟨hz,its',n',r,e⟩
def Yh:V->V->V->Hp->(Hp->Prop)->Prop:=λo i v H Q=>∃p xs k j,o=.ref p/\i=.int k/\H p=ap (.lst xs)/\rf xs.length k=ap j/\Q (upd H p (.lst (xs.set j v)))
theorem set_list:HN X Yh:=by
 intro Z s σ H o i v ov iv u Q I ro ri rv h;obtain⟨p,xs,k,j,rfl,rfl,hp,hj,q⟩:=h;cases ro;obtain⟨t,rfl⟩:=ri;obtain⟨ar,n,r,ho,hz⟩:=I.lst hp;obtain⟨h1,h2,h3,h4⟩:=IP hj;have hl:=r.length;have hn:=vZ;have I':Inv X Z σ (upd H p (.lst (xs.set j v))) {s with heap:=s.heap.update p (Bj (·.setIfInBounds j u))}:=
  I.Vn hp ho (Gn ar n j u) (r.set rv j) (by rw[BK];exact hz) s.toks
 by_cases h0:0<=k
 ·have hk:k.toNat=j:=by
   rw[seqIndex_of h0 h4]at h1;exact Option.some.inj h1
  exact PySem.W.ki_setAt ho h0 ∅ (by rw[Ai,<- hl];exact h4) (by rw[hk];exact⟨_,I',q⟩)
 ·have hk:(k+(ar.toArray.size:Int)).toNat=j:=by
   rw[seqIndex_neg ∅ h3]at h1;rw[Ai,<- hl];exact Option.some.inj h1
  exact PySem.W.ki_setBack ho ∅ (by rw[Ai,<- hl];exact h3) ∅ (by rw[hk];exact⟨_,I',q⟩)
theorem vm(lo hi:Option Int)(n:Nat):(tz lo hi bn n).1=((HT.dj n 0 lo:Nat):Int)/\(tz lo hi bn n).2.1=((HT.dj n n hi:Nat):Int)/\(tz lo hi bn n).2.2=1:=by
 refine⟨?_,?_,rfl⟩
 ·cases lo with
  | none=>simp[tz,HT.dj]
  | some i=>
   simp only[tz,HT.dj,Ej,show(1:Int) > 0 by decide,if_true];by_cases h:i < 0
   ·simp only[h,if_true] <;> omega
   ·simp only[h,if_false] <;> omega
 ·cases hi with
  | none=>simp[tz,HT.dj]
  | some i=>
   simp only[tz,HT.dj,Ej,show(1:Int) > 0 by decide,if_true];by_cases h:i < 0
   ·simp only[h,if_true] <;> omega
   ·simp only[h,if_false] <;> omega
def sZ(ar:O ce)(lo hi:Option Int):slicePick ar.toArray lo hi bn=((ar.drop (HT.dj ar.length 0 lo)).take (HT.dj ar.length ar.length hi-HT.dj ar.length 0 lo)).toArray:=by
 obtain⟨h1,h2,h3⟩:=vm lo hi ar.toArray.size;unfold slicePick;rw[h1,h2,h3];simp only[sliceRange_one,pick_run,Ai] <;> rfl
def ab0(K:Ab):V->Option Int->Option Int->Hp->VK->Prop:=λx lo hi H Q=>∃a xs,x=.ref a/\cT K H a xs/\∀p,H p=bn->Q (.ref p) (upd H p (.lst (xk xs lo hi)))
theorem aaq:SlR X (ab0 X.K):=by
 intro Z s σ H x v vl vu lo hi sl Q I rx hs pl pu h;obtain⟨a,xs,rfl,hx,q⟩:=h;cases rx;obtain⟨ar,r,ht,hz⟩:=I.list hx;have Á:=r.length;refine⟨"list",_,slot_list_getitem.lookup,ht.isList.typeIs,?_⟩;refine wpAny_getItem_list_slice ht.isList hs pl pu .none (by simp) ?_ (by rw[Ai] <;> omega);rw[sZ,<- Á];refine⟨.ref s.heap.objs.size,_,I.laid (t':=s.toks) (o:=.lst (xk xs lo hi)) (λb ob q=>Ah _ q) (Ao _) ?_,rfl,q _ (I.bj.fresh (Ao _))⟩;exact⟨Bp (o9 xs lo hi) hz,_,0,(r.drop (HT.dj xs.length 0 lo)).take (HT.dj xs.length xs.length hi-HT.dj xs.length 0 lo),Ap _ rfl⟩
theorem xl:bJ X (.type "list") (λxs H Q=>∃p ys,xs=[.ref p]/\(cT X.K H p ys\/dz X.K H p ys)/\∀l,H l=bn->Q (.ref l) (upd H l (.lst ys))):=by
 intro Z s σ H xs us Q I r h;obtain⟨p,ys,rfl,hq,q⟩:=h;obtain⟨u,rfl,rx⟩:=vals1 r;cases rx;have fin:∀(ar:O ce),Vals ys ar->ys.length<=sizeLine->∀(h':mo) (c':Nat),(∀b o',s.heap.get? b=ap o'->h'.get? b=ap o')->
   h'.get? s.heap.objs.size=ap {cls:=.type "list",dict:=bn,data:=.seq ar.toArray c',slots:=#[]}->EP X Z σ Q (.ref s.heap.objs.size) {s with heap:=h'}:=λar r' hz h' c' kp e=>
  ⟨.ref s.heap.objs.size,_,I.laid (t':=s.toks) kp (Ao _) (show aY X.prog X.w _ h' _ (.lst ys) from⟨hz,ar,c',r',e⟩),rfl,q _ (I.bj.fresh (Ao _))⟩
 rcases hq with hq | hq
 ·obtain⟨ar,r',pl,hz⟩:=I.list hq;have Á:=r'.length;obtain⟨o,ho,hc,n,hd⟩:=pl.isList;exact call_list_seq p (.inl rfl) ho hc hd (λh' c' kp e=>fin ar r' hz h' c' kp e) (by simp only[Ai] <;> omega)
 ·obtain⟨ar,r',pl,hz⟩:=I.tuple hq;have Á:=r'.length;obtain⟨o,ho,hc,n,hd⟩:=pl;exact call_list_seq p (.inr rfl) ho hc hd (λh' c' kp e=>fin ar r' hz h' c' kp e) (by simp only[Ai] <;> omega)
theorem tU:bJ X (.type "tuple") (λxs H Q=>∃p ys,xs=[.ref p]/\((cT X.K H p ys/\∀l,H l=bn->Q (.ref l) (upd H l (.tup ys)))\/(dz X.K H p ys/\Q (.ref p) H))):=by
 intro Z s σ H xs us Q I r h;obtain⟨p,ys,rfl,h⟩:=h;obtain⟨u,rfl,rx⟩:=vals1 r;cases rx;rcases h with⟨hq,q⟩ | ⟨hq,q⟩
 ·obtain⟨ar,r',pl,hz⟩:=I.list hq;have Á:=r'.length;refine call_tuple_list pl.isList (λh' kp=>?_) (by simp only[Ai] <;> omega);have I1:Inv X Z σ H {s with heap:=h'}:=I.kept (t':=s.toks) kp;have I2:Inv X Z σ (upd H h'.objs.size (.tup ys)) {s with heap:=h'.push {cls:=.type "tuple",data:=.seq ar.toArray}}:=
   I1.laid (t':=s.toks) (λb o e=>Ah _ e) (Ao _) (show aY X.prog X.w _ _ _ (.tup ys) from⟨hz,ar,r',Fv _ _⟩)
  exact⟨.ref h'.objs.size,_,I2,rfl,q _ (I1.bj.fresh (Ao _))⟩
 ·obtain⟨ar,r',pl,hz⟩:=I.tuple hq;exact call_tuple_same pl ⟨.ref p,H,I,rfl,q⟩
def tyV(K:Ab)(T:String)(x:V)(H:Hp):Prop:=match x with
 | .str _=>T="str"
 | .int _=>T="int"
 | .ref p=>(T="list"/\∃xs,cT K H p xs)\/(T="tuple"/\∃o,K.lookup p=ap o/\o.cls=.type "tuple"/\o.dict=bn)\/
   (T="dict"/\((∃kvs,H p=ap (.dK kvs))\/∃kvs,H p=ap (.dT kvs)))\/(T="set"/\∃S n,H p=ap (.set S n))
 | _=>False
def LQ{x:V}(I:Inv X Z σ H s)(r:RelV x v)(ty:tyV X.K T x H) :
  s.TypeIs v T/\∀a,v=.ref a->∃ob,s.heap.get? a=ap ob/\ob.dict=bn:=by
 cases x with
 | str z=>
  obtain⟨t,rfl⟩:=r;cases (show T="str" from ty);exact⟨typeIs_str s z t,λ_ e=>nomatch e⟩
 | int i=>
  obtain⟨t,rfl⟩:=r;cases (show T="int" from ty);exact⟨typeIs_int s i t,λ_ e=>nomatch e⟩
 | ref p=>
  cases r;rcases ty with⟨rfl,xs,hq⟩ | ⟨rfl,o,hk,hc,hd⟩ | ⟨rfl,hk⟩ | ⟨rfl,S,n,hk⟩
  ·obtain⟨ar,_,pl,_⟩:=I.list hq;refine⟨pl.isList.typeIs,λa e=>?_⟩;cases e;obtain⟨o,n,e,c,hd,_⟩:=pl;exact⟨o,e,hd⟩
  ·refine⟨⟨o,I.tJ p o hk,hc⟩,λa e=>?_⟩;cases e;exact⟨o,I.tJ _ o hk,hd⟩
  ·have z:∃o,s.heap.get? p=ap o/\o.ExactDict:=by
    rcases hk with⟨kvs,hk⟩ | ⟨kvs,hk⟩
    ·obtain⟨_,_,_,_,o,_,_,e,ex,_⟩:=I.bj p _ hk;exact⟨o,e,ex⟩
    ·obtain⟨_,_,_,_,o,_,_,e,ex,_⟩:=I.bj p _ hk;exact⟨o,e,ex⟩
   obtain⟨o,e,ex⟩:=z;refine⟨⟨o,e,ex.1⟩,λa e2=>?_⟩;cases e2;exact⟨o,e,ex.2.1⟩
  ·obtain⟨o,_,_,_,e,ex,_⟩:=I.bj p _ hk;refine⟨⟨o,e,ex.1⟩,λa e2=>?_⟩;cases e2;exact⟨o,e,ex.2.1⟩
 | _=>exact Bm ty
def X0(K:Ab)(T:String)(r:V->O V->Hp->VK->Prop)(to:TE):TE:=λσ H Q=>to σ H λx H1=>tyV K T x H1/\r x [] H1 Q
def tBM(K:Ab)(T:String)(r:V->O V->Hp->VK->Prop)(to:TE)(t:TA):TE:=λσ H Q=>to σ H λx H1=>tyV K T x H1/\t σ H1 λxs H2=>r x xs H2 Q
variable{o e:im}{es:O im}{to:TE}{t:TA}{name:Str}{Â cv:Pos}{T id:String}{r:V->O V->Hp->VK->Prop}
def U0(pa:PlainAttrs T)(slot:Slot T name id)(IU:typeOf (.builtin id)=pure (.type "method_descriptor"))(hm:MtR X id r)(ho:PE X o to)
  (fN:ss o name X.env (lc o X.env)=lc o X.env:=by rfl) (fM:TY Â cv:=by rfl):PE X (.Call (.Attribute o name Â) [] [] cv) (X0 X.K T r to):=by
 intro Z s σ H Q I h;refine wpAny_Call_method0_late fN fM (bp (ho Z s σ H _ I h) λv s1 ⟨x,H1,I1,r1,ty,q1⟩=>?_);obtain⟨h1,h2⟩:=LQ I1 r1 ty;exact⟨T,id,pa,slot,IU,h1,h2,Es rfl (PySem.evalArgs_none (hm Z s1 σ H1 x [] v [] Q I1 r1 .nil q1))⟩
def Yw(pa:PlainAttrs T)(slot:Slot T name id)(IU:typeOf (.builtin id)=pure (.type "method_descriptor"))(hm:MtR X id r)(ho:PE X o to)(ha:PA X (e::es) t)
  (fN:ss o name X.env (lc o X.env)=lc o X.env:=by rfl)
  (wJ:HWa X cv (e::es):=by rfl)
  (fM:TY Â cv:=by rfl) (hs:gV X e es:=by rfl) (iV:mr X cv es:=by rfl) :
  PE X (.Call (.Attribute o name Â) (e::es) [] cv) (tBM X.K T r to t):=by
 intro Z s σ H Q I h;refine wpAny_Call_method_late fN wJ fM rfl (bp (ho Z s σ H _ I h) λv s1 ⟨x,H1,I1,r1,ty,q1⟩=>?_);obtain⟨h1,h2⟩:=LQ I1 r1 ty;refine⟨T,id,pa,slot,IU,h1,h2,?_⟩;have hA:=ha cv Z s1 σ H1 _ I1 q1;rw[hs]at hA ⊢;refine Es (by show(false||(FS cv (gl es X.env)).any (·.1))=false;rw[iV] <;> rfl) (Calls.evalArgs_plain ?_);exact bp hA λus s2 ⟨vs,H2,I2,r2,q2⟩=>hm Z s2 σ H2 x vs v us Q I2 r1 r2 q2
end
def LD(X:Cx)(id:String)(r:V->O V->Hp->VK->Prop):Prop:=
 ∀(Z:O (cr×Obj)) (s:db) (σ:St) (H:Hp) (x:V) (xs:O V) (v:ce) (us:O ce) (Q:VK),Inv X Z σ H s->RelV x v->Vals xs us->r x xs H Q->
  ev (f8 X.prog X.w) X.A (call (.builtin id) (v::us)) (EP X Z σ Q) X.xe s
def Vals.one:∀{x:V}{us:O ce},Vals [x] us->∃u,us=[u]/\RelV x u
 | _,_,.cons r .nil=>⟨_,rfl,r⟩
def Vals.zero:∀{us:O ce},Vals [] us->us=[]
 | _,.nil=>rfl
def Vals.dropLast(h:Vals xs us):Vals xs.dropLast us.dropLast:=by
 induction h with
 | nil=>exact .nil
 | cons r t ih=>
  cases t with
  | nil=>exact .nil
  | cons q t'=>exact .cons r ih
theorem Vals.rep(h:Vals xs us):∀k:Nat,Vals (Al k xs).flatten (Al k us).flatten
 | 0=>.nil
 | k+1=>by
  rw[Bu,Bu,BV,BV];exact Vals.append h (Vals.rep h k)
theorem Hc(l:List α):l.eraseIdx (l.length-1)=l.dropLast:=by
 induction l with
 | nil=>rfl
 | cons a r ih=>
  cases r with
  | nil=>rfl
  | cons b r=>
   have e:(a::b::r).length-1=((b::r).length-1)+1:=by
    have h1:(a::b::r).length=r.length+2:=rfl;have h2:(b::r).length=r.length+1:=rfl;omega
   rw[e,List.eraseIdx_cons_succ,ih]
   all_goals rfl
theorem foldl_rep(ar:O ce):∀(k:Nat) (Ä:O ce),
  List.foldl (λx1 x2=>x1++x2) Ä.toArray (Al k ar.toArray)=(Ä++(Al k ar).flatten).toArray
 | 0,Ä=>by simp
 | k+1,Ä=>by
  have e:Ä.toArray++ar.toArray=(Ä++ar).toArray:=by simp
  have e2:(Ä++ar)++(Al k ar).flatten=Ä++(Al (k+1) ar).flatten:=by
   rw[Bu,BV,AW]
  rw[<- e2,<- foldl_rep ar k (Ä++ar),<- e,Bu,List.foldl_cons]
section
def Inv.Gq{f:Array ce->Array ce}{t':Nat}(I:Inv X Z σ H s)(hH:H l=ap (.lst xs))
  (e:s.heap.get? l=ap {cls:=.type "list",data:=.seq ar.toArray n}) (hf:f ar.toArray=its'.toArray) (hv:Vals ys its') (hz:ys.length<=sizeLine) :
  Inv X Z σ (upd H l (.lst ys)) {s with heap:=s.heap.update l (Bj f),toks:=t'}:=by
 have q:=PySem.IsL.update e f;rw[hf]at q;refine I.write (x:=l) (e:=l) (by rw[hH];exact trivial) (.inl rfl) (λb' u hb hu=>(CZ s.heap (Bj f) (BI hb)).trans hu) ⟨_,q⟩ ?_;exact⟨hz,its',_,hv,q⟩
def Inv.Vo{t':Nat}(I:Inv X Z σ H s)(hv:Vals ys ar)(hz:ys.length<=sizeLine) :
  Inv X Z σ (upd H s.heap.objs.size (.lst ys)) {s with heap:=s.heap.push {cls:=.type "list",data:=.seq ar.toArray},toks:=t'}:=
 I.laid (λ_ _ q=>Ah _ q) (Ao _) ⟨hz,ar,0,hv,Ap _ rfl⟩
def Inv.fresh(I:Inv X Z σ H s):H s.heap.objs.size=bn:=I.bj.fresh (Ao _)
def Inv.og(I:Inv X Z σ H s)(hH:H l=ap (.lst xs)):xs.length<=sizeLine/\∃(ar:O ce) (n:Nat),Vals xs ar/\xs.length=ar.length/\s.heap.get? l=ap {cls:=.type "list",data:=.seq ar.toArray n}:=by
 obtain⟨z,ar,n,r,e⟩:=I.bj l _ hH;exact⟨z,ar,n,r,r.length,e⟩
theorem g8(h:n<=sizeLine):Builtin.List.listTooLong n=false:=by
 exact decide_eq_false ∅
end
section
def Qh:V->O V->Hp->VK->Prop:=λx vs H Q=>∃l xs y,x=.ref l/\vs=[y]/\H l=ap (.lst xs)/\xs.length < sizeLine/\Q .aN (upd H l (.lst (xs++[y])))
theorem JY:LD X "list.append" Qh:=by
 intro Z s σ H x vs v us Q I rx rv h;obtain⟨l,xs,y,rfl,rfl,hH,hz,q⟩:=h;cases rx;obtain⟨u,rfl,ru⟩:=rv.one;obtain⟨z,ar,n,r,hl,e⟩:=I.og hH;refine wf F.slot_list_append ⟨_,e,rfl⟩ F.entry_list_append (F.args_list_append_2 _ _) (PySem.list_append l ar.toArray n u (by rw[Ai];omega)) ⟨e,?_⟩;refine⟨.aN,_,I.Gq (its':=ar++[u]) hH e (by simp) (r.append (.cons ru .nil)) ?_,rfl,q⟩;rw[Ad,Dc];omega
def Qf:V->O V->Hp->VK->Prop:=λx vs H Q=>∃l b xs zs,x=.ref l/\vs=[.ref b]/\H l=ap (.lst xs)/\H b=ap (.lst zs)/\xs.length+zs.length<=sizeLine/\Q .aN (upd H l (.lst (xs++zs)))
theorem W0:LD X "list.extend" Qf:=by
 intro Z s σ H x vs v us Q I rx rv h;obtain⟨l,b,xs,zs,rfl,rfl,hH,hB,hz,q⟩:=h;cases rx;obtain⟨u,rfl,ru⟩:=rv.one;cases ru;obtain⟨z,ar,n,r,hl,e⟩:=I.og hH;obtain⟨z2,bQ,n2,r2,Ly,e2⟩:=I.og hB;have hsz:ar.toArray.size+bQ.toArray.size<=sizeLine:=by rw[Ai,Ai];omega
 have rB:¬(!ar.toArray.isEmpty&&Builtin.List.listTooLong (ar.toArray.size+bQ.toArray.size))=true:=by
  rw[g8 hsz,CG];exact AQ
 refine wf DV ⟨_,e,rfl⟩ DG (Dp _ _)
  (AutoSeq1.list_extend_list_list_0 l ar.toArray n b bQ.toArray n2 rB (by rw[Ai];omega) ∅) ⟨e,e2,?_⟩
 refine⟨.aN,_,I.Gq (its':=ar++bQ) hH e (by simp) (r.append r2) ?_,rfl,q⟩;rw[Ad];omega
def ab2:V->O V->Hp->VK->Prop:=λx vs H Q=>∃l xs y,x=.ref l/\vs=[]/\H l=ap (.lst xs)/\xs[xs.length-1]?=ap y/\Q y (upd H l (.lst xs.dropLast))
theorem Vk:LD X "list.pop" ab2:=by
 intro Z s σ H x vs v us Q I rx rv h;obtain⟨l,xs,y,rfl,rfl,hH,hy,q⟩:=h;cases rx;have hus:=rv.zero;subst hus;obtain⟨z,ar,n,r,hl,e⟩:=I.og hH;obtain⟨u,hu,ru⟩:=r.get hy;have VN:ar.toArray[ar.toArray.size-1]?=ap u:=by
  show ar.toArray[ar.length-1]?=ap u;rw[<- EN,<- hl];exact hu
 refine wf F.slot_list_pop ⟨_,e,rfl⟩ F.entry_list_pop (F.args_list_pop_1 _) (MeetsSeq.list_pop_last l ar.toArray n u VN (by rw[Ai];omega)) ⟨e,?_⟩;refine⟨y,_,I.Gq (its':=ar.dropLast) hH e ?_ r.dropLast ?_,ru,q⟩
 ·rw[Ai,List.eraseIdxIfInBounds_toArray,Hc]
 ·rw[List.length_dropLast];omega
def ab3:R2:=λx y H Q=>∃l b xs zs,x=.ref l/\y=.ref b/\H l=ap (.lst xs)/\H b=ap (.lst zs)/\xs.length+zs.length<=sizeLine/\∀p,H p=bn->Q (.ref p) (upd H p (.lst (xs++zs)))
theorem Vc:f6 X (re .Add) ab3:=by
 intro Z s σ H x y v u Q I rx ry h;obtain⟨l,b,xs,zs,rfl,rfl,hH,hB,hz,q⟩:=h;cases rx;cases ry;obtain⟨z,ar,n,r,hl,e⟩:=I.og hH;obtain⟨z2,bQ,n2,r2,Ly,e2⟩:=I.og hB;refine PySem.P.add_list e e2 ?_ (by rw[Ai,Ai];omega);have ea:ar.toArray++bQ.toArray=(ar++bQ).toArray:=by simp
 rw[ea];exact⟨.ref _,_,I.Vo (t':=s.toks) (r.append r2) (by rw[Ad];omega),rfl,q _ I.fresh⟩
def ab1:R2:=λx y H Q=>∃l k xs,x=.ref l/\y=.int k/\H l=ap (.lst xs)/\-(2 ^ 63)<=k/\k < 2 ^ 63/\xs.length*k.toNat<=sizeLine/\
 ∀p,H p=bn->Q (.ref p) (upd H p (.lst (Al k.toNat xs).flatten))
def len_rep(xs:List α)(k:Nat):(Al k xs).flatten.length=k*xs.length:=by
 induction k with
 | zero=>simp
 | succ k ih=>rw[Bu,BV,Ad,ih,Fi,Nat.add_comm]
theorem U5:f6 X (re .Mult) ab1:=by
 intro Z s σ H x y v u Q I rx ry h;obtain⟨l,k,xs,rfl,rfl,hH,h1,h2,hz,q⟩:=h;cases rx;obtain⟨t,rfl⟩:=ry;obtain⟨z,ar,n,r,hl,e⟩:=I.og hH;have Á:ar.toArray.size*k.toNat<=sizeLine:=by rw[Ai,<- hl];exact hz
 have acZ:¬ar.toArray.size*k.toNat > (2 ^ 63-1) / 8:=by
  have:(sizeLine:Nat)<=(2 ^ 63-1) / 8:=by decide
  omega
 have acV:¬(!Builtin.List.listFitsIndex k)=true:=by
  rw[fitsIndex_both h1 h2];exact AQ
 have rB:¬Builtin.List.listTooLong (ar.toArray.size*k.toNat)=true:=by
  rw[g8 Á];exact AQ
 have Rz:List.foldl (λx1 x2=>x1++x2) #[] (Al (if ar.toArray.isEmpty=true then 0 else k.toNat) ar.toArray)=(Al k.toNat ar).flatten.toArray:=by
  have f0:∀m:Nat,List.foldl (λx1 x2=>x1++x2) #[] (Al m ar.toArray)=(Al m ar).flatten.toArray:=λm=>by
   have:=foldl_rep ar m [];exact this
  rw[f0];cases ar with
  | nil=>simp
  | cons a r'=>rw[if_neg (by simp)]
 refine wpAny_binaryOp_repeat_ref (T:="list") (U:="int") ⋯ ⟨_,e,rfl⟩ (λs'=>typeIs_int s' k t) noFill_list_mul F.fills_int_mul F.slot_int_rmul repeat_list F.slot_int_index.lookup
  (wf F.slot_int_rmul (typeIs_int s k t) F.entry_int_rmul (F.args_int_rmul_2 _ _) (int___rmul___int_list k t l ar.toArray n)
   ⟨e,rfl,⟨_,e,rfl⟩,wf F.slot_list_mul ⟨_,e,rfl⟩ F.entry_list_mul (F.args_list_mul_2 _ _) (AutoListH.list___mul___list_int_3 l ar.toArray n k t acV acZ rB) ⟨e,?_⟩⟩)
 rw[Rz];exact⟨.ref _,_,I.Vo (t':=s.toks) (r.rep k.toNat) (by rw[len_rep,Nat.mul_comm];exact hz),rfl,q _ I.fresh⟩
end
section
def JH(ar bQ:O ce)(a c:Nat):ar.toArray.extract 0 a++bQ.toArray++ar.toArray.extract c ar.toArray.size=(ar.take a++bQ++ar.drop c).toArray:=by
 apply Eo.mp
 first
  | (
    simp;exact Cs (by simp))
  | simp[Cs]
  | simp
theorem Hz{a c:Nat}(Xd:a<=c)(hc:c<=n):tz (ap (a:Int)) (ap (c:Int)) bn n=((a:Int),(c:Int),1):=by
 simp only[tz,Ej];have h1:¬((a:Int) < 0):=by omega
 have h2:¬((c:Int) < 0):=by omega
 congr 1
 ·omega
 ·congr 1;omega
set_option maxRecDepth 100000 in
theorem tj{l b sl:cr}{items new:Array ce}{n n2:Nat}{vl vu:ce}{a c:Nat}{Q:Unit->db->Prop}
  (e:s.heap.get? l=ap {cls:=.type "list",data:=.seq items n}) (e2:s.heap.get? b=ap {cls:=.type "list",data:=.seq new n2}) (ND:l≠b)
  (hs:s.heap.IsSliceOf sl vl vu .none) (pl:IsPart vl (ap (a:Int))) (pu:IsPart vu (ap (c:Int))) (Xd:a<=c) (hc:c<=items.size)
  (hsz:items.size+new.size<=sizeLine) (h:Q () {s with heap:=s.heap.update l (Bj λxs=>xs.extract 0 a++new++xs.extract c xs.size)}) :
  ev (f8 prog w) A (Ch (.ref l) (.ref sl) (.ref b)) Q E s:=by
 have hl:s.heap.IsList l items:=Ft e;have hb:s.heap.IsList b new:=Ft e2;obtain⟨os,Lx,Xc,RA⟩:=id hs;have Xe:s.TypeIs (.ref sl) "slice":=⟨os,Lx,Xc⟩;have Za:¬((rawPart bn==t0 0)=true):=AQ;have Nz:Builtin.List.listSameRef (.ref l) (.ref b)=false:=by
  unfold Builtin.List.listSameRef;exact beq_eq_false_iff_ne.mpr ND
 have acM:(max (a:Int) (c:Int)).toNat=c:=by omega
 have GS:((λxs:Array ce=>xs.extract 0 a++new++xs.extract c xs.size) items).size<=sizeLine+1:=by
  simp only[Ec,Array.size_extract];omega
 unfold Ch
 try with_reducible refine A6 ?_
 first | refine Aa (Af ?_) | skip
 refine Aa (D9 hl.typeIs ⋯ ?_);refine Aa (AR (name:=Cd "__setitem__") hl.typeIs slot_list_setitem
  (A9 slot_list_setitem hl.typeIs entry_list_setitem ?_ (args_list_setitem _ _ _)))
 show ev _ _ (Builtin.List.listSubscript? (.ref sl) >>= _) _ _ s;refine Aa ?_;unfold Builtin.List.listSubscript?;refine Aa (DA Xe slice_no_index ?_);simp only[Option.isNone_none,if_true];refine Af ?_;show ev _ _ (typeOf (.ref sl) >>= _) _ _ s;refine Aa (Ce Xe ?_)
 first
  | rw[if_neg ⋯]
  | refine PySem.W.KFB.if_not ⋯ ?_
 rw[listSliceParts_eq];refine Aa (Aa (AZ Lx RA (x:=.none) rfl (Aa (ET .none ?_))));rw[if_neg Za];refine Aa (AZ Lx RA (x:=vl) rfl (Aa (ET pl ?_)));refine Aa (AZ Lx RA (x:=vu) rfl (Aa (ET pu (Af ?_))))
 first
  | simp only[Nz,Ag,if_false]
  | refine PySem.W.KFB.if_not Nz ?_
  | (
    dsimp only;rw[if_neg (by rw[Nz];exact AQ)])
 refine Aa (m:=Builtin.List.listAllItems (.ref b) "must assign iterable to extended slice") ?_;unfold Builtin.List.listAllItems;refine Aa (Ce hb.typeIs ?_)
 first
  | refine PySem.W.KFB.if_so ⋯ ?_
  | rw[if_pos ⋯]
  | simp only[beq_self_eq_true,Bool.true_or,if_true]
 unfold Builtin.List.listItems;refine Aa (Bx e2 rfl (Af ?_));refine Aa (Aa (Bx e rfl (Af ?_)));refine Aa (Cp ((sliceIndices_raw (ap (a:Int)) (ap (c:Int)) bn items.size (by simp)).trans (congrArg (pure:Int×Int×Int->Sem (Int×Int×Int)) (Hz Xd hc))) ?_);show ev _ _ (if ((1:Int)==1)=true then _ else _) _ _ s;rw[if_pos ⋯];refine Aa (CD ?_)
 first
  | simp only[g8 hsz,Ag,if_false]
  | refine PySem.W.KFB.if_not (g8 hsz) ?_
 first | refine Aa (Af ?_) | skip
 show ev _ _ (updateSeq l (λxs=>xs.extract 0 ((a:Int)).toNat++new++xs.extract (max (a:Int) (c:Int)).toNat xs.size) >>= _) _ _ s;rw[acM,Bc];refine Aa (Dz (hz:=Bp (Bt _ _) hsz) (_hz':=GS) e rfl ?_);refine Aa (Du ?_)
 first
  | exact Aa (Af (Af ⟨.none,rfl,Af h⟩))
  | exact Af ⟨.none,rfl,Af h⟩
end
section
theorem JI{sl:cr}{a c:Int}{Q:Unit->db->Prop}(I:Inv X Z σ H s)
  (hH:H l=ap (.lst xs)) (hB:H b=ap (.lst ys)) (ND:l≠b) (hs:s.heap.IsSliceOf sl vl vu .none) (ra:RelV (.int a) vl) (rc:RelV (.int c) vu) (h0:0<=a) (Xd:a<=c) (hc:c<=xs.length)
  (hz:xs.length+ys.length<=sizeLine) (h:∀s',Inv X Z σ (upd H l (.lst (xs.take a.toNat++ys++xs.drop c.toNat))) s'->Q () s') :
  ev (f8 X.prog X.w) X.A (Ch (.ref l) (.ref sl) (.ref b)) Q X.xe s:=by
 obtain⟨ta,rfl⟩:=ra;obtain⟨tc,rfl⟩:=rc;obtain⟨z,ar,n,r,hl,e⟩:=I.og hH;obtain⟨z2,bQ,n2,r2,Ly,e2⟩:=I.og hB;obtain⟨a',rfl⟩:=En h0;obtain⟨c',rfl⟩:=En (Int.le_trans h0 Xd);simp only[Bc]at h;refine tj (a:=a') (c:=c') e e2 ND hs (.int _ _) (.int _ _) ∅ (by rw[Ai];omega) (by rw[Ai,Ai];omega) (h _ ?_);refine I.Gq (its':=ar.take a'++bQ++ar.drop c') (t':=s.toks) hH e ?_ (Vals.append (Vals.append (r.take _) r2) (r.drop _)) ?_
 ·exact JH ar bQ a' c'
 ·rw[Ad,Ad,Cn,Dj];omega
end
end L2
variable{xs:O (O L2.Key×BG×A5)}{o:Option L2.V}{v:L2.V}{kvs:O (O L2.Key×L2.V)}{env:PySem.Env}{value:BW}
namespace L2
section
variable{κ:Type}[DecidableEq κ]
def gH(kvs:O (κ×V))(k:κ):Option V:=(kvs.find? λkv=>decide (kv.1=k)).map (·.2)
def putK(kvs:O (κ×V))(k:κ)(v:V):O (κ×V):=
 if (kvs.any λkv=>decide (kv.1=k))=true then kvs.map (λkv=>if kv.1=k then (kv.1,v) else kv) else kvs++[(k,v)]
def jF{p:κ×V}{r:O (κ×V)}{k:κ}(e:p.1=k):gH (p::r) k=ap p.2:=by simp[gH,BA,e]
def jG{p:κ×V}{r:O (κ×V)}{k:κ}(e:¬p.1=k):gH (p::r) k=gH r k:=by simp[gH,BA,e]
theorem mz(k:κ):∀kvs:O (κ×V),(kvs.any λkv=>decide (kv.1=k))=(gH kvs k).isSome
 | []=>rfl
 | p::r=>by
  rw[B5];by_cases e:p.1=k
  ·simp only[jF e,decide_eq_true e,Bool.true_or,Option.isSome_some]
  ·rw[jG e,decide_eq_false e,Bool.false_or];exact mz k r
theorem oW(kvs:O (κ×V))(k:κ)(v:V):(putK kvs k v).length<=kvs.length+1:=by
 unfold putK
 split
 ·rw[Aj];omega
 ·rw[Ad,An,A1];omega
def sN.ou{u:Option ce}(r:sN o u):o.isSome=u.isSome:=by
 cases o with
 | none=>cases u with
  | none=>rfl
  | some _=>exact(show False from r).elim
 | some _=>cases u with
  | none=>exact(show False from r).elim
  | some _=>rfl
def KV.val{kvs:O (κ×V)}{vs:O (κ×ce)}(r:KV kvs vs)(k:κ):sN (gH kvs k) (valueAt vs k):=by
 unfold KV at r
 induction r with
 | nil=>exact B6
 | @cons p q ps qs h t ih=>
  obtain⟨h1,h2⟩:=h;by_cases e:p.1=k
  ·have e':q.1=k:=h1.symm.trans e;have b:valueAt (q::qs) k=ap q.2:=by simp[valueAt,BA,e']
   rw[jF e,b];exact h2
  ·have e':¬q.1=k:=λz=>e (h1.trans z);have b:valueAt (q::qs) k=valueAt qs k:=by simp[valueAt,BA,e']
   rw[jG e,b];exact ih
def KV.any{kvs:O (κ×V)}{vs:O (κ×ce)}(r:KV kvs vs)(k:κ):(kvs.any λkv=>decide (kv.1=k))=vs.any λkv=>decide (kv.1=k):=by
 induction r with
 | nil=>rfl
 | cons h t ih=>rw[B5,B5,ih,h.1]
def KV.Ux{kvs:O (κ×V)}{vs:O (κ×ce)}(r:KV kvs vs)(k:κ)(ry:RelV y u) :
  KV (kvs.map λkv=>if kv.1=k then (kv.1,y) else kv) (vs.map λkv=>if kv.1=k then (kv.1,u) else kv):=by
 induction r with
 | nil=>exact .nil
 | @cons p q ps qs h t ih=>
  rw[Au,Au];refine .cons ?_ ih;obtain⟨h1,h2⟩:=h;by_cases e:p.1=k
  ·rw[if_pos e,if_pos (h1.symm.trans e)];exact⟨h1,ry⟩
  ·rw[if_neg e,if_neg (λz=>e (h1.trans z))];exact⟨h1,h2⟩
def KV.put{kvs:O (κ×V)}{vs:O (κ×ce)}(r:KV kvs vs)(k:κ)(ry:RelV y u):KV (putK kvs k y) (stored vs k u):=by
 unfold putK stored;rw[r.any k];by_cases e:(vs.any λkv=>decide (kv.1=k))=true
 ·rw[if_pos e,if_pos e];exact r.Ux k ry
 ·rw[if_neg e,if_neg e];exact Paired.snoc r ⟨rfl,ry⟩
def KV.length{kvs:O (κ×V)}{vs:O (κ×ce)}(r:KV kvs vs):kvs.length=vs.length:=Paired.length r
end
def IL{k:Key}(r:RelV (kV k) u):(bG P w).is k u=true:=by
 cases k with
 | inl i=>obtain⟨t,e⟩:=(show ∃t,u=DQ i t from r);subst e;exact yC P w i t
 | inr x=>obtain⟨t,e⟩:=(show ∃t,u=DP x t from r);subst e;exact yB P w x t
theorem uA:∀{ks:O Key}{us:O ce},Vals (ks.map kV) us->ItemsAre (bG P w) ks us
 | [],_,r=>by rw[Eu]at r;cases r;exact .nil
 | k::ks,_,r=>by
  rw[Au]at r;cases r with
  | cons h t=>exact .cons (IL h) (uA t)
abbrev KT(H:Hp):O (O Key×V)->O (O Key×cr×ce)->Prop:=Paired λp q=>p.1=q.1/\H q.2.1=ap (.tup (p.1.map kV))/\RelV p.2 q.2.2
def KT.val(r:KT H kvs xs)(k:O Key):sN (gH kvs k) ((atKey xs k).map (·.2)):=by
 induction r with
 | nil=>exact B6
 | @cons p q ps qs h t ih=>
  obtain⟨h1,_,h2⟩:=h;by_cases e:p.1=k
  ·have e':q.1=k:=h1.symm.trans e;have b:atKey (q::qs) k=ap q.2:=by simp[atKey,BA,e']
   rw[jF e,b];exact h2
  ·have e':¬q.1=k:=λz=>e (h1.trans z);have b:atKey (q::qs) k=atKey qs k:=by simp[atKey,BA,e']
   rw[jG e,b];exact ih
def KT.Ux(r:KT H kvs xs)(k:O Key)(ry:RelV y u) :
  KT H (kvs.map λkv=>if kv.1=k then (kv.1,y) else kv) (xs.map (putAt k u)):=by
 induction r with
 | nil=>exact .nil
 | @cons p q ps qs h t ih=>
  rw[Au,Au];refine .cons ?_ ih;obtain⟨h1,h2,h3⟩:=h;unfold putAt;by_cases e:p.1=k
  ·rw[if_pos e,if_pos (h1.symm.trans e)];exact⟨h1,h2,ry⟩
  ·rw[if_neg e,if_neg (λz=>e (h1.trans z))];exact⟨h1,h2,h3⟩
def KT.put(r:KT H kvs xs)(k:O Key)(hb:H b=ap (.tup (k.map kV)))(ry:RelV y u) :
  KT H (putK kvs k y) (Fa xs k b u):=by
 have e:(kvs.any λkv=>decide (kv.1=k))=(atKey xs k).isSome:=by
  rw[mz,(r.val k).ou,Fh]
 unfold putK Fa;rw[e];by_cases q:(atKey xs k).isSome=true
 ·rw[if_pos q,if_pos q];exact r.Ux k ry
 ·rw[if_neg q,if_neg q];exact Paired.snoc r ⟨rfl,hb,ry⟩
def KT.keeps(r:KT H kvs xs)(ht:∀b ys,H b=ap (.tup ys)->H' b=ap (.tup ys)):KT H' kvs xs:=
 Paired.Vm r λ_ _ z=>⟨z.1,ht _ _ z.2.1,z.2.2⟩
section
def SO{u:HO}(ok:kj P w H h)(e:Rd H a u):aY P w H h a u:=e.ok ok
def se{kvs:O (Key×V)}(ok:kj P w H h)(e:Rd H a (.dK kvs)):kvs.length<=sizeLine/\(a==sK)=false/\∃vs,KV kvs vs/\h.DictOf (bG P w) a vs:=
 show aY P w H h a (.dK kvs) from SO ok e
def ZW{kvs:O (Key×V)}(ok:kj P w H h)(e:H a=ap (.dK kvs)):kvs.length<=sizeLine/\(a==sK)=false/\∃vs,KV kvs vs/\h.DictOf (bG P w) a vs:=se ok (.inl e)
def qX{ks:O Key}(ok:kj P w H h)(e:H a=ap (.tup (ks.map kV))):(lw (bG P w)).is h ks a:=by
 obtain⟨_,ar,r,o,h1,h2,n,h3⟩:=(show aY P w H h a (.tup (ks.map kV)) from ok a _ e);exact⟨o,ar.toArray,n,h1,h2,h3,by simpa using uA r⟩
def sd(ok:kj P w H h)(e:Rd H a (.dT kvs)):kvs.length<=sizeLine/\(a==sK)=false/\
  ∃xs,KT H kvs xs/\h.DictOfH (lw (bG P w)) a xs:=by
 obtain⟨z,y,xs,r,o,es,ep,h1,h2,h3,h4,h5⟩:=(show aY P w H h a (.dT kvs) from SO ok e);refine⟨z,y,xs,r,o,es,ep,h1,h2,h3,h4,λx hx=>?_,h5⟩;have all:∀{l:O (O Key×V)}{m:O (O Key×cr×ce)},KT H l m->∀x∈m,(lw (bG P w)).is h x.1 x.2.1:=by
  intro l m q
  induction q with
  | nil=>intro x hx;exact nomatch hx
  | @cons p q ps qs hq t ih=>
   intro x hx;rcases AG.mp hx with e | hx
   ·subst e;exact qX ok (by rw[<- hq.1];exact hq.2.1)
   ·exact ih x hx
 exact all r x hx
def ZV(ok:kj P w H h)(e:H a=ap (.dT kvs)):kvs.length<=sizeLine/\(a==sK)=false/\
  ∃xs,KT H kvs xs/\h.DictOfH (lw (bG P w)) a xs:=sd ok (.inl e)
end
def ub(H:Hp)(a:cr)(y:V)(r:Option V):Prop:=
 (∃kvs k,Rd H a (.dK kvs)/\y=kV k/\r=gH kvs k)\/∃kvs k b,Rd H a (.dT kvs)/\y=.ref b/\H b=ap (.tup (k.map kV))/\r=gH kvs k
def O3(H:Hp)(a:cr)(y v:V)(H':Hp):Prop:=
 (∃kvs k,H a=ap (.dK kvs)/\y=kV k/\kvs.length < sizeLine/\H'=upd H a (.dK (putK kvs k v)))\/
 ∃kvs k b,H a=ap (.dT kvs)/\y=.ref b/\H b=ap (.tup (k.map kV))/\kvs.length < sizeLine/\H'=upd H a (.dT (putK kvs k v))
theorem ub.k{kvs:O (Key×V)}{k:Key}(e:H a=ap (.dK kvs)):ub H a (kV k) (gH kvs k):=.inl ⟨kvs,k,.inl e,rfl,rfl⟩
theorem O3.k{kvs:O (Key×V)}{k:Key}(e:H a=ap (.dK kvs))(hl:kvs.length < sizeLine):O3 H a (kV k) v (upd H a (.dK (putK kvs k v))):=.inl ⟨kvs,k,e,rfl,hl,rfl⟩
section
variable{r:ce}
def Inv.big(I:Inv X Z σ H s):sK < s.heap.objs.size:=by
 have h:=(I.mod.glob.keeps I.bk).lt;exact Nat.lt_trans ⋯ h
def K3(hu:A.units+1 < pc)(I:Inv X Z σ H s)(g:ub H a y (ap v))(ry:RelV y u)(h:∀w' s',Inv X Z σ H s'->RelV v w'->Q w' s') :
  ev (f8 X.prog X.w) A (Fk (.ref a) u) Q E s:=by
 rcases g with⟨kvs,k,e,ey,l⟩ | ⟨kvs,k,b,e,ey,eb,l⟩
 ·subst ey;obtain⟨z,hd,vs,Í,dd⟩:=se I.bj e;obtain⟨w',hw,yb⟩:=sN.some_of (v:=v) (o:=valueAt vs k) (by rw[l];exact Í.val k);exact wpAny_getItem_of (IL ry) dd.mapOf hw (h w' _ (I.tok _) yb)
 ·subst ey;cases (show u=Ax b from ry);obtain⟨z,hd,xs,Í,dd⟩:=sd I.bj e;obtain⟨w',hw,yb⟩:=sN.some_of (v:=v) (o:=(atKey xs k).map (·.2)) (by rw[l];exact Í.val k);obtain⟨p,hp,wG⟩:=Option.map_eq_some_iff.mp hw;refine wpAny_getItem_heap (Da hu) (qX I.bj eb) dd hp ?_;rw[wG];exact h w' _ (I.tok _) yb
def ads(hu:A.units+1 < pc)(I:Inv X Z σ H s)(g:ub H a y o)(ry:RelV y u)(h:∀s',Inv X Z σ H s'->Q (.bool o.isSome) s') :
  ev (f8 X.prog X.w) A (kw .In u (.ref a)) Q E s:=by
 rcases g with⟨kvs,k,e,ey,l⟩ | ⟨kvs,k,b,e,ey,eb,l⟩
 ·subst ey;obtain⟨z,hd,vs,Í,dd⟩:=se I.bj e;refine wpAny_in_of (IL ry) hd dd.mapOf ?_;rw[<- (Í.val k).ou,<- l];exact h _ (I.tok _)
 ·subst ey;cases (show u=Ax b from ry);obtain⟨z,hd,xs,Í,dd⟩:=sd I.bj e;refine wpAny_in_heap (Da hu) (qX I.bj eb) hd dd ?_;have q:=(Í.val k).ou;rw[Fh]at q;rw[<- q,<- l];exact h _ (I.tok _)
def Jm{t':Nat}{ob:HO}(I:Inv X Z σ H s)(mu:Z8 (H a))(hs:B3 a s.heap h')(he:∃q,h'.get? a=ap q)(new:aY X.prog X.w (upd H a ob) h' a ob) :
  Inv X Z σ (upd H a ob) {s with heap:=h',toks:=t'}:=
 I.write (x:=a) (e:=a) mu (.inl rfl) (λb q hb z=>(hs.2 b hb).trans z) he new
def Wt{kvs:O (Key×V)}{vs:O (Key×ce)}(z:kvs.length<=sizeLine)(hd:(a==sK)=false)(Í:KV kvs vs)(dd:h'.DictOf (bG P w) a vs) :
  aY P w H' h' a (.dK kvs):=⟨z,hd,vs,Í,dd⟩
theorem K2{Q:Unit->db->Prop}(hu:A.units+1 < pc)(I:Inv X Z σ H s)(g:O3 H a y v H')(ry:RelV y u)(rv:RelV v r)(h:∀s',Inv X Z σ H' s'->Q () s') :
  ev (f8 X.prog X.w) A (Ch (.ref a) u r) Q E s:=by
 rcases g with⟨kvs,k,e,ey,l,eH⟩ | ⟨kvs,k,b,e,ey,eb,l,eH⟩
 ·subst ey eH;obtain⟨z,hd,vs,Í,dd⟩:=ZW I.bj e;have hz:vs.length<=sizeLine:=by rw[<- Í.length];exact z
  have hl:(putK kvs k v).length<=sizeLine:=by have:=oW kvs k v;omega
  refine wpAny_setItem_pairs (hsz:=hz) (IL ry) dd λh' ú hs=>h _ ?_;have he:∃q,h'.get? a=ap q:=let ⟨q,_,_,hq,_⟩:=ú;⟨q,hq⟩;exact Jm I (by rw[e];exact B6) hs he (Wt hl hd (Í.put k rv) ú)
 ·subst ey eH;cases (show u=Ax b from ry);obtain⟨z,hd,xs,Í,dd⟩:=ZV I.bj e;have hz:xs.length<=sizeLine:=by rw[<- Paired.length Í];exact z
  have hl:(putK kvs k v).length<=sizeLine:=by have:=oW kvs k v;omega
  refine wpAny_setItem_heap (hsz:=hz) (Da hu) (qX I.bj eb) dd λh' ú hs=>h _ ?_;obtain⟨q,es,ep,hq,h2,h3,h4,_,h5⟩:=ú;refine Jm I (by rw[e];exact B6) hs ⟨q,hq⟩ ⟨hl,hd,_,(Í.put k eb rv).keeps λc ys ec=>?_,q,es,ep,hq,h2,h3,h4,h5⟩;rw[au (IE ec e (λz=>nomatch z))];exact ec
end
def WQ(i:im):Prop:=∀ov iv,subscripted i false ov iv=operate [ov,iv] (Fk ov iv)
def PM{Æ:im}{id:String}
  (hl:FB (.type T) "__getitem__"=pure (ap (.builtin id))) (hs:WQ Æ)
  (h:ev (f8 prog w) A (lc value env) (λo s₁=>ev (f8 prog w) A (lc Æ env) (λi s₂=>s₂.TypeIs o T/\ev (f8 prog w) A (Fk o i) Q E s₂) E s₁) E s) :
  ev (f8 prog w) A (lc (.Subscript value Æ pos) env) Q E s:=by
 refine Subscript_ (BH h (λo s₁ h₁=>BH h₁ (λi s₂ h₂=>?_) λ_ _ x=>x) λ_ _ x=>x);obtain⟨hT,h₂⟩:=h₂;refine Aa ?_;refine Aa (DA hT hl ?_);have fin:ev (f8 prog w) A (subscripted Æ false o i) (λr s₃=>ev (f8 prog w) A (letTemporaryGo value o r >>= λ_=>pure r) Q E s₃) E s₂:=by
  rw[hs o i];exact wpAny_operating (BH h₂ (λr s₃ h₃=>Aa (wpAny_letTemporaryGo (Af h₃))) λ_ _ x=>x)
 first
  | exact Af (Aa fin)
  | exact Aa (Af (Aa fin))
  | exact Aa fin
def zB(I:Inv X Z σ H s)(g:ub H a y o):s.TypeIs (.ref a) "dict":=by
 rcases g with⟨kvs,k,e,_,_⟩ | ⟨kvs,k,b,e,_,_,_⟩
 ·obtain⟨_,_,vs,_,dd⟩:=se I.bj e;exact dd.typeIs
 ·obtain⟨_,_,xs,_,dd⟩:=sd I.bj e;exact dd.typeIs
def XW(td ty:TE):TE:=λσ H Q=>td σ H λx H1=>ty σ H1 λy H2=>∃a v,x=.ref a/\ub H2 a y (ap v)/\Q v H2
def abK(ty td:TE):TE:=λσ H Q=>ty σ H λy H1=>td σ H1 λx H2=>∃a o,x=.ref a/\ub H2 a y o/\Q (.bl o.isSome) H2
def Ya(td ty tv:TE):TS:=λD σ H=>tv σ H λv H1=>td σ H1 λx H2=>ty σ H2 λy H3=>∃a H4,x=.ref a/\O3 H3 a y v H4/\D.nx σ H4
section
variable{o i:im}{td ty tv:TE}
def Qv(hu:X.A.units+1 < pc)(ho:PE X o td)(hi:PE X i ty)(hs:WQ i):PE X (.Subscript o i pos) (XW td ty):=by
 intro Z s σ H Q I h;refine PM PySem.F.slot_dict_getitem.lookup hs (bp (ho Z s σ H _ I h) λu s1 ⟨x,H1,I1,rx,q1⟩=>bp (hi Z s1 σ H1 _ I1 q1) λiv s2 ⟨y,H2,I2,ry,a,v,ex,g,q2⟩=>?_);subst ex;obtain rfl:u=Ax a:=rx;exact⟨zB I2 g,K3 hu I2 g ry λw' s3 I3 yb=>⟨v,H2,I3,yb,q2⟩⟩
def U2(hu:X.A.units+1 < pc)(hi:PE X i ty)(ho:PE X o td):PC X .In i o (abK ty td):=by
 intro Z s σ H Q I h;refine bp (hi Z s σ H _ I h) λiv s1 ⟨y,H1,I1,ry,q1⟩=>bp (ho Z s1 σ H1 _ I1 q1) λu s2 ⟨x,H2,I2,rx,a,ov,ex,g,q2⟩=>?_;subst ex;obtain rfl:u=Ax a:=rx;exact ads hu I2 g ry λs3 I3=>⟨.bl ov.isSome,H2,I3,rfl,q2⟩
def Qk(hu:X.A.units+1 < pc)(ho:PE X o td)(hi:PE X i ty)(hv:PE X value tv)(hs:lm value (ap (.Subscript o i Ö)) pos.line X.env=pure false) :
  PS X (.Assign [.Subscript o i Ö] value pos) (Ya td ty tv):=by
 intro Z s σ H D I h;refine wpAny_Assign_Subscript (bp (hv Z s σ H _ I h) λr s1 ⟨v,H1,I1,rv,q1⟩=>bp (ho Z s1 σ H1 _ I1 q1) λu s2 ⟨x,H2,I2,rx,q2⟩=>bp (hi Z s2 σ H2 _ I2 q2) λiv s3 ⟨y,H3,I3,ry,a,H4,ex,g,q3⟩=>?_) hs;subst ex;obtain rfl:u=Ax a:=rx;exact K2 hu I3 g ry rv λs4 I4=>⟨σ,H4,I4,q3⟩
end
def Ow(h:mo)(hb:sK < h.objs.size):aY P w H (h.push {cls:=.type "dict",data:=.dict #[]}) h.objs.size (.dK []):=
 ⟨Bn _,beq_eq_false_iff_ne.mpr (BI (Ay hb)),[],.nil,Heap.DictOf.new h⟩
def Ui:TE:=λ_ H Q=>∀p,H p=bn->Q (.ref p) (upd H p (.dK []))
section
def MD:PE X (.Dict [] [] pos) Ui:=λZ s σ H Q I h=>
 wpAny_Dict_empty ⟨.ref s.heap.objs.size,_,I.laid (a:=s.heap.objs.size) (o:=.dK []) (t':=s.toks) (λ_ _ q=>Ah _ q) (Ao _) (Ow s.heap I.big),rfl,h _ (I.bj.fresh (Ao _))⟩
end
structure M2(X:Cx)(o:im)(m:Str)(Â:Pos)(e f:im)(cv:Pos):Prop where
 base:ss o m X.env (lc o X.env)=lc o X.env
 few:((FS cv (gl [e,f] X.env)).all (λx=>!x.1)&&(backToKw cv (keywordEach [] X.env)).all (λx=>x.1.isSome)
  && decide (([e,f]:List im).length+([]:List Keyword).length+(if ([]:List Keyword).isEmpty then 0 else 1) < 30))=true
 line:(Â.endLine==cv.line)=true
 trees:FS cv (gl [e,f] X.env)=[(false,lc e X.env),(false,lc f X.env)]
def IsD(H:Hp)(a:cr):Prop:=(∃kvs,Rd H a (.dK kvs))\/∃kvs,Rd H a (.dT kvs)
end L2
variable{Ò:O BU}{XP:(BU->Option A5)->Ff->Prop}{YP:PySem.World->Ff->Prop}{d:PySem.DefRec}
namespace Att
open PySem PySem.W PySem.Calls PyProof.Rows
def pG{P:Params}:∀(ns:O Int) (vs:O ce),WellAll P h vs (ns.map WData.int)->wE vs ns:=by
 intro ns
 induction ns with
 | nil=>
  intro vs w;cases w;exact .nil
 | cons n ns ih=>
  intro vs w;cases w with
  | cons a b=>
   cases a;exact .cons _ _ (ih _ b)
theorem JJ{l:OpenLaw}(hn:l.most=ap n){P:Params}{args:O WData}{Ü:O ce}
  (Rv:l.row.toRowW.claim.pre args=true) (Tj:WellAll P h Ü args) :
  ∃a vs ns,Ü=[Ax a]/\args=[WData.list (ns.map WData.int)]/\h.get? a=ap {cls:=.type "list",data:=.seq vs.toArray}/\wE vs ns/\ns.length<=n:=by
 have hsh:=(pre_splitW Rv).1;have hc:l.pre.holds [] {args:=args}=true:=(pre_splitW Rv).2;obtain⟨d,r,rfl,h1,h2⟩:=hasAllW_cons hsh;obtain rfl:=hasAllW_nil h2;obtain⟨xs,rfl,h3⟩:=hasW_list h1;obtain⟨ns,rfl⟩:=items_int h3;have Á:ns.length<=n:=by
  unfold OpenLaw.pre at hc;have h4:(WTm.not (.lt (.lit (.int (n:Int))) (.len (.arg 0)))).holds [] {args:=[.list (ns.map .int)]}=true:=by
   have h4:=(holds_andW hc).1;rw[hn]at h4;exact h4
  have h5:=condW_of h4 (w_not (w_lt w_lit (w_len_list (w_arg rfl))));refine Nat.le_of_not_lt λq=>?_
  first
   | (rw[decide_eq_true q']at h5;exact absurd h5 ⋯)
   | (simp at h5;omega)
 cases Tj with
 | cons w1 w2=>
  cases w2;cases w1 with
  | list ho ac1=>exact⟨_,_,ns,rfl,rfl,ho,pG ns _ ac1,Á⟩
def JP(l:OpenLaw)(args:O WData):l.row.toRowW.claim.post args (.bool true) args=true:=
 postW_of (r:=l.row.toRowW) (X:=(true==true))
  (show WShape.has [] (.bool true) .bool=true by first | rfl | decide | simp[WShape.has,WShape.arms,WShape.armsAll])
  (show(WTm.eq .res (.lit (.bool true))).value [] {args:=args,res:=ap (.bool true),after:=args}=ap (.bool (true==true)) from w_eq_bool (w_res rfl) w_lit) rfl
def zG{l:OpenLaw}{q:sB}
  (hn:l.most=ap n) (Zp:d.params.defaults=[])
  (call:∀(w:ul) (s₀ s₁:db) (mg mb:Str->Option ce) (fa:cr) (o:Obj) (pm cd Ç:ce) (a:cr) (vs:O ce) (ns:O Int),
   Ground q Ò [] XP w s₀ mg mb s₁.heap->YP w s₁.heap->
   s₁.heap.get? fa=ap o->o.data=.func (docDef d.name d.params d.body d.scope pm cd Ç)->s₁.heap.CodeRec cd d.name->mg d.name=ap (.ref fa)->
   s₁.heap.get? a=ap {cls:=.type "list",data:=.seq vs.toArray}->wE vs ns->ns.length<=n->s₁.gens=#[]->
   FM (f8 l.prog w) callerA (.call (.ref fa) ⟨[.ref a],[]⟩) (λr s'=>r=.ok (.ret (.bool true))/\OldK s₁.heap s'.heap/\s'.os=s₁.os/\Gc s'.gens) s₁) :
  WalkO q Ò XP YP l.row.toRowW d [] (λf vs=>FA f vs):=by
 intro w s₀ s₁ mg mb G Y fa o pm cd Ç dV kV ho hd ib hD hmg hg args Ü as Rv agx hrd Tj hlo;obtain rfl:dV=.none:=Dflts.none hD Zp;obtain rfl:kV=.none:=Dflts.noKw hD;obtain⟨a,vs,ns,rfl,rfl,VT,Õ,Á⟩:=JJ hn Rv Tj;refine enter_call (codeAny_mono (call w s₀ s₁ mg mb fa o pm cd Ç a vs ns G Y ho (fd_plain hd) ib hmg VT Õ Á hg) λr s' hq=>?_);obtain⟨rfl,h2,h3,h4⟩:=hq;exact⟨.inl ⟨.bool true,.bool true,[],rfl,λ_=>rfl,.bool true,JP l _,λ_=>⟨List.Pairwise.nil,λ_ hm=>(nomatch hm)⟩⟩,h2,h3,h4⟩
end Att
variable{k:Nat}{sp:L2.Sp}
namespace L2
theorem nS:∀{vs:O ce}{ns:O Int},wE vs ns->Vals (ns.map V.int) vs
 | _,_,.nil=>.nil
 | _,_,.cons n t h=>.cons ⟨t,rfl⟩ (nS h)
def Sn(H:Hp):Prop:=∀b,H b=bn\/∃o xs,H b=ap (.cz o (.lst xs))
def Nf{K:Ab}{mb:Str->Option ce}{CX:O4}{fa:cr}{s₁:db}{vs:O ce}
  (KX:K.In s₁.heap) (hns:s₁.heap.Ns ga mg) (hb:s₁.heap.Ns Ev mb) (hbb:∀x:Str,x≠"__name__"->mb x=nw x) (acO:s₁.heap.NoLimit) (hbm:∃bm ob,mg "__builtins__"=ap (.ref bm)/\bm≠Ev/\s₁.heap.get? bm=ap ob/\ob.cls=.type "module"/\ob.dict=ap Ev/\ob.data=.plain) (hg:s₁.gens=#[])
  (ha:s₁.heap.get? a=ap {cls:=.type "list",data:=.seq vs.toArray}) (hi:wE vs ns) (hl:ns.length<=sizeLine) (hr:d7 k callerA)
  (F:∀base:mo,K.In base->base.Ns ga mg->gc P w K mg base CX k fa fd [x] sp) (Zq:∀(s:db) (u:ce),BindsTo s fd ⟨[u],[]⟩ [(x,u)])
  (Ru:∀H:Hp,Sn H->cT K H a (ns.map V.int)->sp [.ref a] H (λv _=>v=.bl true) λ_ _ _=>False)
  (ě:∀H e s',CX [] H s₁ (λ_ _ _=>False) e s'->False) :
  FM (f8 P w) callerA (.call (.ref fa) ⟨[.ref a],[]⟩) (λr s'=>r=.ok (.ret (.bool true))/\OldK s₁.heap s'.heap/\s'.os=s₁.os/\Gc s'.gens) s₁:=by
 have rv:=nS hi;have ace:=hi.length;have â:∀H:Hp,Sn H->cT K H a (ns.map V.int)->kj P w H s₁.heap->(∀b,H b≠bn->b=a)->(H a≠bn->K.lookup a=bn)->
   FM (f8 P w) callerA (.call (.ref fa) ⟨[.ref a],[]⟩) (λr s'=>r=.ok (.ret (.bool true))/\OldK s₁.heap s'.heap/\s'.os=s₁.os/\Gc s'.gens) s₁:=by
  intro H hO hS bj hA hK;have xn:∀{b:cr}{o:Obj},s₁.heap.get? b=ap o->H b=bn->(wI s₁.heap H).get? b=ap o:=λe n=>NG e n;have YM:∀{b:cr}{o:Obj}{es:Array DictEntry}{ep:Nat},s₁.heap.get? b=ap o->o.data=.dict es ep->H b=bn:=λ{b o es ep} e d=>by
   cases q:H b with
   | none=>rfl
   | some u=>
    have e':b=a:=hA b (by rw[q];simp);subst e';rw[ha]at e;cases e;have d':ES vs.toArray _=Data.dict es ep:=d;cases d'
  have é:∀{b:cr}{m:Str->Option ce},s₁.heap.Ns b m->(wI s₁.heap H).Ns b m:=λ{b m} ⟨o,es,ep,e,d,r⟩=>⟨o,es,ep,xn e (YM e d),d,r⟩;have hKb:K.In (wI s₁.heap H):=λb o e=>xn (KX b o e) (by
   cases q:H b with
   | none=>rfl
   | some u=>
    have e':b=a:=hA b (by rw[q];simp);subst e';rw[hK (by rw[q];simp)]at e;cases e)
  have hM:Mod K mg (wI s₁.heap H):=⟨hKb,é hns,⟨mb,é hb,hbb⟩,let ⟨mc,h1,h2⟩:=acO;⟨mc,é h1,h2⟩,let ⟨bm,ob,h1,h2,h3,h4,h5,h6⟩:=hbm;⟨bm,ob,h1,h2,xn h3 (by
   cases q:H bm with
   | none=>rfl
   | some u=>
    have e':bm=a:=hA bm (by rw[q];simp);subst e';rw[ha]at h3;cases h3;cases h6),h4,h5,h6⟩⟩
  have e0:Ss P w K mg (wI s₁.heap H) callerA [] s₁ H:=⟨rfl,hM,λb o e=>QK e,Nat.le_of_eq (Kp _ _),trivial,λb hb=>absurd (show b∈([]:O cr) from hb) (by simp),bj,.of_eq hg⟩;refine codeAny_mono ((F _ hKb (é hns)).run callerA [] s₁ H ⟨[.ref a],[]⟩ [.ref a] [.ref a] _ _ hr e0 (Zq s₁ (.ref a)) (.cons rfl .nil) (Ru H hO hS)) λr s' h=>?_;cases r with
  | error e=>exact(ě H e s' h).elim
  | ok fl=>
   cases fl with
   | next=>exact Bm h
   | brk=>exact Bm h
   | cont=>exact Bm h
   | ret u=>
    obtain⟨v,H',os,bare,un,acK,r',q⟩:=h;have q':v=.bl true:=q;subst q';obtain rfl:u=CB true:=r';refine⟨rfl,OldK.of_keep λb o e=>?_,os,bare⟩;cases q:H b with
    | none=>exact un.keep b o e q (by intro z;exact absurd (show b∈([]:O cr) from z) (by simp)) (by simp)
    | some u=>
     rcases hO b with z | ⟨ob,xs,z⟩
     ·rw[q]at z;cases z
     ·have z2:=un.rJ b ob _ z;obtain⟨e1,_⟩:=bj b _ z;obtain⟨e2,_⟩:=acK b _ z2;rw[e]at e1;cases e1;exact e2
 cases hk:K.lookup a with
 | some o=>
  have e:=KX a o hk;rw[ha]at e;cases e;refine â (λ_=>bn) (λ_=>.inl rfl) (.inr ⟨_,vs.toArray,_,hk,rfl,rfl,rfl,by rw[Ai,ace];exact hl,by simpa using rv⟩) (λb u z=>by have z':(bn:Option HO)=ap u:=z;cases z') (λb z=>absurd rfl z) λz=>absurd rfl z
 | none=>
  refine â (λb=>if b=a then ap (.cz {cls:=.type "list",data:=.seq vs.toArray} (.lst (ns.map V.int))) else bn) (λb=>?_) (.inl (.inr ⟨{cls:=.type "list",data:=.seq vs.toArray},if_pos rfl⟩)) (λb u z=>?_) (λb z=>?_) λ_=>hk
  ·by_cases hb:b=a
   ·exact .inr ⟨_,_,if_pos hb⟩
   ·exact .inl (if_neg hb)
  ·by_cases hb:b=a
   ·have z':=(if_pos hb).symm.trans z;cases z';subst hb;exact⟨ha,by rw[Aj];exact hl,vs,_,rv,ha⟩
   ·have z':=(if_neg hb).symm.trans z;cases z'
  ·by_cases hb:b=a
   ·exact hb
   ·exact absurd (if_neg hb) z
def Pp{l:ED}{q:sB}{K:Params->Ab}{CX:ul->O4}{sp:ul->Sp}
  (hn:l.most=ap n) (hn2:n<=sizeLine) (Zp:d.params.defaults=[]) (hr:d7 k callerA)
  (hY:∀(w:ul) (h:mo),YP w h->(K w.params).In h)
  (F:∀(w:ul) (mg:Str->Option ce) (fa:cr) (h:mo),(K w.params).In h->h.Ns ga mg->mg d.name=ap (.ref fa)->
   ∃fd:EQ,(∀(s:db) (u:ce),BindsTo s fd ⟨[u],[]⟩ [(x,u)])/\
    ∀base:mo,(K w.params).In base->base.Ns ga mg->gc l.prog w (K w.params) mg base (CX w) k fa fd [x] (sp w))
  (Ru:∀(w:ul) (H:Hp) (a:cr) (ns:O Int),ns.length<=n->Sn H->cT (K w.params) H a (ns.map V.int)->sp w [.ref a] H (λv _=>v=.bl true) λ_ _ _=>False)
  (ě:∀(w:ul) (H:Hp) (s:db) (e:ce) (s':db),CX w [] H s (λ_ _ _=>False) e s'->False) :
  PySem.W.WalkO q Ò XP YP l.row.toRowW d [] (λf vs=>FA f vs):=by
 refine Att.zG hn Zp λw s₀ s₁ mg mb fa o pm cd Ç a vs ns G Y ho hd ib hmg VT Õ Á hg=>?_;have KX:=hY w _ Y;obtain⟨fd,hb,hF⟩:=F w mg fa _ KX G.T.g hmg;exact Nf KX G.T.g G.T.b G.T.builtins G.T.nolimit G.T.bmain hg VT Õ (Bp Á hn2) hr hF hb (λH hO hS=>Ru w H a ns Á hO hS) λH e s'=>ě w H s₁ e s'
end L2
variable{B:Prop}
namespace L2
def eD(s:sn):Arguments:=match s with
 | .FunctionDef _ a _ _ _ _ _ _ _ _=>a
 | _=>{posonlyargs:=[],args:=[],vararg:=bn,kwonlyargs:=[],kw_defaults:=[],kwarg:=bn,defaults:=[]}
def cE(s:sn):O sn:=match s with
 | .FunctionDef _ _ b _ _ _ _ _ _ _=>b
 | _=>[]
def aH(s:sn):o0:=match s with
 | .FunctionDef _ _ _ _ _ _ sc _ _ _=>sc
 | _=>{kind:=.function,names:=[],isGenerator:=false,isCoroutine:=false}
abbrev sS:O4:=λ_ _ _ _ _ _=>False
abbrev E0:XK:=λ_ _ _=>False
def SV:Passes sS X E0:=λ_ _ _ _ _ _ _ h=>h.elim
structure Pf(K:Ab)(x qual:Str)(st:sn)(f:cr)(fd:EQ):Prop where
 ex:∃(oc:ce) (od:Option cr) (kV Ç pm:ce) (an:Option cr) (eE ct:ce) (QA:Array (Option ce)),
  fd=BP x qual (eD st) (cE st) (aH st) .none kV Ç pm an eE ct/\K.lookup f=ap ⟨oc,od,.func fd,QA⟩/\DS K eE qual=true
 kp:DR K (.ref f)=true
section
variable{K:Ab}
def Pf.ok{st:sn}{f:cr}{N:O Str}(F:Pf K x qual st f fd)(S:da N ps (aH st))(len:∀vs H Q E,sp vs H Q E->vs.length=ps.length)
  (NJ:∀(eE:ce) (A:wS) (outer:O Env) (s:db) (H:Hp) (vs:O V) (Q:VK) (E:XK),d7 k (A.deeper (Db qual (aH st) s.heap.objs.size f eE))->sp vs H Q E->
   ∃t,qh (tT sS P w K mg base N qual (aH st) f eE A outer s H E).SY (cE st) t/\t {nx:=λ_ H'=>Q .aN H',rt:=Q} (start N vs) H):gc P w K mg base sS (k+1) f fd ps sp:=by
 obtain⟨oc,od,kV,Ç,pm,an,eE,ct,QA,rfl,lk,ib⟩:=F.ex;refine ZG lk ib S len λA outer s H vs Q E hr Ru=>?_;obtain⟨t,h,q⟩:=NJ eE A outer s H vs Q E hr Ru;exact⟨t,h.SY,q⟩
def Pf.binds{st:sn}{f:cr}(F:Pf K x qual st f fd)
  (h:∀(kV Ç pm:ce) (an:Option cr) (eE ct:ce) (us:O ce),us.length=ps.length->bindArgs (BP x qual (eD st) (cE st) (aH st) .none kV Ç pm an eE ct) ⟨us,[]⟩=pure (ps.zip us)):Binds K fd ps []:=by
 obtain⟨oc,od,kV,Ç,pm,an,eE,ct,QA,rfl,lk,ib⟩:=F.ex;exact .all (h kV Ç pm an eE ct)
def V6{st:sn}{f:cr}{kV:ce}(l:K.lookup f=ap ⟨oc,od,.func (BP x qual (eD st) (cE st) (aH st) .none kV Ç pm an eE ct),QA⟩)
  (c:DS K eE qual=true) (k:DR K (.ref f)=true):Pf K x qual st f (BP x qual (eD st) (cE st) (aH st) .none kV Ç pm an eE ct):=⟨⟨oc,od,kV,Ç,pm,an,eE,ct,QA,rfl,l,c⟩,k⟩
end
def uj(h:n<=1000):n < sizeLine:=Nat.lt_of_le_of_lt h ⋯
def tL{A:Prop}(h:B):if false=true then A else B:=by
 exact h
def tK{A:Prop}(h:A):if true=true then A else B:=by
 exact h
def jv(H H':Hp):Prop:=∀b o,H b=ap o->H' b=ap o
def jv.refl(H:Hp):jv H H:=λ_ _ h=>h
end L2
variable{a b:Nat}{H2:L2.Hp}{R:PySem.Result->DM->Prop}{Xs:PySem.Scope}{N':O BU}{ix:O (Option Nat)}{Ã:BW}{É:O BW}{mE:Cj}
namespace L2
def lsz{o:Obj}(e:h.get? b=ap o):b < h.objs.size:=Aq e
def neN(h:a≠b):a≠b:=h
def ltN(h:a < b):a < b:=h
def TV{c:Nat}{v:Option ce}(q:h.IsCell c v):c < h.objs.size:=q.lt
structure br(Xs:o0)(N:List Str)(sc:o0)(N':List Str)(ix:List (Option Nat)):Prop where
 kind:sc.kind=.function
 nc:∀y∈sc.names,y.2≠.cell
 loc:∀y∈sc.names,y.2=.local->sc.names.lookup y.1=ap .local
 fr:∀y∈sc.names,y.2=.free->(Xs.names.lookup y.1=ap .cell\/Xs.names.lookup y.1=ap .free)
 nd:N'.Nodup
 len:ix.length=N'.length
 map:((ix.zip N').all λp=>match p.1 with | none=>true | some j=>decide (N[j]?=ap p.2)&&decide (sc.names.lookup p.2=ap .free))=true
def br.at{N:O Str}(S:br Xs N sc N' ix){i:Nat}(h1:ix[i]?=ap (ap j))(h2:N'[i]?=ap x) :
  N[j]?=ap x/\sc.names.lookup x=ap .free:=by
 have hm:((ap j,x):Option Nat×Str)∈ix.zip N':=by
  refine BR (i:=i) ?_;rw[List.getElem?_zip_eq_some];exact⟨h1,h2⟩
 have q:=Co.mp S.map _ hm;simp only[Aw,decide_eq_true_eq]at q;exact q
def nH(ix:O (Option Nat))(σ:St):St:=ix.map λo=>match o with | some j=>(σ[j]?).getD bn | none=>bn
def eT(X:Cx)(sc:o0)(N':O Str)(cl:O (Str×cr))(C:cr)(s2:db)(H2:Hp)(fp:O cr):Cx where
 prog:=X.prog
 w:=X.w
 K:=X.K
 mg:=X.mg
 base:=X.base
 A:=X.A
 N:=N'
 s₀:=s2
 H₀:=H2
 env:=compEnvC sc cl C X.env
 outer:=X.stack
 stack:=X.stack
 ex:=fp
 calm:=X.calm
 fn:=λ_=>false
 pn:=[]
 xe:=λ_ _=>False
theorem mi:∀(names:O (Str×ww)) (cs:O (Str×cr)),(∀y∈names,y.2=.free->∃c,env.cells.lookup y.1=ap c)->
  ∃cl,(forIn names cs λ(x:Str×ww) (c:O (Str×cr))=>(match x with | (name,kind)=>do
    let c <- if (kind==Bd)=true then do let a <- cellOf env name;pure ((name,a)::c) else pure c
    pure (Cc c):Sem (ForInStep (O (Str×cr)))))=pure cl/\(∀x c,cl.lookup x=ap c->cs.lookup x=ap c\/(env.cells.lookup x=ap c/\(x,Bd)∈names))/\(∀x,((x,Bd)∈names\/(∃c,cs.lookup x=ap c))->∃c,cl.lookup x=ap c)
 | [],cs,_=>⟨cs,rfl,λ_ _ h=>.inl h,λx h=>h.elim (λz=>nomatch z) λz=>z⟩
 | (n,k)::r,cs,h=>by
  by_cases hk:k=.free
  ·subst hk;obtain⟨c,hc⟩:=h (n,.free) Br rfl;obtain⟨cl,e,h1,h2⟩:=mi r ((n,c)::cs) λy hy=>h y (AM _ hy);refine⟨cl,?_,λx d hd=>?_,λx hx=>?_⟩
   ·rw[BX,<- e];simp only[beq_self_eq_true,if_true,cellOf,hc,pure_bind]
   ·rcases h1 x d hd with z | ⟨z1,z2⟩
    ·rw[Bl]at z;by_cases hx:(x==n)=true
     ·rw[hx]at z;have uC:x=n:=eq_of_beq hx;subst uC;cases z;exact .inr ⟨hc,Br⟩
     ·have uC:(x==n)=false:=by simpa using hx
      rw[uC]at z;exact .inl z
    ·exact .inr ⟨z1,AM _ z2⟩
   ·refine h2 x ?_;rcases hx with hx | ⟨d,hd⟩
    ·rcases AG.mp hx with z | z
     ·injection z with z1 _;subst z1;exact .inr ⟨c,by rw[Bl];simp⟩
     ·exact .inl z
    ·by_cases hx:(x==n)=true
     ·exact .inr ⟨c,by rw[Bl,hx]⟩
     ·have uC:(x==n)=false:=by simpa using hx
      exact .inr ⟨d,by rw[Bl,uC];exact hd⟩
  ·obtain⟨cl,e,h1,h2⟩:=mi r cs λy hy=>h y (AM _ hy);refine⟨cl,?_,λx d hd=>?_,λx hx=>?_⟩
   ·have hb:(k==Bd)=false:=by simpa using hk
    rw[BX,<- e];simp only[hb,Ag,if_false,pure_bind]
   ·rcases h1 x d hd with z | ⟨z1,z2⟩
    ·exact .inl z
    ·exact .inr ⟨z1,AM _ z2⟩
   ·refine h2 x ?_;rcases hx with hx | hx
    ·rcases AG.mp hx with z | z
     ·injection z with _ z2;exact absurd z2.symm hk
     ·exact .inl z
    ·exact .inr hx
def lB(h:∀y∈sc.names,y.2=.free->∃c,env.cells.lookup y.1=ap c) :
  ∃cl,closureFor sc env=pure cl/\(∀x c,cl.lookup x=ap c->env.cells.lookup x=ap c/\(x,Bd)∈sc.names)/\(∀x,(x,Bd)∈sc.names->∃c,cl.lookup x=ap c):=by
 obtain⟨cl,e,h1,h2⟩:=mi (env:=env) sc.names [] h;refine⟨cl,?_,λx c hc=>(h1 x c hc).resolve_left (λz=>nomatch z),λx hx=>h2 x (.inl hx)⟩;unfold closureFor;have e':(forIn sc.names ([]:O (Str×cr)) λx r=>(match x with | (name,kind)=>if (kind==Bd)=true then do let a <- cellOf env name;pure (Cc ((name,a)::r)) else pure (Cc r):Sem (ForInStep (O (Str×cr)))))=pure cl:=by
  rw[<- e]
  first
   | rfl
   | (
     congr 1;funext x r;obtain⟨n,k⟩:=x;by_cases hk:(k==Bd)=true
     ·simp only[hk,if_true,pure_bind]
     ·simp only[hk,if_false,pure_bind,Ag])
   | simp only[pure_bind]
 simpa using e'
theorem fF{env:Env}:∀{names:O (Str×ww)}{x:Str},
  (names.map λ(n,k)=>if (k==Bd&&env.scope.kind==.function&&env.kindOf n==ap .cell) then (n,E9) else (n,k)).lookup x =
   (names.lookup x).map λk=>if (k==Bd&&env.scope.kind==.function&&env.kindOf x==ap .cell) then E9 else k
 | [],_=>rfl
 | (n,k)::r,x=>by
  have ih:=@fF env r x;show List.lookup x ((if (k==Bd&&env.scope.kind==.function&&env.kindOf n==ap .cell)=true then (n,E9) else (n,k))::_)=_;cases hx:x==n with
  | true=>
   have e:=eq_of_beq hx;subst e;by_cases hc:(k==Bd&&env.scope.kind==.function&&env.kindOf x==ap .cell)=true
   ·rw[if_pos hc,Bl,Bl,hx];simp only[Cu,hc,if_true]
   ·rw[if_neg hc,Bl,Bl,hx];simp only[Cu,hc,if_false];simp
  | false=>
   by_cases hc:(k==Bd&&env.scope.kind==.function&&env.kindOf n==ap .cell)=true
   ·rw[if_pos hc,Bl,Bl,hx];exact ih
   ·rw[if_neg hc,Bl,Bl,hx];exact ih
def Xu(X:Cx)(É:O im)(t:TT):Prop:=
 ∀(Z:O (cr×Obj)) (s:db) (σ:St) (H:Hp) (Q:Bool->Hp->Prop),Inv X Z σ H s->t σ H Q->
  ev (f8 X.prog X.w) X.A (forIn É true λc r=>if r=true then do let ok <- isTrue c X.env (lc c X.env);pure (Cc ok) else pure (Cc r)) (TP X Z σ Q) X.xe s
def abM:TT:=λ_ H Q=>Q true H
def Qs:Xu X [] abM:=λZ s σ H Q I h=>by
 exact Af ⟨H,I,h⟩
def Qr{c:im}{t:TT}(hc:PT X c t):Xu X [c] t:=λZ s σ H Q I h=>by
 rw[BX];simp only[if_true,bind_assoc,pure_bind];refine Aa (bp (hc Z s σ H Q I h) λb s1 q=>?_);exact Af q
def tLc(ix:O (Option Nat))(wi:TI)(g:TG)(tf:TT)(te:TE):TE:=λσ H Q=>wi σ H λJ H1=>∀D,H1 D=bn->∃W:Nat->Nat->St->O V->Hp->Prop,
 (∃m,W 0 m (nH ix σ) [] (upd H1 D (.lst [])))/\∀i m σ' ys H,W i m σ' ys H->H D=ap (.lst ys)/\
  ((J.stop i H/\Q (.ref D) H)\/(J.go i H/\∀x H',J.Sz i H x H'->g x σ' H' λσ2 H2=>tf σ2 H2 λb H3=>
   if b=true then te σ2 H3 λy H4=>H4 D=ap (.lst ys)/\ys.length+1<=sizeLine/\∃m',m' < m/\W (i+1) m' σ2 (ys++[y]) (upd H4 D (.lst (ys++[y]))) else ∃m',m' < m/\W (i+1) m' σ2 ys H3))
def kW{È:im}{it Ä:ce}(I:Nat->db->Prop)
  (turn:∀n s,I n s->ev (f8 prog w) A (pyNext it) (λr s₁=>match r with
   | none=>R (.ok .next) s₁
   | some v=>ev (f8 prog w) A (GE È it v) (λ_ SG=>ev (f8 prog w) A (xz È env v) (λ_ s₂=>
     ev (f8 prog w) A (forIn É true λc r=>if r=true then do let ok <- isTrue c env (lc c env);pure (Cc ok) else pure (Cc r)) (λok s₃=>
      if ok=true then ev (f8 prog w) A (lc Ã env) (λx s₄=>
       ev (f8 prog w) A (call (.builtin "list.append") [Ä,x]) (λ_ s₅=>∃m,m < n/\I m s₅) (λ_ _=>False) s₄) (λ_ _=>False) s₃
      else ∃m,m < n/\I m s₃) (λ_ _=>False) s₂) (λ_ _=>False) SG) (λ_ _=>False) s₁) (λ_ _=>False) s)
  (n:Nat) (h:I n s) :
  FM (f8 prog w) A (.compLoop (.ListComp Ã [⟨È,iter,É,0⟩] scope pos) 0 it Ä env) R s:=by
 refine codeAny_loop rfl I (λn s hI=>?_) n h;refine wpAny_noted ?_;rw[compTurn_list];refine Aa (Dm (Aa (BH (turn n s hI) (λr s₁ h₁=>?_) λ_ _ h'=>h'.elim)));cases r with
 | none=>exact Af h₁
 | some v=>
  refine Aa (BH h₁ (λ_ SG Y4=>?_) λ_ _ h'=>h'.elim);refine Aa (BH Y4 (λ_ s₂ h₂=>Aa (BH h₂ (λok s₃ h₃=>?_) λ_ _ h'=>h'.elim)) λ_ _ h'=>h'.elim);cases ok with
  | false=>exact Af ⟨rfl,h₃⟩
  | true=>
   have Y3:ev (f8 prog w) A (lc Ã env) (λx s₄=>
       ev (f8 prog w) A (call (.builtin "list.append") [Ä,x]) (λ_ s₅=>∃m,m < n/\I m s₅) (λ_ _=>False) s₄) (λ_ _=>False) s₃:=h₃
   exact Aa (Aa (BH Y3 (λx s₄ h₄=>Aa (BH h₄ (λ_ s₅ h₅=>Af (Af ⟨rfl,h₅⟩)) λ_ _ h'=>h'.elim)) λ_ _ h'=>h'.elim))
section
variable{g:TG}{tf:TT}
structure aag(X:Cx)(Z:List (cr×Obj))(H:Hp)(C:cr):Prop where
 hn:H C=bn
 hL:C≠X.env.locals
 ab:X.s₀.heap.objs.size<=C
 cl:∀x c,X.env.cells.lookup x=ap c->c≠C
 pn:∀p∈X.pn++Z,p.1≠C
theorem IK(hc:X.calm=true)(S:br X.env.scope X.N sc N' ix)
  (hg:∀cl C s2 H2 fp,PG (eT X sc N' cl C s2 H2 fp) tg g) (hf:∀cl C s2 H2 fp,Xu (eT X sc N' cl C s2 H2 fp) É tf) (he:∀cl C s2 H2 fp,PE (eT X sc N' cl C s2 H2 fp) Ã te) {s2:db}{cl:O (Str×cr)} (rC:∀x c,cl.lookup x=ap c->X.env.cells.lookup x=ap c/\(x,Bd)∈sc.names) (Kq:∀x,(x,Bd)∈sc.names->∃c,cl.lookup x=ap c) {tn:Nat->mo->Prop}{J:It}{Q:VK} (I2:Inv X Z σ H2 s2) (T:Turn X.prog X.w X.K tg J fp it tn) (JG:tn 0 s2.heap) (f2:∀b∈fp,t6 X Z H2 b)
  (hW:∀D,H2 D=bn->∃W:Nat->Nat->St->O V->Hp->Prop,
   (∃m,W 0 m (nH ix σ) [] (upd H2 D (.lst [])))/\∀i m σ' ys H,W i m σ' ys H->H D=ap (.lst ys)/\
    ((J.stop i H/\Q (.ref D) H)\/(J.go i H/\∀x H',J.Sz i H x H'->g x σ' H' λσ2 H2=>tf σ2 H2 λb H3=>
     if b=true then te σ2 H3 λy H4=>H4 D=ap (.lst ys)/\ys.length+1<=sizeLine/\∃m',m' < m/\W (i+1) m' σ2 (ys++[y]) (upd H4 D (.lst (ys++[y]))) else ∃m',m' < m/\W (i+1) m' σ2 ys H3)))
  {RR:ce->cr->Result->db->Prop}{E:ce->db->Prop}
  (hRR:∀D C m s' H',Inv X Z σ H' s'->Q (.ref D) H'->s'.heap.Ns C m->aag X Z H' C->RR (.ref D) C (.ok .next) s') :
  ev (f8 X.prog X.w) X.A (newList []) (λÄ s₃=>ev (f8 X.prog X.w) X.A (newFunctionEnv sc X.env.globals cl [] X.env.qual bn .none (ap X.env)) (λZ0 s₄=>
   FM (f8 X.prog X.w) X.A (.compStart (.ListComp Ã [⟨tg,iter,É,0⟩] sc pos) 0 (.ref it) Ä {Z0 with scope:=relabel sc X.env}) (RR Ä Z0.locals) s₄) E s₃) E s2:=by
 refine Bb (wpAny_newFunctionEnv S.nc (by intro y hy;simp at hy) (λh₁ GV wF=>?_) S.kind);generalize hH2:s2.heap.push {cls:=.type "list",dict:=bn,data:=.seq ([]:O ce).toArray}=G2 at GV wF ⊢;have hC:G2.objs.size=s2.heap.objs.size+1:=by rw[<- hH2,CC]
 obtain⟨D,hD⟩:∃D:Nat,s2.heap.objs.size=D:=⟨_,rfl⟩;obtain⟨C,hCC⟩:∃C:Nat,G2.objs.size=C:=⟨_,rfl⟩;simp only[hD,hCC]at GV wF hC ⊢;have hDC:D≠C:=by omega
 have Ê:∀b o,s2.heap.get? b=ap o->h₁.get? b=ap o:=λb o e=>by
  have hb:=lsz e;exact wF.extBut b o (neN ∅) (Ah _ (hH2▸Ah _ e))
 have Zr:h₁.get? D=ap {cls:=.type "list",data:=.seq ([]:O ce).toArray}:=by
  refine wF.extBut D _ hDC (Ah _ ?_);rw[<- hH2,<- hD];exact Ap _ rfl
 have hD2:H2 D=bn:=I2.bj.fresh ∅;have hC2:H2 C=bn:=I2.bj.fresh ∅;obtain⟨W,⟨m0,w0⟩,turn⟩:=hW D hD2;have TU:∀x c,cl.lookup x=ap c->∃v,s2.heap.IsCell c v:=λx c e=>I2.cell x c (rC x c e).1;have adt:∀x c,cl.lookup x=ap c->c < D:=λx c e=>by
  obtain⟨v,q⟩:=TU x c e;have:=TV q;exact ltN ∅
 have Ġ:∀b∈fp,b < D:=λb hb=>by
  obtain⟨o,e,_⟩:=T.obj 0 _ JG b hb;have:=lsz e;exact ltN ∅
 have Yok:(eT X sc N' cl C s2 H2 fp).Ok:=by
  refine⟨I2.ok.mod,S.kind,I2.ok.glob,I2.ok.blt,?_,?_,?_,?_,I2.ok.hd,I2.ok.frames,.inl rfl,?_,I2.bs,?_,?_,?_,I2.stack,I2.H9⟩
  ·show s2.heap.objs.size<=C;omega
  ·intro x y c e1 e2;exact I2.ok.inj x y c (rC x c e1).1 (rC y c e2).1
  ·intro x hx;have uC:(relabel sc X.env).names.lookup x=ap .cell\/(relabel sc X.env).names.lookup x=ap .free:=hx;unfold relabel at uC;rw[fF]at uC;cases q:sc.names.lookup x with
   | none=>rw[q]at uC;simp at uC
   | some k=>
    have hm:=BJ q;by_cases hk:k=.free
    ·subst hk;exact Kq x hm
    ·have hk2:k≠.cell:=S.nc _ hm;rw[q]at uC;have hb:(k==Bd)=false:=by simpa using hk
     simp only[Cu,hb,E2,Ag,if_false]at uC;rcases uC with z | z
     ·exact absurd (Option.some.inj z) hk2
     ·exact absurd (Option.some.inj z) hk
  ·intro x c Zo;exact absurd Zo AQ
  ·intro b hb;refine⟨?_,λx c e z=>(f2 b hb).2.2.2.2.1 x c (rC x c e).1 z⟩;show b≠C;have:=ltN (Ġ b hb);exact neN ∅
  ·exact Bp I2.ok.TX I2.sz
  ·intro b o e hb;rcases (f2 b hb).2.2.2.1 with z | z
   ·exact I2.ok.MR b o e z
   ·have h1:=lsz (h:=X.base) e;have h2:=I2.ok.TX;omega
  ·intro b hb z;rcases AG.mp (I2.FR b z) with q | q
   ·exact(f2 b hb).2.1 q
   ·exact(f2 b hb).2.2.1 q
 have un0:Un (LA X.stack) fp H2 (upd H2 D (.lst [])) s2.heap h₁:=Un.laid Ê ∅ hD2;have acJ:kj X.prog X.w (upd H2 D (.lst [])) h₁:=I2.bj.laid Ê ∅ ⟨Bn _,[],0,.nil,Zr⟩;have IY:∀tk,Inv (eT X sc N' cl C s2 H2 fp) [] (nH ix σ) (upd H2 D (.lst [])) {s2 with heap:=h₁,toks:=tk}:=λtk=>by
  refine⟨Yok,rfl,I2.bare,un0,⟨_,GV,λi x v e1 e2 e3=>?_⟩,λx c e=>?_,?_,λx c e=>?_,λp hp=>absurd (show p∈([]:O (cr×Obj)) from hp) (by simp),acJ,?_⟩
  ·have sR:N'[i]?=ap x:=e1;unfold nH at e2;rw[Ak]at e2;cases q:ix[i]? with
   | none=>rw[q]at e2;cases e2
   | some o=>
    cases o with
    | none=>rw[q]at e2;cases e2
    | some j=>
     rw[q]at e2;have ù:(σ[j]?).getD bn=ap v:=Option.some.inj e2;have e4:σ[j]?=ap (ap v):=by
      cases z:σ[j]? with
      | none=>rw[z]at ù;cases ù
      | some y=>rw[z]at ù;exact congrArg ap ù
     obtain⟨a1,a2⟩:=S.at q sR;have Zf:=BJ a2;have hk:=S.fr _ Zf rfl;obtain⟨m,_,hl⟩:=I2.loc;obtain⟨u,r,l⟩:=hl j x v a1 e4 (.inr hk);refine⟨u,r,.inr ⟨?_,?_⟩⟩
     ·show(relabel sc X.env).names.lookup x=ap .cell\/(relabel sc X.env).names.lookup x=ap .free;unfold relabel;rw[fF,a2];by_cases hb:(X.env.scope.kind==.function&&X.env.kindOf x==ap .cell)=true
      ·left
       simp only[Cu,beq_self_eq_true,Bs,hb,if_true]
      ·right
       simp only[Cu,beq_self_eq_true,Bs,hb,if_false,Ag]
     ·obtain⟨c,hcx⟩:=Kq x Zf;have hcX:=(rC x c hcx).1;refine⟨c,hcx,?_⟩;rcases l with⟨k,_⟩ | ⟨k,c',e',z⟩
      ·have k':X.env.scope.names.lookup x=ap .local:=k;rcases hk with y | y <;> rw[k']at y <;> cases y
      ·rw[hcX]at e';cases e';obtain⟨o,ho,hd⟩:=z;exact⟨o,Ê _ _ ho,hd⟩
  ·obtain⟨v,o,ho,hd⟩:=TU x c e;exact⟨v,o,Ê _ _ ho,hd⟩
  ·show upd H2 D (.lst []) C=bn;rw[au (BI hDC)];exact hC2
  ·have lq:=ltN (adt x c e);show upd H2 D (.lst []) c=bn;rw[au (neN ∅)];exact I2.jy x c (rC x c e).1
  ·unfold nH;rw[Aj];exact S.len
 have ğ:∀{ym:O (cr×Obj)}{H':Hp},(∀b∈fp,H' b=bn)->(∀p∈ym,p.1∉fp)->∀b∈fp,t6 (eT X sc N' cl C s2 H2 fp) ym H' b:=λhn hp b hb=>by
  refine⟨hn b hb,?_,?_,.inl hb,λx c e z=>(f2 b hb).2.2.2.2.1 x c (rC x c e).1 z,λp đ z=>?_⟩
  ·show b≠C;have:=ltN (Ġ b hb);exact neN ∅
  ·exact Yok.N2 b hb
  ·have acF:p∈([]:O (cr×Obj))++_:=đ;exact hp p acF (z▸hb)
 have á:∀s₃:db,s₃={s2 with heap:=h₁,toks:=s2.toks+([]:O (Str×ce)).length}->
   FM (f8 X.prog X.w) X.A (.compLoop (.ListComp Ã [⟨tg,iter,É,0⟩] sc pos) 0 (.ref it) (.ref D) (compEnvC sc cl C X.env)) (RR (.ref D) C) s₃:=by
  rintro s₃ rfl;refine kW (λn s'=>∃i σ' ys H',Inv (eT X sc N' cl C s2 H2 fp) [] σ' H' s'/\tn i s'.heap/\(∀b∈fp,H' b=bn)/\W i n σ' ys H') ?_ m0
   ⟨0,_,[],_,IY _,T.keep _ _ _ JG (λb _ o e=>Ê b o e),λb hb=>by rw[au (Ay (Ġ b hb))];exact(f2 b hb).1,w0⟩
  rintro n s3 ⟨i,σ3,ys,H3,I3,X6,ZD,w3⟩;obtain⟨hDl,w3⟩:=turn i n σ3 ys H3 w3;rcases w3 with⟨stop,qn⟩ | ⟨go,step⟩
  ·refine bp (T.done (eT X sc N' cl C s2 H2 fp) rfl rfl rfl hc i [] s3 σ3 H3 _ I3 (ğ ZD (by simp)) X6 stop) λr s4 ⟨hr,I4⟩=>?_;subst hr;obtain⟨m,hn,_⟩:=I4.loc;refine hRR D C m s4 H3 (I2.Z1 (ch:=fp) I4.os I4.base I4.bj I4.bare λb hb=>?_) qn hn ?_
   ·obtain⟨a0,a1,a2,a3,a4,a5⟩:=f2 b hb;exact⟨a3,a1,a4,a5⟩
   ·refine⟨I4.free,?_,?_,λx c e z=>?_,λp hp z=>?_⟩
    ·have:=ltN I2.lt;exact neN ∅
    ·have:=I2.sz;omega
    ·obtain⟨v,q⟩:=I2.cell x c e;have:=TV q;exact neN (a:=c) (b:=C) ∅ z
    ·have:=lsz (I2.pin p hp).1;exact neN (a:=p.1) (b:=C) ∅ z
  ·refine bp (T.item (eT X sc N' cl C s2 H2 fp) rfl rfl rfl hc i [] s3 σ3 H3 (λ_ _=>False) I3 (ğ ZD (by simp)) X6 go) λr s4 ⟨u,hr,h4⟩=>?_;subst hr;refine bp h4 λ_ s5 ⟨x,H5,I5,r5,y5,Um,Ğ⟩=>?_;have Ģ:=I5.pinned (ğ Ğ (by simp)) (T.obj _ _ Um);refine bp (hg _ _ _ _ _ _ s5 σ3 H5 x u _ Ģ r5 (step x H5 y5)) λ_ s6 ⟨σ6,H6,I6,q6⟩=>?_;refine bp (hf _ _ _ _ _ _ s6 σ6 H6 _ I6 q6) λb s7 ⟨H7,I7,q7⟩=>?_;have Ni:∀{s8:db}{σ8:St}{H8:Hp},Inv (eT X sc N' cl C s2 H2 fp) ([]++nZ fp s5.heap) σ8 H8 s8->tn (i+1) s8.heap/\∀b∈fp,H8 b=bn:=λ{s8 σ8 H8} I8=>by
    refine⟨T.keep _ _ _ Um λb hb o e=>(I8.pin (b,o) (AB _ (AB _ (iH hb e)))).1,λb hb=>?_⟩;obtain⟨o,e,d⟩:=T.obj _ _ Um b hb;exact(I8.pin (b,o) (AB _ (AB _ (iH hb e)))).2.1
   cases b with
   | false=>
    have q7':=q7;obtain⟨m',hm,w7⟩:=q7';obtain⟨t7,fr7⟩:=Ni I7;exact⟨m',hm,i+1,σ6,ys,H7,I7.jI,t7,fr7,w7⟩
   | true=>
    refine bp (he _ _ _ _ _ _ s7 σ6 H7 _ I7 q7) λyv s8 ⟨y,H8,I8,r8,hD8,hz8,m',hm,w8⟩=>?_;obtain⟨z,ar,k,rv,hl8,e8⟩:=I8.og hD8;obtain⟨t8,fr8⟩:=Ni I8;refine wpAny_list_append_plain (s:=s8) (items:=ar.toArray) (hsz:=by rw[Ai];omega) ⟨_,e8⟩ λh9 hl9 hs9=>?_;obtain⟨k9,e9⟩:=hl9;have hv9:=Vals.append rv (.cons r8 .nil);have I9:Inv (eT X sc N' cl C s2 H2 fp) ([]++nZ fp s5.heap) σ6 (upd H8 D (.lst (ys++[y]))) {s8 with heap:=h9,toks:=s8.toks}:=by
     refine I8.write (x:=D) (e:=D) (by rw[hD8];exact trivial) (.inl rfl) (λb u hb hu=>(hs9.2 b hb).trans hu) ⟨_,e9⟩ ?_;refine⟨by rw[Ad,Dc];exact hz8,ar++[yv],k9,hv9,?_⟩;rw[e9];simp
    obtain⟨t9,fr9⟩:=Ni I9;exact⟨m',hm,i+1,σ6,_,_,I9.jI,t9,fr9,w8⟩
 exact codeAny_compStart_list (á _ rfl) (T.self _ 0 _ _ _ (T.keep _ _ _ JG λb _ o e=>Ê b o e) (á _ rfl))
def Yv(hc:X.calm=true)(S:br X.env.scope X.N sc N' ix)(hi:PI X tg iter wi)
  (hg:∀cl C s2 H2 fp,PG (eT X sc N' cl C s2 H2 fp) tg g) (hf:∀cl C s2 H2 fp,Xu (eT X sc N' cl C s2 H2 fp) É tf) (he:∀cl C s2 H2 fp,PE (eT X sc N' cl C s2 H2 fp) Ã te)
  (hs:u9 X iter:=by intro _;rfl):PE X (.ListComp Ã [⟨tg,iter,É,0⟩] sc pos) (tLc ix wi g tf te):=by
 intro Z s σ H Q I h;have GW:∀y∈sc.names,y.2=.free->∃c,X.env.cells.lookup y.1=ap c:=λy hy hk=>I.ok.has y.1 (S.fr y hy hk);obtain⟨cl,NH,rC,Kq⟩:=lB GW;refine Ef (use:=bn) rfl hs NH S.kind S.loc (bp (hi Z s σ H _ I h) λv s1 h1=>bp h1 λì s2 h2=>?_);obtain⟨it,fp,tn,J,H2,rfl,I2,T,JG,f2,hW⟩:=h2;refine IK (RR:=λÄ C=>compPost (f8 X.prog X.w) X.A X.xe bn (EP X Z σ Q) Ä C) hc S hg hf he rC Kq I2 T JG f2 hW λD C m s' H' I' q hn F=>?_;refine⟨m,hn,λh' Đ=>⟨.ref D,H',?_,rfl,q⟩⟩;exact I'.turned (it:=C) (t':=s'.toks) (λb o hb e=>(Đ.2 b hb).trans e) F.hn F.hL (.inr F.ab) F.cl F.pn
def yi{i:Nat}(hc:X.calm=true)(hN:X.N.Nodup)(y7:X.N[i]?=ap x)(hx:X.env.scope.names.lookup x=ap .local)(S:br X.env.scope X.N sc N' ix)(hi:PI X tg iter wi)
  (hg:∀cl C s2 H2 fp,PG (eT X sc N' cl C s2 H2 fp) tg g) (hf:∀cl C s2 H2 fp,Xu (eT X sc N' cl C s2 H2 fp) É tf) (he:∀cl C s2 H2 fp,PE (eT X sc N' cl C s2 H2 fp) Ã te)
  (rq:lm (.ListComp Ã [⟨tg,iter,É,0⟩] sc pos) (ap (.Name x px)) mE.line X.env=pure true:=by rfl)
  (hs:u9 X iter:=by intro _;rfl):PS X (.Assign [.Name x px] (.ListComp Ã [⟨tg,iter,É,0⟩] sc pos) mE) (Uj (tLc ix wi g tf te) (dD i)):=by
 intro Z s σ H D0 I h;rw[exec_Assign_Name_used _ _ _ _ rq];refine Aa (Dm (Aa ?_));show ev _ X.A (do let _ <- comprehension (.ListComp Ã [⟨tg,iter,É,0⟩] sc pos) sc X.env _ (newList []) false (lc iter X.env) (ap (xz (.Name x px) X.env))) _ _ s;have GW:∀y∈sc.names,y.2=.free->∃c,X.env.cells.lookup y.1=ap c:=λy hy hk=>I.ok.has y.1 (S.fr y hy hk);obtain⟨cl,NH,rC,Kq⟩:=lB GW;refine Aa (BH (Ef (use:=ap (xz (.Name x px) X.env)) (Q:=λ_ s'=>SP X Z D0 .next s') rfl hs NH S.kind S.loc (bp (hi Z s σ H _ I h) λv s1 h1=>bp h1 λì s2 h2=>?_)) (λ_ s' hq=>Af (Af hq)) λ_ _ e=>e);obtain⟨it,fp,tn,J,H2,rfl,I2,T,JG,f2,hW⟩:=h2;refine IK (RR:=λÄ C=>compPost (f8 X.prog X.w) X.A X.xe (ap (xz (.Name x px) X.env)) (λ_ s'=>SP X Z D0 .next s') Ä C) (Q:=λx H1=>dD i x σ H1 D0.nx) hc S hg hf he rC Kq I2 T JG f2 hW λD C m s' H' I' q hn F=>?_;show ev _ X.A (xz (.Name x px) X.env (.ref D)) _ _ _;refine wpAny_assign_Name (uh (v:=.ref D) I' hN y7 (.inl hx) rfl (λYc I'' ď=>?_) (.inr hx));obtain⟨a,ď,ha⟩:=ď;have haC:C≠a:=by
  rcases ha with z | z
  ·rw[z];exact F.hL
  ·exact BI (F.cl _ _ z)
 refine⟨m,hn.sameBut ď haC,λh' Đ=>⟨_,H',?_,q⟩⟩;exact I''.turned (it:=C) (t':=Yc.toks) (λb o hb e=>(Đ.2 b hb).trans e) F.hn F.hL (.inr F.ab) F.cl F.pn
end
end L2
variable{a o b:BW}{tl:L2.TE}
namespace L2
section
def pd:bJ X (.builtin "isinstance") (λxs H Q=>∃x c t b,xs=[x,.ty c]/\kX X.K H x t/\Bq X.K t (.type c)=ap b/\Q (.bl b) H):=by
 intro Z s σ H xs us Q I r h;obtain⟨x,c,t,b,rfl,ty,hk,q⟩:=h;obtain⟨u,w',rfl,ru,yb⟩:=vals2 r;cases (show w'=Cr c from yb);exact Ki I ru ty hk λtk=>⟨.bl b,H,I.tok _,rfl,q⟩
def JT(hu:X.A.units < pc):f6 X (kw .NotEq) (λx y H Q=>∃p q xs,x=.ref p/\y=.ref q/\cT X.K H p xs/\cT X.K H q []/\Q (.bl (!xs.isEmpty)) H):=by
 intro Z s σ H x y v u Q I rx ry h;obtain⟨p,q,xs,rfl,rfl,hp,hq,k⟩:=h;cases rx;cases ry;obtain⟨ar,r,pl,hz⟩:=I.list hp;obtain⟨bQ,r2,Yt,hz2⟩:=I.list hq;cases r2;cases xs with
 | nil=>
  cases r;refine D8 (Fd (e:=λ_=>true) pl.isList Yt.isList rfl hu λj h1=>absurd h1 (by simp)) ?_;exact⟨.bl false,H,I,rfl,k⟩
 | cons y ys=>
  have hl:=r.length;refine D8 (DT pl.isList Yt.isList (by simp at hl ⊢;intro z;subst z;simp at hl) hu) ?_;exact⟨.bl true,H,I,rfl,k⟩
def OH{bs:O Bool}:∀{us:O ce},Vals (bs.map V.bl) us->us=bs.map CB:=by
 induction bs with
 | nil=>intro us r;rw[Eu]at r;cases r;rfl
 | cons n ns ih=>
  intro us r;cases r with
  | cons r1 r2=>
   cases r1;rw[ih r2];rfl
def Hy(hc:X.calm=true):bJ X (.builtin "all") (λxs H Q=>∃(p:cr) (bs:O Bool),xs=[.ref p]/\cT X.K H p (bs.map V.bl)/\Q (.bl (bs.all id)) H):=by
 intro Z s σ H xs us Q I r h;obtain⟨p,bs,rfl,hp,q⟩:=h;obtain⟨u,rfl,ru⟩:=vals1 r;cases ru;obtain⟨ar,rv,pl,hz⟩:=I.list hp;have eb:=OH rv;subst eb;have hl:=pl.isList;have lq:p < s.heap.objs.size:=by obtain⟨_,e,_⟩:=hl;exact Aq e
 refine call_all_walk (C2 hl ?_);refine⟨s.heap.objs.size,[s.heap.objs.size,p],[s.heap.objs.size],(bs.map CB).toArray.size,_,_,λi=>(bs[i]?).getD true,rfl,Walks.list (A:=X.A.in1) (I.ok.hd hc) _ p (Ay lq) (bs.map CB).toArray,
  ⟨⟨_,Ap _ rfl,rfl,rfl⟩,hl.push _⟩,λi v s' Q' E' hP hQ=>?_,λh' tk hk=>?_⟩
 ·have Zt:(bs.map CB)[i]?=ap v:=by simpa using hP
  rw[Ak]at Zt;cases e:bs[i]? with
  | none=>rw[e]at Zt;cases Zt
  | some b=>
   rw[e]at Zt;cases Zt;simp only[e,Option.getD_some]at hQ;exact Bw hQ
 ·have e:((AE (bs.map CB).toArray.size).all λi=>(bs[i]?).getD true)=bs.all id:=by
   rw[Ai,Aj];exact LSm.range_all bs
  rw[e];exact⟨.bl (bs.all id),H,I.kept (LSm.kept_iter hk),rfl,q⟩
def pD(l:cr)(items:Array ce)(n:Nat)(b:cr)(bL:Array ce)(n2:Nat)(dd:Option cr)(sl:Array (Option ce))(hs0:¬(!items.isEmpty&&Builtin.List.listTooLong (items.size+bL.size))=true)(zX:items.size<=sizeLine)(qb:items.size+bL.size<=sizeLine+1) :
  Meets (wP.«list.extend» ⟨[.ref l,.ref b],[]⟩) (λ_ R s=>s.heap.get? l=ap {cls:=.type "list",dict:=bn,data:=.seq items n,slots:=#[]}/\s.heap.get? b=ap {cls:=.type "tuple",dict:=dd,data:=.seq bL n2,slots:=sl}/\R (.ok (.ret AN)) {s with heap:=s.heap.update l (Bj λx=>x++bL),toks:=s.toks}):=
 .of_wp λprog w A R s h=>by
  obtain⟨hp,g,d,tk,os⟩:=s;obtain⟨hl,hb,h⟩:=h;have f1:=Et;have f2:=Dg;have f3:=Dy;have f4:=Dq;have f5:=Dr;have GS:(items++bL).size<=sizeLine+1:=by rw[Ec];exact qb
  wp_walk using (Dz hl rfl (hz:=zX) (_hz':=GS)),BN hl,BN hb;exact⟨_,rfl,h⟩
def Mn(K:Ab):V->O V->Hp->VK->Prop:=λx vs H Q=>∃l b xs zs,x=.ref l/\vs=[.ref b]/\H l=ap (.lst xs)/\dz K H b zs/\xs.length+zs.length<=sizeLine/\Q .aN (upd H l (.lst (xs++zs)))
theorem Gg:LD X "list.extend" (Mn X.K):=by
 intro Z s σ H x vs v us Q I rx rv h;obtain⟨l,b,xs,zs,rfl,rfl,hH,hB,hz,q⟩:=h;cases rx;obtain⟨u,rfl,ru⟩:=rv.one;cases ru;obtain⟨z,ar,n,r,hl,e⟩:=I.og hH;obtain⟨bQ,r2,⟨⟨cls,dd,data,sl⟩,e2,hc,n2,hd⟩,z2⟩:=I.tuple hB;simp only at hc hd;subst hc hd;have Ly:=r2.length;have hsz:ar.toArray.size+bQ.toArray.size<=sizeLine:=by rw[Ai,Ai];omega
 have rB:¬(!ar.toArray.isEmpty&&Builtin.List.listTooLong (ar.toArray.size+bQ.toArray.size))=true:=by
  rw[g8 hsz,CG];exact AQ
 refine wf DV ⟨_,e,rfl⟩ DG (Dp _ _)
  (pD l ar.toArray n b bQ.toArray n2 dd sl rB (by rw[Ai];omega) ∅) ⟨e,e2,?_⟩
 refine⟨.aN,_,I.Gq (its':=ar++bQ) hH e (by simp) (r.append r2) ?_,rfl,q⟩;rw[Ad];omega
def Its(x:Str):It:=⟨λi _=>i < x.cps.size,λi H v H'=>H'=H/\∃c,x.cps[i]?=ap c/\v=.str ⟨#[c]⟩,λi _=>x.cps.size<=i⟩
def FJ{K:Ab}(it:cr)(x:Str)(t:Tok)(ty:String)(IU:ty="str_ascii_iterator"\/ty="str_iterator"):Turn P w K tg (Its x) [it] it (λi h=>h.IsStrIter it ty x t i/\i<=x.cps.size) where
 mem:=by simp
 obj:=λi h st b hb=>by
  have e:b=it:=by simpa using hb
  subst e;obtain⟨⟨o,e,c,d⟩,_⟩:=st;exact⟨o,e,λv z=>by rw[d]at z;cases z⟩
 keep:=λi h h' st k=>⟨let ⟨o,ho,r⟩:=st.1;⟨o,k it (by simp) o ho,r⟩,st.2⟩
 item:=by
  intro X hP hw hK hc i Z s σ H E I hf st hg;subst hP hw hK;obtain⟨f0,f1,f2,f3,f4,f5⟩:=hf it (by simp);have Tq:i < x.cps.size:=hg;obtain⟨st,_⟩:=st;rcases IU with rfl | rfl
  ·refine wpAny_pyNext_ascii_item st (c:=x.cps[i]) (by simp[Tq]) λh' mw sb=>?_;have I1:Inv X Z σ H {s with heap:=h',toks:=s.toks+1}:=I.turned (λb o hb e=>(sb.2 b hb).trans e) f0 f1 f3 f4 f5;obtain⟨o,e,c,d⟩:=id mw;exact⟨_,rfl,rD (s:={s with heap:=h',toks:=s.toks+1}) e c d ⋯ ⟨.str ⟨#[x.cps[i]]⟩,H,I1,⟨_,rfl⟩,⟨rfl,_,by simp[Tq],rfl⟩,⟨mw,Tq⟩,λb hb=>(hf b hb).1⟩⟩
  ·refine wpAny_pyNext_wide_item st (c:=x.cps[i]) (by simp[Tq]) λh' mw sb=>?_;have I1:Inv X Z σ H {s with heap:=h',toks:=s.toks+1}:=I.turned (λb o hb e=>(sb.2 b hb).trans e) f0 f1 f3 f4 f5;obtain⟨o,e,c,d⟩:=id mw;exact⟨_,rfl,rD (s:={s with heap:=h',toks:=s.toks+1}) e c d ⋯ ⟨.str ⟨#[x.cps[i]]⟩,H,I1,⟨_,rfl⟩,⟨rfl,_,by simp[Tq],rfl⟩,⟨mw,Tq⟩,λb hb=>(hf b hb).1⟩⟩
 done:=by
  intro X hP hw hK hc i Z s σ H E I hf st hg;obtain⟨f0,f1,f2,f3,f4,f5⟩:=hf it (by simp);obtain⟨st,_⟩:=st;have hn:x.cps[i]?=bn:=by
   have Tq:x.cps.size<=i:=hg;simp[Tq]
  rcases IU with rfl | rfl
  ·exact wpAny_pyNext_ascii_end (I.ok.hd hc) st hn λh' eb=>⟨rfl,I.turned (t':=s.toks) (λb o hb e=>eb b o hb e) f0 f1 f3 f4 f5⟩
  ·exact wpAny_pyNext_wide_end (I.ok.hd hc) st hn λh' eb=>⟨rfl,I.turned (t':=s.toks) (λb o hb e=>eb b o hb e) f0 f1 f3 f4 f5⟩
 self:=λ_ _ _ _ _ st h=>by
  obtain⟨st,_⟩:=st;rcases IU with rfl | rfl
  ·exact wpAny_pyIter_striter_ascii st h
  ·exact wpAny_pyIter_striter_wide st h
def acs(tl:TE):TI:=λσ H R=>tl σ H λx H1=>∃z,x=.str z/\R (Its z) H1
def US{l:im}(hl:PE X l tl):PI X tg l (acs tl):=by
 intro Z s σ H R I h;refine bp (hl Z s σ H _ I h) λv s1 ⟨x,H1,I1,r1,q1⟩=>?_;obtain⟨z,e,q⟩:=q1;subst e;obtain⟨t,rfl⟩:=r1;have fin:∀(ty:String) (IU:ty="str_ascii_iterator"\/ty="str_iterator") (o:Obj),(s1.heap.push o).IsStrIter s1.heap.objs.size ty z t 0->PIE X Z σ tg R (.ref s1.heap.objs.size) {s1 with heap:=s1.heap.push o}:=λty IU o st=>by
  refine⟨s1.heap.objs.size,[s1.heap.objs.size],_,_,H1,rfl,I1.kept (t':=s1.toks) λb o e=>Ah _ e,FJ _ z t ty IU,⟨st,Bn _⟩,λb hb=>?_,q⟩;have e:b=s1.heap.objs.size:=by simpa using hb
  subst e;exact I1.wQ (Ao _) (I1.bj.fresh (Ao _))
 cases ha:z.cps.all (· < 128)
 ·exact wpAny_pyIter_wide ha (fin _ (.inr rfl) _ ⟨_,Ap _ rfl,rfl,rfl⟩)
 ·exact wpAny_pyIter_ascii ha (fin _ (.inl rfl) _ ⟨_,Ap _ rfl,rfl,rfl⟩)
end
section
variable{lo hi:im}{th:TE}
def V4(to tl th:TE):TG:=λv σ H Q=>to σ H λx H1=>tl σ H1 λi H2=>th σ H2 λj H3=>∃l b xs ys a c,x=.ref l/\v=.ref b/\i=.int a/\j=.int c/\H3 l=ap (.lst xs)/\H3 b=ap (.lst ys)/\l≠b/\0<=a/\a<=c/\c<=xs.length/\xs.length+ys.length<=sizeLine/\
 Q σ (upd H3 l (.lst (xs.take a.toNat++ys++xs.drop c.toNat)))
def Mz(ho:PE X o to)(hl:PE X lo tl)(hh:PE X hi th)
  (ha:∀v,xz (.Subscript o (.Slice (ap lo) (ap hi) bn p2) pos) X.env v=(do
   let ov <- sw [v] (lc o X.env)
   let iv <- sw [v,ov] (lc (.Slice (ap lo) (ap hi) bn p2) X.env)
   standAt pos
   sw [v,ov,iv] (Ch ov iv v)
   release [iv,v,ov] []):=by intro _;rfl):PG X (.Subscript o (.Slice (ap lo) (ap hi) bn p2) pos) (V4 to tl th):=by
 intro Z s σ H v u Q I r h;refine Aa (A6 (bp (ho Z s σ H _ I h) λov s1 ⟨x,H1,I1,r1,q1⟩=>?_));refine Aa (A6 (wpAny_Slice ?_));rw[evalPart_some,evalPart_some,evalPart_none];refine bp (hl Z s1 σ H1 _ I1 q1) λvl s2 ⟨i,H2,I2,r2,q2⟩=>bp (hh Z s2 σ H2 _ I2 q2) λvu s3 ⟨j,H3,I3,r3,q3⟩=>Af ?_;obtain⟨l,b,xs,ys,a,c,rfl,rfl,rfl,rfl,hH,hB,ND,h0,Xd,hc,hz,q⟩:=q3;cases r;cases r1;have I4:Inv X Z σ H3 {s3 with heap:=s3.heap.push {cls:=.type "slice",data:=.fields #[vl,vu,.none]}}:=I3.kept (t':=s3.toks) λb ob q=>Ah _ q;refine Aa (Dm (Aa (A6 (JI I4 hH hB ND (Heap.IsSliceOf.new ..) r2 r3 h0 Xd hc hz λs' I'=>?_))));exact wpAny_release ⟨σ,_,I',q⟩
end
end L2
variable{k':Nat}{cv:Cj}
namespace L2
def nP(l:cr)(H H':Hp):Prop:=∀b u,b≠l->H b=ap u->H' b=ap u
def jM{p:cr}(h:H p=bn)(o:HO):jv H (upd H p o):=λb u q=>by rw[au (bt q h)];exact q
def JK{p:cr}(o:HO):nP p H (upd H p o):=λb u n q=>by rw[au n];exact q
def jQ(H:Hp)(o:HO)(Q:VK):Prop:=∀p H',jv H H'->H' p=ap o->H p=bn->Q (.ref p) H'
def jQ.at{o:HO}{Q:VK}(h:jQ H o Q)(p:cr)(hp:H p=bn):Q (.ref p) (upd H p o):=h p _ (jM hp o) aO hp
def xQ(H:Hp)(l:cr)(o:HO)(Q:Hp->Prop):Prop:=∀H',nP l H H'->H' l=ap o->Q H'
def xQ.at{o:HO}{Q:Hp->Prop}(h:xQ H l o Q):Q (upd H l o):=h _ (JK o) aO
def f6.mono{f:ce->ce->Sem ce}{r:R2}(h:f6 X f r)(hr:∀x y H Q,r' x y H Q->r x y H Q):f6 X f r':=λZ s σ H x y v u Q I rx ry q=>h Z s σ H x y v u Q I rx ry (hr _ _ _ _ q)
def bJ.mono{f:ce}{r r':O V->Hp->VK->Prop}(h:bJ X f r)(hr:∀xs H Q,r' xs H Q->r xs H Q):bJ X f r':=λZ s σ H xs us Q I rx q=>h Z s σ H xs us Q I rx (hr _ _ _ q)
def LD.mono{id:String}{r r':V->O V->Hp->VK->Prop}(h:LD X id r)(hr:∀x xs H Q,r' x xs H Q->r x xs H Q):LD X id r':=λZ s σ H x xs v us Q I rx rv q=>h Z s σ H x xs v us Q I rx rv (hr _ _ _ _ q)
def HN.mono{r r':HM}(h:HN X r)(hr:∀o i v H Q,r' o i v H Q->r o i v H Q):HN X r':=λZ s σ H o i v ov iv u Q I ro ri rv q=>h Z s σ H o i v ov iv u Q I ro ri rv (hr _ _ _ _ _ q)
section
variable{t:TA}
def XN(t:TA):TE:=λσ H Q=>t σ H λxs H1=>xs.length<=sizeLine/\jQ H1 (.tup xs) Q
def XS(t:TA):TE:=λσ H Q=>t σ H λxs H1=>xs.length<=sizeLine/\jQ H1 (.lst xs) Q
def Qt{x1}(h:PA X es t):PE X (.Tuple es x1 pos) (XN t):=by
 intro Z s σ H Q I hq;refine wpAny_Tuple_spliced (bp (h pos Z s σ H _ I hq) λus s1 ⟨xs,H1,I1,r,z,q⟩=>⟨by rw[<- r.length];exact z,?_⟩);have hf:=I1.bj.fresh (Ao _);refine⟨.ref s1.heap.objs.size,upd H1 s1.heap.objs.size (.tup xs),I1.laid (t':=s1.toks) (λb u e=>Ah _ e) (Ao _) ?_,rfl,q.at _ hf⟩;exact⟨z,us,r,⟨_,Ap _ rfl,rfl,_,rfl⟩⟩
def Qu(h:PA X es t):PE X (.List es pos) (XS t):=by
 intro Z s σ H Q I hq;refine wpAny_List_spliced (bp (h pos Z s σ H _ I hq) λus s1 ⟨xs,H1,I1,r,z,q⟩=>⟨by rw[<- r.length];exact z,?_⟩);have hf:=I1.bj.fresh (Ao _);refine⟨.ref s1.heap.objs.size,upd H1 s1.heap.objs.size (.lst xs),I1.laid (t':=s1.toks) (λb u e=>Ah _ e) (Ao _) ?_,rfl,q.at _ hf⟩;exact⟨z,us,0,r,Ap _ rfl⟩
def Uh:TE:=λ_ H Q=>jQ H (.dK []) Q
def MF:PE X (.Dict [] [] pos) Uh:=λZ s σ H Q I h=>MD Z s σ H Q I λp hp=>h.at p hp
def SQ(K:Ab):R2:=λx y H Q=>match x with
 | .int i=>∃j,y=.int j/\Q (.int (i+j)) H
 | .str i=>∃j,y=.str j/\i.length+j.length<=sizeLine/\Q (.str (i++j)) H
 | .ref a=>(∃b xs zs,y=.ref b/\H a=ap (.lst xs)/\H b=ap (.lst zs)/\xs.length+zs.length<=sizeLine/\jQ H (.lst (xs++zs)) Q)\/SS K x y H Q
 | _=>False
def QI:f6 X (re .Add) (SQ X.K):=by
 refine((Vd.or F5).or (Vc.or IA)).mono λx y H Q h=>?_;cases x with
 | int i=>obtain⟨j,rfl,q⟩:=h;exact .inl (.inl ⟨i,j,rfl,rfl,q⟩)
 | str i=>obtain⟨j,rfl,hl,q⟩:=h;exact .inl (.inr ⟨i,j,rfl,rfl,hl,q⟩)
 | ref a=>
  rcases h with⟨b,xs,zs,rfl,h1,h2,hz,q⟩ | h
  ·exact .inr (.inl ⟨a,b,xs,zs,rfl,rfl,h1,h2,hz,λp hp=>q.at p hp⟩)
  ·exact .inr (.inr h)
 | _=>exact h.elim
def QC:f6 X (re .Mult) (rI u8 λi j=>.int (i*j)):=opI λ_ _ _ _ _ _ _ hc q=>mul_int q hc
def Hv:bJ X (.type "list") (λxs H Q=>∃p ys,xs=[.ref p]/\(cT X.K H p ys\/dz X.K H p ys)/\jQ H (.lst ys) Q):=xl.mono λxs H Q ⟨p,ys,e,h,q⟩=>⟨p,ys,e,h,λl hl=>q.at l hl⟩
def Mo:V->O V->Hp->VK->Prop:=λx vs H Q=>∃l xs y,x=.ref l/\vs=[y]/\H l=ap (.lst xs)/\xs.length < sizeLine/\xQ H l (.lst (xs++[y])) (Q .aN)
def Gh:LD X "list.append" Mo:=JY.mono λx xs H Q ⟨l,ys,y,e1,e2,h,hz,q⟩=>⟨l,ys,y,e1,e2,h,hz,q.at⟩
def JN(K:Ab):V->O V->Hp->VK->Prop:=λx vs H Q=>∃l b xs zs,x=.ref l/\vs=[.ref b]/\H l=ap (.lst xs)/\dz K H b zs/\xs.length+zs.length<=sizeLine/\xQ H l (.lst (xs++zs)) (Q .aN)
def yA:LD X "list.extend" (JN X.K):=Gg.mono λx xs H Q ⟨l,b,ys,zs,e1,e2,h1,h2,hz,q⟩=>⟨l,b,ys,zs,e1,e2,h1,h2,hz,q.at⟩
def Yi:V->O V->Hp->VK->Prop:=λx vs H Q=>∃l xs y,x=.ref l/\vs=[]/\H l=ap (.lst (xs++[y]))/\xQ H l (.lst xs) (Q y)
def QU:LD X "list.pop" Yi:=Vk.mono λx xs H Q ⟨l,ys,y,e1,e2,h,q⟩=>⟨l,ys++[y],y,e1,e2,h,by simp,by rw[List.dropLast_concat];exact q.at⟩
def UB:HM:=λo i v H Q=>∃p xs k j,o=.ref p/\i=.int k/\H p=ap (.lst xs)/\rf xs.length k=ap j/\xQ H p (.lst (xs.set j v)) Q
def uk:HN X UB:=set_list.mono λo i v H Q ⟨p,xs,k,j,e1,e2,h,hj,q⟩=>⟨p,xs,k,j,e1,e2,h,hj,q.at⟩
end
section
variable(K:Ab)(hK:X.K=K){t:TA}{name:Str}{W6:String}{r:V->O V->Hp->VK->Prop}
include hK
def Rh:Pe X (rIx K):=hK▸VG
def QH:f6 X (re .Add) (SQ K):=hK▸QI
def UD(K:Ab):O V->Hp->VK->Prop:=λxs H Q=>∃x n,xs=[x]/\Z9 K x H n/\Q (.int n) H
def uP:bJ X (.builtin "len") (UD K):=hK▸OD
def Mm(K:Ab):O V->Hp->VK->Prop:=λxs H Q=>∃p ys,xs=[.ref p]/\(cT K H p ys\/dz K H p ys)/\jQ H (.lst ys) Q
def Hu:bJ X (.type "list") (Mm K):=hK▸Hv
def Yq(K:Ab):O V->Hp->VK->Prop:=λxs H Q=>∃(p:cr) (bs:O Bool),xs=[.ref p]/\cT K H p (bs.map V.bl)/\Q (.bl (bs.all id)) H
def Lc(hc:X.calm=true):bJ X (.builtin "all") (Yq K):=hK▸Hy hc
def UC(K:Ab):R2:=λx y H Q=>∃p q xs,x=.ref p/\y=.ref q/\cT K H p xs/\cT K H q []/\Q (.bl (!xs.isEmpty)) H
def F3(hu:X.A.units < pc):f6 X (kw .NotEq) (UC K):=hK▸JT hu
def abB(K:Ab)(ta:TE):TT:=λσ H Q=>ta σ H λx H'=>∃k,WK K x H' k/\Q k H'
def uq(ha:PE X a ta)(he:∀Å,isTrue a X.env Å=(do let v <- Å;standAt a.pos;sw [v] (truthy v))):PT X a (abB K ta):=hK▸Mr ha he
def Qw(pa:PlainAttrs T)(slot:Slot T name W6)(IU:typeOf (.builtin W6)=pure (.type "method_descriptor"))(hm:MtR X W6 r)(ho:PE X o to)
  (fN:ss o name X.env (lc o X.env)=lc o X.env:=by rfl) (fM:TY Â cv:=by rfl):PE X (.Call (.Attribute o name Â) [] [] cv) (X0 K T r to):=hK▸U0 pa slot IU hm ho fN fM
def F2(pa:PlainAttrs T)(slot:Slot T name W6)(IU:typeOf (.builtin W6)=pure (.type "method_descriptor"))(hm:MtR X W6 r)(ho:PE X o to)(ha:PA X (e::es) t)
  (fN:ss o name X.env (lc o X.env)=lc o X.env:=by rfl)
  (wJ:HWa X cv (e::es):=by rfl)
  (fM:TY Â cv:=by rfl) (hs:gV X e es:=by rfl) (iV:mr X cv es:=by rfl) :
  PE X (.Call (.Attribute o name Â) (e::es) [] cv) (tBM K T r to t):=hK▸Yw pa slot IU hm ho ha fN wJ fM hs iV
omit hK
end
structure Sv(P:sB)(w:ul)(K:Ab)(mg:Str->Option ce)(base:mo)(x:Str)(k:Nat)(ps:List Str)(sp:Sp) where
 f:cr
 fd:EQ
 ok:gc P w K mg base sS k f fd ps sp
 bi:Binds K fd ps []
 kp:DR K (.ref f)=true
 at':mg x=ap (.ref f)
section
variable{t:TA}
def XZ(sp:Sp)(t:TA):TE:=λσ H Q=>t σ H λvs H1=>sp vs H1 Q E0
def MJ(G:Sv X.prog X.w X.K X.mg X.base x k ps sp)(hr:d7 k' X.A)(hk:k<=k')(hg:Gl X x)(ha:PA X (e::es) t)(m6:ir x:=by decide)
  (he:gV X e es:=by rfl) (dr:mr X pos es:=by rfl) :
  PE X (.Call (.Name x p) (e::es) [] pos) (XZ sp t):=by
 intro Z s σ H Q I h;refine BC (IJ I hg G.at' ?_ m6);refine PySem.W.callWith_K (h₀:=X.base) I.ok.mod.kin G.kp (bp (ha pos Z s σ H _ I h) λus s1 ⟨vs,H1,I1,r,q⟩=>⟨I1.tJ,?_⟩) he dr;refine Md (dvs:=[]) (ds:=[]) G.ok (hr.mono hk) G.bi .nil SV I1 r ?_;rw[Cb];exact q
end
section
theorem OO{xs:List α}(h0:0<=i)(h1:i < xs.length):∃v,cx xs i=ap v/\xs[i.toNat]?=ap v:=by
 have hk:i.toNat < xs.length:=by omega
 have q:=bo (by rw[Ae hk]);have e:((i.toNat:Nat):Int)=i:=by omega
 rw[e]at q;exact⟨_,q,by rw[Ae hk]⟩
def S2{j:Int}(h1:-18446744073709551616 < i)(h2:i < 18446744073709551616):u8 i j:=Sw.ok (.inl ⟨h1,h2⟩)
def mul_r{j:Int}(h1:-18446744073709551616 < j)(h2:j < 18446744073709551616):u8 i j:=Sw.ok (.inr ⟨h1,h2⟩)
end
def ba(h:n<=1000):n<=sizeLine:=DN (uj h)
section
variable(K:Ab)(hK:X.K=K)
include hK
def UG(K:Ab):R2:=λx y H Q=>∃p q xs,x=.ref p/\y=.ref q/\cT K H p xs/\cT K H q []/\Q (.bl xs.isEmpty) H
def F4(hu:X.A.units < pc):f6 X (kw .Eq) (UG K):=by
 subst hK;intro Z s σ H x y v u Q I rx ry h;obtain⟨p,q,xs,rfl,rfl,hp,hq,k⟩:=h;cases rx;cases ry;obtain⟨ar,r,pl,hz⟩:=I.list hp;obtain⟨bQ,r2,Yt,hz2⟩:=I.list hq;cases r2;cases xs with
 | nil=>
  cases r;refine EE (Fs (e:=λ_=>true) pl.isList Yt.isList rfl hu λj h1=>absurd h1 (by simp)) ?_;exact⟨.bl true,H,I,rfl,k⟩
 | cons y ys=>
  have hl:=r.length;refine EE (Ed pl.isList Yt.isList (by simp at hl ⊢;intro z;subst z;simp at hl) hu) ?_;exact⟨.bl false,H,I,rfl,k⟩
omit hK
end
end L2
variable{p1:Cj}
namespace L2
theorem Vals.yd:∀{xs:O V}{us:O ce},Vals xs us->Vals xs.reverse us.reverse
 | _,_,.nil=>.nil
 | _,_,.cons h t=>by rw[C5,C5];exact(Vals.yd t).append (.cons h .nil)
def Vp:FB (.type "list_reverseiterator") (Cd "__len__")=pure bn:=by kernel_rfl
def Q0:FB (.type "list_reverseiterator") (Cd "__length_hint__")=pure (ap (.builtin "list_reverseiterator.__length_hint__")):=by kernel_rfl
def PU:splitId "list_reverseiterator.__length_hint__"=ap ("list_reverseiterator","__length_hint__"):=by kernel_rfl
def PK:isSubtype (.type "list_reverseiterator") (.type "list_reverseiterator")=pure true:=by kernel_rfl
def NF{r:cr}{Q:Bool->db->Prop}(h:s.heap.IsRevIter r l i)(q:Q false s):ev (f8 prog w) A (Builtin.List.listLengthHint (Ax r)) Q E s:=by
 refine Aa (DA h.typeIs Vp ?_);refine Aa (DA h.typeIs Q0 ?_);dsimp only;rw[PU];dsimp only;refine Aa (Dh h.typeIs PK ?_);rw[if_neg ⋯];exact Af q
def tF{r S:cr}(hA:A.handled=bn)(h:s.heap.IsRevIter r l (items.size-1))(hl:s.heap.IsList l items)(ND:l≠r)(Ě:S≠r)(hSl:S≠l)(hz:items.size<=sizeLine)
  (hS:s.heap.get? S=ap {cls:=Cr "list",data:=ES #[]})
  (q:∀(h':mo) (tk:Nat) (Ä:Array ce) (c:Nat),(∀b o,b≠S->b≠r->s.heap.get? b=ap o->h'.get? b=ap o)->h'.get? S=ap {cls:=Cr "list",data:=ES Ä c}->ItemsOf (λi v=>items[items.size-1-i]?=ap v) Ä items.size->R (.ok (.ret .none)) {s with heap:=h',toks:=tk}) :
  ev (f8 prog w) A.in1 (wP.«list.__init__» {pos:=[Ax S,Ax r]})
   (λfin s'=>match fin with | Fz f=>R (Except.ok f) s' | Fin.again c'=>c'.quiet=true/\FM (f8 prog w) A c' R s') (λe s'=>R (Except.error e) s') s:=by
 unfold wP.«list.__init__»;refine Aa (wpAny_listItems hS rfl ?_);refine Aa ?_;refine Dz hS rfl ?_ (by simp) (by simp);refine Aa (Du ?_);have k1:∀b o,b≠S->s.heap.get? b=ap o->(s.heap.update S (Bj λ_=>#[])).get? b=ap o:=λb o hb e=>by rw[CZ _ _ (BI hb)];exact e
 have hS1:=Cv (Bj λ_=>#[]) hS rfl;generalize s.heap.update S (Bj λ_=>#[])=h1 at k1 hS1 ⊢;have ï:h1.IsRevIter r l (items.size-1):=let ⟨o,e,p⟩:=h;⟨o,k1 _ _ (BI Ě) e,p⟩;have Ĕ:h1.IsList l items:=let ⟨o,e,p⟩:=hl;⟨o,k1 _ _ (BI hSl) e,p⟩;unfold Builtin.List.listExtendWith;refine Aa (Ce (T:="list_reverseiterator") ï.typeIs ?_);rw[if_neg (by
  have e1:Builtin.List.listSameRef (Ax S) (Ax r)=false:=by
   unfold Builtin.List.listSameRef;simpa using Ě
  rw[e1];decide)]
 refine Aa (wpAny_pyIter_revIter ï ?_);refine Aa (A6 (NF ï ?_));rw[if_neg ⋯];refine Af ⟨plainId_quiet F.plain_extend_loop _,?_⟩;refine codeAny_extend_loopS (Walks.toS (Walks.listRev (A:=A.in1) hA r l ND items)) hz S (by simp[Ě,hSl]) .none items.size 0 _ #[] _ (Fj _) (Bn _) ⟨Bn _,by simpa using ï,Ĕ⟩ hS1 (ItemsOf.nil _) ?_;intro s' Ä c mv e io;rw[mv.eq_with];exact q s'.heap s'.toks Ä c (λb o n1 n2 e'=>mv.heap b o (by simp[n1,n2]) (k1 b o n1 e')) e io
def tV{r:cr}(hA:A.handled=bn)(h:s.heap.IsRevIter r l (items.size-1))(hl:s.heap.IsList l items)(ND:l≠r)(hz:items.size<=sizeLine)
  (q:∀(h':mo) (tk:Nat) (Ä:Array ce) (c:Nat),(∀b o,b≠r->s.heap.get? b=ap o->h'.get? b=ap o)->h'.get? s.heap.objs.size=ap {cls:=Cr "list",data:=ES Ä c}->ItemsOf (λi v=>items[items.size-1-i]?=ap v) Ä items.size->Q (.ref s.heap.objs.size) {s with heap:=h',toks:=tk}) :
  ev (f8 prog w) A (call (Cr "list") [Ax r]) Q E s:=by
 have lr:=let ⟨_,e,_⟩:=h;Aq e;have ll:=let ⟨_,e,_⟩:=hl;Aq e;refine callType_codes F.called_list (F.typeCall_list_1 _) F.entry_list_init (code_list_new (Q₁:=λv s₁=>v=.ref s.heap.objs.size/\s₁={s with heap:=s.heap.push {cls:=Cr "list",data:=ES #[]}}) _ ⟨rfl,rfl⟩) ?_;rintro obj s₁ ⟨rfl,rfl⟩;refine⟨⟨_,Ap _ rfl,rfl⟩,F.args_list_init_2 _ _,?_⟩;have kp:∀b o,s.heap.get? b=ap o->(s.heap.push {cls:=Cr "list",data:=ES #[]}).get? b=ap o:=λb o e=>Ah _ e;refine tF (A:=A.in1) (items:=items) (l:=l) hA (let ⟨o,e,p⟩:=h;⟨o,kp _ _ e,p⟩) (let ⟨o,e,p⟩:=hl;⟨o,kp _ _ e,p⟩) ND (λz=>by rw[z]at lr;exact A2 _ lr) (λz=>by rw[z]at ll;exact A2 _ ll) hz (Ap _ rfl) ?_;intro h' tk Ä c k e io;exact⟨rfl,q h' tk Ä c (λb o n e'=>k b o (λz=>by rw[z]at e';exact A2 _ (Aq e')) n (kp b o e')) e io⟩
def tLR(K:Ab)(te:TE):TE:=λσ H Q=>te σ H λx H1=>∃p ys,x=.ref p/\cT K H1 p ys/\jQ H1 (.lst ys.reverse) Q
section
variable(K:Ab)(hK:X.K=K){q1 q2:Pos}
include hK
theorem F1(hc:X.calm=true)(ė:Gl X "list")(ē:X.mg "list"=bn)(Ė:Gl X "reversed")(W8:X.mg "reversed"=bn)(he:PE X e te)
  (zX:gl [.Call (.Name "reversed" q1) [e] [] q2] X.env=(false,lc (.Call (.Name "reversed" q1) [e] [] q2) X.env)::gl [] X.env:=by rfl) (qb:gV X e []:=by rfl) :
  PE X (.Call (.Name "list" p1) [.Call (.Name "reversed" q1) [e] [] q2] [] p2) (tLR K te):=by
 intro Z s σ H Q I h;subst hK;refine BC (iT I ė ē boot_list ?_ ⋯ ⋯);refine Bf ?_ zX rfl;refine B8 ?_;refine BC (iT I Ė W8 boot_reversed ?_ ⋯ ⋯);refine Bf ?_ qb rfl;rw[qb];refine B8 (bp (he Z s σ H _ I h) λu s1 ⟨x,H1,I1,r1,pa,ys,ex,hS,q⟩=>Cz ?_);subst ex;cases r1;obtain⟨ar,rv,pl,hz⟩:=I1.list hS;have Á:=rv.length;have lp:=let ⟨_,e,_⟩:=pl.isList;Aq e;refine call_reversed_list pl.isList ?_;refine Cz ?_;have kp:∀b o,s1.heap.get? b=ap o->(s1.heap.push (revObj pa (ar.toArray.size-1))).get? b=ap o:=λb o e=>Ah _ e;refine tV (items:=ar.toArray) (l:=pa) (r:=s1.heap.objs.size) (I1.ok.hd hc) ⟨_,Ap _ rfl,rfl,rfl⟩ (let ⟨o,e,p⟩:=pl.isList;⟨o,kp _ _ e,p⟩) (λz=>by rw[z]at lp;exact A2 _ lp) (by rw[Ai];omega) ?_;intro h' tk Ä c k e io;have kk:∀b o,s1.heap.get? b=ap o->h'.get? b=ap o:=λb o eb=>k b o (λz=>by rw[z]at eb;exact A2 _ (Aq eb)) (kp b o eb);have ea:Ä=ar.reverse.toArray:=by
  obtain⟨z1,z2⟩:=io;apply Array.ext
  ·rw[z1,Ai,Ai,CM]
  ·intro j h1 h2;have:=z2 j Ä[j] (CI h1);rw[Ai]at this;have hj:j < ar.length:=by rw[z1,Ai]at h1;exact h1
   rw[EL]at this;have e3:ar.reverse[j]?=ap Ä[j]:=by rw[List.getElem?_reverse hj];exact this
   rw[Dv];exact(Option.some.inj (((Ae (by rw[CM];exact hj)).symm.trans e3))).symm
 subst ea;have qb:s1.heap.objs.size<=(s1.heap.push (revObj pa (ar.toArray.size-1))).objs.size:=by simp[Heap.push]
 refine⟨.ref _,upd H1 _ (.lst ys.reverse),I1.laid (t':=tk) kk qb ?_,rfl,q.at _ (I1.bj.fresh qb)⟩;exact⟨by rw[CM];exact hz,ar.reverse,c,rv.yd,e⟩
end
end L2
variable{y:BU}
namespace My
def Wd(x:Str):Prop:=1<=x.length/\x.length<=8/\∀c∈x.cps.toList,97<=c/\c < 123
def Part(x:Str)(n:Nat):Prop:=x.length<=n/\∀c∈x.cps.toList,97<=c/\c < 123
theorem Part.append{m:Nat}(a:Part x m)(b:Part y n):Part (x++y) (m+n):=by
 refine⟨?_,λc hc=>?_⟩
 ·rw[CY];have:=a.1;have:=b.1;omega
 ·rw[Str.cps_append,Array.toList_append]at hc;rcases Ba.mp hc with h | h
  ·exact a.2 c h
  ·exact b.2 c h
theorem tG{d st:Int}(h:st=1\/st=3\/st=5\/st=7\/st=9\/st=11)(hn:n<=26):((AE n).map λk:Nat=>ap (97+((d+st*(0+(k:Int))) % 26).toNat)).Nodup:=by
 unfold List.Nodup;rw[Eb];refine List.Pairwise.imp_of_mem ?_ C7;intro a b ha hb Zs hz;have õ:=AO.mp hb;have GS:=Option.some.inj hz;rcases h with rfl | rfl | rfl | rfl | rfl | rfl <;> omega
def vN{g:α->β}{l:List α}(h:(l.map g).Nodup):l.Nodup:=(Eb.mp h).imp λh e=>h (congrArg g e)
def Jx(x y:Str)(c:Nat):(x++⟨#[c]⟩++y).cps[x.length]?=ap c:=by
 show((x.cps++#[c])++y.cps)[x.cps.size]?=ap c;rw[Array.getElem?_append_left (by simp),Array.getElem?_append_right (Ao _)];simp
def Gu:∀k:_root_.Fin 26,cx ("abcdefghijklmnopqrstuvwxyz":Str).cps.toList (k.val:Int)=ap (97+k.val):=by decide +kernel
theorem J1{n:Int}(h0:0<=n)(h1:n < 26):cx ("abcdefghijklmnopqrstuvwxyz":Str).cps.toList n=ap (97+n.toNat):=by
 have e:=Gu ⟨n.toNat,by omega⟩;have e2:((n.toNat:Nat):Int)=n:=by omega
 rw[e2]at e;exact e
def MN{c:Nat}(h0:97<=c)(h1:c < 123):Part ⟨#[c]⟩ 1:=by
 refine⟨Ao _,λd hd=>?_⟩;have:d=c:=by simpa using hd
 subst this;exact⟨h0,h1⟩
inductive Tr where
 | leaf (x:Str)
 | node (l r:Tr)
def Tr.aq:Tr->O Str
 | .leaf x=>[x]
 | .node l r=>l.aq++r.aq
def Tr.size:Tr->Nat
 | .leaf _=>1
 | .node l r=>l.size+r.size+1
def Tr.depth:Tr->Nat
 | .leaf _=>0
 | .node l r=>max l.depth r.depth+1
def Tr.Ws(t:Tr):Prop:=∀x∈t.aq,Wd x
theorem Tr.ck:∀t:Tr,1<=t.aq.length
 | .leaf _=>Ao _
 | .node l r=>by have:=l.ck;show 1<=(l.aq++r.aq).length;rw[Ad];omega
theorem Tr.sf:∀t:Tr,t.depth < t.aq.length
 | .leaf _=>Di 0
 | .node l r=>by
  have h1:=l.sf;have h2:=r.sf;have h3:=l.ck;have h4:=r.ck;show max l.depth r.depth+1 < (l.aq++r.aq).length;rw[Ad];omega
theorem Tr.size_eq:∀t:Tr,t.size+1=2*t.aq.length
 | .leaf _=>rfl
 | .node l r=>by
  have h1:=l.size_eq;have h2:=r.size_eq;show l.size+r.size+1+1=2*(l.aq++r.aq).length;rw[Ad];omega
def rk:∀k:_root_.Fin 26,(!(Builtin.Str.occurrences ("abcdefghijklmnopqrstuvwxyz":Str) ⟨#[97+k.val]⟩ 0 ("abcdefghijklmnopqrstuvwxyz":Str).length 1).isEmpty)=true:=by decide +kernel
theorem GQ{c:Nat}(h0:97<=c)(h1:c < 123):(!(Builtin.Str.occurrences ("abcdefghijklmnopqrstuvwxyz":Str) ⟨#[c]⟩ 0 ("abcdefghijklmnopqrstuvwxyz":Str).length 1).isEmpty)=true:=by
 have e:=rk ⟨c-97,by omega⟩;have e2:97+(c-97)=c:=by omega
 simp only[e2]at e;exact e
def bV(ts:O Tr):Nat:=(ts.map Tr.size).sum
def bB(a b:O Tr):bV (a++b)=bV a+bV b:=by unfold bV;rw[AY,List.sum_append]
def dW(t:Tr):bV [t]=t.size:=by simp[bV]
theorem Tr.size_pos:∀t:Tr,1<=t.size
 | .leaf _=>Ao _
 | .node l r=>by show 1<=l.size+r.size+1;omega
theorem oq:∀ts:O Tr,ts.length<=bV ts
 | []=>Ao _
 | t::r=>by have:=oq r;have:=t.size_pos;show r.length+1<=t.size+bV r;omega
def Tr.post:Tr->O Tr
 | .leaf x=>[.leaf x]
 | .node l r=>l.post++r.post++[.node l r]
def Tr.jO:∀t:Tr,t.post.length=t.size
 | .leaf _=>rfl
 | .node l r=>by show(l.post++r.post++[_]).length=l.size+r.size+1;rw[Ad,Ad,l.jO,r.jO];rfl
def gY(ts:O Tr):O Tr:=(ts.map Tr.post).flatten
def iD(a b:O Tr):gY (a++b)=gY a++gY b:=by unfold gY;rw[AY,List.flatten_append]
def nY(t:Tr):gY [t]=t.post:=by simp[gY]
def JO(t u:Tr):gY [t,u]=t.post++u.post:=by simp[gY]
inductive Ent where
 | word (x:Str)
 | pair (a b:Nat)
def Tr.nd:Tr->Nat->O Ent
 | .leaf x,_=>[.word x]
 | .node l r,o=>l.nd o++r.nd (o+l.size)++[.pair (o+l.size-1) (o+l.size+r.size-1)]
def Tr.aZ:∀(t:Tr) (o:Nat),(t.nd o).length=t.size
 | .leaf _,_=>rfl
 | .node l r,o=>by show(l.nd o++r.nd (o+l.size)++[_]).length=l.size+r.size+1;rw[Ad,Ad,l.aZ,r.aZ];rfl
def run:O Tr->O Ent->O Nat->Option (O Ent×O Nat)
 | [],À,ls=>ap (À,ls)
 | .leaf x::k,À,ls=>run k (À++[.word x]) (À.length::ls)
 | .node _ _::k,À,b::a::ls=>run k (À++[.pair a b]) (À.length::ls)
 | .node _ _::_,_,_=>bn
theorem qA:∀(t:Tr) (k:O Tr) (À:O Ent) (ls:O Nat),run (t.post++k) À ls=run k (À++t.nd À.length) ((À.length+t.size-1)::ls)
 | .leaf x,k,À,ls=>rfl
 | .node l r,k,À,ls=>by
  have e1:(Tr.node l r).post++k=l.post++(r.post++(Tr.node l r::k)):=by show l.post++r.post++[_]++k=_;simp
  rw[e1,qA l,qA r];have e2:(À++l.nd À.length).length=À.length+l.size:=by rw[Ad,l.aZ]
  rw[e2];show run k _ _=run k _ _;have e3:(À++l.nd À.length++r.nd (À.length+l.size)).length=À.length+(Tr.node l r).size-1:=by
   rw[Ad,Ad,l.aZ,r.aZ];show _=À.length+(l.size+r.size+1)-1;omega
  rw[e3];have e4:À++(Tr.node l r).nd À.length=À++l.nd À.length++r.nd (À.length+l.size)++[.pair (À.length+l.size-1) (À.length+l.size+r.size-1)]:=by
   show À++(l.nd À.length++r.nd (À.length+l.size)++[_])=_;simp
  rw[e4]
def JL(t:Tr):run t.post [] []=ap (t.nd 0,[t.size-1]):=by
 have:=qA t [] [] [];rw[Cb]at this;rw[this];show ap ([]++t.nd 0,[0+t.size-1])=_;simp
end My
variable{xs:O L2.V}{x:A5}{σ:L2.St}{i:Nat}
namespace L2
def gp{t:cr}(h:s.heap.IsTupleIter it t i)(ht:s.heap.IsTuple t items)(hx:items[i]?=ap x)
  (q:∀h':mo,h'.IsTupleIter it t (i+1)->B3 it s.heap h'->Q x {s with heap:=h'}):ev (f8 prog w) A (Builtin.SmallTypes.nextOf (.ref it)) Q E s:=by
 unfold Builtin.SmallTypes.nextOf;refine Aa (AR h.typeIs B7 (A9 B7 h.typeIs DL ?_ (Dx _)));obtain⟨o,ho,hc,hd⟩:=id h;obtain⟨ot,Ē,htc,n,č⟩:=id ht;show ev _ _ (field (.ref it) 0 >>= λseq=>_) _ _ s;refine Aa (AZ ho hd rfl ?_);refine Aa (AZ ho hd rfl ?_);refine Aa (Bx Ē č ?_);show ev _ _ (match items[i]? with | some x=>(do wv (.ref it) 1 (t0 ((i:Int)+1));ret x) | none=>_) _ _ s;rw[hx];refine Aa (DY ho hd (show 1 < 2 by decide) ?_);refine Af ⟨x,rfl,Af (q _ ⟨_,Cv _ ho (by rw[EK (CU hd _)]),by rw[Obj.cls_mapFields];exact hc,by rw[CU hd];rfl⟩ (B3.update ..))⟩
def PN{Q:α->db->Prop}(hA:A.handled=bn)
  (q:∀(h':mo) (e:cr),(∀b o,s.heap.get? b=ap o->h'.get? b=ap o)->(∃o,h'.get? e=ap o/\o.cls=.type "StopIteration")->E (.ref e) {s with heap:=h'}):ev (f8 prog w) A (Builtin.SmallTypes.stopIteration (α:=α)) Q E s:=by
 refine Aa ?_;refine Aa (CF ?_ (by show 0<=sizeLine;decide));refine Aa (Cp (a:=AN) rfl ?_);refine Bb ?_ (sizeOk_excFields ..);unfold raiseNew;refine Aa (wpAny_handled ?_);rw[hA];refine wpAny_throw (q _ _ (λb o e=>Ah _ (Ah _ e)) ⟨_,Ap _ rfl,rfl⟩)
def g9{t:cr}(hA:A.handled=bn)(h:s.heap.IsTupleIter it t i)(ht:s.heap.IsTuple t items)(hx:items[i]?=bn)
  (q:∀(h':mo) (e:cr),Fw it s.heap h'->(∃o,h'.get? e=ap o/\o.cls=.type "StopIteration")->E (.ref e) {s with heap:=h'}):ev (f8 prog w) A (Builtin.SmallTypes.nextOf (.ref it)) Q E s:=by
 unfold Builtin.SmallTypes.nextOf;refine Aa (AR h.typeIs B7 (A9 B7 h.typeIs DL ?_ (Dx _)));obtain⟨o,ho,hc,hd⟩:=id h;obtain⟨ot,Ē,htc,n,č⟩:=id ht;show ev _ _ (field (.ref it) 0 >>= λseq=>_) _ _ s;refine Aa (AZ ho hd rfl ?_);refine Aa (AZ ho hd rfl ?_);refine Aa (Bx Ē č ?_);show ev _ _ (match items[i]? with | some x=>(do wv (.ref it) 1 (t0 ((i:Int)+1));ret x) | none=>(do rule _;wv (.ref it) 0 .none;Builtin.SmallTypes.stopIteration)) _ _ s;rw[hx];refine Aa (CD ?_);refine Aa (DY ho hd (show 0 < 2 by decide) ?_);refine PN (A:=A.in1) hA λh' e k ex=>q h' e (λb o n eb=>k b o ?_) ex;rw[(B3.update _ _ _).2 b n];exact eb
def Inv.qt{t':Nat}{a:cr}{o:HO}(I:Inv X Z σ H s)(hf:∀b∈ch,t6 X Z H b)(k:∀b u,b∉ch->s.heap.get? b=ap u->h'.get? b=ap u)
  (hp:s.heap.objs.size<=a) (new:aY X.prog X.w (upd H a o) h' a o):Inv X Z σ (upd H a o) {s with heap:=h',toks:=t'}:=by
 have hn:=I.bj.fresh hp;have S1:∀b u,H b=ap u->b∉ch:=λb u e z=>by rw[(hf b z).1]at e;cases e
 have nL:X.env.locals∉ch:=λz=>(hf _ z).2.1 rfl;refine I.step (g':=s.gens) (d':=s.drawn) (ch:=ch) (λb hb=>⟨(hf b hb).2.2.2.1,(hf b hb).2.1,(hf b hb).2.2.2.2.1,(hf b hb).2.2.2.2.2⟩) (λb u _ _ hc e _=>k b u hc e) (λb u _ _ hc e _=>⟨u.slots,k b u hc e⟩)
  (λb u _ e n=>by rw[au (Ay (Az (Aq e) hp))];exact n) (λb u hc e=>⟨u,k b u hc e⟩) (λb xs e=>by rw[au (bt e hn)];exact e) (λb u xs e=>by rw[au (bt e hn)];exact e)
  (λb ps e=>⟨#[],by rw[au (bt e hn),e];simp⟩) (λm hm=>?_) (λb u e=>?_) I.bare
 ·obtain⟨o',es,ep,ho,r⟩:=hm;exact⟨o',es,ep,k _ o' nL ho,r⟩
 ·by_cases hb:b=a
  ·subst hb;rw[aO]at e;cases e;exact new
  ·rw[au hb]at e;refine(I.bj b u e).vi (λc v hc q=>k c v ?_ q) (λc q=>by rw[au (bt q hn)];exact q) λc xs q=>by rw[au (bt q hn)];exact q
   rcases hc with z | z
   ·rw[z];exact S1 b u e
   ·exact S1 c _ z
def Inv.vd{t':Nat}(I:Inv X Z σ H s)(hf:∀b∈ch,t6 X Z H b)(k:∀b u,b∉ch->s.heap.get? b=ap u->h'.get? b=ap u) :
  Inv X Z σ H {s with heap:=h',toks:=t'}:=by
 have S1:∀b u,H b=ap u->b∉ch:=λb u e z=>by rw[(hf b z).1]at e;cases e
 have nL:X.env.locals∉ch:=λz=>(hf _ z).2.1 rfl;refine I.step (g':=s.gens) (d':=s.drawn) (ch:=ch) (λb hb=>⟨(hf b hb).2.2.2.1,(hf b hb).2.1,(hf b hb).2.2.2.2.1,(hf b hb).2.2.2.2.2⟩) (λb u _ _ hc e _=>k b u hc e) (λb u _ _ hc e _=>⟨u.slots,k b u hc e⟩)
  (λ_ _ _ _ n=>n) (λb u hc e=>⟨u,k b u hc e⟩) (λ_ _ e=>e) (λ_ _ _ e=>e) (λb ps e=>⟨#[],by rw[e];simp⟩) (λm hm=>?_) (λb u e=>?_) I.bare
 ·obtain⟨o',es,ep,ho,r⟩:=hm;exact⟨o',es,ep,k _ o' nL ho,r⟩
 ·refine(I.bj b u e).vi (λc v hc q=>k c v ?_ q) (λ_ q=>q) λ_ _ q=>q;rcases hc with z | z
  ·rw[z];exact S1 b u e
  ·exact S1 c _ z
def jE(h:Vals xs us):∀{i:Nat}{x:V},xs[i]?=ap x->∃u,us[i]?=ap u/\RelV x u:=by
 induction h with
 | nil=>intro i x e;simp at e
 | cons r t ih=>
  intro i x e;cases i with
  | zero=>simp at e;subst e;exact⟨_,rfl,r⟩
  | succ i=>exact ih (by simpa using e)
end L2
variable{e:BG}{Ê:A5}{Î:O BW}{kk:Nat}
namespace L2
def pL{E:ce->db->Prop}{t:cr}(Lz:e≠it)(î:t≠e)(Rt:t≠it)
  (hz:IsEnum s.heap e it i Ê) (hi:s.heap.IsTupleIter it t i) (ht:s.heap.IsTuple t items) (hx:items[i]?=ap x)
  (q:∀(h':mo) (tk:Nat),IsEnumOut h' e it (i+1:Nat) x s.heap.objs.size->h'.IsTupleIter it t (i+1)->IsPair h' s.heap.objs.size (.int i s.toks) x->(∀c o,c≠e->c≠it->s.heap.get? c=ap o->h'.get? c=ap o)->Q (.ref s.heap.objs.size) {s with heap:=h',toks:=tk}) :
  ev (f8 prog w) A (wP.«enumerate.__next__» {pos:=[.ref e]}) (λfin s'=>∃v,fin=Fz (Fy v)/\Q v s') E s:=by
 show ev _ _ (field (.ref e) 2 >>= λr=>_) _ _ s;refine Aa (AZ hz rfl rfl ?_);refine Aa (gp hi ht hx λh1 j1 b1=>?_);have z1:=(b1.2 _ Lz).trans hz;refine Aa (AZ z1 rfl rfl ?_);refine Aa (AZ z1 rfl rfl ?_);refine Aa (wpAny_mkInt ?_);refine Aa (Be z1 (show 3 < 6 by decide) λh2 z2 b2=>?_);refine Aa (Be z2 (show 4 < 6 by decide) λh3 z3 b3=>?_);have sz3:=b3.1.trans (b2.1.trans b1.1);have Ë:∀b,b≠e->b≠it->h3.get? b=s.heap.get? b:=λb n1 n2=>(b3.2 b n1).trans ((b2.2 b n1).trans (b1.2 b n2));refine Aa (CF ?_ (by show 2<=sizeLine;decide));have kp:∀b o,h3.get? b=ap o->(h3.push {cls:=.type "tuple",data:=.seq [DQ i s.toks,x].toArray}).get? b=ap o:=λb o e=>Ah _ e;have Vi:(h3.push {cls:=.type "tuple",data:=.seq [DQ i s.toks,x].toArray}).get? h3.objs.size=ap {cls:=.type "tuple",data:=.seq #[.int i s.toks,x]}:=Ap _ rfl;generalize h3.push {cls:=.type "tuple",data:=.seq [DQ i s.toks,x].toArray}=h4 at kp Vi ⊢;have z4:h4.get? e=ap {cls:=.type "enumerate",data:=.fields #[.none,.bool false,.ref it,t0 (i+1),.none,Ê]}:=kp _ _ z3;refine Aa ?_;refine Aa (AZ z4 rfl rfl ?_);refine Af ?_;refine Aa (CD ?_);refine Aa (AZ z4 rfl rfl ?_);refine Aa (Be z4 (show 5 < 6 by decide) λh5 z5 b5=>?_);refine Aa ?_;refine Aa (Be z5 (show 0 < 6 by decide) λh6 z6 b6=>?_);refine Be z6 (show 1 < 6 by decide) λh7 z7 b7=>?_;refine Aa (Du ?_);have V1:∀b,b≠e->h7.get? b=h4.get? b:=λb n=>(b7.2 b n).trans ((b6.2 b n).trans (b5.2 b n));have ne:s.heap.objs.size≠e:=λz=>by have:=Aq hz;rw[<- z]at this;exact A2 _ this
 refine Af ⟨.ref h3.objs.size,rfl,?_⟩;rw[sz3]at z7 Vi ⊢;refine q h7 _ ?_ ?_ ?_ ?_
 ·exact z7
 ·obtain⟨o,eo,p⟩:=j1;refine⟨o,?_,p⟩;rw[V1 _ (BI Lz)];exact kp _ _ ((b3.2 _ (BI Lz)).trans ((b2.2 _ (BI Lz)).trans eo))
 ·rw[IsPair,V1 _ ne];exact Vi
 ·intro c o n1 n2 ec;rw[V1 _ n1];exact kp _ _ ((Ë _ n1 n2).trans ec)
def rT{t:cr}{Q:PySem.Fin->db->Prop}(hA:A.handled=bn)
  (hz:IsEnum s.heap e it i Ê) (hi:s.heap.IsTupleIter it t i) (ht:s.heap.IsTuple t items) (hx:items[i]?=bn)
  (q:∀(h':mo) (x:cr),(∀c o,c≠it->s.heap.get? c=ap o->h'.get? c=ap o)->(∃o,h'.get? x=ap o/\o.cls=.type "StopIteration")->E (.ref x) {s with heap:=h'}) :
  ev (f8 prog w) A (wP.«enumerate.__next__» {pos:=[.ref e]}) Q E s:=by
 show ev _ _ (field (.ref e) 2 >>= λr=>_) _ _ s;refine Aa (AZ hz rfl rfl ?_);exact Aa (g9 hA hi ht hx λh' x k ex=>q h' x (λc o n e'=>k c o n e') ex)
def mH{t:cr}{Q:Option ce->db->Prop}(Lz:e≠it)(î:t≠e)(Rt:t≠it)
  (hz:IsEnum s.heap e it i Ê) (hi:s.heap.IsTupleIter it t i) (ht:s.heap.IsTuple t items) (hx:items[i]?=ap x)
  (q:∀(h':mo) (tk:Nat),IsEnumOut h' e it (i+1:Nat) x s.heap.objs.size->h'.IsTupleIter it t (i+1)->IsPair h' s.heap.objs.size (.int i s.toks) x->(∀c o,c≠e->c≠it->s.heap.get? c=ap o->h'.get? c=ap o)->Q (ap (.ref s.heap.objs.size)) {s with heap:=h',toks:=tk}) :
  ev (f8 prog w) A (pyNext (.ref e)) Q E s:=by
 have ty:s.TypeIs (.ref e) "enumerate":=⟨_,hz,rfl⟩;refine Aa (CP (AR ty Cw (A9 Cw ty Er ?_ (Ei _))));exact pL Lz î Rt hz hi ht hx λh' tk a b c d=>Af (q h' tk a b c d)
def nX{t:cr}{Q:Option ce->db->Prop}(hA:A.handled=bn)
  (hz:IsEnum s.heap e it i Ê) (hi:s.heap.IsTupleIter it t i) (ht:s.heap.IsTuple t items) (hx:items[i]?=bn)
  (q:∀h':mo,(∀c o,c≠it->s.heap.get? c=ap o->h'.get? c=ap o)->Q bn {s with heap:=h'}) :
  ev (f8 prog w) A (pyNext (.ref e)) Q E s:=by
 have ty:s.TypeIs (.ref e) "enumerate":=⟨_,hz,rfl⟩;refine Aa (CP (AR ty Cw (A9 Cw ty Er ?_ (Ei _))));refine rT (A:=A.in1) hA hz hi ht hx λh' x k ex=>?_;obtain⟨o,eo,hc⟩:=ex;refine Aa (Dh (T:="StopIteration") ⟨o,eo,hc⟩ isSubtype_stop ?_);exact Af (q h' k)
def pA(t:cr)(items:Array ce):Meets (wP.«enumerate.__new__» {pos:=[.type "enumerate",.ref t]}) (λ_ R s=>s.heap.IsTuple t items/\
  ∀h':mo,IsEnum h' (s.heap.objs.size+1) s.heap.objs.size (0:Nat) .none->h'.IsTupleIter s.heap.objs.size t 0->(∀b o,s.heap.get? b=ap o->h'.get? b=ap o)->R (.ok (.ret (.ref (s.heap.objs.size+1)))) {s with heap:=h'}):=
 .of_wp λprog w A R s h=>by
  obtain⟨h1,q⟩:=h;refine Aa ?_;refine Aa (Cp (a:=true) rfl ?_);refine Aa (Cp sub_enumerate ?_);refine Af ?_;refine Aa ?_;refine Aa (wpAny_stack_any λst=>Af ?_);have fin:ev (f8 prog w) A.in1 (pyIter (.ref t) >>= λit=>(Builtin.SmallTypes.newRecord (.type "enumerate") (Builtin.SmallTypes.ownedTupleFields++[it,t0 0,.none,.none]) >>= λr=>ret r)) (λfin s'=>∃v,fin=Fz (Fy v)/\R (Except.ok (Fy v)) s') (λe s'=>R (Except.error e) s') s:=by
   refine Aa (DZ h1 ?_);have k1:∀b o,s.heap.get? b=ap o->(s.heap.push {cls:=.type "tuple_iterator",data:=.fields #[.ref t,.int 0 0]}).get? b=ap o:=λb o e=>Ah _ e;have g1:(s.heap.push {cls:=.type "tuple_iterator",data:=.fields #[.ref t,.int 0 0]}).get? s.heap.objs.size=ap {cls:=.type "tuple_iterator",data:=.fields #[.ref t,.int 0 0]}:=Ap _ rfl;have z1:(s.heap.push {cls:=.type "tuple_iterator",data:=.fields #[.ref t,.int 0 0]}).objs.size=s.heap.objs.size+1:=CC ..;generalize s.heap.push {cls:=.type "tuple_iterator",data:=.fields #[.ref t,.int 0 0]}=wH at k1 g1 z1 ⊢;show ev _ _ (newObj (.type "enumerate") (.fields #[.none,.bool false,.ref s.heap.objs.size,t0 0,.none,.none]) >>= λr=>ret r) _ _ _;refine Aa (Bb ?_ (by simp[sizeOk];decide));have g2:(wH.push {cls:=.type "enumerate",data:=.fields #[.none,.bool false,.ref s.heap.objs.size,t0 0,.none,.none]}).get? wH.objs.size=ap {cls:=.type "enumerate",data:=.fields #[.none,.bool false,.ref s.heap.objs.size,t0 0,.none,.none]}:=Ap _ rfl;refine Af ⟨.ref wH.objs.size,rfl,?_⟩;rw[z1]at g2 ⊢;exact q _ g2 ⟨_,Ah _ g1,rfl,rfl⟩ λb o e=>Ah _ (k1 _ _ e)
  refine wpAny_ite_split (λ_=>?_) (λ_=>?_)
  ·exact Aa (Cp (a:=(Ax t,bn)) rfl fin)
  ·exact Aa (Cp (a:=(Ax t,bn)) rfl fin)
def Hw{t:cr}(h1:s.heap.IsTuple t items)
  (q:∀h':mo,IsEnum h' (s.heap.objs.size+1) s.heap.objs.size (0:Nat) .none->h'.IsTupleIter s.heap.objs.size t 0->(∀b o,s.heap.get? b=ap o->h'.get? b=ap o)->Q (.ref (s.heap.objs.size+1)) {s with heap:=h'}) :
  ev (f8 prog w) A (call (.type "enumerate") [.ref t]) Q E s:=
 callType_new F.called_enumerate ⋯ (F.typeCall_enumerate_1 _) (F.newCall_enumerate_1 _) (λo=>F.args_object_init_2 o _) F.entry_enumerate_new (pA t items) ⟨h1,λh' z i k=>⟨⟨_,z,rfl⟩,q h' z i k⟩⟩
def Ite(K:Ab)(a:cr):It where
 go:=λi H=>∃xs x,dz K H a xs/\xs[i]?=ap x
 Sz:=λi H v H'=>∃p x,v=.ref p/\H p=bn/\H'=upd H p (.tup [.int i,x])/\∀xs,dz K H a xs->xs[i]?=ap x
 stop:=λi H=>∃xs,dz K H a xs/\xs.length<=i
theorem JB{K:Ab}{t:cr}(Lz:e≠it)(î:t≠e)(Rt:t≠it):Turn P w K (.Tuple Î kk pos) (Ite K t) [e,it] e (λi h=>(∃Ê,IsEnum h e it (i:Nat) Ê)/\h.IsTupleIter it t i) where
 mem:=by simp
 obj:=λi h st b hb=>by
  simp only[AG,Bk,or_false]at hb;rcases hb with rfl | rfl
  ·obtain⟨⟨_,e⟩,_⟩:=st;exact⟨_,e,λv z=>by cases z⟩
  ·obtain⟨_,⟨o,e,_,d⟩⟩:=st;exact⟨o,e,λv z=>by rw[d]at z;cases z⟩
 keep:=λi h h' st k=>⟨let ⟨o,e'⟩:=st.1;⟨o,k e (by simp) _ e'⟩,let ⟨o,e',p⟩:=st.2;⟨o,k it (by simp) _ e',p⟩⟩
 item:=by
  intro X hP hw hK hc i Z s σ H E I hf st hg;subst hP hw hK;obtain⟨xs,x,hx,gx⟩:=hg;obtain⟨ar,rx,tx,_⟩:=I.tuple hx;obtain⟨u,gu,ru⟩:=jE rx gx;obtain⟨⟨Ê,hz⟩,hi⟩:=st;refine mH Lz î Rt hz hi tx (by simpa using gu) λh' tk zo j np k=>?_;refine⟨_,rfl,?_⟩;refine D1 zo λh2 z2 b2=>?_;have le:=Aq hz;have li:=let ⟨_,e',_⟩:=hi;Aq e';have lt:∀b∈[e,it],b < s.heap.objs.size:=λb hb=>by
   simp only[AG,Bk,or_false]at hb;rcases hb with rfl | rfl
   ·exact le
   ·exact li
  have nz:s.heap.objs.size≠e:=λz=>A2 _ (by have:=le;rw[<- z]at this;exact this);have YW:∀b o,b∉[e,it]->s.heap.get? b=ap o->h2.get? b=ap o:=λb o hb e'=>by
   have GS:b≠e:=λq=>hb (by simp[q]);rw[b2.2 b GS];exact k b o GS (λq=>hb (by simp[q])) e'
  have YK:h2.get? s.heap.objs.size=ap {cls:=.type "tuple",data:=.seq #[.int i s.toks,u]}:=(b2.2 _ nz).trans np;have Zn:=I.bj.fresh (Ao s.heap.objs.size);refine⟨.ref s.heap.objs.size,upd H s.heap.objs.size (.tup [.int i,x]),I.qt (t':=tk) hf YW (Ao _) ⟨by show 2<=sizeLine;decide,[.int i s.toks,u],.cons ⟨_,rfl⟩ (.cons ru .nil),⟨_,YK,rfl,_,rfl⟩⟩,rfl,⟨_,x,rfl,Zn,rfl,λxs' h'=>by rw[I.kl h' hx];exact gx⟩,⟨⟨_,z2⟩,let ⟨o,e',p⟩:=j;⟨o,(b2.2 _ (BI Lz)).trans e',p⟩⟩,λb hb=>?_⟩;rw[au (Ay (lt b hb))];exact(hf b hb).1
 done:=by
  intro X hP hw hK hc i Z s σ H E I hf st hg;subst hP hw hK;obtain⟨xs,hx,hl⟩:=hg;obtain⟨ar,rx,tx,_⟩:=I.tuple hx;have el:=rx.length;obtain⟨⟨Ê,hz⟩,hi⟩:=st;refine nX (I.ok.hd hc) hz hi tx (by simp;omega) λh' k=>⟨rfl,I.vd (t':=s.toks) hf λb o hb e'=>k b o (λz=>hb (by simp[z])) e'⟩
 self:=λA i s Q E st h=>let ⟨_,e'⟩:=st.1;C3 e' h
end L2
namespace My
def OU(l:O V)(i:Nat):Ent->O V
 | .word _=>l
 | .pair a b=>(l.set a (.int i)).set b (.int i)
def ah:O Ent->Nat->O V->O V
 | [],_,l=>l
 | e::es,i,l=>ah es (i+1) (OU l i e)
theorem xu:∀(es:O Ent) (e:Ent) (i:Nat) (l:O V),ah (es++[e]) i l=OU (ah es i l) (i+es.length) e
 | [],e,i,l=>rfl
 | x::es,e,i,l=>by
  show ah (es++[e]) (i+1) (OU l i x)=OU (ah es (i+1) (OU l i x)) (i+(es.length+1)) e;rw[xu es e];congr 1;omega
def Sj(l:O V)(i:Nat)(e:Ent):(OU l i e).length=l.length:=by cases e with
 | word=>rfl
 | pair=>show((l.set _ _).set _ _).length=_;rw[BK,BK]
theorem HA:∀(es:O Ent) (i:Nat) (l:O V),(ah es i l).length=l.length
 | [],_,_=>rfl
 | e::es,i,l=>by show(ah es (i+1) (OU l i e)).length=_;rw[HA es,Sj]
end My
namespace L2
def Ym(K:Ab):V->V->Hp->VK->Prop:=λo i H Q=>∃p xs k x,o=.ref p/\i=.int k/\cT K H p xs/\0<=k/\k < 1000/\xs[k.toNat]?=ap x/\Q x H
theorem NM(K:Ab)(hK:X.K=K):Z7 X (Ym K):=λZ s σ H o i ov iv Q I ro ri h=>by
 obtain⟨p,xs,k,x,rfl,rfl,hp,k0,k1,hx,q⟩:=h;subst hK;cases ro;obtain⟨t,rfl⟩:=ri;obtain⟨ar,r,pl,hz⟩:=I.list hp;obtain⟨u,gu,ru⟩:=jE r hx;exact wpAny_getItem_list pl.isList k0 ∅ (by simpa using gu) ⟨x,H,I,ru,q⟩
end L2
variable{x:BU}
namespace My
theorem LK{c:Nat}(a:Part x 1)(b:Part y 6)(h0:97<=c)(h1:c < 123):Wd (x++⟨#[c]⟩++y):=by
 have q:=(a.append (MN h0 h1)).append b;refine⟨?_,q.1,q.2⟩;rw[CY,CY];show 1<=x.length+1+y.length;omega
end My
namespace L2
def Itd(lo:Int)(n:Nat):It:=⟨λi _=>i < n,λi H x H'=>H'=H/\x=.int (lo-i),λi _=>n<=i⟩
theorem xS{K:Ab}(it:cr)(lo:Int)(n:Nat):Turn P w K tg (Itd lo n) [it] it (λi h=>IsRangeIter h it (lo+(i:Nat)*(-1)) ((n:Int)-(i:Nat)) (-1)) where
 mem:=by simp
 obj:=λi h st b hb=>by
  have e:b=it:=by simpa using hb
  subst e;exact⟨_,st,λv z=>by
   have z':=z;cases z'⟩
 keep:=λi h h' st k=>k it (by simp) _ st
 item:=by
  intro X hP hw hK hc i Z s σ H E I hf st hg;subst hP hw hK;obtain⟨f0,f1,f2,f3,f4,f5⟩:=hf it (by simp);have W:=Walks.range (prog:=X.prog) (w:=X.w) (I.ok.hd hc) it lo (-1) n;refine W.item i s _ _ hg st λv h' tk hv mw kk=>?_;obtain⟨t,rfl⟩:=hv;have I1:Inv X Z σ H {s with heap:=h',toks:=tk}:=I.turned (λb o hb e=>kk b o (by simpa using hb) e) f0 f1 f3 f4 f5;refine⟨_,rfl,rD (s:={s with heap:=h',toks:=tk}) (n:="range_iterator") mw rfl rfl ⋯ ⟨.int (lo-i),H,I1,⟨t,?_⟩,⟨rfl,rfl⟩,mw,λb hb=>(hf b hb).1⟩⟩;rw[show lo+(i:Int)*(-1)=lo-i by omega]
 done:=by
  intro X hP hw hK hc i Z s σ H E I hf st hg;obtain⟨f0,f1,f2,f3,f4,f5⟩:=hf it (by simp);exact wpAny_pyNext_range_end (I.ok.hd hc) st (by have:n<=i:=hg;omega) λh' eb=>⟨rfl,I.turned (t':=s.toks) (λb o hb e=>eb b o hb e) f0 f1 f3 f4 f5⟩
 self:=λ_ _ _ _ _ st h=>wpAny_pyIter_rangeiter st h
section
theorem JM{σ:St}{R:It->Hp->Prop}{lo hi:Int}{t u v:Tok}{tk:Nat}(I:Inv X Z σ H s)(h1:-(2 ^ 62)<=lo)(h2:lo < 2 ^ 62)(h3:-(2 ^ 62)<=hi)(h4:hi < 2 ^ 62)
  (q:R (Itd lo (lo-hi).toNat) H):ev (f8 X.prog X.w) X.A (pyIter (.ref s.heap.objs.size)) (PIE X Z σ tg R) E {s with heap:=s.heap.push {cls:=.type "range",data:=.fields #[.int lo t,.int hi u,.int (-1) v]},toks:=tk}:=by
 refine wpAny_pyIter_range (IsRange.new ..) (PySem.W.small_down h1 h2 h3 h4) ?_;have I1:Inv X Z σ H {s with heap:=s.heap.push {cls:=.type "range",data:=.fields #[.int lo t,.int hi u,.int (-1) v]},toks:=tk}:=I.kept λb o e=>Ah _ e;refine⟨(s.heap.push {cls:=.type "range",data:=.fields #[.int lo t,.int hi u,.int (-1) v]}).objs.size,[(s.heap.push {cls:=.type "range",data:=.fields #[.int lo t,.int hi u,.int (-1) v]}).objs.size],_,_,H,rfl,
  I1.kept (t':=tk) λb o e=>Ah _ e,xS _ lo (lo-hi).toNat,?_,λb hb=>?_,q⟩
 ·have e1:lo+((0:Nat):Int)*(-1)=lo:=by simp
  have e2:(((lo-hi).toNat:Nat):Int)-((0:Nat):Int)=Builtin.Range.rangeSize lo hi (-1):=by rw[PySem.W.rangeSize_down];split <;> omega
  show IsRangeIter _ _ (lo+((0:Nat):Int)*(-1)) ((((lo-hi).toNat:Nat):Int)-((0:Nat):Int)) (-1);rw[e1,e2];exact Ap _ rfl
 ·have e:b=(s.heap.push {cls:=.type "range",data:=.fields #[.int lo t,.int hi u,.int (-1) v]}).objs.size:=by simpa using hb
  subst e;exact I1.wQ (Ao _) (I1.bj.fresh (Ao _))
def Y1(ta:TA):TI:=λσ H R=>ta σ H λvs H1=>∃i j:Int,vs=[.int i,.int j,.int (-1)]/\(-(2 ^ 62)<=i/\i < 2 ^ 62/\-(2 ^ 62)<=j/\j < 2 ^ 62)/\R (Itd i (i-j).toNat) H1
def JR{c:im}{ta:TA}(hg:Gl X "range")(hm:X.mg "range"=bn)(ha:PA X [a,b,c] ta)(hs:gl [a,b,c] X.env=[(false,lc a X.env),(false,lc b X.env),(false,lc c X.env)]:=by rfl)(qb:gl [b,c] X.env=[(false,lc b X.env),(false,lc c X.env)]:=by rfl) :
  PI X tg (.Call (.Name "range" p) [a,b,c] [] pos) (Y1 ta):=by
 intro Z s σ H R I h;refine Call_ (iT I hg hm boot_range (Bf (bp (ha pos Z s σ H _ I h) λus s1 ⟨vs,H1,I1,r1,q1⟩=>?_) (by show gl _ _=_;rw[hs,qb]) (by rw[qb];rfl)));obtain⟨i,j,e,⟨q1,q2,q3,q4⟩,q⟩:=q1;subst e;cases r1 with
 | cons r rr=>
  cases rr with
  | cons r' rr=>
   cases rr with
   | cons r'' rr=>
    cases rr;obtain⟨t,rfl⟩:=r;obtain⟨t',rfl⟩:=r';obtain⟨t'',rfl⟩:=r'';refine call_range_3 ⋯ (JM I1 q1 q2 q3 q4 q) (.inl ?_);unfold Builtin.divisionGoesByPylong;have e1:decide ((if ((-1:Int)==0)=true then 0 else (-1:Int).natAbs.log2 / 30+1) > 300)=false:=by decide
    simp only[e1,E2]
end
def aab(K:Ab)(a:cr):It where
 go:=λi H=>∃xs x,cT K H a xs/\xs[i]?=ap x
 Sz:=λi H v H'=>∃p x,v=.ref p/\H p=bn/\H'=upd H p (.tup [.int i,x])/\∀xs,cT K H a xs->xs[i]?=ap x
 stop:=λi H=>∃xs,cT K H a xs/\xs.length<=i
theorem FN{K:Ab}{t:cr}(Lz:e≠it):Turn P w K (.Tuple Î kk pos) (aab K t) [e,it] e (λi h=>(∃Ê,IsEnum h e it (i:Nat) Ê)/\h.IsListIter it t i) where
 mem:=by simp
 obj:=λi h st b hb=>by
  simp only[AG,Bk,or_false]at hb;rcases hb with rfl | rfl
  ·obtain⟨⟨_,e⟩,_⟩:=st;exact⟨_,e,λv z=>by cases z⟩
  ·obtain⟨_,⟨o,e,_,d⟩⟩:=st;exact⟨o,e,λv z=>by rw[d]at z;cases z⟩
 keep:=λi h h' st k=>⟨let ⟨o,e'⟩:=st.1;⟨o,k e (by simp) _ e'⟩,let ⟨o,e',p⟩:=st.2;⟨o,k it (by simp) _ e',p⟩⟩
 item:=by
  intro X hP hw hK hc i Z s σ H E I hf st hg;subst hP hw hK;obtain⟨xs,x,hx,gx⟩:=hg;obtain⟨ar,rx,tx,_⟩:=I.list hx;obtain⟨u,gu,ru⟩:=jE rx gx;obtain⟨⟨Ê,hz⟩,hi⟩:=st;refine wpAny_pyNext_enum_item hz hi tx.isList (by simpa using gu) Lz λh' zo j np _ k=>?_;refine⟨_,rfl,?_⟩;refine D1 zo λh2 z2 b2=>?_;have le:=Aq hz;have li:=let ⟨_,e',_⟩:=hi;Aq e';have lt:∀b∈[e,it],b < s.heap.objs.size:=λb hb=>by
   simp only[AG,Bk,or_false]at hb;rcases hb with rfl | rfl
   ·exact le
   ·exact li
  have nz:s.heap.objs.size≠e:=λz=>A2 _ (by have:=le;rw[<- z]at this;exact this);have YW:∀b o,b∉[e,it]->s.heap.get? b=ap o->h2.get? b=ap o:=λb o hb e'=>by
   have GS:b≠e:=λq=>hb (by simp[q]);rw[b2.2 b GS];exact k b o GS (λq=>hb (by simp[q])) e'
  have YK:h2.get? s.heap.objs.size=ap {cls:=.type "tuple",data:=.seq #[.int i s.toks,u]}:=(b2.2 _ nz).trans np;have Zn:=I.bj.fresh (Ao s.heap.objs.size);refine⟨.ref s.heap.objs.size,upd H s.heap.objs.size (.tup [.int i,x]),I.qt (t':=s.toks+1) hf YW (Ao _) ⟨by show 2<=sizeLine;decide,[.int i s.toks,u],.cons ⟨_,rfl⟩ (.cons ru .nil),⟨_,YK,rfl,_,rfl⟩⟩,rfl,⟨_,x,rfl,Zn,rfl,λxs' h'=>by rw[I.yI h' hx];exact gx⟩,⟨⟨_,z2⟩,let ⟨o,e',p⟩:=j;⟨o,(b2.2 _ (BI Lz)).trans e',p⟩⟩,λb hb=>?_⟩;rw[au (Ay (lt b hb))];exact(hf b hb).1
 done:=by
  intro X hP hw hK hc i Z s σ H E I hf st hg;subst hP hw hK;obtain⟨xs,hx,hl⟩:=hg;obtain⟨ar,rx,tx,_⟩:=I.list hx;have el:=rx.length;obtain⟨⟨Ê,hz⟩,hi⟩:=st;refine wpAny_pyNext_enum_end (I.ok.hd hc) hz hi tx.isList (by simp;omega) λh' k=>⟨rfl,I.vd (t':=s.toks) hf λb o hb e'=>k b o (λz=>hb (by simp[z])) e'⟩
 self:=λA i s Q E st h=>let ⟨_,e'⟩:=st.1;C3 e' h
end L2
namespace My
def en:Tr->Nat->Nat->Ent
 | .leaf x,_,_=>.word x
 | .node l r,o,j=>if j < l.size then en l o j else if j < l.size+r.size then en r (o+l.size) (j-l.size) else .pair (o+l.size-1) (o+l.size+r.size-1)
def up:Tr->Nat->Nat->O Nat->O Nat
 | .leaf _,o,_,ab=>o::ab
 | .node l r,o,j,ab=>if j < l.size then up l o j ((o+l.size+r.size)::ab) else if j < l.size+r.size then up r (o+l.size) (j-l.size) ((o+l.size+r.size)::ab) else (o+l.size+r.size)::ab
def jD:Tr->Nat->Nat->V->V
 | .leaf _,_,_,p=>p
 | .node l r,o,j,p=>if j < l.size then jD l o j (.int (o+l.size+r.size:Nat)) else if j < l.size+r.size then jD r (o+l.size) (j-l.size) (.int (o+l.size+r.size:Nat)) else p
def be:Tr->Nat->Nat->O Nat
 | .leaf _,o,_=>[o]
 | .node l r,o,j=>if j < l.size then be l o j else if j < l.size+r.size then be r (o+l.size) (j-l.size) else be l o (l.size-1)++be r (o+l.size) (r.size-1)
theorem kY:∀(t:Tr) (o j:Nat),j < t.size->(t.nd o)[j]?=ap (en t o j)
 | .leaf x,o,j,h=>by
  have:j=0:=by have:j < 1:=h;omega
  subst this;rfl
 | .node l r,o,j,h=>by
  have es:(Tr.node l r).size=l.size+r.size+1:=rfl;have hn:(Tr.node l r).nd o=l.nd o++r.nd (o+l.size)++[.pair (o+l.size-1) (o+l.size+r.size-1)]:=rfl;have ln:=l.aZ o;have rn:=r.aZ (o+l.size);unfold en;by_cases c1:j < l.size
  ·rw[if_pos c1,hn,AW,AV ∅];exact kY l o j c1
  ·rw[if_neg c1];by_cases c2:j < l.size+r.size
   ·rw[if_pos c2,hn,AW,AA ∅,AV ∅,ln];exact kY r _ _ ∅
   ·rw[if_neg c2,hn,AA (by rw[Ad];omega),Ad,ln,rn];have:j-(l.size+r.size)=0:=by omega
    rw[this];rfl
theorem OJ:∀(t:Tr) (o j:Nat),j < t.size->(∃x,en t o j=.word x/\be t o j=[o+j])\/∃a b,en t o j=.pair (o+a) (o+b)/\a < j/\b < j/\be t o j=be t o a++be t o b
 | .leaf x,o,j,h=>by
  have:j=0:=by have:j < 1:=h;omega
  subst this;exact .inl ⟨x,rfl,rfl⟩
 | .node l r,o,j,h=>by
  have es:(Tr.node l r).size=l.size+r.size+1:=rfl;have lp:=l.size_pos;have rp:=r.size_pos;by_cases c1:j < l.size
  ·have e1:en (.node l r) o j=en l o j:=by rw[en,if_pos c1]
   have e2:∀k,k < l.size->be (.node l r) o k=be l o k:=λk hk=>by rw[be,if_pos hk]
   rw[e1];rcases OJ l o j c1 with⟨x,q1,q2⟩ | ⟨a,b,q1,q2,q3,q4⟩
   ·exact .inl ⟨x,q1,by rw[e2 j c1];exact q2⟩
   ·exact .inr ⟨a,b,q1,q2,q3,by rw[e2 j c1,e2 a ∅,e2 b ∅];exact q4⟩
  ·by_cases c2:j < l.size+r.size
   ·have e1:en (.node l r) o j=en r (o+l.size) (j-l.size):=by rw[en,if_neg c1,if_pos c2]
    have e2:∀k,k < r.size->be (.node l r) o (l.size+k)=be r (o+l.size) k:=λk hk=>by
     rw[be,if_neg ∅,if_pos ∅];congr 1;omega
    have ej:j=l.size+(j-l.size):=by omega
    rw[e1];rcases OJ r (o+l.size) (j-l.size) ∅ with⟨x,q1,q2⟩ | ⟨a,b,q1,q2,q3,q4⟩
    ·refine .inl ⟨x,q1,?_⟩;rw[ej,e2 _ ∅,q2];congr 1;omega
    ·refine .inr ⟨l.size+a,l.size+b,?_,by omega,by omega,?_⟩
     ·rw[q1,A7,A7]
     ·rw[e2 a ∅,e2 b ∅,ej,e2 _ ∅,q4]
   ·have ej:j=l.size+r.size:=by omega
    refine .inr ⟨l.size-1,l.size+r.size-1,?_,by omega,by omega,?_⟩
    ·rw[en,if_neg c1,if_neg c2];congr 1 <;> omega
    ·rw[be,if_neg c1,if_neg c2,be,if_pos ∅,be,if_neg ∅,if_pos ∅];congr 2;omega
theorem qp:∀(t:Tr) (o j:Nat) (p:V) (ab:O Nat),j < t.size->(j=t.size-1/\jD t o j p=p/\up t o j ab=(o+j)::ab)\/∃a,j < a/\a < t.size/\jD t o j p=.int (o+a:Nat)/\up t o j ab=(o+j)::up t o a ab
 | .leaf x,o,j,p,ab,h=>by
  have:j=0:=by have:j < 1:=h;omega
  subst this;exact .inl ⟨rfl,rfl,rfl⟩
 | .node l r,o,j,p,ab,h=>by
  have es:(Tr.node l r).size=l.size+r.size+1:=rfl;have lp:=l.size_pos;have rp:=r.size_pos;have er:up (.node l r) o (l.size+r.size) ab=(o+l.size+r.size)::ab:=by rw[up,if_neg ∅,if_neg ∅]
  by_cases c1:j < l.size
  ·have e1:jD (.node l r) o j p=jD l o j (.int (o+l.size+r.size:Nat)):=by rw[jD,if_pos c1]
   have e2:∀k,k < l.size->up (.node l r) o k ab=up l o k ((o+l.size+r.size)::ab):=λk hk=>by rw[up,if_pos hk]
   rw[e1,e2 j c1];rcases qp l o j (.int (o+l.size+r.size:Nat)) ((o+l.size+r.size)::ab) c1 with⟨q1,q2,q3⟩ | ⟨a,q1,q2,q3,q4⟩
   ·refine .inr ⟨l.size+r.size,by omega,by omega,by rw[q2,A7],by rw[q3,er]⟩
   ·exact .inr ⟨a,q1,by omega,q3,by rw[q4,e2 a q2]⟩
  ·by_cases c2:j < l.size+r.size
   ·have e1:jD (.node l r) o j p=jD r (o+l.size) (j-l.size) (.int (o+l.size+r.size:Nat)):=by rw[jD,if_neg c1,if_pos c2]
    have e2:∀k,k < r.size->up (.node l r) o (l.size+k) ab=up r (o+l.size) k ((o+l.size+r.size)::ab):=λk hk=>by
     rw[up,if_neg ∅,if_pos ∅];congr 1;omega
    obtain⟨i,rfl⟩:∃i,j=l.size+i:=⟨j-l.size,by omega⟩;have ei:l.size+i-l.size=i:=by omega
    rw[e1,e2 i ∅,ei];rcases qp r (o+l.size) i (.int (o+l.size+r.size:Nat)) ((o+l.size+r.size)::ab) ∅ with⟨q1,q2,q3⟩ | ⟨a,q1,q2,q3,q4⟩
    ·refine .inr ⟨l.size+r.size,by omega,by omega,by rw[q2,A7],by rw[q3,er,A7]⟩
    ·exact .inr ⟨l.size+a,by omega,by omega,by rw[q3,A7],by rw[q4,e2 a q2,A7]⟩
   ·have ej:j=l.size+r.size:=by omega
    refine .inl ⟨by omega,by rw[jD,if_neg c1,if_neg c2],?_⟩;rw[ej,er,A7]
def lD:Tr->Nat->V->O V
 | .leaf _,_,p=>[p]
 | .node l r,o,p=>lD l o (.int (o+l.size+r.size:Nat))++lD r (o+l.size) (.int (o+l.size+r.size:Nat))++[p]
theorem jr:∀(t:Tr) (o:Nat) (p:V),(lD t o p).length=t.size
 | .leaf _,_,_=>rfl
 | .node l r,o,p=>by
  unfold lD;rw[Ad,Ad,jr l,jr r];rfl
theorem Jq(t:Tr)(o:Nat)(p q:V)(A B:O V):(A++lD t o p++B).set (A.length+t.size-1) q=A++lD t o q++B:=by
 have key:∃I,lD t o p=I++[p]/\lD t o q=I++[q]:=by
  cases t with
  | leaf _=>exact⟨[],rfl,rfl⟩
  | node l r=>exact⟨_,rfl,rfl⟩
 obtain⟨I,e1,e2⟩:=key;have h1:=jr t o p;rw[e1,Ad]at h1;have eP:I.length+1=t.size:=h1;rw[e1,e2];have ei:A.length+t.size-1=(A++I).length:=by rw[Ad];omega
 rw[ei,show A++(I++[p])++B=(A++I)++p::B by simp,List.set_append_right _ _ (Ao _),Nat.sub_self];simp
theorem OT:∀(es fs:O Ent) (i:Nat) (l:O V),ah (es++fs) i l=ah fs (i+es.length) (ah es i l)
 | [],fs,i,l=>rfl
 | e::es,fs,i,l=>by
  show ah (es++fs) (i+1) (OU l i e)=ah fs (i+(es.length+1)) (ah es (i+1) (OU l i e));rw[OT es fs];congr 1;omega
theorem HB:∀(t:Tr) (A B:O V),ah (t.nd A.length) A.length (A++Al t.size .aN++B)=A++lD t A.length .aN++B
 | .leaf x,A,B=>rfl
 | .node l r,A,B=>by
  have es:(Tr.node l r).size=l.size+r.size+1:=rfl;have hn:(Tr.node l r).nd A.length=l.nd A.length++r.nd (A.length+l.size)++[.pair (A.length+l.size-1) (A.length+l.size+r.size-1)]:=rfl;have ln:=l.aZ A.length;have rn:=r.aZ (A.length+l.size);have h1:=HB l A (Al r.size .aN++([V.aN]++B));have e0:A++Al (Tr.node l r).size V.aN++B=A++Al l.size .aN++(Al r.size .aN++([V.aN]++B)):=by
   rw[es,<- C9,<- C9];simp only[AW];rfl
  rw[hn,xu,OT,e0,h1,ln];have la:(A++lD l A.length V.aN).length=A.length+l.size:=by rw[Ad,jr]
  have h2:=HB r (A++lD l A.length V.aN) ([V.aN]++B);rw[la]at h2;have e1:A++lD l A.length V.aN++(Al r.size V.aN++([V.aN]++B))=A++lD l A.length V.aN++Al r.size V.aN++([V.aN]++B):=by simp[AW]
  rw[e1,h2,Ad,ln,rn];show((_:O V).set (A.length+l.size-1) _).set (A.length+l.size+r.size-1) _=_;have s1:=Jq l A.length .aN (.int (A.length+(l.size+r.size):Nat)) A (lD r (A.length+l.size) V.aN++([V.aN]++B));have e2:A++lD l A.length V.aN++lD r (A.length+l.size) V.aN++([V.aN]++B)=A++lD l A.length V.aN++(lD r (A.length+l.size) V.aN++([V.aN]++B)):=by simp[AW]
  rw[e2,s1];have lb:(A++lD l A.length (V.int (A.length+(l.size+r.size):Nat))).length=A.length+l.size:=by rw[Ad,jr]
  have s2:=Jq r (A.length+l.size) .aN (.int (A.length+(l.size+r.size):Nat)) (A++lD l A.length (V.int (A.length+(l.size+r.size):Nat))) ([V.aN]++B);rw[lb]at s2;have e3:A++lD l A.length (V.int (A.length+(l.size+r.size):Nat))++(lD r (A.length+l.size) V.aN++([V.aN]++B))=A++lD l A.length (V.int (A.length+(l.size+r.size):Nat))++lD r (A.length+l.size) V.aN++([V.aN]++B):=by simp[AW]
  rw[e3,s2];have e4:lD (.node l r) A.length .aN=lD l A.length (.int (A.length+l.size+r.size:Nat))++lD r (A.length+l.size) (.int (A.length+l.size+r.size:Nat))++[.aN]:=rfl;rw[e4,A7 A.length l.size r.size];simp[AW]
theorem xr:∀(t:Tr) (o j:Nat) (p:V),j < t.size->(lD t o p)[j]?=ap (jD t o j p)
 | .leaf x,o,j,p,h=>by
  have:j=0:=by have:j < 1:=h;omega
  subst this;rfl
 | .node l r,o,j,p,h=>by
  have es:(Tr.node l r).size=l.size+r.size+1:=rfl;have ln:=jr l o (.int (o+l.size+r.size:Nat));have rn:=jr r (o+l.size) (.int (o+l.size+r.size:Nat));unfold lD jD;by_cases c1:j < l.size
  ·rw[if_pos c1,AW,AV ∅];exact xr l _ _ _ c1
  ·rw[if_neg c1];by_cases c2:j < l.size+r.size
   ·rw[if_pos c2,AW,AA ∅,AV ∅,ln];exact xr r _ _ _ ∅
   ·rw[if_neg c2,AA (by rw[Ad];omega),Ad,ln,rn];have:j-(l.size+r.size)=0:=by omega
    rw[this];rfl
def WH(t:Tr)(h:j < t.size):(ah (t.nd 0) 0 (Al t.size .aN))[j]?=ap (jD t 0 j .aN):=by
 have q:=HB t [] [];have e:([]:O V)++Al t.size .aN++[]=Al t.size .aN:=by simp
 have e2:([]:O V)++lD t ([]:O V).length .aN++[]=lD t 0 .aN:=by simp
 rw[e,e2]at q;have q':ah (t.nd 0) 0 (Al t.size .aN)=lD t 0 .aN:=q;rw[q'];exact xr t 0 j .aN h
end My
variable{H1:L2.Hp}{ι:O BG}
namespace PL
section
variable{K:Ab}
def Sr(K:Ab)(H:Hp)(a:cr)(xs:O V):Prop:=(∃o,H a=ap (.cz o (.lst xs)))\/
  ∃(o:Obj) (ar:Array ce) (n:Nat),K.lookup a=ap o/\o.cls=.type "list"/\o.dict=bn/\o.data=.seq ar n/\ar.size<=sizeLine/\Vals xs ar.toList
def Sr.sq{a:cr}(h:Sr K H a xs):cT K H a xs:=h.elim (λh=>.inl (.inr h)) .inr
structure a7(K:Ab)(H H':Hp):Prop where
 t:∀p vs,H p=ap (.tup vs)->H' p=ap (.tup vs)
 z:∀p o u,H p=ap (.cz o u)->H' p=ap (.cz o u)
def a7.f{H H':Hp}(t:a7 K H H')(p:cr)(vs:O V)(h:Sr K H p vs):Sr K H' p vs:=h.elim (λ⟨o,h⟩=>.inl ⟨o,t.z _ _ _ h⟩) .inr
def a7.refl(H:Hp):a7 K H H:=⟨λ_ _ h=>h,λ_ _ _ h=>h⟩
def a7.trans(a:a7 K H H1)(b:a7 K H1 H2):a7 K H H2:=⟨λp vs h=>b.t p vs (a.t p vs h),λp o w h=>b.z p o w (a.z p o w h)⟩
def _root_.L2.jv.dN(s:jv H H'):a7 K H H':=⟨λp vs h=>s _ _ h,λp o u h=>s _ _ h⟩
inductive PV where
 | aN | bl (b:Bool) | int (i:Int) | str (x:Str) | tup (l:List PV) | ref (n:Nat) | ty (n:String) | cl (l:List PV) | dv (ks vs:List PV) | ob (ns:List Str) (l:List PV)
def kP:Key->PV
 | .inl i=>.int i
 | .inr x=>.str x
inductive PO where
 | lst (xs:List PV) | dk (kvs:List (Key×PV)) | dt (kvs:List (List Key×PV)) | opq (φ:List V->Prop)
abbrev PH:=O PO
abbrev xI:=O (Option PV)
mutual
inductive VR(K:Ab)(ι:List cr)(H:Hp):V->PV->Prop
 | aN:VR K ι H .aN .aN
 | bl (b:Bool):VR K ι H (.bl b) (.bl b)
 | int (i:Int):VR K ι H (.int i) (.int i)
 | str (x:Str):VR K ι H (.str x) (.str x)
 | ty (n:String):VR K ι H (.ty n) (.ty n)
 | tup {p:cr}{vs:List V}{l:List PV} (h:H p=ap (.tup vs)) (r:aG K ι H vs l):VR K ι H (.ref p) (.tup l)
 | ref {n:Nat}{a:cr} (h:ι[n]?=ap a):VR K ι H (.ref a) (.ref n)
 | cl {a:cr}{vs:List V}{l:List PV} (h:Sr K H a vs) (r:aG K ι H vs l):VR K ι H (.ref a) (.cl l)
 | dk {a:cr}{o:Obj}{kvs:List (Key×V)}{ks l:List PV} (h:H a=ap (.cz o (.dK kvs))) (e:ks=kvs.map λkv=>kP kv.1) (r:aG K ι H (kvs.map (·.2)) l):VR K ι H (.ref a) (.dv ks l)
 | dt {a:cr}{o:Obj}{kvs:List (List Key×V)}{ks l:List PV} (h:H a=ap (.cz o (.dT kvs))) (e:ks=kvs.map λkv=>.tup (kv.1.map kP)) (r:aG K ι H (kvs.map (·.2)) l):VR K ι H (.ref a) (.dv ks l)
 | ob {a C dx:cr}{o:Obj}{fs:List (Str×V)}{ns:List Str}{l:List PV} (h:H a=ap (.cz o (.ins C dx fs))) (c:Cls K C) (na:∀f∈ns,O0 K C f) (e:ns=fs.map (·.1)) (r:aG K ι H (fs.map (·.2)) l):VR K ι H (.ref a) (.ob ns l)
inductive aG(K:Ab)(ι:List cr)(H:Hp):List V->List PV->Prop
 | nil:aG K ι H [] []
 | cons {v:V}{p:PV}{vs:List V}{ps:List PV} (r:VR K ι H v p) (t:aG K ι H vs ps):aG K ι H (v::vs) (p::ps)
end
section
variable{ι':O cr}
mutual
theorem VR.mono(ht:a7 K H H')(hi:∀(n:Nat) (a:cr),ι[n]?=ap a->ι'[n]?=ap a):∀{v:V}{p:PV},VR K ι H v p->VR K ι' H' v p
 | _,_,.aN=>.aN
 | _,_,.bl b=>.bl b
 | _,_,.int i=>.int i
 | _,_,.str x=>.str x
 | _,_,.ty n=>.ty n
 | _,_,.tup h r=>.tup (ht.t _ _ h) (aG.mono ht hi r)
 | _,_,.cl h r=>.cl (ht.f _ _ h) (aG.mono ht hi r)
 | _,_,.dk h e r=>.dk (ht.z _ _ _ h) e (aG.mono ht hi r)
 | _,_,.dt h e r=>.dt (ht.z _ _ _ h) e (aG.mono ht hi r)
 | _,_,.ob h c na e r=>.ob (ht.z _ _ _ h) c na e (aG.mono ht hi r)
 | _,_,.ref h=>.ref (hi _ _ h)
theorem aG.mono(ht:a7 K H H')(hi:∀(n:Nat) (a:cr),ι[n]?=ap a->ι'[n]?=ap a):∀{vs:O V}{ps:O PV},aG K ι H vs ps->aG K ι' H' vs ps
 | _,_,.nil=>.nil
 | _,_,.cons r t=>.cons (VR.mono ht hi r) (aG.mono ht hi t)
end
theorem aG.length:∀{vs:O V}{ps:O PV},aG K ι H vs ps->vs.length=ps.length
 | _,_,.nil=>rfl
 | _,_,.cons _ t=>by rw[An,An,aG.length t]
theorem aG.get:∀{vs:O V}{ps:O PV}{i:Nat}{p:PV},aG K ι H vs ps->ps[i]?=ap p->∃v,vs[i]?=ap v/\VR K ι H v p
 | _,_,_,_,.nil,e=>by simp at e
 | _,_,0,_,.cons r _,e=>by simp at e;subst e;exact⟨_,rfl,r⟩
 | _,_,i+1,p,.cons _ t,e=>by
  obtain⟨v,h1,h2⟩:=aG.get (i:=i) (p:=p) t (by simpa using e);exact⟨v,by simpa using h1,h2⟩
theorem aG.Zv:∀{vs:O V}{ps:O PV}{i:Nat}{v:V},aG K ι H vs ps->vs[i]?=ap v->∃p,ps[i]?=ap p/\VR K ι H v p
 | _,_,_,_,.nil,e=>by simp at e
 | _,_,0,_,.cons r _,e=>by simp at e;subst e;exact⟨_,rfl,r⟩
 | _,_,i+1,p,.cons _ t,e=>by
  obtain⟨v,h1,h2⟩:=aG.Zv (i:=i) (v:=p) t (by simpa using e);exact⟨v,by simpa using h1,h2⟩
theorem aG.set{p:PV}(r:VR K ι H v p):∀{vs:O V}{ps:O PV} (i:Nat),aG K ι H vs ps->aG K ι H (vs.set i v) (ps.set i p)
 | _,_,_,.nil=>.nil
 | _,_,0,.cons _ t=>.cons r t
 | _,_,i+1,.cons q t=>.cons q (aG.set r i t)
theorem aG.append:∀{xs ys:O V}{us ws:O PV},aG K ι H xs us->aG K ι H ys ws->aG K ι H (xs++ys) (us++ws)
 | _,_,_,_,.nil,s=>s
 | _,_,_,_,.cons r t,s=>.cons r (aG.append t s)
theorem aG.take:∀{xs:O V}{us:O PV} (n:Nat),aG K ι H xs us->aG K ι H (xs.take n) (us.take n)
 | _,_,0,_=>.nil
 | _,_,_+1,.nil=>.nil
 | _,_,n+1,.cons r t=>.cons r (aG.take n t)
theorem aG.drop:∀{xs:O V}{us:O PV} (n:Nat),aG K ι H xs us->aG K ι H (xs.drop n) (us.drop n)
 | _,_,0,r=>r
 | _,_,_+1,.nil=>.nil
 | _,_,n+1,.cons _ t=>aG.drop n t
theorem aG.reverse:∀{xs:O V}{us:O PV},aG K ι H xs us->aG K ι H xs.reverse us.reverse
 | _,_,.nil=>.nil
 | _,_,.cons r t=>by rw[C5,C5];exact(aG.reverse t).append (.cons r .nil)
def aG.one{p:PV}(r:VR K ι H v p):aG K ι H [v] [p]:=.cons r .nil
end
structure Go(ι ι':List cr)(H H':Hp):Prop where
 ext:∃m,ι'=ι++m
 new:∀a,a∈ι'->a∉ι->H a=bn
 keep:∀a o,a∉ι->H a=ap o->H' a=ap o
def Go.refl(ι:O cr)(H:Hp):Go ι ι H H:=⟨⟨[],by simp⟩,λa h n=>absurd h n,λ_ _ _ h=>h⟩
def OR(K:Ab)(ι:O cr)(H:Hp)(a:cr):PO->Prop
 | .lst xs=>∃vs,H a=ap (.lst vs)/\aG K ι H vs xs
 | .dk kvs=>∃vs:O (Key×V),H a=ap (.dK vs)/\vs.map (·.1)=kvs.map (·.1)/\aG K ι H (vs.map (·.2)) (kvs.map (·.2))
 | .dt kvs=>∃vs:O (O Key×V),H a=ap (.dT vs)/\vs.map (·.1)=kvs.map (·.1)/\aG K ι H (vs.map (·.2)) (kvs.map (·.2))
 | .opq φ=>∃vs,H a=ap (.lst vs)/\φ vs
structure HR(K:Ab)(ι:List cr)(H:Hp)(h:PH):Prop where
 nd:ι.Nodup
 len:ι.length=h.length
 obj:∀(n:Nat) (a:cr) (o:PO),ι[n]?=ap a->h[n]?=ap o->OR K ι H a o
end
end PL
variable{e:BW}
namespace PL
section
variable{K:Ab}
abbrev QV:=PV->PH->Prop
structure ME where
 run:xI->PH->QV->Prop
 mono:∀{ps h}{Q Q':QV},(∀v h',Q v h'->Q' v h')->run ps h Q->run ps h Q'
structure MT where
 run:xI->PH->(Bool->PH->Prop)->Prop
 mono:∀{ps h}{Q Q':Bool->PH->Prop},(∀v h',Q v h'->Q' v h')->run ps h Q->run ps h Q'
structure MA where
 run:xI->PH->(List PV->PH->Prop)->Prop
 mono:∀{ps h}{Q Q':List PV->PH->Prop},(∀v h',Q v h'->Q' v h')->run ps h Q->run ps h Q'
structure ML where
 run:xI->PH->(List PV->PH->Prop)->Prop
 mono:∀{ps h}{Q Q':List PV->PH->Prop},(∀v h',Q v h'->Q' v h')->run ps h Q->run ps h Q'
structure Src where
 items:List PV
 ok:PH->Prop
 fz:Bool
structure MI where
 run:xI->PH->(Src->PH->Prop)->Prop
 mono:∀{ps h}{Q Q':Src->PH->Prop},(∀v h',Q v h'->Q' v h')->run ps h Q->run ps h Q'
structure PD where
 nx:xI->PH->Prop
 rt:QV
 bk:xI->PH->Prop
 ct:xI->PH->Prop
structure PD.Le(D D':PD):Prop where
 nx:∀ps h,D.nx ps h->D'.nx ps h
 rt:∀v h,D.rt v h->D'.rt v h
 bk:∀ps h,D.bk ps h->D'.bk ps h
 ct:∀ps h,D.ct ps h->D'.ct ps h
structure MS where
 run:PD->xI->PH->Prop
 mono:∀{D D' ps h},PD.Le D D'->run D ps h->run D' ps h
structure MG where
 run:PV->xI->PH->(xI->PH->Prop)->Prop
 mono:∀{v ps h}{Q Q':xI->PH->Prop},(∀ps h,Q ps h->Q' ps h)->run v ps h Q->run v ps h Q'
def pQ(K:Ab)(ι:O cr)(H:Hp)(Q:VK):QV:=λp h'=>∀ι' v H',Go ι ι' H H'->HR K ι' H' h'->VR K ι' H' v p->Q v H'
def PE.imp{t t':TE}(h:PE X e t)(f:∀σ H Q,t' σ H Q->t σ H Q):PE X e t':=λZ s σ H Q I q=>h Z s σ H Q I (f _ _ _ q)
def PT.imp{t t':TT}(h:PT X e t)(f:∀σ H Q,t' σ H Q->t σ H Q):PT X e t':=λZ s σ H Q I q=>h Z s σ H Q I (f _ _ _ q)
def PW.imp{t t':TT}(h:PW X e t)(f:∀σ H Q,t' σ H Q->t σ H Q):PW X e t':=λw Z s σ H Q I q=>h w Z s σ H Q I (f _ _ _ q)
def PA.imp{e:O im}{t t':TA}(h:PA X e t)(f:∀σ H Q,t' σ H Q->t σ H Q):PA X e t':=λpos Z s σ H Q I q=>h pos Z s σ H Q I (f _ _ _ q)
def PS.imp{e:sn}{t t':TS}(h:PS X e t)(f:∀D σ H,t' D σ H->t D σ H):PS X e t':=λZ s σ H D I q=>h Z s σ H D I (f _ _ _ q)
def qh.imp{e:O sn}{t t':TS}(h:qh X e t)(f:∀D σ H,t' D σ H->t D σ H):qh X e t':=λZ s σ H D I q=>h Z s σ H D I (f _ _ _ q)
def PG.imp{t t':TG}(h:PG X e t)(f:∀v σ H Q,t' v σ H Q->t v σ H Q):PG X e t':=λZ s σ H v u Q I r q=>h Z s σ H v u Q I r (f _ _ _ _ q)
def PI.imp{t t':TI}(h:PI X tg e t)(f:∀σ H Q,t' σ H Q->t σ H Q):PI X tg e t':=λZ s σ H R I q=>h Z s σ H R I (f _ _ _ q)
section
abbrev P2:=PV->PV->PH->QV->Prop
structure M2 where
 f:P2
 mono:∀{x y h}{Q Q':QV},(∀v h',Q v h'->Q' v h')->f x y h Q->f x y h Q'
def M2.Ok(K:Ab)(r:R2)(m:M2):Prop:=∀{ι H h u v x y Q},HR K ι H h->VR K ι H u x->VR K ι H v y->m.f x y h (pQ K ι H Q)->r u v H Q
end
end
section
variable{K:Ab}
section
def jV:∀{vs:O V}{l:O PV},aG K ι H vs l->(!l.isEmpty)=!vs.isEmpty
 | _,_,.nil=>rfl
 | _,_,.cons _ _=>rfl
structure MQ where
 run:xI->PH->(Src->PH->Prop)->Prop
 mono:∀{ps h}{Q Q':Src->PH->Prop},(∀v h',Q v h'->Q' v h')->run ps h Q->run ps h Q'
end
end
section
structure MGs where
 run:List PV->xI->PH->(xI->PH->Prop)->Prop
 mono:∀{v ps h}{Q Q':xI->PH->Prop},(∀ps h,Q ps h->Q' ps h)->run v ps h Q->run v ps h Q'
end
section
variable{K:Ab}
section
structure uZ where
 f:List PV->PH->QV->Prop
 mono:∀{l h}{Q Q':QV},(∀v h',Q v h'->Q' v h')->f l h Q->f l h Q'
def uZ.Ok(K:Ab)(r:O V->Hp->VK->Prop)(m:uZ):Prop:=∀{ι H h vs l Q},HR K ι H h->aG K ι H vs l->m.f l h (pQ K ι H Q)->r vs H Q
end
end
end PL
variable{g':Int->Int->L2.V}{g:Int->Int->PL.PV}
namespace PL
section
variable{K:Ab}
def aI(g:Int->Int->PV):M2:=⟨λx y h Q=>match x,y with | .int i,.int j=>Q (g i j) h | _,_=>False,λf q=>by
 revert q
 split
 ·exact f _ _
 ·exact λz=>z⟩
def WJ(C:Int->Int->Prop)(g:Int->Int->PV):M2:=⟨λx y h Q=>match x,y with | .int i,.int j=>C i j/\Q (g i j) h | _,_=>False,λf q=>by
 revert q
 split
 ·exact λq=>⟨q.1,f _ _ q.2⟩
 ·exact λz=>z⟩
def zL(hg:∀ι H i j,VR K ι H (g' i j) (g i j)):M2.Ok K (Qe g') (aI g):=by
 intro ι H h u v x y Q hr hu hv q;unfold aI at q;dsimp only at q;revert q
 split
 ·intro q;cases hu;cases hv;exact⟨_,_,rfl,rfl,q ι _ H (Go.refl _ _) hr (hg _ _ _ _)⟩
 ·exact Bm
def xv{C:Int->Int->Prop}(hg:∀ι H i j,VR K ι H (g' i j) (g i j)):M2.Ok K (rI C g') (WJ C g):=by
 intro ι H h u v x y Q hr hu hv q;unfold WJ at q;dsimp only at q;revert q
 split
 ·intro q;cases hu;cases hv;exact⟨_,_,rfl,rfl,q.1,q.2 ι _ H (Go.refl _ _) hr (hg _ _ _ _)⟩
 ·exact Bm
def n6:=aI λi j=>.int (i-j)
def mI:=WJ u8 λi j=>.int (i*j)
def oDiv:=WJ Sx λi j=>.int (i / j)
def oMod:=WJ (λ_ j=>0 < j) λi j=>.int (i % j)
def yu:=WJ O5 λi j=>.int (i ^ j.toNat)
def oLt:=aI λi j=>.bl (decide (i < j))
def oLe:=aI λi j=>.bl (decide (i<=j))
def oGt:=aI λi j=>.bl (decide (j < i))
def oGe:=aI λi j=>.bl (decide (j<=i))
section
def aG.iG:∀{vs:O V}{l:O PV},aG K ι H vs l->(vs=[]↔l=[])
 | _,_,.nil=>by simp
 | _,_,.cons _ _=>by simp
end
mutual
def PV.dat:PV->Bool
 | .tup l=>tS l
 | .ref _=>false
 | .ty _=>false
 | .cl _=>false
 | .dv _ _=>false
 | .ob _ _=>false
 | _=>true
def tS:O PV->Bool
 | []=>true
 | x::l=>x.dat&&tS l
end
end
section
variable{K:Ab}
section
def PV.lj:PV->Bool
 | .aN=>true
 | _=>false
def JX:M2:=⟨λx y h Q=>match y with | .aN=>Q (.bl x.lj) h | _=>False,λf q=>by
 revert q
 split
 ·exact f _ _
 ·exact λz=>z⟩
def Kj{x:PV}(h:VR K ι H v x):decide (v=.aN)=x.lj:=by cases h <;> simp[PV.lj]
def QN:M2.Ok K (λx y H Q=>y=.aN/\Q (.bl (decide (x=.aN))) H) JX:=by
 intro ι H h u v x y Q hr hu hv q;cases hv with
 | aN=>exact⟨rfl,q ι _ H (Go.refl _ _) hr (by rw[Kj hu];exact .bl _)⟩
 | _=>exact q.elim
end
end
end PL
variable{l:O PL.PV}
namespace PL
section
variable{K:Ab}
section
def Mh{v':V}{w:ce}(h:RelV v w)(h':RelV v' w):v=v':=Option.some.inj (h.abs.symm.trans h'.abs)
end
section
variable{c:im}
def mIx(a:MQ)(b:ME):ME:=⟨λps h Q=>a.run ps h λS h1=>b.run ps h1 λy h2=>match y with
 | .int k=>S.ok h2/\match cx S.items k with | some v=>Q v h2 | none=>False
 | _=>False,λf q=>a.mono (λ_ _ q=>b.mono (λ_ _ q=>by
  revert q
  split
  ·rintro⟨q0,q⟩;refine⟨q0,?_⟩;revert q
   split
   ·exact f _ _
   ·exact λz=>z
  ·exact λz=>z) q) q⟩
def aG.cx(r:aG K ι H vs l){k:Int}{p:PV}(e:L2.cx l k=ap p):∃v,L2.cx vs k=ap v/\VR K ι H v p:=by
 unfold L2.cx at e ⊢;rw[r.length];cases z:rf l.length k with
 | none=>rw[z]at e;cases e
 | some j=>
  rw[z]at e;exact r.get e
def JW:M2:=⟨λx y h Q=>match x,y with
 | .str z,.int k=>z.length<=sizeLine/\match L2.cx z.cps.toList k with | some c=>Q (.str ⟨#[c]⟩) h | none=>False
 | _,_=>False,λf q=>by
  revert q
  split
  ·rintro⟨q0,q⟩;refine⟨q0,?_⟩;revert q
   split
   ·exact f _ _
   ·exact λz=>z
  ·exact λz=>z⟩
def QM:M2.Ok K UE JW:=by
 intro ι H h u v x y Q hr hu hv q;unfold JW at q;dsimp only at q;revert q
 split
 ·rename_i z k;rintro⟨q0,q⟩;cases hu;cases hv;cases e:L2.cx z.cps.toList k with
  | none=>rw[e]at q;exact q.elim
  | some c=>rw[e]at q;exact⟨z,k,c,rfl,rfl,q0,e,q ι _ H (Go.refl _ _) hr (.str _)⟩
 ·exact Bm
def cS:uZ:=⟨λl h Q=>match l with
 | [.str y]=>y.length<=sizeLine/\Q (.int y.length) h
 | [.tup l]=>Q (.int l.length) h
 | [.cl l]=>Q (.int l.length) h
 | [.ref n]=>match h[n]? with
  | some (.lst xs)=>Q (.int xs.length) h
  | _=>False
 | _=>False,λf q=>by
  revert q
  split
  ·exact λq=>⟨q.1,f _ _ q.2⟩
  ·exact f _ _
  ·exact f _ _
  ·split
   ·exact f _ _
   ·exact λz=>z
  ·exact λz=>z⟩
def Se(K:Ab):uZ.Ok K (UD K) cS:=by
 intro ι H h vs l Q hr hv q;unfold cS at q;dsimp only at q;revert q
 split
 ·intro q;cases hv with
  | cons x t=>cases t;cases x;exact⟨_,_,rfl,⟨q.1,rfl⟩,q.2 ι _ H (Go.refl _ _) hr (.int _)⟩
 ·intro q;cases hv with
  | cons x t=>
   cases t;cases x with
   | tup e r=>exact⟨_,_,rfl,.inr ⟨_,dz.of e,r.length.symm⟩,q ι _ H (Go.refl _ _) hr (.int _)⟩
 ·intro q;cases hv with
  | cons x t=>
   cases t;cases x with
   | cl e r=>exact⟨_,_,rfl,.inl ⟨_,e.sq,r.length.symm⟩,q ι _ H (Go.refl _ _) hr (.int _)⟩
 ·rename_i n;cases hv with
  | cons x t=>
   cases t;cases x with
   | @ref _ a e=>
   split
   ·rename_i xs hn;intro q;obtain⟨ws,e1,e2⟩:=hr.obj n a _ e hn;exact⟨_,_,rfl,.inl ⟨ws,cT.of e1,e2.length.symm⟩,q ι _ H (Go.refl _ _) hr (.int _)⟩
   ·exact Bm
 ·exact Bm
inductive Kd where
 | str | tup | int | bool
def Kd.name:Kd->String
 | .str=>"str" | .tup=>"tuple" | .int=>"int" | .bool=>"bool"
def Kd.is:Kd->PV->Bool
 | .str,.str _=>true
 | .tup,.tup _=>true
 | .int,.int _=>true
 | .int,.bl _=>true
 | .bool,.bl _=>true
 | _,_=>false
def Yl(K:Ab):O V->Hp->VK->Prop:=λxs H Q=>∃x c t b,xs=[x,.ty c]/\(kX K H x t\/(t=.type "tuple"/\∃a vs,x=.ref a/\dz K H a vs))/\Bq K t (.type c)=ap b/\Q (.bl b) H
def K9(K:Ab)(hK:X.K=K):bJ X (.builtin "isinstance") (Yl K):=by
 subst hK;intro Z s σ H xs us Q I r h;obtain⟨x,c,t,b,rfl,ty | ⟨rfl,a,vs,rfl,hT⟩,e,q⟩:=h
 ·exact pd Z s σ H _ us Q I r ⟨x,c,t,b,rfl,ty,e,q⟩
 ·obtain⟨u,w,rfl,r1,r2⟩:=vals2 r;cases r1;cases r2;obtain⟨ar,_,⟨o,h1,h2,_⟩,_⟩:=I.tuple hT;exact A8 Fc I.tJ ⟨o,h1,h2⟩ e (λz=>nomatch z) λtk=>⟨.bl b,H,I.tok _,rfl,q⟩
def qa(K:Ab):(∀k:Kd,Bq K (.type "NoneType") (.type k.name)=ap false)/\(∀k:Kd,Bq K (.type "list") (.type k.name)=ap false)/\(∀k:Kd,Bq K (.type "dict") (.type k.name)=ap false):=
 ⟨λk=>by cases k <;> kernel_rfl,λk=>by cases k <;> kernel_rfl,λk=>by cases k <;> kernel_rfl⟩
def Vx(K:Ab)(b:Bool)(k:Kd):Bq K (.type "bool") (.type k.name)=ap (k.is (.bl b)):=by cases k <;> kernel_rfl
def Ra(K:Ab)(b:Int)(k:Kd):Bq K (.type "int") (.type k.name)=ap (k.is (.int b)):=by cases k <;> kernel_rfl
def Q9(K:Ab)(b:Str)(k:Kd):Bq K (.type "str") (.type k.name)=ap (k.is (.str b)):=by cases k <;> kernel_rfl
def Q8(K:Ab)(b:O PV)(k:Kd):Bq K (.type "tuple") (.type k.name)=ap (k.is (.tup b)):=by cases k <;> kernel_rfl
def OM:uZ:=⟨λl h Q=>match l with | [.int i]=>Q (.int (if i < 0 then -i else i)) h | _=>False,λf q=>by
 revert q
 split
 ·exact f _ _
 ·exact λz=>z⟩
def Sg:uZ.Ok K (λxs H Q=>∃i,xs=[.int i]/\Q (.int (if i < 0 then -i else i)) H) OM:=by
 intro ι H h vs l Q hr hv q;unfold OM at q;dsimp only at q;revert q
 split
 ·intro q;cases hv with
  | cons x t=>cases t;cases x;exact⟨_,rfl,q ι _ H (Go.refl _ _) hr (.int _)⟩
 ·exact Bm
def xo:uZ:=⟨λl h Q=>match l with | [.int i]=>Q (.int i) h | [.bl k]=>Q (.int (if k then 1 else 0)) h | _=>False,λf q=>by
 revert q
 split
 ·exact f _ _
 ·exact f _ _
 ·exact λz=>z⟩
def Sf:uZ.Ok K (λxs H Q=>(∃i,xs=[.int i]/\Q (.int i) H)\/∃k,xs=[.bl k]/\Q (.int (if k then 1 else 0)) H) xo:=by
 intro ι H h vs l Q hr hv q;unfold xo at q;dsimp only at q;revert q
 split
 ·intro q;cases hv with
  | cons x t=>cases t;cases x;exact .inl ⟨_,rfl,q ι _ H (Go.refl _ _) hr (.int _)⟩
 ·intro q;cases hv with
  | cons x t=>cases t;cases x;exact .inr ⟨_,rfl,q ι _ H (Go.refl _ _) hr (.int _)⟩
 ·exact Bm
def OL:uZ:=⟨λl h Q=>match l with | [.int i,.int j]=>Q (.int (if j > i then j else i)) h | _=>False,λf q=>by
 revert q
 split
 ·exact f _ _
 ·exact λz=>z⟩
def OK:uZ:=⟨λl h Q=>match l with | [.int i,.int j]=>Q (.int (if j < i then j else i)) h | _=>False,λf q=>by
 revert q
 split
 ·exact f _ _
 ·exact λz=>z⟩
def Sd:uZ.Ok K (λxs H Q=>∃i j,xs=[.int i,.int j]/\Q (.int (if j > i then j else i)) H) OL:=by
 intro ι H h vs l Q hr hv q;unfold OL at q;dsimp only at q;revert q
 split
 ·intro q;cases hv with
  | cons x t=>cases t with
   | cons y t=>cases t;cases x;cases y;exact⟨_,_,rfl,q ι _ H (Go.refl _ _) hr (.int _)⟩
 ·exact Bm
def Sb:uZ.Ok K (λxs H Q=>∃i j,xs=[.int i,.int j]/\Q (.int (if j < i then j else i)) H) OK:=by
 intro ι H h vs l Q hr hv q;unfold OK at q;dsimp only at q;revert q
 split
 ·intro q;cases hv with
  | cons x t=>cases t with
   | cons y t=>cases t;cases x;cases y;exact⟨_,_,rfl,q ι _ H (Go.refl _ _) hr (.int _)⟩
 ·exact Bm
end
end
section
variable{K:Ab}
section
def Mk(K:Ab):O V->Hp->VK->Prop:=λxs H Q=>∃p ys,xs=[.ref p]/\((cT K H p ys/\jQ H (.tup ys) Q)\/(dz K H p ys/\Q (.ref p) H))
def K6(K:Ab)(hK:X.K=K):bJ X (.type "tuple") (Mk K):=by
 subst hK;exact tU.mono λxs H Q ⟨p,ys,e,h⟩=>⟨p,ys,e,h.imp (λ⟨h1,h2⟩=>⟨h1,λl hl=>h2.at l hl⟩) λz=>z⟩
theorem uQ:∀{bs:O Bool}{vs:O V},aG K ι H vs (bs.map PV.bl)->vs=bs.map V.bl
 | [],_,h=>by cases h;rfl
 | b::bs,_,h=>by
  cases h with
  | cons x t=>cases x;rw[uQ t];rfl
structure MQL where
 run:xI->PH->(Src->PH->Prop)->Prop
 mono:∀{ps h}{Q Q':Src->PH->Prop},(∀v h',Q v h'->Q' v h')->run ps h Q->run ps h Q'
structure MO where
 run:xI->PH->(Option Int->PH->Prop)->Prop
 mono:∀{ps h}{Q Q':Option Int->PH->Prop},(∀v h',Q v h'->Q' v h')->run ps h Q->run ps h Q'
def PO.imp{e:Option im}{t t':TO}(h:L2.PO X e t)(f:∀σ H Q,t' σ H Q->t σ H Q):L2.PO X e t':=λZ s σ H Q I q=>h Z s σ H Q I (f _ _ _ q)
def nB(xs:O PV)(lo hi:Option Int):O PV:=(xs.drop (HT.dj xs.length 0 lo)).take (HT.dj xs.length xs.length hi-HT.dj xs.length 0 lo)
def aG.cut(r:aG K ι H vs l)(lo hi:Option Int):aG K ι H (xk vs lo hi) (nB l lo hi):=by
 unfold xk nB;rw[r.length];exact(r.drop _).take _
end
end
end PL
variable{tp:Cj}
namespace PL
section
variable{K:Ab}
section
variable{c:im}
def hZ(lo:Int)(n:Nat):O PV:=(AE n).map λ(i:Nat)=>.int (lo+(i:Int))
def kK(lo:Int)(n:Nat):(hZ lo n).length=n:=by unfold hZ;simp
def oA{lo:Int}{p:PV}(h:(hZ lo n)[i]?=ap p):i < n/\p=.int (lo+i):=by
 unfold hZ at h;rw[Ak]at h;cases z:(AE n)[i]? with
 | none=>rw[z]at h;cases h
 | some k=>
  rw[z]at h;obtain⟨h1,h2⟩:=Am.mp z;simp at h1 h2;subst h2;exact⟨h1,(Option.some.inj h).symm⟩
def eS(lo:Int)(n:Nat):O PV:=(AE n).map λ(i:Nat)=>.int (lo-(i:Int))
def uM(lo:Int)(n:Nat):(eS lo n).length=n:=by unfold eS;simp
def uN{lo:Int}{p:PV}(h:(eS lo n)[i]?=ap p):i < n/\p=.int (lo-i):=by
 unfold eS at h;rw[Ak]at h;cases z:(AE n)[i]? with
 | none=>rw[z]at h;cases h
 | some k=>
  rw[z]at h;obtain⟨h1,h2⟩:=Am.mp z;simp at h1 h2;subst h2;exact⟨h1,(Option.some.inj h).symm⟩
def P0(i:Int):Prop:=-(2 ^ 62)<=i/\i < 2 ^ 62
def aaB(m:MA):MI:=⟨λps h Q=>m.run ps h λl h1=>match l with | [.int j]=>P0 j/\Q ⟨hZ 0 j.toNat,λ_=>True,false⟩ h1 | _=>False,λf q=>m.mono (λl h1 q=>by
 revert q
 split
 ·exact λq=>⟨q.1,f _ _ q.2⟩
 ·exact λz=>z) q⟩
def c6(k:Nat):O PV->O PV
 | []=>[]
 | x::l=>.tup [.int (k:Int),x]::c6 (k+1) l
theorem bX:∀(k:Nat) (l:O PV),(c6 k l).length=l.length
 | _,[]=>rfl
 | k,x::l=>by rw[c6,An,An,bX]
theorem fh:∀{k:Nat}{l:O PV}{i:Nat}{p:PV},(c6 k l)[i]?=ap p->∃x,l[i]?=ap x/\p=.tup [.int ((k+i:Nat):Int),x]
 | _,[],_,_,h=>by simp[c6]at h
 | k,x::l,0,p,h=>by simp[c6]at h;subst h;exact⟨x,rfl,by simp⟩
 | k,x::l,i+1,p,h=>by
  obtain⟨y,h1,h2⟩:=fh (k:=k+1) (l:=l) (i:=i) (p:=p) (by simpa[c6]using h);exact⟨y,by simpa using h1,by rw[h2,show k+1+i=k+(i+1) by omega]⟩
def VL(K:Ab)(t1:TE):TI:=λσ H R=>t1 σ H λx H1=>∃a,x=.ref a/\(((∃xs,cT K H1 a xs)/\R (aab K a) H1)\/((∃xs,dz K H1 a xs)/\R (Ite K a) H1))
def Mw{X:Cx}(K:Ab)(hK:X.K=K){e1:im}{t1:TE}(hg:Gl X "enumerate")(hm:X.mg "enumerate"=bn)(h1:PE X e1 t1)
  (zX:gV X e1 []:=by rfl):PI X (.Tuple Î kk tp) (.Call (.Name "enumerate" p1) [e1] [] p2) (VL K t1):=by
 subst hK;intro Z s σ H R I h;refine BC (iT I hg hm boot_enumerate ?_ ⋯ ⋯);refine Bf ?_ zX rfl;rw[zX];refine B8 (bp (h1 Z s σ H _ I h) λu1 s1 ⟨x,H1,I1,r1,a,ex,hh⟩=>Cz ?_);subst ex;cases r1;have d1:s1.heap.objs.size+1≠s1.heap.objs.size:=Nat.succ_ne_self _;rcases hh with⟨⟨xs,hx⟩,q⟩ | ⟨⟨xs,hx⟩,q⟩
 ·obtain⟨ar,rx,tx,_⟩:=I1.list hx;refine call_enumerate_list tx.isList λh' ze hi _ k=>?_;refine C3 ze ?_;refine⟨_,_,_,_,H1,rfl,I1.kept (t':=s1.toks) k,FN d1,⟨⟨_,ze⟩,hi⟩,λc hc=>?_,q⟩;have Ú:s1.heap.objs.size<=c:=by
   simp only[AG,Bk,or_false]at hc;rcases hc with rfl | rfl
   ·exact Bt _ _
   ·exact Ao _
  exact I1.wQ Ú (I1.bj.fresh Ú)
 ·obtain⟨ar,rx,tx,_⟩:=I1.tuple hx;have l1:=let ⟨_,e,_⟩:=tx;Aq e;refine Hw tx λh' ze hi k=>?_;refine C3 ze ?_;refine⟨_,_,_,_,H1,rfl,I1.kept (t':=s1.toks) k,JB d1 (Ay (Az l1 (Bt _ 1))) (Ay l1),⟨⟨_,ze⟩,hi⟩,λc hc=>?_,q⟩;have Ú:s1.heap.objs.size<=c:=by
   simp only[AG,Bk,or_false]at hc;rcases hc with rfl | rfl
   ·exact Bt _ _
   ·exact Ao _
  exact I1.wQ Ú (I1.bj.fresh Ú)
def eM:O PV->O PV->O PV
 | x::l,y::m=>.tup [x,y]::eM l m
 | _,_=>[]
theorem qk:∀{l m:O PV}{i:Nat}{p:PV},(eM l m)[i]?=ap p->∃x y,l[i]?=ap x/\m[i]?=ap y/\p=.tup [x,y]
 | [],m,i,p,h=>by simp[eM]at h
 | x::l,[],i,p,h=>by simp[eM]at h
 | x::l,y::m,0,p,h=>by simp[eM]at h;subst h;exact⟨x,y,rfl,rfl,rfl⟩
 | x::l,y::m,i+1,p,h=>by
  obtain⟨u,w,h1,h2,h3⟩:=qk (l:=l) (m:=m) (i:=i) (p:=p) (by simpa[eM]using h);exact⟨u,w,by simpa using h1,by simpa using h2,h3⟩
end
end
section
variable{K:Ab}
section
def Th:M2:=aI λi j=>.int (i+j)
def YZ{g:Int->Int->Int}:M2.Ok K (ipI g) (aI λi j=>.int (g i j)):=by
 intro ι H h u v x y Q hr hu hv q;unfold aI at q;dsimp only at q;revert q
 split
 ·intro q;cases hu;cases hv;exact⟨_,_,rfl,rfl,q ι _ H (Go.refl _ _) hr (.int _)⟩
 ·exact Bm
end
end
end PL
variable{p3 p4:Cj}
namespace PL
section
variable{K:Ab}
section
structure JC(X:Cx)(K:Ab)(op:CmpOp)(b:im)(m:M2):Prop where
 p:∃r,f6 X (kw op) r/\M2.Ok K r m
 k:nn op b=false
def uz:JC X K .Lt b oLt:=⟨⟨_,YC,zL λ_ _ _ _=>.bl _⟩,lM _⟩
def yW:JC X K .LtE b oLe:=⟨⟨_,YD,zL λ_ _ _ _=>.bl _⟩,lM _⟩
def Tf:JC X K .Gt b oGt:=⟨⟨_,YE,zL λ_ _ _ _=>.bl _⟩,lM _⟩
def YY:JC X K .GtE b oGe:=⟨⟨_,YF,zL λ_ _ _ _=>.bl _⟩,lM _⟩
def GN:JC X K .Is b JX:=⟨⟨_,U9,QN⟩,lM _⟩
def afE:M2:=⟨λx y h Q=>match x,y with | .str i,.str j=>Q (.bl (decide (i.cps.toList < j.cps.toList))) h | _,_=>False,λf q=>by
 revert q
 split
 ·exact f _ _
 ·exact λz=>z⟩
def QO:M2:=⟨λx y h Q=>match x,y with | .str i,.str j=>Q (.bl (!(Builtin.Str.occurrences j i 0 j.length 1).isEmpty)) h | _,_=>False,λf q=>by
 revert q
 split
 ·exact f _ _
 ·exact λz=>z⟩
def VE(hk:nn .In b=false):JC X K .In b QO:=⟨⟨_,JU,by
 intro ι H h u v x y Q hr hu hv q;unfold QO at q;dsimp only at q;revert q
 split
 ·intro q;cases hu;cases hv;exact⟨_,_,rfl,rfl,q ι _ H (Go.refl _ _) hr (.bl _)⟩
 ·exact Bm⟩,hk⟩
end
end
theorem zC:∀{l:O PV},tS l=true↔∀x∈l,x.dat=true
 | []=>by simp[tS]
 | x::l=>by rw[tS,Aw,zC];simp
section
variable{K:Ab}
section
variable{c:im}
def Oc(h:aG K ι H vs l):vs.isEmpty=l.isEmpty:=by cases h <;> rfl
def aG.rep(h:aG K ι H vs l):∀k:Nat,aG K ι H (Al k vs).flatten (Al k l).flatten
 | 0=>.nil
 | k+1=>by
  rw[Bu,Bu,BV,BV];exact h.append (h.rep k)
def Ml:V->O V->Hp->VK->Prop:=λx vs H Q=>∃(l:cr) (ns:O Int) (k:Int),x=.ref l/\vs=[.int k]/\H l=ap (.lst (ns.map V.int))/\k∈ns/\xQ H l (.lst ((ns.erase k).map V.int)) (Q .aN)
theorem ints_get:∀{us:O ce}{ns:O Int},wE us ns->∀(i:Nat) (hi:i < us.length),∃n t,ns[i]?=ap n/\us[i]=.int n t
 | _,_,.nil,i,hi=>by simp at hi
 | _,_,.cons _ _ r,i,hi=>by
  cases i with
  | zero=>exact⟨_,_,rfl,rfl⟩
  | succ i=>exact ints_get r i (by simpa using hi)
theorem Nx{k:Int}:∀{ns:O Int}{m:Nat},ns[m]?=ap k->ns.idxOf k<=m
 | [],m,h=>by simp at h
 | a::ns,0,h=>by
  have:a=k:=by simpa using h
  subst this;simp
 | a::ns,m+1,h=>by
  have:=Nx (ns:=ns) (m:=m) (by simpa using h);rw[List.idxOf_cons];by_cases c:a=k
  ·have:(a==k)=true:=by simpa using c
   rw[this];exact Bn _
  ·have c2:(a==k)=false:=by simpa using c
   rw[c2];exact Nat.succ_le_succ this
theorem uJ(f:α->β):∀(l:List α) (j:Nat),(l.eraseIdx j).map f=(l.map f).eraseIdx j
 | [],_=>rfl
 | a::l,0=>rfl
 | a::l,j+1=>by
  show f a::(l.eraseIdx j).map f=f a::(l.map f).eraseIdx j;rw[uJ f l j]
def isK(k:Int):ce->Bool
 | .int a _=>a==k
 | _=>false
def sW(r:Vals vs us):∀j,Vals (vs.eraseIdx j) (us.eraseIdx j):=by
 induction r with
 | nil=>intro j;exact .nil
 | cons h r ih=>
  intro j;cases j with
  | zero=>exact r
  | succ j=>exact .cons h (ih j)
theorem Gf:LD X "list.remove" Ml:=by
 intro Z s σ H x vs v us Q I rx rv h;obtain⟨l,ns,k,rfl,rfl,hH,hk,q⟩:=h;cases rx;obtain⟨u,rfl,ru⟩:=rv.one;obtain⟨t,rfl⟩:=ru;obtain⟨z,ar,n,r,hl,e⟩:=I.og hH;have hi:=intsAre_of r;have Á:ns.length=ar.length:=by rw[Aj]at hl;omega
 have hj:=Bg hk;have hej:ns.erase k=ns.eraseIdx (ns.idxOf k):=by rw[List.erase_eq_eraseIdx_of_idxOf rfl]
 refine wf F.slot_list_remove ⟨_,e,rfl⟩ F.entry_list_remove (F.args_list_remove_2 _ _) (MeetsSeq.list_remove l ar.toArray n (.int k t) (isK k) (λy hy=>?_) (ns.idxOf k) (by rw[Ai];omega) ?_ (λm hm lq=>?_) (by rw[Ai];omega)) ⟨e,?_⟩
 ·have VN:y∈ar:=by simpa using hy
  obtain⟨i,Zl⟩:=EZ VN;obtain⟨h1,h2⟩:=Am.mp Zl;obtain⟨n',t',g1,g2⟩:=ints_get hi i h1;rw[<- h2,g2];exact MeetsSeq.EqGives.int _ _ _ _
 ·have h1:ns.idxOf k < ar.length:=by omega
  obtain⟨n',t',g1,g2⟩:=ints_get hi (ns.idxOf k) h1;have g3:ns[ns.idxOf k]?=ap k:=by rw[Ae hj,List.getElem_idxOf hj]
  rw[g3]at g1;cases g1;rw[Dv,g2];simp[isK]
 ·have h1:m < ar.length:=by rw[Ai]at hm;exact hm
  obtain⟨n',t',g1,g2⟩:=ints_get hi m h1;rw[Dv,g2];have:n'≠k:=λz=>by
   subst z;have:=Nx g1;omega
  simp[isK,this]
 ·refine⟨.aN,_,I.Gq (its':=ar.eraseIdx (ns.idxOf k)) (ys:=(ns.erase k).map V.int) hH e (by simp[Array.toList_eraseIdxIfInBounds,<- Eo]) ?_ ?_,rfl,q.at⟩
  ·rw[hej,uJ];exact sW r _
  ·rw[hej,Aj,List.length_eraseIdx]
   split <;> omega
theorem m4:∀{ns:O Int}{vs:O V},aG K ι H vs (ns.map PV.int)->vs=ns.map V.int
 | [],_,h=>by cases h;rfl
 | b::bs,_,h=>by
  cases h with
  | cons x t=>cases x;rw[m4 t];rfl
theorem m5(ι:O cr)(H:Hp):∀ns:O Int,aG K ι H (ns.map V.int) (ns.map PV.int)
 | []=>.nil
 | n::ns=>.cons (.int n) (m5 ι H ns)
def UA(K:Ab):O V->Hp->VK->Prop:=λxs H Q=>∃(p:cr) (ns:O Int),xs=[.ref p]/\cT K H p (ns.map V.int)/\ns.length < 64/\∀ms:O Int,ms.Perm ns->ms.Pairwise (·<=·)->jQ H (.lst (ms.map V.int)) Q
theorem Ht(K:Ab)(hK:X.K=K):bJ X (.builtin "sorted") (UA K):=by
 subst hK;intro Z s σ H xs us Q I r h;obtain⟨p,ns,rfl,hq,Zu,q⟩:=h;obtain⟨u,rfl,rx⟩:=vals1 r;cases rx;obtain⟨ar,r',pl,hz⟩:=I.list hq;have hi:=intsAre_of r';have hl:=r'.length;rw[Aj]at hl hz;refine PyProof.Rows.sorted_ints pl.isList hi ∅ λout ms a1 a2 a3=>?_;obtain⟨e,he⟩:=sortedAll_at s.heap ar out;refine⟨.ref (s.heap.objs.size+1),_,I.laid (t':=s.toks) (λ_ _=>sortedAll_old) (EW _) (show aY X.prog X.w _ _ _ (.lst (ms.map V.int)) from⟨?_,out.toList,e,nS a1,?_⟩),rfl,(q ms a2 a3).at _ (I.bj.fresh (EW _))⟩
 ·rw[Aj,a2.length_eq];exact hz
 ·rw[Array.toArray_toList];exact he
end
end
end PL
variable{xs:Array A5}{a:BG}{o:Fu}
namespace L2
def lS{name:Str}{Q:Option ce->db->Prop}
  (hx:s.heap.get? a=ap o) (hc:o.cls=.type "list") (m7:o.data=.seq xs k) (hd:o.dict=bn) (Ze:FB (.type "list") name=pure bn) (Zd:(["__module__","__name__","__qualname__","__doc__","__annotations__"]:O Str).contains name=false) (hA:A.handled=bn)
  (h:∀h' tk e,Heap.NewExcOf s.heap h' e "AttributeError"->Q bn {s with heap:=h',toks:=tk}) (hsz:name.length+100<=sizeLine:=by size_fits) :
  ev (f8 prog w) A (getAttr? (.ref a) name) Q E s:=by
 obtain⟨c,dct,dat,sl⟩:=o;simp only at hc m7 hd;subst hc m7 hd;obtain⟨hp,g,d,tk,os⟩:=s;have hT:∀ä,(⟨hp,g,d,ä,os⟩:db).TypeIs (.ref a) "list":=λ_=>⟨_,hx,rfl⟩;have f1:=sub_AttributeError;have f3:=CO.lookup;have f4:=CO.bind (.ref a);have f5:=am_list_getattr_none
 repeat (any_goals (first | assumption | exact hT _ | ((with_reducible show ev _ _ (call (Value.builtin "list.__getattribute__") _ _) _ _ _);refine wf CO (hT _) am_entry_list_getattribute (F.args_list_getattribute_2 _ _) (meets_getattribute_miss_list a xs k sl name _ Ze Zd hsz) ⟨hx,hA,λh' ä e uC=>?_⟩) | wp_step))
 obtain⟨t',u',he⟩:=uC.there;unfold getattributeRaised
 repeat (any_goals (first | assumption | wp_step))
 exact h _ _ _ uC.of
end L2
variable{b d:BG}{v:A5}
namespace L2
def gE:entryFor table "dict.update.loop"=ap wP.«dict.update.loop»:=entryFor_of_fast (by kernel_rfl)
def gn:plainId "dict.update.loop"=true:=by decide +kernel
section
variable{K:Type}[DecidableEq K]{knd:KeyKind prog w K}
def xE(knd:KeyKind prog w K)(h:mo)(it d:cr)(v:ce)(x:O K×cr×ce):Prop:=
 ∃pa o n,v=.ref pa/\pa≠it/\pa≠d/\x.2.1≠it/\x.2.1≠d/\h.get? pa=ap o/\o.cls=.type "tuple"/\o.data=.seq #[.ref x.2.1,x.2.2] n/\(lw knd).is h x.1 x.2.1
def ve{k:O K}(x:(lw knd).is h k b)(kp:∀o,h.get? b=ap o->h'.get? b=ap o):(lw knd).is h' k b:=by
 obtain⟨o,ar,n,h1,h2⟩:=x;exact⟨o,ar,n,kp _ h1,h2⟩
def xE.keep{x:O K×cr×ce}(p:xE knd h it d v x)(kp:∀b o,b≠it->b≠d->h.get? b=ap o->h'.get? b=ap o):xE knd h' it d v x:=by
 obtain⟨pa,o,n,e,n1,n2,n3,n4,h1,h2,h3,h4⟩:=p;exact⟨pa,o,n,e,n1,n2,n3,n4,kp _ _ n1 n2 h1,h2,h3,ve h4 λo q=>kp _ _ n3 n4 q⟩
def xg{xs:O (O K×cr×ce)}(m:h.DictOfH (lw knd) d xs)(hd:d≠it)(hx:∀x∈xs,x.2.1≠it)(kp:∀b o,b≠it->h.get? b=ap o->h'.get? b=ap o):h'.DictOfH (lw knd) d xs:=by
 obtain⟨o,es,ep,ho,hc,ę,he,his,hn⟩:=m;exact⟨o,es,ep,kp _ _ hd ho,hc,ę,he,λx q=>ve (his x q) λo z=>kp _ _ (hx x q) z,hn⟩
def xV{xs:O (O K×cr×ce)}{k:O K}(hx:∀x∈xs,x.2.1≠it)(hb:b≠it):∀x∈Fa xs k b v,x.2.1≠it:=by
 intro x q;unfold Fa at q
 split at q
 ·obtain⟨y,hy,rfl⟩:=Av.mp q;have e:(putAt k v y).2.1=y.2.1:=by unfold putAt;split <;> rfl
  rw[e];exact hx y hy
 ·rcases Ba.mp q with q | q
  ·exact hx x q
  ·rw[AX.mp q];exact hb
def xW{xs:O (O K×cr×ce)}{k:O K}:(Fa xs k b v).length<=xs.length+1:=by
 unfold Fa
 split <;> simp
theorem xP(hA:A.handled=bn)(hu:A.units+1 < pc){l:cr}(hz:items.size+items.size<=sizeLine)(Ę:d≠it)(hli:l≠it)(hld:l≠d) :
  ∀(k i:Nat) (ys xs:O (O K×cr×ce)) (s:db),items.size-i=k->i<=items.size->ys.length=items.size-i->xs.length<=i->s.heap.IsListIter it l i->s.heap.IsList l items->s.heap.DictOfH (lw knd) d xs->(∀x∈xs,x.2.1≠it)->
   (∀j x,ys[j]?=ap x->∃v,items[i+j]?=ap v/\xE knd s.heap it d v x)->
   (∀h' tk,h'.DictOfH (lw knd) d (ys.foldl (λa y=>Fa a y.1 y.2.1 y.2.2) xs)->(∀b o,b≠it->b≠d->s.heap.get? b=ap o->h'.get? b=ap o)->R (.ok (.ret .none)) {s with heap:=h',toks:=tk})->
   FM (f8 prog w) A (.builtin "dict.update.loop" ⟨[.ref d,.ref it,t0 i,.none],[]⟩) R s:=by
 intro k
 induction k with
 | zero=>
  intro i ys xs s hk hi hy hxl Ø hl hd hx hp q;have e0:ys=[]:=Cq ∅;subst e0;refine codeAny_builtin gE ?_;refine Aa (wpAny_pyNext_list_end (A:=A.in1) hA Ø hl (by rw[EA];omega) λh' ex=>?_);have kp:=ex;exact Aa (Af (Af (q h' s.toks (xg hd Ę hx kp) λb o n1 _ e=>kp b o n1 e)))
 | succ k ih=>
  intro i ys xs s hk hi hy hxl Ø hl hd hx hp q
  match ys,hy,hp,q with
  | [],hy,_,_=>exact absurd hy (by simp only[A1];omega)
  | y::ys,hy,hp,q=>
  obtain⟨v,hv,pa⟩:=hp 0 y rfl;refine codeAny_builtin gE ?_;refine Aa (wpAny_pyNext_list_item Ø hl (by simpa using hv) λh1 acS sb=>?_);have Q7:∀b o,b≠it->s.heap.get? b=ap o->h1.get? b=ap o:=λb o hb e=>(sb.2 b hb).trans e;have pa1:=pa.keep λb o n1 _ e=>Q7 b o n1 e;have hd1:=xg hd Ę hx Q7;have Ĕ:h1.IsList l items:=let ⟨o,e,p⟩:=hl;⟨o,Q7 _ _ hli e,p⟩;obtain⟨p,o,n,rfl,n1,n2,n3,n4,g1,g2,g3,g4⟩:=pa1;refine Aa (A6 (Aa (wpAny_tryCatch ?_)));refine Aa (Ce (T:="tuple") ⟨_,g1,g2⟩ ?_);refine Aa (Bx g1 g3 (Af ?_));refine A6 (wpAny_dictSet_heap (knd:=lw knd) (Da hu) g4 hd1 (λh2 Ó sb2=>?_) ∅);have Ć:∀b o,b≠d->h1.get? b=ap o->h2.get? b=ap o:=λb o hb e=>(sb2.2 b hb).trans e;refine Af ⟨plainId_quiet gn _,?_⟩;have kp:∀b o,b≠it->b≠d->s.heap.get? b=ap o->h2.get? b=ap o:=λb o a1 a2 e=>Ć _ _ a2 (Q7 _ _ a1 e);refine ih (i+1) ys (Fa xs y.1 y.2.1 y.2.2) _ ∅ ∅ (by rw[An]at hy;omega) (Bp xW ∅) ?_ ?_ Ó (xV hx n3) (λj x hj=>?_) (λh' tk dd k3=>?_)
  ·obtain⟨o',e1,e2⟩:=acS;exact⟨o',Ć _ _ (BI Ę) e1,e2⟩
  ·obtain⟨o',e1,e2⟩:=Ĕ;exact⟨o',Ć _ _ hld e1,e2⟩
  ·obtain⟨v',h3,h4⟩:=hp (j+1) x hj;exact⟨v',by rw[show i+1+j=i+(j+1) by omega];exact h3,h4.keep kp⟩
  ·exact q h' tk dd λb o a1 a2 e=>k3 b o a1 a2 (kp b o a1 a2 e)
end
def vX:FB (.type "list") (Cd "keys")=pure bn:=am_miss_of_fast (by decide +kernel)
section
variable{K:Type}[DecidableEq K]{knd:KeyKind prog w K}
theorem pN{l:cr}{ys:O (O K×cr×ce)}(hA:A.handled=bn)(hu:A.units+2 < pc)(ho:s.heap.get? l=ap o)(hc:o.cls=.type "list")(m7:o.data=.seq items n)(hd:o.dict=bn)
  (hz:items.size+items.size<=sizeLine) (hy:ys.length=items.size)
  (hp:∀(j:Nat) (x:O K×cr×ce),ys[j]?=ap x->∃(pa:cr) (op:Obj) (m:Nat),items[j]?=ap (Ax pa)/\s.heap.get? pa=ap op/\op.cls=.type "tuple"/\op.data=.seq #[Ax x.2.1,x.2.2] m/\(lw knd).is s.heap x.1 x.2.1)
  (q:∀h' tk,(∀b o,s.heap.get? b=ap o->h'.get? b=ap o)->h'.DictOfH (lw knd) s.heap.objs.size (ys.foldl (λa y=>Fa a y.1 y.2.1 y.2.2) [])->Q (.ref s.heap.objs.size) {s with heap:=h',toks:=tk}) :
  ev (f8 prog w) A (call (.type "dict") [.ref l]) Q E s:=by
 refine callType_codes (Q₁:=λobj s₁=>obj=.ref s.heap.objs.size/\s₁={s with heap:=s.heap.push {cls:=.type "dict",data:=.dict #[]}}) F.kt_called_dict (F.kt_typeCall_dict_1 _) F.entry_dict_init (kt_code_dict_new _ ⟨rfl,rfl⟩) ?_;rintro obj s₁ ⟨rfl,rfl⟩;have ë:∀b o,s.heap.get? b=ap o->(s.heap.push {cls:=.type "dict",data:=.dict #[]}).get? b=ap o:=λb o e=>Ah _ e;have Rz:(s.heap.push {cls:=.type "dict",data:=.dict #[]}).DictOf knd s.heap.objs.size []:=Heap.DictOf.new s.heap;have Zc:(s.heap.push {cls:=.type "dict",data:=.dict #[]}).DictOfH (lw knd) s.heap.objs.size []:=⟨_,#[],0,Ap _ rfl,⟨rfl,rfl,rfl⟩,rfl,rfl,λx hx=>absurd hx (Bk),EY⟩;have ls:∀b o,s.heap.get? b=ap o->b≠s.heap.objs.size:=λb o e z=>by subst z;exact A2 _ (Aq e)
 refine⟨Rz.typeIs,F.args_dict_init_2 _ _,?_⟩;refine Aa ?_;refine Aa (wpAny_notOrdered_dict Rz.typeIs ?_);refine Af ?_;refine Aa (Ce (T:="list") ⟨_,ë _ _ ho,hc⟩ ?_);refine Aa (lS (ë _ _ ho) hc m7 hd vX (by decide +kernel) hA (λh1 tk e nx=>?_) ⋯);refine Aa (CD (Aa ?_));refine C2 (items:=items) ⟨_,nx.keeps _ _ (ë _ _ ho),hc,n,m7⟩ ?_;have hsz:=Aq (nx.keeps _ _ (Ap s.heap rfl));have Q7:∀b o,s.heap.get? b=ap o->(h1.push {cls:=.type "list_iterator",data:=.fields #[.ref l,.int 0 0]}).get? b=ap o:=λb o e=>Ah _ (nx.keeps _ _ (ë _ _ e));have ni:∀b o,s.heap.get? b=ap o->b≠h1.objs.size:=λb o e z=>by
  have h3:=Aq e;subst z;exact A2 _ (Nat.lt_trans h3 hsz)
 refine Af ⟨plainId_quiet gn _,?_⟩;refine xP (A:=A.in1) (knd:=knd) hA (by show A.units+1+1 < _;omega) (items:=items) (d:=s.heap.objs.size) (it:=h1.objs.size) (l:=l) hz (Ay hsz) (ni _ _ ho) (ls _ _ ho) items.size 0 ys [] _ (Fj _) (Bn _) (by rw[hy];rfl) (Ao _)
  ⟨_,Ap _ rfl,rfl,rfl⟩ ⟨_,Q7 _ _ ho,hc,n,m7⟩ ?_ (λx hx=>nomatch hx) (λj x hj=>?_) (λh' ä dd kp=>?_)
 ·refine xg (it:=h1.objs.size) Zc (Ay hsz) (λx hx=>nomatch hx) λb o _ e=>Ah _ (nx.keeps _ _ e)
 ·obtain⟨pa,op,m,e1,e2,e3,e4,e5⟩:=hp j x hj;have kb:∃ob,s.heap.get? x.2.1=ap ob:=let ⟨ob,_,_,z,_⟩:=e5;⟨ob,z⟩;obtain⟨ob,eb⟩:=kb;exact⟨.ref pa,by rw[AJ];exact e1,pa,op,m,rfl,ni _ _ e2,ls _ _ e2,ni _ _ eb,ls _ _ eb,Q7 _ _ e2,e3,e4,ve e5 λo z=>Q7 _ _ z⟩
 ·exact⟨rfl,q h' ä (λb o e=>kp b o (ni _ _ e) (ls _ _ e) (Q7 _ _ e)) dd⟩
end
structure Pz where
 pa:cr
 k:List Key
 b:cr
 v:V
def Pz.At(H:Hp)(z:Pz):Prop:=H z.pa=ap (.tup [.ref z.b,z.v])/\H z.b=ap (.tup (z.k.map kV))
def UH(K:Ab):O V->Hp->VK->Prop:=λxs H Q=>∃(p:cr) (zs:O Pz),xs=[.ref p]/\cT K H p (zs.map λz=>.ref z.pa)/\(∀z∈zs,z.At H)/\(zs.map (·.k)).Nodup/\zs.length<=1000/\jQ H (.dT (zs.map λz=>(z.k,z.v))) Q
theorem o5{K:Type}[DecidableEq K]:∀(ys xs:O (K×cr×ce)),((xs++ys).map (·.1)).Nodup->ys.foldl (λa y=>Fa a y.1 y.2.1 y.2.2) xs=xs++ys
 | [],xs,_=>by simp
 | y::ys,xs,h=>by
  have hn:atKey xs y.1=bn:=by
   cases e:atKey xs y.1 with
   | none=>rfl
   | some p=>
    exfalso;rw[AY,Au]at h;have h2:=(C8.mp h).2.2;have hm:y.1∈xs.map (·.1):=by
     by_cases hc:y.1∈xs.map (·.1)
     ·exact hc
     ·rw[atKey_none_of_get (λj q hj=>?_)]at e
      ·cases e
      ·exact hc (Av.mpr ⟨_,BR hj,rfl⟩)
    exact h2 _ hm _ Br rfl
  rw[List.foldl_cons,storedH_new hn,o5 ys (xs++[(y.1,y.2.1,y.2.2)]) (by simpa using h)];simp
section
theorem Hx(K:Ab)(hK:X.K=K)(hc:X.calm=true)(hu:X.A.units+2 < pc):bJ X (.type "dict") (UH K):=by
 subst hK;intro Z s σ H xs us Q I r h;obtain⟨p,zs,rfl,hq,hz,hn,hl,q⟩:=h;obtain⟨u,rfl,rx⟩:=vals1 r;cases rx;obtain⟨ar,rv,pl,hsz⟩:=I.list hq;obtain⟨o,n,ho,Pd,hd,m7⟩:=pl;have ã:∀(zs:O Pz) (ar:O ce),(∀z∈zs,z.At H)->Vals (zs.map λz=>V.ref z.pa) ar->∃ys:O (O Key×cr×ce),ys.map (·.1)=zs.map (·.k)/\KT H (zs.map λz=>(z.k,z.v)) ys/\
   ∀(j:Nat) (x:O Key×cr×ce),ys[j]?=ap x->∃(pa:cr) (op:Obj) (m:Nat),ar[j]?=ap (Ax pa)/\s.heap.get? pa=ap op/\op.cls=.type "tuple"/\op.data=.seq #[Ax x.2.1,x.2.2] m/\(lw (bG X.prog X.w)).is s.heap x.1 x.2.1:=by
  intro zs
  induction zs with
  | nil=>intro ar _ _;exact⟨[],rfl,.nil,λj x h=>by simp at h⟩
  | cons z zs ih=>
   intro ar ha hv;cases hv with
   | @cons _ u _ us ru rus=>
   cases ru;obtain⟨ys,e1,e2,e3⟩:=ih us (λy hy=>ha y (AM _ hy)) rus;obtain⟨a1,a2⟩:=ha z Br;obtain⟨_,its',r',op,h1,h2,m,h3⟩:=(show aY X.prog X.w H s.heap z.pa (.tup [.ref z.b,z.v]) from I.bj _ _ a1);obtain⟨w,rfl,yb⟩:∃w,its'=[Ax z.b,w]/\RelV z.v w:=by
    cases r' with
    | cons q1 q2=>cases q1;cases q2 with
     | cons q3 q4=>cases q4;exact⟨_,rfl,q3⟩
   refine⟨(z.k,z.b,w)::ys,by rw[Au,Au,e1],.cons ⟨rfl,a2,yb⟩ e2,λj x hj=>?_⟩;cases j with
   | zero=>
    cases hj;exact⟨z.pa,op,m,rfl,h1,h2,h3,qX I.bj a2⟩
   | succ j=>exact e3 j x hj
 obtain⟨ys,e1,e2,e3⟩:=ã zs ar hz rv;have Á:=rv.length;rw[Aj]at Á;have í:ys.length=zs.length:=by have:=congrArg B4 e1;simpa using this
 have hs:(1000:Nat)+1000<=sizeLine:=by decide
 refine pN (knd:=bG X.prog X.w) (items:=ar.toArray) (ys:=ys) (I.ok.hd hc) hu ho Pd m7 hd (by rw[Ai];omega) (by rw[Ai];omega) (λj x hj=>?_) (λh' tk kp dd=>?_)
 ·obtain⟨pa,op,m,g1,g2⟩:=e3 j x hj;exact⟨pa,op,m,by rw[EL];exact g1,g2⟩
 ·rw[o5 ys [] (by rw[EI,e1];exact hn),EI]at dd;obtain⟨od,es,ep,ð,h2,h3,h4,_,h5⟩:=dd;have ac0:=beq_eq_false_iff_ne.mpr (BI (Ay I.big));have fr:=I.bj.fresh (Ao s.heap.objs.size);refine⟨.ref s.heap.objs.size,_,I.laid (t':=tk) kp (Ao _) (show aY X.prog X.w (upd H s.heap.objs.size (.dT (zs.map λz=>(z.k,z.v)))) h' _ (.dT _) from⟨?_,ac0,ys,?_,od,es,ep,ð,h2,h3,h4,h5⟩),rfl,q.at _ fr⟩
  ·rw[Aj];exact Bp hl ⋯
  ·refine e2.keeps λc xs ec=>?_;rw[au (λz=>by subst z;rw[fr]at ec;cases ec)];exact ec
end
end L2
variable{es:Array PySem.DictEntry}{ep:Nat}
namespace L2
section
def Sm(h:mo)(d:cr)(es:Array DictEntry)(ep:Nat):Prop:=∃o,h.get? d=ap o/\o.ExactDict/\o.data=.dict es ep
theorem MU{Q:Option ce->db->Prop}(Ø:s.heap.IsKeyIter it d i es.size ep)(hm:Sm s.heap d es ep)(hi:i < es.size)
  (q:∀h',h'.IsKeyIter it d (i+1) es.size ep->B3 it s.heap h'->Q (ap es[i].key) {s with heap:=h'}):ev (f8 prog w) A (pyNext (.ref it)) Q E s:=by
 have ty:=Ø.typeIs;obtain⟨o,ho,hc,hd⟩:=id Ø;obtain⟨od,Ry,-,RB⟩:=hm;have Zj:(s.heap.update it (Obj.mapFields (·.setIfInBounds 1 (t0 ((i:Int)+1))))).IsKeyIter it d (i+1) es.size ep:=⟨_,Cv _ ho (EK (CU hd _)),(Obj.cls_mapFields ..).trans hc,by rw[CU hd];simp[t0]⟩;refine Aa (CP (AR (name:=Cd "__next__") ty Bz (A9 Bz ty Dn ?_ (Df _))));refine Aa (Af (Aa (Aa ?_)))
 first | refine Aa (BQ ty (Af ?_)) | refine Aa (Cg ty (Af ?_))
 refine Aa (wpAny_fieldsOf ho hd ?_);show ev _ _ (if (Ax d==AN)=true then _ else _) _ _ s;rw[if_neg (λz:(Ax d==AN)=true=>AQ z)];refine Aa (Af (Aa (Ea Ry RB ?_)));rw[if_neg (by simp)];refine Aa (Af (Aa (EG Ry RB ?_)));rw[if_neg (by simp)];refine Af ?_;have i0:¬((i:Int) < 0):=by omega
 simp only[i0,if_false,Bc,CI hi];refine Aa ?_
 first | refine Aa (BQ ty (Af ?_)) | refine Aa (Cg ty (Af ?_))
 refine Aa (wpAny_isOneOf_keyiter ty ?_);show ev _ _ (wv (.ref it) 1 (t0 ((i:Int)+1)) >>= _) _ _ s;refine Aa (DY ho hd (by simp) (Aa (A6 (Aa (wpAny_isOneOf_keyiter (s:={s with heap:=s.heap.update it (Obj.mapFields (·.setIfInBounds 1 (t0 ((i:Int)+1))))}) Zj.typeIs ?_)))));exact Af (Af ⟨_,rfl,Af (q _ Zj (B3.update ..))⟩)
theorem RV{Q:Option ce->db->Prop}(hh:A.handled=bn)(Ø:s.heap.IsKeyIter it d i es.size ep)(hm:Sm s.heap d es ep)(hi:es.size<=i)
  (q:∀h',Fw it s.heap h'->Q bn {s with heap:=h'}):ev (f8 prog w) A (pyNext (.ref it)) Q E s:=by
 have ty:=Ø.typeIs;obtain⟨o,ho,hc,hd⟩:=id Ø;obtain⟨od,Ry,-,RB⟩:=hm;refine Aa (CP (AR (name:=Cd "__next__") ty Bz (A9 Bz ty Dn ?_ (Df _))));refine Aa (Af (Aa (Aa ?_)))
 first | refine Aa (BQ ty (Af ?_)) | refine Aa (Cg ty (Af ?_))
 refine Aa (wpAny_fieldsOf ho hd ?_);show ev _ _ (if (Ax d==AN)=true then _ else _) _ _ s;rw[if_neg (λz:(Ax d==AN)=true=>AQ z)];refine Aa (Af (Aa (Ea Ry RB ?_)));rw[if_neg (by simp)];refine Aa (Af (Aa (EG Ry RB ?_)));rw[if_neg (by simp)];refine Af ?_;have i0:¬((i:Int) < 0):=by omega
 simp only[i0,if_false,Bc,EA hi];refine Aa ?_
 first | refine Aa (BQ ty (Af ?_)) | refine Aa (Cg ty (Af ?_))
 show ev _ _ (wv (.ref it) 0 .none >>= _) _ _ s;refine Aa (DY ho hd (by simp) ?_);refine Aa ?_;refine Aa (Bb (Aa (m:=firstArgMember _ _) (Cp (a:=AN) (by first | rfl | (simp only[firstArgMember];rfl)) (Bb ?_ (by size_fits)))) (by size_fits));unfold raiseNew;refine Aa (wpAny_handled ?_);rw[show A.in1.handled=bn from hh];refine Aa (Af (wpAny_throw ?_));refine Aa (Dh (T:="StopIteration") (b:=true) ⟨_,Ap _ rfl,rfl⟩ isSubtype_stop ?_);exact Af (q _ (((B3.update ..).extBut.push _).push _))
def Nv(hs:(d==sK)=false)(hm:Sm s.heap d es ep)
  (q:Q (.ref s.heap.objs.size) {s with heap:=s.heap.push {cls:=.type "dict_keyiterator",data:=.fields #[.ref d,.int 0 0,.int es.size 0,.int ep 0]}}):ev (f8 prog w) A (pyIter (.ref d)) Q E s:=by
 obtain⟨od,Ry,hx,RB⟩:=hm;have ty:s.TypeIs (.ref d) "dict":=⟨_,Ry,hx.1⟩;refine wpAny_pyIter_slot ty F.slot_dict_iter (A9 F.slot_dict_iter ty F.entry_dict_iter ?_ (F.args_dict_iter_1 _));refine Aa ?_;refine Aa (wpAny_notOrdered_dict ty ?_);refine Af ?_;show ev _ _ (Builtin.Dict.showsAll d >>= _) _ _ s;unfold Builtin.Dict.showsAll;rw[if_neg (by rw[hs];exact AQ)];refine Aa (Af (Aa (Ea Ry RB (Aa (EG Ry RB ?_)))));exact Aa (Bb (Af ⟨_,rfl,"dict_keyiterator",_,⟨_,Ap _ rfl,rfl⟩,Bz.lookup,q⟩))
end
end L2
variable{u:L2.HO}
namespace L2
section
variable{σ:St}
def Inv.freeze(I:Inv X Z σ H s)(e:H a=ap (.dT kvs)):∃o,Inv X Z σ (upd H a (.cz o (.dT kvs))) s:=by
 obtain⟨z,hs,xs,r,o,es,ep,h1,h2,h3,h4,h5⟩:=(show aY X.prog X.w H s.heap a (.dT kvs) from I.bj a _ e);refine⟨o,?_⟩;have q:=I.write (x:=a) (e:=a) (o:=.cz o (.dT kvs)) (h':=s.heap) (t':=s.toks) (by rw[e];exact B6) (.inl rfl) (λb u _ z=>z) ⟨o,h1⟩
  ⟨h1,z,hs,xs,KT.keeps r λb ys eb=>by rw[au (IE eb e (λz=>nomatch z))];exact eb,o,es,ep,h1,h2,h3,h4,h5⟩
 exact q
def Inv.Ud(I:Inv X Z σ H s)(e:H a=ap (.cz o u))(h0:∀o u,X.H₀ a≠ap (.cz o u))(hu:aY X.prog X.w (upd H a u) s.heap a u)(bj:kj X.prog X.w (upd H a u) s.heap):Inv X Z σ (upd H a u) s:=by
 have ne:∀b v,H b=v->v≠ap (.cz o u)->b≠a:=λb v q n z=>by subst z;exact n (q.symm.trans e)
 refine⟨I.ok,I.os,I.bare,⟨I.base.keep,I.base.slot,λb ob q n hx=>?_,I.base.there,λb xs q=>?_,λb ob xs q=>?_,λb ps q=>?_⟩,I.loc,I.cell,?_,λx c q=>?_,λp hp=>?_,bj,I.len⟩
 ·have:=I.base.free b ob q n hx;rw[au (ne b _ this (by simp))];exact this
 ·have:=I.base.dc b xs q;rw[au (ne b _ this (by simp))];exact this
 ·have:=I.base.rJ b ob xs q;have hb:b≠a:=λz=>by subst z;exact h0 _ _ q
  rw[au hb];exact this
 ·obtain⟨m,this⟩:=I.base.vf b ps q;exact⟨m,by rw[au (ne b _ this (by simp))];exact this⟩
 ·rw[au (ne _ _ I.free (by simp))];exact I.free
 ·rw[au (ne _ _ (I.jy x c q) (by simp))];exact I.jy x c q
 ·obtain⟨p1,p2,p3⟩:=I.pin p hp;exact⟨p1,by rw[au (ne _ _ p2 (by simp))];exact p2,p3⟩
def NA(ok:kj P w H h)(e:H a=ap (.cz o u)):kj P w (upd H a u) h:=λb u' q=>by
 have ne:∀c v,H c=ap v->v≠.cz o u->upd H a u c=ap v:=λc v z n=>by
  rw[au (λy=>by subst y;rw[e]at z;cases z;exact n rfl)];exact z
 by_cases hb:b=a
 ·subst hb;rw[aO]at q;cases q;exact aY.vi (ok b _ e).2 (λ_ _ _ z=>z) (λc z=>ne c _ z (by simp)) λc xs z=>ne c _ z (by simp)
 ·rw[au hb]at q;exact aY.vi (ok b _ q) (λ_ _ _ z=>z) (λc z=>ne c _ z (by simp)) λc xs z=>ne c _ z (by simp)
end
def aac(a:cr)(o:Obj):It:=
 ⟨λi H=>∃kvs,H a=ap (.cz o (.dT kvs))/\i < kvs.length,λi H x H'=>H'=H/\∀kvs,H a=ap (.cz o (.dT kvs))->∃b k v,x=.ref b/\kvs[i]?=ap (k,v)/\H b=ap (.tup (k.map kV)),λi H=>∃kvs,H a=ap (.cz o (.dT kvs))/\kvs.length<=i⟩
theorem NR(x:aY P w H h a (.cz o (.dT kvs)))(hd:o.data=.dict es ep) :
  Sm h a es ep/\es.size=kvs.length/\∀(i:Nat) (hi:i < es.size),∃b k v,es[i].key=.ref b/\kvs[i]?=ap (k,v)/\H b=ap (.tup (k.map kV)):=by
 obtain⟨e,z,hs,xs,r,o',ö,ø,h1,h2,h3,h4,h5⟩:=x;rw[e]at h1;cases h1;rw[hd]at h3;cases h3;have hl:es.size=xs.length:=by have:=congrArg B4 h4;simpa using this
 refine⟨⟨o,e,h2,hd⟩,hl.trans (Paired.length r).symm,λi hi=>?_⟩;have hx:xs[i]?=ap (xs[i]'∅):=Ae _;have pg:∀{l:O (O Key×V)}{m:O (O Key×cr×ce)}{i:Nat}{q:O Key×cr×ce},KT H l m->m[i]?=ap q->∃v,l[i]?=ap (q.1,v)/\H q.2.1=ap (.tup (q.1.map kV)):=by
  intro l m i q t
  induction t generalizing i with
  | nil=>intro h;simp at h
  | @cons p q' ps qs hq t ih=>
   intro h;cases i with
   | zero=>
    cases h;obtain⟨p1,p2⟩:=p;have e1:=hq.1;subst e1;exact⟨p2,rfl,hq.2.1⟩
   | succ i=>exact ih (by simpa using h)
 obtain⟨v,g1,g2⟩:=pg r hx;refine⟨_,_,v,?_,g1,g2⟩;have:es[i]=entryOfKey (lw (bG P w)) (xs[i]'∅):=by
  have h6:es.toList[i]?=ap (entryOfKey (lw (bG P w)) (xs[i]'∅)):=by rw[h4,Ak,hx];rfl
  rw[EN,CI hi]at h6;exact Option.some.inj h6
 rw[this];rfl
theorem JD{K:Ab}(a it:cr)(o:Obj)(hd:o.data=.dict es ep):Turn P w K tg (aac a o) [it] it (λi h=>h.IsKeyIter it a i es.size ep) where
 mem:=by simp
 obj:=λi h st b hb=>by
  have e:b=it:=by simpa using hb
  subst e;obtain⟨o,e,c,d⟩:=st;exact⟨o,e,λv z=>by rw[d]at z;cases z⟩
 keep:=λi h h' st k=>st.at λo e=>k it (by simp) o e
 item:=by
  intro X hP hw hK hc i Z s σ H E I hf st hg;subst hP hw hK;obtain⟨kvs,hq,hx⟩:=hg;obtain⟨ă,hl,ky⟩:=NR (I.bj a _ hq) hd;obtain⟨b,k,v,k1,k2,k3⟩:=ky i ∅;obtain⟨f0,f1,f2,f3,f4,f5⟩:=hf it (by simp);refine MU st ă ∅ λh' mw sb=>?_;have I1:Inv X Z σ H {s with heap:=h'}:=I.turned (t':=s.toks) (λb o hb e=>(sb.2 b hb).trans e) f0 f1 f3 f4 f5;obtain⟨oi,e,c,d⟩:=id mw;refine⟨_,rfl,rD (s:={s with heap:=h'}) e c d ⋯ ⟨.ref b,H,I1,k1,⟨rfl,λafY ð=>?_⟩,mw,λb hb=>(hf b hb).1⟩⟩;rw[hq]at ð;cases ð;exact⟨b,k,v,rfl,k2,k3⟩
 done:=by
  intro X hP hw hK hc i Z s σ H E I hf st hg;obtain⟨kvs,hq,hx⟩:=hg;obtain⟨ă,hl,ky⟩:=NR (I.bj a _ hq) hd;obtain⟨f0,f1,f2,f3,f4,f5⟩:=hf it (by simp);exact RV (I.ok.hd hc) st ă ∅ λh' eb=>⟨rfl,I.turned (t':=s.toks) (λb o hb e=>eb b o hb e) f0 f1 f3 f4 f5⟩
 self:=λ_ _ _ _ _ st h=>wpAny_pyIter_keyiter st h
def VM(tl:TE):TI:=λσ H R=>tl σ H λx H1=>∃a o kvs,x=.ref a/\H1 a=ap (.cz o (.dT kvs))/\R (aac a o) H1
def Mx{l:im}(hl:PE X l tl):PI X tg l (VM tl):=by
 intro Z s σ H R I h;refine bp (hl Z s σ H _ I h) λv s1 ⟨x,H1,I1,r1,q1⟩=>?_;obtain⟨a,o,kvs,e,hq,q⟩:=q1;subst e;cases r1;obtain⟨eo,z,hs,xs,r,o',es,ep,h1,h2,h3,h4,h5⟩:=(show aY X.prog X.w H1 s1.heap a (.cz o (.dT kvs)) from I1.bj a _ hq);rw[eo]at h1;cases h1;refine Nv hs ⟨o,eo,h2,h3⟩ ?_;refine⟨s1.heap.objs.size,[s1.heap.objs.size],_,_,H1,rfl,I1.kept (t':=s1.toks) λb o e=>Ah _ e,JD a _ o h3,⟨_,Ap _ rfl,rfl,rfl⟩,λb hb=>?_,q⟩;have e:b=s1.heap.objs.size:=by simpa using hb
 subst e;exact I1.wQ (Ao _) (I1.bj.fresh (Ao _))
end L2
variable{o:L2.HO}{v:PL.PV}{ws:O (BU×L2.V)}{φ:O L2.V->Prop}
noncomputable section
namespace FL
section
variable{K:Ab}
structure W(α:Type) where
 run:(α->Prop)->Prop
 mono:∀{Q Q':α->Prop},(∀a,Q a->Q' a)->run Q->run Q'
namespace W
variable{α β γ:Type}
def ext'{a b:W α}(h:∀Q,a.run Q↔b.run Q):a=b:=by
 cases a;cases b;congr;funext Q;exact propext (h Q)
noncomputable def ret(a:α):W α:=⟨λQ=>Q a,λh q=>h _ q⟩
noncomputable def bind(w:W α)(k:α->W β):W β:=⟨λQ=>w.run λa=>(k a).run Q,λh q=>w.mono (λa q=>(k a).mono h q) q⟩
def fail:W α:=⟨λ_=>False,λ_ q=>q⟩
def ff(p:Prop)(w:W α):W α:=⟨λQ=>p/\w.run Q,λh q=>⟨q.1,w.mono h q.2⟩⟩
def any(p:α->Prop):W α:=⟨λQ=>∀a,p a->Q a,λh q a pa=>h a (q a pa)⟩
def Ve:Option α->W α
 | some a=>ret a
 | none=>fail
@[simp] theorem af(a:α)(k:α->W β):bind (ret a) k=k a:=(rfl)
@[simp] theorem bind_assoc(w:W α)(f:α->W β)(g:β->W γ):bind (bind w f) g=bind w λa=>bind (f a) g:=(rfl)
@[simp] theorem Z4(w:W α):bind w ret=w:=(rfl)
@[simp] theorem Xk(k:α->W β):bind fail k=fail:=(rfl)
@[simp] theorem ag(a:α)(Q:α->Prop):(ret a).run Q=Q a:=(rfl)
@[simp] theorem run_bind(w:W α)(k:α->W β)(Q:β->Prop):(bind w k).run Q=w.run λa=>(k a).run Q:=(rfl)
@[simp] theorem Yd(Q:α->Prop):(fail:W α).run Q=False:=(rfl)
@[simp] theorem aas(p Q:α->Prop):(any p).run Q=∀a,p a->Q a:=(rfl)
@[simp] theorem P9(p:Prop)(w:W α)(Q:α->Prop):(ff p w).run Q=(p/\w.run Q):=(rfl)
@[simp] theorem OA(p:Prop)(w:W α)(k:α->W β):bind (ff p w) k=ff p (bind w k):=(rfl)
def ax{p:Prop}{w:W α}(h:p):ff p w=w:=ext' λQ=>⟨λq=>q.2,λq=>⟨h,q⟩⟩
@[simp] theorem ZZ{w:W α}:ff True w=w:=ax trivial
@[simp] theorem aB(a:α):Ve (ap a)=ret a:=(rfl)
@[simp] theorem YI:Ve (bn:Option α)=fail:=(rfl)
end W
inductive FD where
 | v (p:PV) | o (b:cr) (l:List PV)
def TH:O (Str×FD)->O cr
 | []=>[]
 | (_,.v _)::l=>TH l
 | (_,.o b _)::l=>b::TH l
inductive O2(K:Ab)(H:Hp):List (Str×V)->List (Str×FD)->Prop
 | nil:O2 K H [] []
 | v {n:Str}{u:V}{p:PV}{ws:List (Str×V)}{fd:List (Str×FD)} (r:VR K [] H u p) (t:O2 K H ws fd):O2 K H ((n,u)::ws) ((n,.v p)::fd)
 | o {n:Str}{b:cr}{vs:List V}{l:List PV}{ws:List (Str×V)}{fd:List (Str×FD)} (e:H b=ap (.lst vs)) (r:aG K [] H vs l) (t:O2 K H ws fd):O2 K H ((n,.ref b)::ws) ((n,.o b l)::fd)
inductive SL where
 | val (v:PV) | adr (b:cr) (us:List V) (ps:List PV) (fz:List (cr×Obj)) | ol (q:Option cr) (l:List PV) | oll (bs:List cr) (ls:List (List PV)) | od (kvs:List (Key×PV)) | ot (kvs:List (List Key×PV)) | kq (φ:List V->Prop) | ob (q C:cr) (fd:List (Str×FD))
abbrev bc:=O (Option SL)
def Lq(H:Hp)(fz:O (cr×Obj)):Prop:=∀p∈fz,∃u,H p.1=ap (.cz p.2 u)
def Lq.tk{fz:O (cr×Obj)}(h:Lq H fz)(t:a7 K H H'):Lq H' fz:=λp hp=>let ⟨u,e⟩:=h p hp;⟨u,t.z _ _ _ e⟩
def Lq.nil:Lq H []:=λ_ h=>nomatch h
def _root_.L2.HO.nt:HO->Bool
 | .LW _=>false
 | _=>true
def _root_.L2.HO.ow:HO->Bool
 | .lst _=>true
 | .dK _=>true
 | .dT _=>true
 | .ins _ _ _=>true
 | _=>false
def SX(h:o.ow=true):o.nt=true:=by cases o <;> first | rfl | cases h
def YA(k:aY P w H h a o)(e:h.get? a=ap ob)(ho:o.ow=true)(vs:Array ce):ob.data≠.fields vs:=by
 cases o with
 | lst xs=>obtain⟨_,_,_,_,q⟩:=k;rw[e]at q;cases q;nofun
 | dK xs=>obtain⟨_,_,_,_,o,_,_,q,_,q2,_⟩:=k;rw[e]at q;cases q;rw[q2];nofun
 | dT xs=>obtain⟨_,_,_,_,o,_,_,q,_,q2,_⟩:=k;rw[e]at q;cases q;rw[q2];nofun
 | ins C dx fs=>obtain⟨_,_,_,q,_⟩:=k;rw[e]at q;cases q;nofun
 | _=>cases ho
class dJ where
 ts:List (cr×Str)
def FzC(H:Hp)(c:ce)(q:Str):Prop:=∃a o u vs t,c=.ref a/\H a=ap (.cz o u)/\o.data=.fields vs/\vs[1]?=ap (.str q t)
variable[dJ]
def TB(H:Hp):Prop:=∀p∈dJ.ts,∃ps,H p.1=ap (.LW ps)/\TriplesOk ps.toList/\∀pos c,codeAmong pos ps.toList=ap c->FzC H c p.2
def TB.mono(h:TB H)(h1:∀a ps,H a=ap (.LW ps)->H' a=ap (.LW ps))(h2:∀a o u vs,H a=ap (.cz o u)->o.data=.fields vs->∃u,H' a=ap (.cz o u)):TB H':=λp hp=>by
 obtain⟨ps,e,q,k⟩:=h p hp;refine⟨ps,h1 _ _ e,q,λpos c z=>?_⟩;obtain⟨a,o,u,vs,t,e1,e2,e3,e4⟩:=k pos c z;obtain⟨u',e5⟩:=h2 a o u vs e2 e3;exact⟨a,o,u',vs,t,e1,e5,e3,e4⟩
def TB.same(h:TB H)(s:jv H H'):TB H':=h.mono (λa _ z=>s a _ z) λa _ _ _ z _=>⟨_,s a _ z⟩
def TB.Ud(t:TB H)(k:kj P w H h)(e:H a=ap (.cz ob o))(ho:o.ow=true):TB (upd H a o):=
 t.mono (λb _ z=>by rw[au (λy=>by subst y;rw[e]at z;cases z)];exact z) λb o' u vs z d=>⟨u,by
  rw[au (λy=>by subst y;rw[e]at z;cases z;exact YA (k b _ e).2 (k b _ e).1 ho vs d)];exact z⟩
def TB.Il{ob:HO}(h:TB H)(s:nP a H H')(e:H a=ap ob)(n1:ob.nt=true)(n2:∀o u,ob≠.cz o u):TB H':=
 h.mono (λb _ z=>s b _ (λy=>by subst y;rw[e]at z;cases z;cases n1) z) λb _ _ _ z _=>⟨_,s b _ (λy=>by subst y;rw[e]at z;cases z;exact n2 _ _ rfl) z⟩
def SL.own:SL->Bool
 | .val _=>false
 | .adr _ _ _ _=>false
 | _=>true
def SL.Ti:SL->O cr
 | .oll bs _=>bs
 | .ob _ _ fd=>TH fd
 | _=>[]
def SL.has(s:SL)(x a:cr):Prop:=a=x\/a∈s.Ti
def jA(K:Ab)(H:Hp)(a:cr):SL->Prop
 | .val _=>False
 | .adr b us ps fz=>a=b/\aG K [] H us ps/\Lq H fz
 | .oll bs ls=>H a=ap (.lst (bs.map V.ref))/\a∉bs/\bs.Nodup/\bs.length=ls.length/\∀(j:Nat) (b:cr) (l:O PV),bs[j]?=ap b->ls[j]?=ap l->∃ws,H b=ap (.lst ws)/\aG K [] H ws l
 | .ol q l=>(∀b,q=ap b->a=b)/\∃vs,H a=ap (.lst vs)/\aG K [] H vs l
 | .od kvs=>∃vs:O (Key×V),H a=ap (.dK vs)/\vs.map (·.1)=kvs.map (·.1)/\aG K [] H (vs.map (·.2)) (kvs.map (·.2))
 | .ot kvs=>∃vs:O (O Key×V),H a=ap (.dT vs)/\vs.map (·.1)=kvs.map (·.1)/\aG K [] H (vs.map (·.2)) (kvs.map (·.2))
 | .kq φ=>∃vs,H a=ap (.lst vs)/\φ vs
 | .ob q C fd=>a=q/\Cls K C/\(∀p∈fd,O0 K C p.1)/\a∉TH fd/\(TH fd).Nodup/\∃dx ws,H a=ap (.ins C dx ws)/\O2 K H ws fd
def uY(K:Ab)(H:Hp)(u:V)(s:SL):Prop:=(∃v,s=.val v/\VR K [] H u v)\/∃a,u=.ref a/\jA K H a s
def cI(σ:L2.St)(fs:bc)(a:cr):Prop:=∃(i:Nat) (s:SL) (x:cr),fs[i]?=ap (ap s)/\s.own=true/\σ[i]?=ap (ap (.ref x))/\s.has x a
def gG(σ:L2.St)(fs:bc)(φ:O V->Prop)(a:cr):Prop:=∃i:Nat,fs[i]?=ap (ap (.kq φ))/\σ[i]?=ap (ap (.ref a))
structure aR(K:Ab)(H:Hp)(σ:L2.St)(fs:bc):Prop where
 len:σ.length=fs.length
 at':∀(i:Nat) (s:SL),fs[i]?=ap (ap s)->∃u,σ[i]?=ap (ap u)/\uY K H u s
 nd:∀(i j:Nat) (s t:SL) (x y a:cr),fs[i]?=ap (ap s)->fs[j]?=ap (ap t)->s.own=true->t.own=true->σ[i]?=ap (ap (.ref x))->σ[j]?=ap (ap (.ref y))->s.has x a->t.has y a->i=j
 tb:TB H
structure cg(σ:L2.St)(fs:bc)(H:Hp)(σ':L2.St)(bx:bc)(H':Hp):Prop where
 keep:∀a o,H a=ap o->¬cI σ fs a->(o.nt=true->H' a=ap o)/\¬cI σ' bx a
 there:∀a,H' a=bn->H a=bn
 pk:∀a φ,gG σ fs φ a->gG σ' bx φ a\/(¬cI σ' bx a/\∃vs,H' a=ap (.lst vs)/\φ vs)
structure cJ(σ:L2.St)(fs:bc)(H H':Hp):Prop where
 keep:∀a o,H a=ap o->(∀φ,¬gG σ fs φ a)->(nt:o.nt=true:=by rfl)->H' a=ap o
 there:∀a,H' a=bn->H a=bn
section
variable{σ σ' σ1 σ2:L2.St}{fs bx NS cU:bc}{H H' H1 H2:Hp}
def gG.vJ(p:gG σ fs φ a):cI σ fs a:=let ⟨i,e1,e2⟩:=p;⟨i,_,_,e1,rfl,e2,.inl rfl⟩
def cJ.refl:cJ σ fs H H:=⟨λ_ _ h _ _=>h,λ_ h=>h⟩
def cJ.trans(a:cJ σ fs H H1)(b:cJ σ fs H1 H2):cJ σ fs H H2:=⟨λx o h n t=>b.keep x o (a.keep x o h n t) n t,λx h=>a.there x (b.there x h)⟩
def cJ.f(g:cJ σ fs H H'):cg σ fs H σ fs H':=⟨λa o h n=>⟨λt=>g.keep a o h (λφ p=>n p.vJ) t,n⟩,g.there,λa φ p=>.inl p⟩
def cJ.qZ(g:cJ σ fs H H')(h:H a=ap o)(n:¬cI σ fs a)(t:o.nt=true:=by rfl):H' a=ap o:=g.keep a o h (λφ p=>n p.vJ) t
def cJ.same(h:jv H H'):cJ σ fs H H':=⟨λa o e _ _=>h a o e,λa e=>(by
 cases z:H a with
 | none=>rfl
 | some o=>rw[h a o z]at e;cases e)⟩
def O2.ex{fd:O (Str×FD)}(h:O2 K H ws fd){c:cr}(hc:c∈TH fd):∃vs,H c=ap (.lst vs):=by
 induction h with
 | nil=>cases hc
 | v r t ih=>exact ih hc
 | @o n b vs l ws fd e r t ih=>
  rcases AG.mp (show c∈b::TH fd from hc) with rfl | hc
  ·exact⟨vs,e⟩
  ·exact ih hc
def jA.ex{c:cr}{s:SL}(h:jA K H a s)(ho:s.own=true)(hc:s.has a c):∃o,H c=ap o/\(∀vs,o≠.tup vs)/\(∀ob u,o≠.cz ob u)/\o.ow=true:=by
 cases s with
 | val _=>exact h.elim
 | adr _ _ _ _=>cases ho
 | ol q l=>obtain⟨_,vs,e,_⟩:=h;rcases hc with rfl | hc;exact⟨_,e,by simp,by simp,rfl⟩;cases hc
 | oll bs ls=>
  obtain⟨e,_,_,hl,hb⟩:=h;rcases hc with rfl | hc
  ·exact⟨_,e,by simp,by simp,rfl⟩
  ·obtain⟨j,hj⟩:=EZ (show c∈bs from hc);have h1:=(Am.mp hj).1;obtain⟨ws,e,_⟩:=hb j c _ hj (Ae (by rw[<- hl];exact h1));exact⟨_,e,by simp,by simp,rfl⟩
 | od l=>obtain⟨vs,e,_⟩:=h;rcases hc with rfl | hc;exact⟨_,e,by simp,by simp,rfl⟩;cases hc
 | ot l=>obtain⟨vs,e,_⟩:=h;rcases hc with rfl | hc;exact⟨_,e,by simp,by simp,rfl⟩;cases hc
 | kq l=>obtain⟨vs,e,_⟩:=h;rcases hc with rfl | hc;exact⟨_,e,by simp,by simp,rfl⟩;cases hc
 | ob q C fd=>
  obtain⟨_,_,_,_,_,dx,ws,e,r⟩:=h;rcases hc with rfl | hc
  ·exact⟨_,e,by simp,by simp,rfl⟩
  ·obtain⟨vs,e⟩:=r.ex hc;exact⟨_,e,by simp,by simp,rfl⟩
def aR.ownAt(s:aR K H σ fs){t:SL}(h1:fs[i]?=ap (ap t))(h2:t.own=true)(h3:σ[i]?=ap (ap (.ref a))):jA K H a t:=by
 obtain⟨u,e,r⟩:=s.at' i t h1;rw[h3]at e;cases e;rcases r with⟨v,rfl,_⟩ | ⟨b,e,r⟩
 ·cases h2
 ·cases e;exact r
def aR.vJ(s:aR K H σ fs)(h:cI σ fs a):∃o,H a=ap o/\(∀vs,o≠.tup vs)/\(∀ob u,o≠.cz ob u)/\o.ow=true:=by
 obtain⟨i,t,x,h1,h2,h3,h4⟩:=h;exact(s.ownAt h1 h2 h3).ex h2 h4
def aR.noOwn(s:aR K H σ fs)(h:H a=bn):¬cI σ fs a:=λz=>by
 obtain⟨o,e,_⟩:=s.vJ z;rw[h]at e;cases e
def aR.Vg(s:aR K H σ fs)(h:H a=ap (.tup vs)):¬cI σ fs a:=λz=>by
 obtain⟨o,e,n,_⟩:=s.vJ z;rw[h]at e;cases e;exact n vs rfl
def aR.Vh(s:aR K H σ fs)(h:H a=ap (.cz ob u)):¬cI σ fs a:=λz=>by
 obtain⟨o,e,_,n,_⟩:=s.vJ z;rw[h]at e;cases e;exact n ob u rfl
def cg.refl:cg σ fs H σ fs H:=⟨λ_ _ h n=>⟨λ_=>h,n⟩,λ_ h=>h,λ_ _ h=>.inl h⟩
def cg.QR(a:cg σ fs H σ1 NS H1)(b:cg σ1 NS H1 σ2 cU H2){x:cr}(h:H x=ap o)(n:¬cI σ fs x):¬cI σ2 cU x:=by
 have n1:=(a.keep x o h n).2;cases z:H1 x with
 | none=>rw[a.there x z]at h;cases h
 | some o1=>exact(b.keep x o1 z n1).2
def cg.trans(a:cg σ fs H σ1 NS H1)(b:cg σ1 NS H1 σ2 cU H2):cg σ fs H σ2 cU H2:=
 ⟨λx o h n=>⟨λt=>let ⟨h1,n1⟩:=a.keep x o h n;(b.keep x o (h1 t) n1).1 t,a.QR b h n⟩,λx h=>a.there x (b.there x h),λx φ h=>(a.pk x φ h).elim (b.pk x φ) λ⟨n,vs,e,p⟩=>.inr (let ⟨h1,n1⟩:=b.keep x _ e n;⟨n1,vs,h1 rfl,p⟩)⟩
def cg.dc(g:cg σ fs H σ' bx H')(s:aR K H σ fs):a7 K H H':=
 ⟨λa vs h=>(g.keep a _ h (s.Vg h)).1 rfl,λa o u h=>(g.keep a _ h (s.Vh h)).1 rfl⟩
def VR.tk{u:V}(t:a7 K H H')(r:VR K [] H u v):VR K [] H' u v:=r.mono t λ_ _ e=>e
def aG.tk{u:O V}{v:O PV}(t:a7 K H H')(r:aG K [] H u v):aG K [] H' u v:=r.mono t λ_ _ e=>e
def cg.vr(g:cg σ fs H σ' bx H')(s:aR K H σ fs){u:V}(r:VR K [] H u v):VR K [] H' u v:=VR.tk (g.dc s) r
def cJ.dc(g:cJ σ fs H H')(s:aR K H σ fs):a7 K H H':=g.f.dc s
def cJ.vr(g:cJ σ fs H H')(s:aR K H σ fs){u:V}(r:VR K [] H u v):VR K [] H' u v:=VR.tk (g.dc s) r
def cJ.Ls(g:cJ σ fs H H')(s:aR K H σ fs){u:O V}{v:O PV}(r:aG K [] H u v):aG K [] H' u v:=aG.tk (g.dc s) r
def O2.mono{fd:O (Str×FD)}(t:a7 K H H')(h:O2 K H ws fd)(e:∀c vs,c∈TH fd->H c=ap (.lst vs)->H' c=ap (.lst vs)):O2 K H' ws fd:=by
 induction h with
 | nil=>exact .nil
 | v r _ ih=>exact .v (VR.tk t r) (ih e)
 | @o n b vs l ws fd q r _ ih=>exact .o (e b vs (.head _) q) (aG.tk t r) (ih λc vs hc=>e c vs (.tail _ hc))
def jA.mono{s:SL}(t:a7 K H H')(e:∀c o,s.own=true->s.has a c->H c=ap o->o.nt=true->H' c=ap o)(h:jA K H a s):jA K H' a s:=by
 cases s with
 | val _=>exact h
 | adr _ _ _ _=>exact⟨h.1,aG.tk t h.2.1,h.2.2.tk t⟩
 | ol _ l=>obtain⟨z,vs,q,r⟩:=h;exact⟨z,vs,e _ _ rfl (.inl rfl) q rfl,aG.tk t r⟩
 | oll bs ls=>
  obtain⟨z,h1,h2,h3,h4⟩:=h;refine⟨e _ _ rfl (.inl rfl) z rfl,h1,h2,h3,λj b l hb hl=>?_⟩;obtain⟨ws,q,r⟩:=h4 j b l hb hl;exact⟨ws,e _ _ rfl (.inr (BR hb)) q rfl,aG.tk t r⟩
 | od l=>obtain⟨vs,q,k,r⟩:=h;exact⟨vs,e _ _ rfl (.inl rfl) q rfl,k,aG.tk t r⟩
 | ot l=>obtain⟨vs,q,k,r⟩:=h;exact⟨vs,e _ _ rfl (.inl rfl) q rfl,k,aG.tk t r⟩
 | kq φ=>obtain⟨vs,q,k⟩:=h;exact⟨vs,e _ _ rfl (.inl rfl) q rfl,k⟩
 | ob q C fd=>obtain⟨h0,h1,h2,h3,h4,dx,ws,q,r⟩:=h;exact⟨h0,h1,h2,h3,h4,dx,ws,e _ _ rfl (.inl rfl) q rfl,r.mono t λc vs hc q=>e c _ rfl (.inr hc) q rfl⟩
def uY.mono{u:V}{s:SL}(t:a7 K H H')(e:∀x a o,u=.ref x->s.own=true->s.has x a->H a=ap o->o.nt=true->H' a=ap o)(h:uY K H u s):uY K H' u s:=by
 rcases h with⟨v,q,r⟩ | ⟨a,q,r⟩
 ·exact .inl ⟨v,q,VR.tk t r⟩
 ·exact .inr ⟨a,q,r.mono t (λc o z y w nt=>e a c o q z y w nt)⟩
def aR.same(s:aR K H σ fs)(h:jv H H'):aR K H' σ fs:=⟨s.len,λi t e=>let ⟨u,h1,h2⟩:=s.at' i t e;⟨u,h1,h2.mono h.dN (λ_ a o _ _ _ z _=>h a o z)⟩,s.nd,s.tb.same h⟩
def cg.same(h:jv H H')(s:aR K H σ fs):cg σ fs H σ fs H':=⟨λa o e n=>⟨λ_=>h a o e,n⟩,λa e=>(by
 cases z:H a with
 | none=>rfl
 | some o=>rw[h a o z]at e;cases e),λa φ p=>.inl p⟩
inductive gb:bc->bc->Prop
 | nil:gb [] []
 | drop {s:Option SL}{a b:bc} (h:gb a b):gb (s::a) (bn::b)
 | keep {s:Option SL}{a b:bc} (h:gb a b):gb (s::a) (s::b)
theorem gb.at{a b:bc}(h:gb a b):∀(i:Nat) (s:SL),b[i]?=ap (ap s)->a[i]?=ap (ap s):=by
 induction h with
 | nil=>intro i s e;simp at e
 | drop h ih=>intro i s e;cases i with | zero=>simp at e | succ i=>simp at e ⊢;exact ih i s e
 | keep h ih=>intro i s e;cases i with | zero=>simpa using e | succ i=>simp at e ⊢;exact ih i s e
theorem gb.length{a b:bc}(h:gb a b):a.length=b.length:=by induction h <;> simp_all
theorem gb.refl:∀a:bc,gb a a
 | []=>.nil
 | _::a=>.keep (gb.refl a)
def aR.le(s:aR K H σ fs)(h:gb fs bx):aR K H σ bx:=⟨s.len.trans h.length,λi t e=>s.at' i t (h.at i t e),λi j t u x y a e1 e2=>s.nd i j t u x y a (h.at i t e1) (h.at j u e2),s.tb⟩
def cI.le(h:gb fs bx)(o:cI σ bx a):cI σ fs a:=let ⟨i,t,x,e1,e2,e3⟩:=o;⟨i,t,x,h.at i t e1,e2,e3⟩
def cg.le(s:aR K H σ fs)(h:gb fs bx):cg σ fs H σ bx H:=⟨λa o e n=>⟨λ_=>e,λz=>n (z.le h)⟩,λ_ e=>e,λa φ p=>by
 obtain⟨i,e1,e2⟩:=p;by_cases c:cI σ bx a
 ·obtain⟨j,t,x,c1,c2,c3,c4⟩:=c;have ij:=s.nd i j _ t a x a e1 (h.at j t c1) rfl c2 e2 c3 (.inl rfl) c4;subst ij;have:=h.at i t c1;rw[e1]at this;cases this;exact .inl ⟨i,c1,e2⟩
 ·obtain⟨vs,q,r⟩:=s.ownAt e1 rfl e2;exact .inr ⟨c,vs,q,r⟩⟩
def cC{l:O (Option α)}{x y:α}(h:(l.set i (ap x))[j]?=ap (ap y)):(j=i/\y=x)\/(j≠i/\l[j]?=ap (ap y)):=by
 by_cases c:j=i
 ·subst c;rw[List.getElem?_set]at h;simp at h;exact .inl ⟨rfl,h.2.symm⟩
 ·rw[BS (λz=>c z.symm)]at h;exact .inr ⟨c,h⟩
def cm{l:List α}{x:α}(h:i < l.length):(l.set i x)[i]?=ap x:=by rw[List.getElem?_set];simp[h]
def aM{l:List α}{x:α}(h:j≠i):(l.set i x)[j]?=l[j]?:=BS (λz=>h z.symm)
def aR.put(s:aR K H σ fs){u:V}{t:SL}(hr:uY K H u t)(hf:∀x a,u=.ref x->t.own=true->t.has x a->∀(j:Nat) (w:SL) (y:cr),j≠i->fs[j]?=ap (ap w)->w.own=true->σ[j]?=ap (ap (.ref y))->¬w.has y a):aR K H (σ.set i (ap u)) (fs.set i (ap t)):=by
 refine⟨by simp[s.len],λj w e=>?_,λj k w x b1 b2 a e1 e2 o1 o2 q1 q2 z1 z2=>?_,s.tb⟩
 ·rcases cC e with⟨rfl,rfl⟩ | ⟨n,e⟩
  ·have hl:j < σ.length:=by
    have:=(Am.mp e).1;rw[BK]at this;rw[s.len];exact this
   exact⟨u,cm hl,hr⟩
  ·obtain⟨v,h1,h2⟩:=s.at' j w e;exact⟨v,by rw[aM n];exact h1,h2⟩
 ·rcases cC e1 with⟨y1,y2⟩ | ⟨n1,f1⟩ <;> rcases cC e2 with⟨y3,y4⟩ | ⟨n2,f2⟩
  ·exact y1.trans y3.symm
  ·subst y1;subst y2;rw[aM n2]at q2;have hl:j < σ.length:=by have:=(Am.mp q1).1;simpa using this
   rw[cm hl]at q1;cases q1;exact absurd z2 (hf _ a rfl o1 z1 k x b2 n2 f2 o2 q2)
  ·subst y3;subst y4;rw[aM n1]at q1;have hl:k < σ.length:=by have:=(Am.mp q2).1;simpa using this
   rw[cm hl]at q2;cases q2;exact absurd z1 (hf _ a rfl o2 z2 j w b1 n1 f1 o1 q1)
  ·rw[aM n1]at q1;rw[aM n2]at q2;exact s.nd j k w x b1 b2 a f1 f2 o1 o2 q1 q2 z1 z2
def aR.eU(s:aR K H σ fs){u:V}(hr:VR K [] H u v)(i:Nat):aR K H (σ.set i (ap u)) (fs.set i (ap (.val v))):=s.put (.inl ⟨v,rfl,hr⟩) λ_ _ _ z=>by cases z
def yq{u:V}{t:SL}(o:cI (σ.set i (ap u)) (fs.set i (ap t)) a)(hl:σ.length=fs.length):cI σ fs a\/∃x,u=.ref x/\t.own=true/\t.has x a:=by
 obtain⟨j,w,x,e1,e2,e3,e4⟩:=o;rcases cC e1 with⟨rfl,rfl⟩ | ⟨n,e1⟩
 ·have h2:j < σ.length:=by have:=(Am.mp e3).1;simpa using this
  rw[cm h2]at e3;cases e3;exact .inr ⟨x,rfl,e2,e4⟩
 ·rw[aM n]at e3;exact .inl ⟨j,w,x,e1,e2,e3,e4⟩
def Ip(s:aR K H σ fs){u:V}{t:SL}(p:gG σ fs φ a)(hu:∀x,u=.ref x->t.own=true->t.has x a->t=.kq φ):gG (σ.set i (ap u)) (fs.set i (ap t)) φ a\/¬cI (σ.set i (ap u)) (fs.set i (ap t)) a:=by
 obtain⟨j,e1,e2⟩:=p;by_cases c:j=i
 ·subst c;by_cases c2:∃x,u=.ref x/\t.own=true/\t.has x a
  ·obtain⟨x,c3,c4,c5⟩:=c2;have hl:=(Am.mp e2).1;have Ly:=(Am.mp e1).1;have et:=hu x c3 c4 c5;subst et;rcases c5 with rfl | c5
   ·exact .inl ⟨j,by rw[cm Ly],by rw[cm hl,c3]⟩
   ·cases c5
  ·refine .inr λo=>?_;obtain⟨k,w,y,q1,q2,q3,q4⟩:=o;rcases cC q1 with⟨rfl,rfl⟩ | ⟨n,q1⟩
   ·have hl:=(Am.mp e2).1;rw[cm hl]at q3;cases q3;exact c2 ⟨y,rfl,q2,q4⟩
   ·rw[aM n]at q3;exact n (s.nd k j w _ y a a q1 e1 q2 rfl q3 e2 q4 (.inl rfl))
 ·exact .inl ⟨j,by rw[aM c];exact e1,by rw[aM c];exact e2⟩
def cg.eU(s:aR K H σ fs)(u:V)(v:PV)(i:Nat):cg σ fs H (σ.set i (ap u)) (fs.set i (ap (.val v))) H:=
 ⟨λa o e n=>⟨λ_=>e,λz=>(yq z s.len).elim n λ⟨_,_,z,_⟩=>by cases z⟩,λ_ e=>e,λa φ p=>(Ip s p (λ_ _ z=>by cases z)).imp id λn=>⟨n,by
  obtain⟨j,e1,e2⟩:=p;obtain⟨vs,q,r⟩:=s.ownAt e1 rfl e2;exact⟨vs,q,r⟩⟩⟩
def aR.Mq(s:aR K H σ fs){t:SL}(hr:jA K H a t)(hn:∀c,t.has a c->¬cI σ fs c)(i:Nat):aR K H (σ.set i (ap (.ref a))) (fs.set i (ap t)):=s.put (.inr ⟨a,rfl,hr⟩) λx c e _ hc j w y n e1 e2 e3 z=>by
 cases e;exact hn c hc ⟨j,w,y,e1,e2,e3,z⟩
def wK{t:SL}(hi:t.Ti=[]){c:cr}(h:t.has a c):c=a:=by
 rcases h with h | h
 ·exact h
 ·rw[hi]at h;cases h
def aR.vq(s:aR K H σ fs){t:SL}(hr:jA K H a t)(hn:¬cI σ fs a)(i:Nat)(hi:t.Ti=[]:=by rfl):aR K H (σ.set i (ap (.ref a))) (fs.set i (ap t)):=s.Mq hr (λc hc=>by rw[wK hi hc];exact hn) i
def cg.Mq(s:aR K H1 σ fs)(g:cg σ fs H σ fs H1){t:SL}(hn:∀c,t.has a c->¬cI σ fs c)(h0:∀c,t.has a c->H c=bn)(i:Nat):cg σ fs H (σ.set i (ap (.ref a))) (fs.set i (ap t)) H1:=by
 refine⟨λb o e n=>⟨(g.keep b o e n).1,λz=>(yq z s.len).elim n λ⟨x,z,_,y⟩=>?_⟩,g.there,λb φ p=>?_⟩
 ·cases z;rw[h0 b y]at e;cases e
 ·obtain⟨j,e1,e2⟩:=p;obtain⟨vs,q,r⟩:=s.ownAt e1 rfl e2;refine(Ip (t:=t) s ⟨j,e1,e2⟩ (λx z o y=>?_)).imp id λn=>⟨n,vs,q,r⟩;cases z;exact absurd ⟨j,_,_,e1,rfl,e2,.inl rfl⟩ (hn b y)
def cg.vq(s:aR K H1 σ fs)(g:cg σ fs H σ fs H1){t:SL}(hn:¬cI σ fs a)(h0:H a=bn)(i:Nat)(hi:t.Ti=[]:=by rfl):cg σ fs H (σ.set i (ap (.ref a))) (fs.set i (ap t)) H1:=cg.Mq s g (λc hc=>by rw[wK hi hc];exact hn) (λc hc=>by rw[wK hi hc];exact h0) i
def yr(s:aR K H σ fs){t t':SL}{c:cr}(e1:fs[i]?=ap (ap t))(o:t.own=true)(np:∀φ,t≠.kq φ)(e2:σ[i]?=ap (ap (.ref a)))(hc:t.has a c)(Pd:t'.has a c)(y6:∀b,t'.has a b->t.has a b)(o':t'.own=true)(sx:nP c H H')(ht:a7 K H H'->jA K H' a t'):aR K H' σ (fs.set i (ap t'))/\cg σ fs H σ (fs.set i (ap t')) H':=by
 have oa:=s.ownAt e1 o e2;obtain⟨ob,q,n1,n2,n3⟩:=oa.ex o hc;have tk:a7 K H H':=⟨λb vs z=>sx b _ (λy=>by subst y;rw[q]at z;cases z;exact n1 _ rfl) z,λb o u z=>sx b _ (λy=>by subst y;rw[q]at z;cases z;exact n2 _ _ rfl) z⟩;have WZ:=ht tk;have hi:i < fs.length:=(Am.mp e1).1;have Qy:∀b,cI σ (fs.set i (ap t')) b->cI σ fs b:=λb z=>by
  obtain⟨j,w,x,z1,z2,z3,z4⟩:=z;rcases cC z1 with⟨rfl,rfl⟩ | ⟨n,z1⟩
  ·rw[e2]at z3;cases z3;exact⟨j,t,a,e1,o,e2,y6 b z4⟩
  ·exact⟨j,w,x,z1,z2,z3,z4⟩
 refine⟨⟨by simp[s.len],λj w e=>?_,λj k w x b1 b2 b z1 z2 o1 o2 q1 q2 y1 y2=>?_,s.tb.Il sx q (SX n3) n2⟩,⟨λb ob e n=>⟨λ_=>sx b ob (λz=>by subst z;exact n ⟨i,t,a,e1,o,e2,hc⟩) e,λz=>n (Qy b z)⟩,λb e=>?_,λb φ p=>?_⟩⟩
 ·rcases cC e with⟨rfl,rfl⟩ | ⟨n,e⟩
  ·exact⟨_,e2,.inr ⟨a,rfl,WZ⟩⟩
  ·obtain⟨u,h1,h2⟩:=s.at' j w e;refine⟨u,h1,h2.mono tk (λx b ob eb ow hb z _=>sx b ob (λy=>?_) z)⟩;subst y;subst eb;exact n (s.nd j i w t x a b e e1 ow o h1 e2 hb hc)
 ·have f:∀{j:Nat}{w:SL}{y:cr},(fs.set i (ap t'))[j]?=ap (ap w)->w.own=true->σ[j]?=ap (ap (.ref y))->w.has y b->∃w',fs[j]?=ap (ap w')/\w'.own=true/\w'.has y b:=λ{j w y} z ow qy hy=>by
   rcases cC z with⟨rfl,rfl⟩ | ⟨n,z⟩
   ·rw[e2]at qy;cases qy;exact⟨t,e1,o,y6 b hy⟩
   ·exact⟨w,z,ow,hy⟩
  obtain⟨w',a1,a2,a3⟩:=f z1 o1 q1 y1;obtain⟨x',c1,c2,c3⟩:=f z2 o2 q2 y2;exact s.nd j k w' x' b1 b2 b a1 c1 a2 c2 q1 q2 a3 c3
 ·cases z:H b with
  | none=>rfl
  | some ob=>
   by_cases cc:b=c
   ·subst cc;obtain⟨o2,y,_⟩:=WZ.ex o' Pd;rw[e]at y;cases y
   ·rw[sx b ob cc z]at e;cases e
 ·obtain⟨j,p1,p2⟩:=p;have ji:j≠i:=λz=>by subst z;rw[e1]at p1;cases p1;exact np φ rfl
  exact .inl ⟨j,by rw[aM ji];exact p1,p2⟩
def lK(s:aR K H σ fs){t t':SL}(e1:fs[i]?=ap (ap t))(o:t.own=true)(np:∀φ,t≠.kq φ)(e2:σ[i]?=ap (ap (.ref a)))(sx:nP a H H')(ht:a7 K H H'->jA K H' a t')(hi:t'.Ti=t.Ti:=by rfl)(o':t'.own=true:=by rfl):aR K H' σ (fs.set i (ap t'))/\cg σ fs H σ (fs.set i (ap t')) H':=
 yr s e1 o np e2 (.inl rfl) (.inl rfl) (λb h=>by unfold SL.has at h ⊢;rw[hi]at h;exact h) o' sx ht
end
end
end FL
open FL.W renaming bind→am,ret→bd,run_bind→ci,ag→gt,af→ii,ax→pr,aB→ut,ext'→wT
local macro_rules | `($a\$b)=>`(am (bd $a) $b)
variable{u:L2.V}{o b:BW}{fs bx:FL.bc}{es:O BW}{σ':L2.St}{wa wb wc:FL.W PL.PV}{wl:FL.W (O PL.PV)}
namespace FL
section
variable[dJ]
variable{K:Ab}
def fE(K:Ab)(fs:bc)(w:W PV):TE:=λσ H Q=>aR K H σ fs/\w.run λv=>∀u H',cJ σ fs H H'->aR K H' σ fs->VR K [] H' u v->Q u H'
def fT(K:Ab)(fs:bc)(w:W Bool):TT:=λσ H Q=>aR K H σ fs/\w.run λb=>∀H',cJ σ fs H H'->aR K H' σ fs->Q b H'
def fO(K:Ab)(fs:bc)(w:W (Option Int)):TO:=λσ H Q=>aR K H σ fs/\w.run λb=>∀H',cJ σ fs H H'->aR K H' σ fs->Q b H'
def fL(K:Ab)(fs:bc)(w:W (O PV)):TE:=λσ H Q=>aR K H σ fs/\w.run λl=>∀a vs H',cJ σ fs H H'->aR K H' σ fs->H a=bn->H' a=ap (.lst vs)->aG K [] H' vs l->Q (.ref a) H'
def WN(K:Ab)(H:Hp)(u:V)(l:O PV):Prop:=∃a vs,u=.ref a/\(Sr K H a vs\/H a=ap (.tup vs))/\aG K [] H vs l
def Sl(K:Ab)(σ:L2.St)(fs:bc)(H:Hp)(u:V)(l:O PV):Prop:=WN K H u l\/∃a,u=.ref a/\((¬cI σ fs a/\∃vs,H a=ap (.lst vs)/\aG K [] H vs l)\/∃(i:Nat) (q:Option cr),fs[i]?=ap (ap (.ol q l))/\σ[i]?=ap (ap (.ref a)))
def fQ(K:Ab)(fs:bc)(w:W (O PV)):TE:=λσ H Q=>aR K H σ fs/\w.run λl=>∀u H',cJ σ fs H H'->aR K H' σ fs->Sl K σ fs H' u l->Q u H'
def fI(K:Ab)(fs:bc)(w:W (O PV)):TE:=λσ H Q=>aR K H σ fs/\w.run λl=>∀u H',cJ σ fs H H'->aR K H' σ fs->WN K H' u l->Q u H'
inductive AK where
 | v | p (φ:List V->Prop) | f (a:cr) (us:List V) (ps:List PV) (fz:List (cr×Obj))
inductive eL(K:Ab)(σ:L2.St)(fs:bc)(H:Hp):List V->List AK->List PV->Prop
 | nil:eL K σ fs H [] [] []
 | v {u:V}{x:PV}{vs:List V}{ks:List AK}{l:List PV} (r:VR K [] H u x) (t:eL K σ fs H vs ks l):eL K σ fs H (u::vs) (.v::ks) (x::l)
 | p {a:cr}{φ:List V->Prop}{vs:List V}{ks:List AK}{l:List PV} (r:gG σ fs φ a) (t:eL K σ fs H vs ks l):eL K σ fs H (.ref a::vs) (.p φ::ks) l
 | f {a:cr}{us vs:List V}{ps:List PV}{fz:List (cr×Obj)}{ks:List AK}{l:List PV} (r:aG K [] H us ps) (z:Lq H fz) (t:eL K σ fs H vs ks l):eL K σ fs H (.ref a::vs) (.f a us ps fz::ks) l
def fA(K:Ab)(fs:bc)(ks:O AK)(w:W (O PV)):TA:=λσ H Q=>aR K H σ fs/\w.run λl=>∀vs H',cJ σ fs H H'->aR K H' σ fs->eL K σ fs H' vs ks l->Q vs H'
structure EF(X:Cx)(K:Ab)(fs:bc)(e:im)(w:W PV):Prop where p:PE X e (fE K fs w)
structure LF(X:Cx)(K:Ab)(fs:bc)(e:im)(w:W (List PV)):Prop where p:PE X e (fL K fs w)
structure QF(X:Cx)(K:Ab)(fs:bc)(e:im)(w:W (List PV)):Prop where p:PE X e (fQ K fs w)
structure IF(X:Cx)(K:Ab)(fs:bc)(e:im)(w:W (List PV)):Prop where p:PE X e (fI K fs w)
structure TF(X:Cx)(K:Ab)(fs:bc)(e:im)(w:W Bool):Prop where p:PT X e (fT K fs w)
structure ph(X:Cx)(K:Ab)(fs:bc)(e:im)(w:W Bool):Prop where p:PW X e (fT K fs w)
structure OF(X:Cx)(K:Ab)(fs:bc)(e:Option im)(w:W (Option Int)):Prop where p:L2.PO X e (fO K fs w)
structure AF(X:Cx)(K:Ab)(fs:bc)(es:List im)(ks:List AK){R:Type}(B:(List PV->W R)->W R):Prop where
 p:∃w:W (List PV),PA X es (fA K fs ks w)/\∀k,B k=am w k
section
def WN.tk(t:a7 K H H')(h:WN K H u l):WN K H' u l:=by
 obtain⟨a,vs,e,q,r⟩:=h;exact⟨a,vs,e,q.imp (t.f _ _) (t.t _ _),aG.tk t r⟩
def Sl.go(h:Sl K σ fs H u l)(s:aR K H σ fs)(g:cJ σ fs H H'):Sl K σ fs H' u l:=by
 rcases h with h | ⟨a,e,⟨n,vs,q,r⟩ | q⟩
 ·exact .inl (h.tk (g.dc s))
 ·exact .inr ⟨a,e,.inl ⟨n,vs,(g.qZ q n),g.Ls s r⟩⟩
 ·exact .inr ⟨a,e,.inr q⟩
def Sl.sq(h:Sl K σ fs H u l)(s:aR K H σ fs):∃a vs,u=.ref a/\(cT K H a vs\/dz K H a vs)/\aG K [] H vs l:=by
 rcases h with⟨a,vs,e,q,r⟩ | ⟨a,e,⟨n,vs,q,r⟩ | ⟨i,_,q1,q2⟩⟩
 ·exact⟨a,vs,e,q.elim (λq=>.inl q.sq) λq=>.inr (dz.of q),r⟩
 ·exact⟨a,vs,e,.inl (cT.of q),r⟩
 ·obtain⟨_,vs,q,r⟩:=s.ownAt q1 rfl q2;exact⟨a,vs,e,.inl (cT.of q),r⟩
end
section
variable{a c:im}{rest:O im}{w:W PV}
def ae(i:Nat)(hs:fs[i]?=ap (ap (.val v)):=by rfl)(hN:X.N[i]?=ap x:=by rfl)(hv:xH X.env.scope x:=by first | exact Ck rfl | exact B9 (Ck rfl) | exact B9 (B9 rfl))(hd:ir x:=by decide)(ib:zS x:=by decide):EF X K fs (.Name x pos) (.ret v):=
 ⟨PE.imp (de hN hv hd ib) λσ H Q ⟨sr,q⟩=>by
  obtain⟨u,e1,r⟩:=sr.at' i _ hs;rcases r with⟨w,e,r⟩ | ⟨a,_,r⟩
  ·cases e;exact⟨u,e1,q u H .refl sr r⟩
  ·exact r.elim⟩
def Xl{v:V}{p:PV}(hv:∀H,VR K [] H v p)(h:PE X e (tC v)):EF X K fs e (.ret p):=⟨PE.imp h λσ H Q ⟨sr,q⟩=>q v H .refl sr (hv _)⟩
def ak{i j}:EF X K fs (.Constant (.int i) j pos) (.ret (.int i)):=Xl (λ_=>.int i) UZ
def j8{b j}:EF X K fs (.Constant (.bool b) j pos) (.ret (.bl b)):=Xl (λ_=>.bl b) Yx
def uK{j}:EF X K fs (.Constant .none j pos) (.ret .aN):=Xl (λ_=>.aN) UY
def dQ{x j}:EF X K fs (.Constant (.str x) j pos) (.ret (.str x)):=Xl (λ_=>.str x) UU
def w5{i:Int}{t:Tok}(hm:X.mg x=ap (.int i t))(hg:Gl X x)(hd:ir x:=by decide):EF X K fs (.Name x pos) (.ret (.int i)):=Xl (λ_=>.int i) (vD hg hm ⟨_,rfl⟩ hd)
def rX{i:Str}{t:Tok}(hm:X.mg x=ap (.str i t))(hg:Gl X x)(hd:ir x:=by decide):EF X K fs (.Name x pos) (.ret (.str i)):=Xl (λ_=>.str i) (vD hg hm ⟨_,rfl⟩ hd)
def of2(m:M2)(x y:PV):W PV:=⟨λQ=>m.f x y [] λz h=>h=[]/\Q z,λf q=>m.mono (λ_ _ q=>⟨q.1,f _ q.2⟩) q⟩
def hr0(H:Hp):HR K [] H []:=⟨EY,rfl,λn a o e _=>by simp at e⟩
def pq0{Q:VK}{z:PV}{h:PH}(sr:aR K H σ fs)(q:h=[]/\∀u H',cJ σ fs H H'->aR K H' σ fs->VR K [] H' u z->Q u H'):pQ K [] H Q z h:=λι' v H' g r x=>by
 obtain⟨e,q⟩:=q;subst e;have:ι'=[]:=Cq r.len;subst this;have sm:jv H H':=λa o z=>g.keep a o (by simp) z;exact q v H' (cJ.same sm) (sr.same sm) x
def vM{r:R2}{m:M2}(hm:M2.Ok K r m){Q:VK}{v:V}{x y:PV}(sr:aR K H σ fs)(hu:VR K [] H u x)(hv:VR K [] H v y)(q:(of2 m x y).run λz=>∀u H',cJ σ fs H H'->aR K H' σ fs->VR K [] H' u z->Q u H'):r u v H Q:=
 hm (hr0 H) hu hv (m.mono (λz h q=>pq0 sr q) q)
def I0{r:R2}{m:M2}(hm:M2.Ok K r m):∀σ H Q,fE K fs (.bind wa λx=>.bind wb λy=>of2 m x y) σ H Q->SE r (fE K fs wa) (fE K fs wb) σ H Q:=λσ H Q ⟨sr,q⟩=>
 ⟨sr,wa.mono (λx q1 u1 H1 g1 s1 v1=>⟨s1,wb.mono (λy q2 u2 H2 g2 s2 v2=>vM hm s2 (g2.vr s1 v1) v2 ((of2 m x y).mono (λz q u3 H3 g3 s3 v3=>q u3 H3 ((g1.trans g2).trans g3) s3 v3) q2)) q1⟩) q⟩
def Og{op:Operator}{r:R2}{m:M2}(ho:f6 X (re op) r)(hm:M2.Ok K r m)(ha:EF X K fs a wa)(hb:EF X K fs b wb):EF X K fs (.BinOp a op b pos) (.bind wa λx=>.bind wb λy=>of2 m x y):=⟨PE.imp (Ir ho ha.p hb.p) (I0 hm)⟩
def lx(ha:EF X K fs a wa)(hb:EF X K fs b wb):EF X K fs (.BinOp a .Sub b pos) (.bind wa λx=>.bind wb λy=>of2 n6 x y):=Og U4 (zL λ_ _ _ _=>.int _) ha hb
def o8(ha:EF X K fs a wa)(hb:EF X K fs b wb):EF X K fs (.BinOp a .Mult b pos) (.bind wa λx=>.bind wb λy=>of2 mI x y):=Og QC (xv λ_ _ _ _=>.int _) ha hb
def TN(ha:EF X K fs a wa)(hb:EF X K fs b wb):EF X K fs (.BinOp a .FloorDiv b pos) (.bind wa λx=>.bind wb λy=>of2 oDiv x y):=Og QD (xv λ_ _ _ _=>.int _) ha hb
def nr(ha:EF X K fs a wa)(hb:EF X K fs b wb):EF X K fs (.BinOp a .Mod b pos) (.bind wa λx=>.bind wb λy=>of2 oMod x y):=Og U8 (xv λ_ _ _ _=>.int _) ha hb
def Oe(ha:EF X K fs a wa)(hb:EF X K fs b wb):EF X K fs (.BinOp a .Pow b pos) (.bind wa λx=>.bind wb λy=>of2 yu x y):=Og U6 (xv λ_ _ _ _=>.int _) ha hb
def vO:PV->W PV
 | .int i=>.ret (.int (-i))
 | _=>.fail
def rV(ha:EF X K fs a wa):EF X K fs (.UnaryOp .USub a pos) (.bind wa vO):=⟨PE.imp (Yu Ub ha.p) λσ H Q ⟨sr,q⟩=>⟨sr,wa.mono (λx q1 u1 H1 g1 s1 v1=>by
 cases v1 with
 | int i=>exact⟨_,rfl,q1 _ H1 g1 s1 (.int _)⟩
 | _=>exact q1.elim) q⟩⟩
def Xp:PV->W Bool
 | .bl b=>.ret b
 | _=>.fail
def ly{m:M2}(hc:JC X K op b m)(ha:EF X K fs a wa)(hb:EF X K fs b wb):EF X K fs (.Compare a [op] [b] pos) (.bind wa λx=>.bind wb λy=>of2 m x y):=let ⟨_,h1,h2⟩:=hc.p;⟨PE.imp (vE h1 ha.p hb.p hc.k) (I0 h2)⟩
def Wc{w:W PV}:∀σ H Q,fT K fs (.bind w Xp) σ H Q->(fE K fs w) σ H λx H'=>∃k,x=.bl k/\Q k H':=λσ H Q ⟨sr,q⟩=>⟨sr,w.mono (λx q1 u1 H1 g1 s1 v1=>by
 cases v1 with
 | bl b=>exact⟨b,rfl,q1 H1 g1 s1⟩
 | _=>exact q1.elim) q⟩
def cn{m:M2}(hc:JC X K op b m)(ha:EF X K fs a wa)(hb:EF X K fs b wb):TF X K fs (.Compare a [op] [b] pos) (.bind wa λx=>.bind wb λy=>.bind (of2 m x y) Xp):=let ⟨_,h1,h2⟩:=hc.p
 ⟨PT.imp (vt h1 ha.p hb.p hc.k) λσ H Q q=>I0 h2 σ H _ (Wc (w:=.bind wa λx=>.bind wb λy=>of2 m x y) σ H Q q)⟩
def kg(z:PV)(w:W PV):W PV:=match z with
 | .bl true=>w
 | .bl false=>.ret (.bl false)
 | _=>.fail
def zl{r:R2}{m m':M2}(hm:M2.Ok K r m)(hm':M2.Ok K r' m'):∀σ H Q,fE K fs (.bind wa λx=>.bind wb λy=>.bind (of2 m x y) λz=>kg z (.bind wc λw=>of2 m' y w)) σ H Q->FP r r' (fE K fs wa) (fE K fs wb) (fE K fs wc) σ H Q:=λσ H Q ⟨sr,q⟩=>
 ⟨sr,wa.mono (λx q1 u1 H1 g1 s1 v1=>⟨s1,wb.mono (λy q2 u2 H2 g2 s2 v2=>vM hm s2 (g2.vr s1 v1) v2 ((of2 m x y).mono (λz q3 u3 H3 g3 s3 v3=>by
  have gg:=(g1.trans g2).trans g3;cases v3 with
  | bl k=>
   cases k with
   | true=>exact⟨true,rfl,by rw[if_pos rfl];exact⟨s3,wc.mono (λw q4 u4 H4 g4 s4 v4=>vM hm' s4 ((g3.trans g4).vr s2 v2) v4 ((of2 m' y w).mono (λz q u5 H5 g5 s5 v5=>q u5 H5 ((gg.trans g4).trans g5) s5 v5) q4)) q3⟩⟩
   | false=>exact⟨false,rfl,by rw[if_neg AQ];exact q3 _ H3 gg s3 (.bl _)⟩
  | _=>exact q3.elim) q2)) q1⟩) q⟩
def Jh{m m':M2}(hc:JC X K op b m)(Pd:JC X K Lw c m')(ha:EF X K fs a wa)(hb:EF X K fs b wb)(hd:EF X K fs c wc)(hk:lastMarks [op,Lw] [b,c]=false:=by with_unfolding_all rfl):EF X K fs (.Compare a [op,Lw] [b,c] pos) (.bind wa λx=>.bind wb λy=>.bind (of2 m x y) λz=>kg z (.bind wc λw=>of2 m' y w)):=
 let ⟨_,h1,h2⟩:=hc.p;let ⟨_,h3,h4⟩:=Pd.p;⟨PE.imp (MH h1 h3 ha.p hb.p hd.p hk) (zl h2 h4)⟩
def PF{m m':M2}(hc:JC X K op b m)(Pd:JC X K Lw c m')(ha:EF X K fs a wa)(hb:EF X K fs b wb)(hd:EF X K fs c wc)(hk:lastMarks [op,Lw] [b,c]=false:=by with_unfolding_all rfl):TF X K fs (.Compare a [op,Lw] [b,c] pos) (.bind wa λx=>.bind wb λy=>.bind (of2 m x y) λz=>.bind (kg z (.bind wc λw=>of2 m' y w)) Xp):=
 let ⟨_,h1,h2⟩:=hc.p;let ⟨_,h3,h4⟩:=Pd.p;⟨PT.imp (Ms h1 h3 ha.p hb.p hd.p hk) λσ H Q q=>zl h2 h4 σ H _ (Wc (w:=.bind wa λx=>.bind wb λy=>.bind (of2 m x y) λz=>kg z (.bind wc λw=>of2 m' y w)) σ H Q q)⟩
def Lf(x:PV)(w:W PV):W PV:=match x with
 | .bl true=>w
 | .bl false=>.ret (.bl false)
 | _=>.fail
def QS:PV->W PV
 | .bl b=>.ret (.bl (!b))
 | _=>.fail
def j9(ha:EF X K fs a wa)(hb:EF X K fs (.BoolOp .And (b::rest) pos) wb):EF X K fs (.BoolOp .And (a::b::rest) pos) (.bind wa λx=>Lf x wb):=⟨PE.imp (U1 ha.p hb.p) λσ H Q ⟨sr,q⟩=>⟨sr,wa.mono (λx q1 u1 H1 g1 s1 v1=>by
 cases v1 with
 | bl k=>
  cases k with
  | true=>exact⟨true,rfl,by rw[if_pos rfl];exact⟨s1,wb.mono (λ_ q u H' g s v=>q u H' (g1.trans g) s v) q1⟩⟩
  | false=>exact⟨false,rfl,by rw[if_neg AQ];exact q1 _ H1 g1 s1 (.bl _)⟩
 | _=>exact q1.elim) q⟩⟩
def o7{op}(h:EF X K fs a wa):EF X K fs (.BoolOp op [a] pos) wa:=⟨UW h.p⟩
def TL(ha:EF X K fs a wa):EF X K fs (.UnaryOp .Not a pos) (.bind wa QS):=⟨PE.imp (UX ha.p) λσ H Q ⟨sr,q⟩=>⟨sr,wa.mono (λx q1 u1 H1 g1 s1 v1=>by
 cases v1 with
 | bl k=>exact⟨_,rfl,q1 _ H1 g1 s1 (.bl _)⟩
 | _=>exact q1.elim) q⟩⟩
variable{ta tb tc:W Bool}
def gj(h:TF X K fs a ta):ph X K fs (.BoolOp .And [a] pos) ta:=⟨Qi h.p⟩
def gI(h:TF X K fs a ta):ph X K fs (.BoolOp .Or [a] pos) ta:=⟨UJ h.p⟩
def jK(ha:TF X K fs a ta)(hb:ph X K fs (.BoolOp .And (b::rest) pos) tb):ph X K fs (.BoolOp .And (a::b::rest) pos) (.bind ta λk=>if k=true then tb else .ret false):=⟨PW.imp (UK ha.p hb.p) λσ H Q ⟨sr,q⟩=>⟨sr,ta.mono (λk q1 H1 g1 s1=>by
 cases k with
 | true=>exact tK ⟨s1,tb.mono (λ_ q H' g s=>q H' (g1.trans g) s) q1⟩
 | false=>exact tL (q1 H1 g1 s1)) q⟩⟩
def jJ(ha:TF X K fs a ta)(hb:ph X K fs (.BoolOp .Or (b::rest) pos) tb):ph X K fs (.BoolOp .Or (a::b::rest) pos) (.bind ta λk=>if k=true then .ret true else tb):=⟨PW.imp (Yr ha.p hb.p) λσ H Q ⟨sr,q⟩=>⟨sr,ta.mono (λk q1 H1 g1 s1=>by
 cases k with
 | true=>exact tK (q1 H1 g1 s1)
 | false=>exact tL ⟨s1,tb.mono (λ_ q H' g s=>q H' (g1.trans g) s) q1⟩) q⟩⟩
def ph.t(h:ph X K fs a ta):TF X K fs a ta:=⟨PW.pt h.p⟩
def dA(ha:TF X K fs a ta):TF X K fs (.UnaryOp .Not a pos) (.bind ta λk=>.ret (!k)):=⟨PT.imp (UM ha.p) λσ H Q ⟨sr,q⟩=>⟨sr,q⟩⟩
def KS(hc:TF X K fs c tc)(ha:EF X K fs a wa)(hb:EF X K fs b wb):EF X K fs (.IfExp c a b pos) (.bind tc λk=>if k=true then wa else wb):=⟨PE.imp (yn hc.p ha.p hb.p) λσ H Q ⟨sr,q⟩=>⟨sr,tc.mono (λk q1 H1 g1 s1=>by
 cases k with
 | true=>exact tK ⟨s1,wa.mono (λ_ q u H' g s v=>q u H' (g1.trans g) s v) q1⟩
 | false=>exact tL ⟨s1,wb.mono (λ_ q u H' g s v=>q u H' (g1.trans g) s v) q1⟩) q⟩⟩
def YT{la lb:W (O PV)}(hc:TF X K fs c tc)(ha:LF X K fs a la)(hb:LF X K fs b lb):LF X K fs (.IfExp c a b pos) (.bind tc λk=>if k=true then la else lb):=⟨PE.imp (yn hc.p ha.p hb.p) λσ H Q ⟨sr,q⟩=>⟨sr,tc.mono (λk q1 H1 g1 s1=>by
 cases k with
 | true=>exact tK ⟨s1,la.mono (λ_ q a vs H' g s n e v=>q a vs H' (g1.trans g) s (g1.there a n) e v) q1⟩
 | false=>exact tL ⟨s1,lb.mono (λ_ q a vs H' g s n e v=>q a vs H' (g1.trans g) s (g1.there a n) e v) q1⟩) q⟩⟩
def cF:PV->W Bool
 | .aN=>.ret false
 | .bl b=>.ret b
 | .int i=>.ret (i != 0)
 | .str y=>.ff (y.length<=sizeLine) (.ret ((y.length:Int) != 0))
 | .tup l=>.ret (!l.isEmpty)
 | .cl l=>.ret (!l.isEmpty)
 | _=>.fail
def bH(hK:X.K=K)(ha:EF X K fs a wa)(he:∀Å,isTrue a X.env Å=(do let v <- Å;standAt a.pos;sw [v] (truthy v))):TF X K fs a (.bind wa cF):=⟨PT.imp (uq K hK ha.p he) λσ H Q ⟨sr,q⟩=>⟨sr,wa.mono (λx q1 u1 H1 g1 s1 v1=>by
 cases v1 with
 | aN=>exact⟨false,rfl,q1 H1 g1 s1⟩
 | bl b=>exact⟨b,rfl,q1 H1 g1 s1⟩
 | int i=>exact⟨_,rfl,q1 H1 g1 s1⟩
 | str y=>exact⟨_,⟨q1.1,rfl⟩,q1.2 H1 g1 s1⟩
 | ty _=>exact q1.elim
 | dk _ _ _=>exact q1.elim
 | dt _ _ _=>exact q1.elim
 | ob _ _ _ _ _=>exact q1.elim
 | ref _=>exact q1.elim
 | @tup p vs l e rs=>
  refine⟨!vs.isEmpty,.inr (.inl ⟨_,dz.of e,rfl⟩),?_⟩;rw[<- jV rs];exact q1 H1 g1 s1
 | @cl p vs l e rs=>
  refine⟨!vs.isEmpty,.inl ⟨_,e.sq,rfl⟩,?_⟩;rw[<- jV rs];exact q1 H1 g1 s1) q⟩⟩
def SA(hK:X.K=K)(ha:QF X K fs a wl)(he:∀Å,isTrue a X.env Å=(do let v <- Å;standAt a.pos;sw [v] (truthy v))):TF X K fs a (.bind wl λl=>.ret (!l.isEmpty)):=⟨PT.imp (uq K hK ha.p he) λσ H Q ⟨sr,q⟩=>⟨sr,wl.mono (λl q1 u1 H1 g1 s1 v1=>by
 obtain⟨b,vs,rfl,h,rs⟩:=v1.sq s1;refine⟨!vs.isEmpty,?_,?_⟩
 ·exact h.elim (λh=>.inl ⟨_,h,rfl⟩) λh=>.inr (.inl ⟨_,h,rfl⟩)
 ·rw[<- jV rs];exact q1 H1 g1 s1) q⟩⟩
variable{R:Type}{ks:O AK}{B:(O PV->W R)->W R}
def ai:AF X K fs [] [] (R:=R) (λk=>k []):=⟨.ret [],PA.imp cW λσ H Q ⟨sr,q⟩=>q [] H .refl sr .nil,λk=>rfl⟩
def aj(ha:EF X K fs e w)(hr:AF X K fs es ks B)(hs:gV X e es:=by rfl):AF X K fs (e::es) (.v::ks) (λk=>.bind w λx=>B λl=>k (x::l)):=by
 obtain⟨wr,hp,hB⟩:=hr.p;refine⟨.bind w λx=>.bind wr λl=>.ret (x::l),PA.imp (a9 ha.p hp hs) λσ H Q ⟨sr,q⟩=>?_,λk=>?_⟩
 ·exact⟨sr,w.mono (λx q1 u1 H1 g1 s1 v1=>⟨s1,wr.mono (λl q2 vs H2 g2 s2 v2=>q2 _ H2 (g1.trans g2) s2 (.v (g2.vr s1 v1) v2)) q1⟩) q⟩
 ·have:(λx=>B λl=>k (x::l))=λx=>am wr λl=>k (x::l):=funext λx=>hB _;rw[this];rfl
def dR(i:Nat)(hr:AF X K fs es ks B)(hs:fs[i]?=ap (ap (.kq φ)):=by rfl)(hN:X.N[i]?=ap x:=by rfl)(hv:xH X.env.scope x:=by first | exact Ck rfl | exact B9 (Ck rfl) | exact B9 (B9 rfl))(hd:ir x:=by decide)(ib:zS x:=by decide)
  (zW:gl (.Name x pos::es) X.env=(false,lc (.Name x pos) X.env)::gl es X.env:=by rfl):AF X K fs (.Name x pos::es) (.p φ::ks) B:=by
 obtain⟨wr,hp,hB⟩:=hr.p;refine⟨wr,PA.imp (a9 (de hN hv hd ib) hp zW) λσ H Q ⟨sr,q⟩=>?_,hB⟩;obtain⟨u,e1,r⟩:=sr.at' i _ hs;rcases r with⟨v,e,_⟩ | ⟨a,e,r⟩
 ·cases e
 ·subst e;exact⟨_,e1,sr,wr.mono (λl q2 vs H2 g2 s2 v2=>q2 _ H2 g2 s2 (.p ⟨i,hs,e1⟩ v2)) q⟩
theorem eL.Ls:∀{vs:O V}{n:Nat}{l:O PV},eL K σ fs H vs (Al n .v) l->aG K [] H vs l/\l.length=n
 | _,0,_,.nil=>⟨.nil,rfl⟩
 | _,n+1,_,.v r t=>⟨.cons r (eL.Ls t).1,by rw[An,(eL.Ls t).2]⟩
def ZO{x1}{B:(O PV->W PV)->W PV}(h:AF X K fs es (Al n .v) B)(hn:n<=1000:=by decide):EF X K fs (.Tuple es x1 pos) (B λl=>.ret (.tup l)):=by
 obtain⟨w,hp,hB⟩:=h.p;rw[hB];refine⟨PE.imp (Qt hp) λσ H Q ⟨sr,q⟩=>⟨sr,w.mono (λl q1 vs H1 g1 s1 v1=>?_) q⟩⟩;obtain⟨v2,hl⟩:=v1.Ls;refine⟨by rw[v2.length,hl];exact ba hn,λp H2 s2 e2 n2=>?_⟩;exact q1 _ H2 (g1.trans (cJ.same s2)) (s1.same s2) (.tup e2 (aG.tk s2.dN v2))
def S7{B:(O PV->W (O PV))->W (O PV)}(h:AF X K fs es (Al n .v) B)(hn:n<=1000:=by decide):LF X K fs (.List es pos) (B λl=>.ret l):=by
 obtain⟨w,hp,hB⟩:=h.p;rw[hB];refine⟨PE.imp (Qu hp) λσ H Q ⟨sr,q⟩=>⟨sr,w.mono (λl q1 vs H1 g1 s1 v1=>?_) q⟩⟩;obtain⟨v2,hl⟩:=v1.Ls;refine⟨by rw[v2.length,hl];exact ba hn,λp H2 s2 e2 n2=>?_⟩;exact q1 _ _ H2 (g1.trans (cJ.same s2)) (s1.same s2) (g1.there p n2) e2 (aG.tk s2.dN v2)
end
end
end FL
namespace L2
def Inv.IX{σ:St}(I:Inv X Z σ H s)(e:H a=ap (.lst vs)):∃o,Inv X Z σ (upd H a (.cz o (.lst vs))) s:=by
 obtain⟨z,ar,n,r,h1⟩:=(show aY X.prog X.w H s.heap a (.lst vs) from I.bj a _ e);exact⟨_,I.write (x:=a) (e:=a) (o:=.cz _ (.lst vs)) (h':=s.heap) (t':=s.toks) (by rw[e];exact B6) (.inl rfl) (λb u _ z=>z) ⟨_,h1⟩ ⟨h1,z,ar,n,r,h1⟩⟩
def Inv.IZ{σ:St}{kvs:O (Key×V)}(I:Inv X Z σ H s)(e:H a=ap (.dK kvs)):∃o,Inv X Z σ (upd H a (.cz o (.dK kvs))) s:=by
 obtain⟨z,hs,vs,r,o,es,ep,h1,h2⟩:=(show aY X.prog X.w H s.heap a (.dK kvs) from I.bj a _ e);exact⟨o,I.write (x:=a) (e:=a) (o:=.cz o (.dK kvs)) (h':=s.heap) (t':=s.toks) (by rw[e];exact B6) (.inl rfl) (λb u _ z=>z) ⟨o,h1⟩ ⟨h1,z,hs,vs,r,o,es,ep,h1,h2⟩⟩
end L2
variable{t:FL.SL}{ks:O FL.AK}{B:(O PL.PV->FL.W PL.PV)->FL.W PL.PV}{q0:Option BG}
namespace FL
section
variable[dJ]
variable{K:Ab}
section
def pU(o':HO)(e:H a=ap (.lst vs)):a7 K H (upd H a o'):=⟨λb ws q=>by rw[au (IE q e (by intro z;cases z))];exact q,λb o u q=>by rw[au (IE q e (by intro z;cases z))];exact q⟩
def dvK(kvs:O (Key×PV)):PV:=.dv (kvs.map λkv=>kP kv.1) (kvs.map (·.2))
def Ov(kvs:O (O Key×PV)):PV:=.dv (kvs.map λkv=>.tup (kv.1.map kP)) (kvs.map (·.2))
def fq{oh:HO}(o':HO)(e:H a=ap oh)(n1:∀vs,oh≠.tup vs)(n2:∀o u,oh≠.cz o u):a7 K H (upd H a o'):=⟨λb ws q=>by rw[au (λz=>by subst z;rw[e]at q;cases q;exact n1 _ rfl)];exact q,λb o u q=>by rw[au (λz=>by subst z;rw[e]at q;cases q;exact n2 _ _ rfl)];exact q⟩
def Ta{vs:O (O Key×V)}{kvs:O (O Key×PV)}(h:vs.map (·.1)=kvs.map (·.1)):(kvs.map λkv=>PV.tup (kv.1.map kP))=vs.map λkv=>PV.tup (kv.1.map kP):=by
 have:=congrArg (FC λk:O Key=>PV.tup (k.map kP)) h;rw[AL,AL]at this;exact this.symm
def Tb{vs:O (Key×V)}{kvs:O (Key×PV)}(h:vs.map (·.1)=kvs.map (·.1)):(kvs.map λkv=>kP kv.1)=vs.map λkv=>kP kv.1:=by
 have:=congrArg (FC kP) h;rw[AL,AL]at this;exact this.symm
def SL.bw:SL->Bool
 | .ol _ _=>true
 | .od _=>true
 | .ot _=>true
 | _=>false
def SL.bv:SL->PV
 | .ol _ l=>.cl l
 | .od kvs=>dvK kvs
 | .ot kvs=>Ov kvs
 | _=>.aN
def SL.OG(h:t.bw=true):t.own=true:=by cases t <;> first | rfl | cases h
def ZA(I:Inv X Z σ' H s)(oa:jA K H a t)(hb:t.bw=true):∃ob o,H a=ap o/\(∀vs,o≠.tup vs)/\(∀ob u,o≠.cz ob u)/\Inv X Z σ' (upd H a (.cz ob o)) s/\VR K [] (upd H a (.cz ob o)) (.ref a) t.bv:=by
 cases t with
 | ol q l=>
  obtain⟨_,vs,e,r⟩:=oa;obtain⟨ob,I2⟩:=I.IX e;exact⟨ob,_,e,by simp,by simp,I2,.cl (.inl ⟨ob,aO⟩) (aG.tk (fq _ e (by simp) (by simp)) r)⟩
 | od l=>
  obtain⟨vs,e,k,r⟩:=oa;obtain⟨ob,I2⟩:=I.IZ e;exact⟨ob,_,e,by simp,by simp,I2,.dk aO (Tb k) (aG.tk (fq _ e (by simp) (by simp)) r)⟩
 | ot l=>
  obtain⟨vs,e,k,r⟩:=oa;obtain⟨ob,I2⟩:=I.freeze e;exact⟨ob,_,e,by simp,by simp,I2,.dt aO (Ta k) (aG.tk (fq _ e (by simp) (by simp)) r)⟩
 | _=>cases hb
def aR.Zz{o u:HO}(sr:aR K H σ fs)(hs:fs[i]?=ap (ap t))(ho:t.own=true)(e1:σ[i]?=ap (ap (.ref a)))(h1:H a=ap o)(n1:∀vs,o≠.tup vs)(n2:∀ob u,o≠.cz ob u)(vr:VR K [] (upd H a u) (.ref a) v):aR K (upd H a u) σ (fs.set i (ap (.val v))):=by
 have nt:o.nt=true:=by
  obtain⟨o',z1,_,_,z2⟩:=(sr.ownAt hs ho e1).ex ho (.inl rfl);rw[h1]at z1;cases z1;exact SX z2
 refine⟨by simp[sr.len],λj t' z=>?_,λj k t' u b1 b2 b z1 z2 o1 o2=>?_,sr.tb.Il (λb o n z=>by rw[au n];exact z) h1 nt n2⟩
 ·rcases cC z with⟨rfl,rfl⟩ | ⟨n,z⟩
  ·exact⟨_,e1,.inl ⟨_,rfl,vr⟩⟩
  ·obtain⟨u,k1,k2⟩:=sr.at' j t' z;exact⟨u,k1,k2.mono (fq _ h1 n1 n2) (λx b o eb ow hb zz _=>by
    subst eb;rw[au (λy=>by subst y;exact n (sr.nd j i t' _ x b b z hs ow ho k1 e1 hb (.inl rfl)))];exact zz)⟩
 ·rcases cC z1 with⟨rfl,rfl⟩ | ⟨n1,z1⟩
  ·cases o1
  ·rcases cC z2 with⟨rfl,rfl⟩ | ⟨n2,z2⟩
   ·cases o2
   ·exact sr.nd j k t' u b1 b2 b z1 z2 o1 o2
def aR.side(s:aR K H σ fs)(n:¬cI σ fs a)(e:H a=ap (.lst vs))(o':HO):aR K (upd H a o') σ fs:=⟨s.len,λi t q=>by
 obtain⟨u,h1,h2⟩:=s.at' i t q;exact⟨u,h1,h2.mono (pU o' e) (λx b o eb ow hb z _=>by subst eb;rw[au (λy:b=a=>n ⟨i,t,x,q,ow,h1,y▸hb⟩)];exact z)⟩,s.nd,s.tb.Il (λb o n z=>by rw[au n];exact z) e rfl (by simp)⟩
def cJ.side(g:cJ σ fs H H1)(h0:H a=bn)(o':HO):cJ σ fs H (upd H1 a o'):=⟨λb o e n t=>by rw[au (bt e h0)];exact g.keep b o e n t,λb e=>by
 by_cases c:b=a
 ·subst c;exact h0
 ·rw[au c]at e;exact g.there b e⟩
end
section
variable{a:im}{w:W PV}
def Oo(h:LF X K fs e wl):EF X K fs e (.bind wl λl=>.ret (.cl l)):=⟨λZ s σ H Q I ⟨sr,q⟩=>by
 refine bp (h.p Z s σ H (λu H1=>∃a vs l,u=.ref a/\cJ σ fs H H1/\aR K H1 σ fs/\H a=bn/\H1 a=ap (.lst vs)/\aG K [] H1 vs l/\∀u H',cJ σ fs H H'->aR K H' σ fs->VR K [] H' u (.cl l)->Q u H') I ⟨sr,wl.mono (λl q1 a vs H1 g1 s1 n e v=>⟨a,vs,l,rfl,g1,s1,n,e,v,q1⟩) q⟩) λu s1 ⟨v,H1,I1,r1,a,vs,l,e,g1,P8,n,ea,vr,q1⟩=>?_;subst e;obtain⟨ob,I2⟩:=I1.IX ea;exact⟨.ref a,_,I2,r1,q1 _ _ (g1.side n _) (P8.side (λz=>sr.noOwn n z) ea _) (.cl (.inl ⟨ob,aO⟩) (aG.tk (pU _ ea) vr))⟩⟩
def ay:PV->W (O PV)
 | .tup l=>.ret l
 | .cl l=>.ret l
 | _=>.fail
def bI(h:EF X K fs e w):IF X K fs e (.bind w ay):=⟨PE.imp h.p λσ H Q ⟨sr,q⟩=>⟨sr,w.mono (λx q1 u1 H1 g1 s1 v1=>by
 cases v1 with
 | tup e r=>exact q1 _ H1 g1 s1 ⟨_,_,rfl,.inr e,r⟩
 | cl e r=>exact q1 _ H1 g1 s1 ⟨_,_,rfl,.inl e,r⟩
 | _=>exact q1.elim) q⟩⟩
def uB(h:LF X K fs e wl):IF X K fs e wl:=bI (Oo h)
theorem IF.q(h:IF X K fs e wl):QF X K fs e wl:=⟨PE.imp h.p λσ H Q ⟨sr,q⟩=>⟨sr,wl.mono (λl q1 u1 H1 g1 s1 v1=>q1 u1 H1 g1 s1 (.inl v1)) q⟩⟩
def aw(h:EF X K fs e w):QF X K fs e (.bind w ay):=(bI h).q
def eR(h:LF X K fs e wl):QF X K fs e wl:=⟨PE.imp h.p λσ H Q ⟨sr,q⟩=>⟨sr,wl.mono (λl q1 a vs H1 g1 s1 n e v=>q1 _ H1 g1 s1 (.inr ⟨a,rfl,.inl ⟨sr.noOwn n,vs,e,v⟩⟩)) q⟩⟩
def cq(i:Nat)(hs:fs[i]?=ap (ap (.ol q0 l)):=by rfl)(hN:X.N[i]?=ap x:=by rfl)(hv:xH X.env.scope x:=by first | exact Ck rfl | exact B9 (Ck rfl) | exact B9 (B9 rfl))(hd:ir x:=by decide)(ib:zS x:=by decide):QF X K fs (.Name x pos) (.ret l):=
 ⟨PE.imp (de hN hv hd ib) λσ H Q ⟨sr,q⟩=>by
  obtain⟨u,e1,r⟩:=sr.at' i _ hs;rcases r with⟨w,e,r⟩ | ⟨a,e,r⟩
  ·cases e
  ·subst e;exact⟨_,e1,q _ H .refl sr (.inr ⟨a,rfl,.inr ⟨i,q0,hs,e1⟩⟩)⟩⟩
def Tg(l:O PV):PV->W PV
 | .int i=>.Ve (cx l i)
 | _=>.fail
def aF(hK:X.K=K)(ha:QF X K fs a wl)(hb:EF X K fs b wb)(hs:xD b:=by exact λ_ _=>rfl):EF X K fs (.Subscript a b pos) (.bind wl λl=>.bind wb λy=>Tg l y):=⟨PE.imp (SU (Rh K hK) ha.p hb.p hs) λσ H Q ⟨sr,q⟩=>⟨sr,wl.mono (λl q1 u1 H1 g1 s1 v1=>⟨s1,wb.mono (λy q2 u2 H2 g2 s2 v2=>by
 cases v2 with
 | int i=>
  have q2:(W.Ve (cx l i)).run _:=q2;cases z:cx l i with
  | none=>rw[z]at q2;exact q2.elim
  | some x=>
   rw[z]at q2;obtain⟨ad,vs,rfl,h,rs⟩:=(v1.go s1 g2).sq s2;obtain⟨v,e1,e2⟩:=aG.cx rs z;have q3:=q2 v H2 (g1.trans g2) s2 e2;exact h.elim (λh=>.inl ⟨ad,vs,i,v,rfl,rfl,h,e1,q3⟩) λh=>.inr (.inl ⟨ad,vs,i,v,rfl,rfl,h,e1,q3⟩)
 | _=>exact q2.elim) q1⟩) q⟩⟩
def ZS(ha:EF X K fs a wa)(hb:EF X K fs b wb)(hs:xD b):EF X K fs (.Subscript a b pos) (.bind wa λx=>.bind wb λy=>of2 JW x y):=⟨PE.imp (SU Nu ha.p hb.p hs) (I0 QM)⟩
def qC(m:uZ)(l:O PV):W PV:=⟨λQ=>m.f l [] λz h=>h=[]/\Q z,λf q=>m.mono (λ_ _ q=>⟨q.1,f _ q.2⟩) q⟩
section
variable{id:String}{r:O V->Hp->VK->Prop}
def MP{m:uZ}(hm:uZ.Ok K r m){Q:VK}{us:O V}(sr:aR K H σ fs)(hu:aG K [] H us l)(q:(qC m l).run λz=>∀u H',cJ σ fs H H'->aR K H' σ fs->VR K [] H' u z->Q u H'):r us H Q:=hm (hr0 H) hu (m.mono (λz h q=>pq0 sr q) q)
def qf{m:uZ}(hc:bJ X (.builtin id) r)(hB:uZ.Ok K r m)(hg:Gl X x)(hm:X.mg x=bn)(hv:nw x=ap (.builtin id))(ha:AF X K fs (e::es) (Al n .v) B)(hn:x≠"__name__":=by decide)(m6:ir x:=by decide)
  (he:gV X e es:=by rfl) (dr:mr X pos es:=by rfl):EF X K fs (.Call (.Name x p) (e::es) [] pos) (B (qC m)):=by
 obtain⟨w,hp,Ĝ⟩:=ha.p;rw[Ĝ];exact⟨PE.imp (fw hc hg hm hv hp hn m6 he dr) λσ H Q ⟨sr,q⟩=>⟨sr,w.mono (λl q1 vs H1 g1 s1 v1=>MP hB s1 v1.Ls.1 ((qC m l).mono (λz q u H' g s v=>q u H' (g1.trans g) s v) q1)) q⟩⟩
def Ot{m:uZ}(hc:bJ X (.type id) r)(hB:uZ.Ok K r m)(hg:Gl X x)(hm:X.mg x=bn)(hv:nw x=ap (.type id))(ha:AF X K fs (e::es) (Al n .v) B)(hn:x≠"__name__":=by decide)(m6:ir x:=by decide)
  (he:gV X e es:=by rfl) (dr:mr X pos es:=by rfl):EF X K fs (.Call (.Name x p) (e::es) [] pos) (B (qC m)):=by
 obtain⟨w,hp,Ĝ⟩:=ha.p;rw[Ĝ];exact⟨PE.imp (kr hc hg hm hv hp hn m6 he dr) λσ H Q ⟨sr,q⟩=>⟨sr,w.mono (λl q1 vs H1 g1 s1 v1=>MP hB s1 v1.Ls.1 ((qC m l).mono (λz q u H' g s v=>q u H' (g1.trans g) s v) q1)) q⟩⟩
def CQ(K:Ab)(r:O V->Hp->VK->Prop)(m:O PV->W PV):Prop:=∀{fs:bc}{σ:L2.St}{H:Hp}{Q:VK}{u:V}{l:O PV},aR K H σ fs->Sl K σ fs H u l->((m l).run λz=>∀u H',cJ σ fs H H'->aR K H' σ fs->VR K [] H' u z->Q u H')->r [u] H Q
def CL(K:Ab)(r:O V->Hp->VK->Prop)(m:O PV->W (O PV)):Prop:=∀{fs:bc}{σ:L2.St}{H:Hp}{Q:VK}{u:V}{l:O PV},aR K H σ fs->Sl K σ fs H u l->((m l).run λz=>∀a vs H',cJ σ fs H H'->aR K H' σ fs->H a=bn->H' a=ap (.lst vs)->aG K [] H' vs z->Q (.ref a) H')->r [u] H Q
def Ou{m:O PV->W PV}(hc:bJ X (.builtin id) r)(hB:CQ K r m)(hg:Gl X x)(hm:X.mg x=bn)(hv:nw x=ap (.builtin id))(ha:QF X K fs e wl)(hn:x≠"__name__":=by decide)(m6:ir x:=by decide)
  (he:gV X e []:=by rfl) (dr:mr X pos []:=by rfl):EF X K fs (.Call (.Name x p) [e] [] pos) (.bind wl m):=⟨PE.imp (fw hc hg hm hv (a9 ha.p cW he) hn m6 he dr) λσ H Q ⟨sr,q⟩=>⟨sr,wl.mono (λl q1 u H1 g1 s1 v1=>hB s1 v1 ((m l).mono (λz q u H' g s v=>q u H' (g1.trans g) s v) q1)) q⟩⟩
def KW{m:O PV->W PV}(hc:bJ X (.type id) r)(hB:CQ K r m)(hg:Gl X x)(hm:X.mg x=bn)(hv:nw x=ap (.type id))(ha:QF X K fs e wl)(hn:x≠"__name__":=by decide)(m6:ir x:=by decide)
  (he:gV X e []:=by rfl) (dr:mr X pos []:=by rfl):EF X K fs (.Call (.Name x p) [e] [] pos) (.bind wl m):=⟨PE.imp (kr hc hg hm hv (a9 ha.p cW he) hn m6 he dr) λσ H Q ⟨sr,q⟩=>⟨sr,wl.mono (λl q1 u H1 g1 s1 v1=>hB s1 v1 ((m l).mono (λz q u H' g s v=>q u H' (g1.trans g) s v) q1)) q⟩⟩
def aaD{m:O PV->W (O PV)}(hc:bJ X (.builtin id) r)(hB:CL K r m)(hg:Gl X x)(hm:X.mg x=bn)(hv:nw x=ap (.builtin id))(ha:QF X K fs e wl)(hn:x≠"__name__":=by decide)(m6:ir x:=by decide)
  (he:gV X e []:=by rfl) (dr:mr X pos []:=by rfl):LF X K fs (.Call (.Name x p) [e] [] pos) (.bind wl m):=⟨PE.imp (fw hc hg hm hv (a9 ha.p cW he) hn m6 he dr) λσ H Q ⟨sr,q⟩=>⟨sr,wl.mono (λl q1 u H1 g1 s1 v1=>hB s1 v1 ((m l).mono (λz q a vs H' g s n e v=>q a vs H' (g1.trans g) s (g1.there a n) e v) q1)) q⟩⟩
def Ng{m:O PV->W (O PV)}(hc:bJ X (.type id) r)(hB:CL K r m)(hg:Gl X x)(hm:X.mg x=bn)(hv:nw x=ap (.type id))(ha:QF X K fs e wl)(hn:x≠"__name__":=by decide)(m6:ir x:=by decide)
  (he:gV X e []:=by rfl) (dr:mr X pos []:=by rfl):LF X K fs (.Call (.Name x p) [e] [] pos) (.bind wl m):=⟨PE.imp (kr hc hg hm hv (a9 ha.p cW he) hn m6 he dr) λσ H Q ⟨sr,q⟩=>⟨sr,wl.mono (λl q1 u H1 g1 s1 v1=>hB s1 v1 ((m l).mono (λz q a vs H' g s n e v=>q a vs H' (g1.trans g) s (g1.there a n) e v) q1)) q⟩⟩
end
def v8(l:O PV):W PV:=.ret (.int l.length)
def Q2(K:Ab):CQ K (UD K) v8:=λ{fs σ H Q u l} s v q=>by
 obtain⟨a,vs,rfl,h,rs⟩:=v.sq s;refine⟨_,vs.length,rfl,?_,?_⟩
 ·exact h.elim (λh=>.inl ⟨_,h,rfl⟩) λh=>.inr ⟨_,h,rfl⟩
 ·rw[rs.length];exact q _ H .refl s (.int _)
def pq(l:O PV):W PV:=.ret (.tup l)
def Pu(K:Ab):CQ K (Mk K) pq:=λ{fs σ H Q u l} s v q=>by
 have fresh:∀{a:cr}{vs:O V},cT K H a vs->aG K [] H vs l->Mk K [.ref a] H Q:=λ{a vs} h rs=>⟨a,vs,rfl,.inl ⟨h,λp H2 s2 e2 n2=>q _ H2 (cJ.same s2) (s.same s2) (.tup e2 (aG.tk s2.dN rs))⟩⟩;rcases v with⟨a,vs,rfl,h | h,rs⟩ | ⟨a,rfl,⟨n,vs,h,rs⟩ | ⟨i,_,q1,q2⟩⟩
 ·exact fresh h.sq rs
 ·exact⟨a,vs,rfl,.inr ⟨dz.of h,q _ H .refl s (.tup h rs)⟩⟩
 ·exact fresh (cT.of h) rs
 ·obtain⟨_,vs,h,rs⟩:=s.ownAt q1 rfl q2;exact fresh (cT.of h) rs
end
end
end FL
variable{R:Type}
namespace FL
section
variable[dJ]
variable{K:Ab}
def xC(vs:O V)(ks:O AK)(φ:O V->Prop)(a:cr):Prop:=∃i:Nat,ks[i]?=ap (.p φ)/\vs[i]?=ap (.ref a)
structure GoC(vs:List V)(ks:List AK)(H H':Hp):Prop where
 keep:∀a o,H a=ap o->(∀φ,¬xC vs ks φ a)->(nt:o.nt=true:=by rfl)->H' a=ap o
 tb:TB H'
 there:∀a,H' a=bn->H a=bn
 UQ:∀a φ,xC vs ks φ a->∃ws,H' a=ap (.lst ws)/\φ ws
inductive gU(K:Ab)(H:Hp):List V->List AK->List PV->Prop
 | nil:gU K H [] [] []
 | v {u:V}{x:PV}{vs:List V}{ks:List AK}{l:List PV} (r:VR K [] H u x) (t:gU K H vs ks l):gU K H (u::vs) (.v::ks) (x::l)
 | p {a:cr}{φ:List V->Prop}{ws vs:List V}{ks:List AK}{l:List PV} (e:H a=ap (.lst ws)) (r:φ ws) (t:gU K H vs ks l):gU K H (.ref a::vs) (.p φ::ks) l
 | f {a:cr}{us vs:List V}{ps:List PV}{fz:List (cr×Obj)}{ks:List AK}{l:List PV} (r:aG K [] H us ps) (z:Lq H fz) (t:gU K H vs ks l):gU K H (.ref a::vs) (.f a us ps fz::ks) l
def Ih(K:Ab)(ks:O AK)(m:O PV->W PV):Sp:=λvs H Q _=>TB H/\∃l,gU K H vs ks l/\(m l).run λv=>∀u H',GoC vs ks H H'->VR K [] H' u v->Q u H'
def xZ(K:Ab)(ks:O AK)(m:O PV->W (O PV)):Sp:=λvs H Q _=>TB H/\∃l,gU K H vs ks l/\(m l).run λz=>∀a ws H',GoC vs ks H H'->H a=bn->H' a=ap (.lst ws)->aG K [] H' ws z->Q (.ref a) H'
def zY(R:Type):Nat->Type
 | 0=>W R
 | n+1=>PV->zY R n
def oU:(n:Nat)->zY R n->O PV->W R
 | 0,m,[]=>m
 | n+1,m,x::l=>oU n (m x) l
 | 0,_,_::_=>.fail
 | _+1,_,[]=>.fail
section
def eL.kq(h:eL K σ fs H vs ks l)(p:xC vs ks φ a):gG σ fs φ a:=by
 obtain⟨i,e1,e2⟩:=p
 induction h generalizing i with
 | nil=>simp at e1
 | v r t ih=>cases i with | zero=>simp at e1 | succ i=>exact ih i (by simpa using e1) (by simpa using e2)
 | p r t ih=>
  cases i with
  | zero=>simp at e1 e2;subst e1;subst e2;exact r
  | succ i=>exact ih i (by simpa using e1) (by simpa using e2)
 | f r z t ih=>cases i with | zero=>simp at e1 | succ i=>exact ih i (by simpa using e1) (by simpa using e2)
def eL.c(h:eL K σ fs H vs ks l)(s:aR K H σ fs):gU K H vs ks l:=by
 induction h with
 | nil=>exact .nil
 | v r t ih=>exact .v r ih
 | p r t ih=>
  obtain⟨i,e1,e2⟩:=r;obtain⟨ws,q,x⟩:=s.ownAt e1 rfl e2;exact .p q x ih
 | f r z t ih=>exact .f r z ih
def GoC.caller(g:GoC vs ks H H')(h:eL K σ fs H vs ks l)(s:aR K H σ fs):aR K H' σ fs/\cJ σ fs H H':=by
 have gf:cJ σ fs H H':=⟨λa o e n t=>g.keep a o e (λφ p=>n φ (h.kq p)) t,g.there⟩;have tk:=gf.dc s;refine⟨⟨s.len,λi t e=>?_,s.nd,g.tb⟩,gf⟩;obtain⟨u,h1,h2⟩:=s.at' i t e;refine⟨u,h1,?_⟩;rcases h2 with⟨v,q,r⟩ | ⟨a,q,r⟩
 ·exact .inl ⟨v,q,VR.tk tk r⟩
 ·subst q;refine .inr ⟨a,rfl,?_⟩;by_cases c:(∃φ,xC vs ks φ a)/\t.own=true
  ·obtain⟨⟨φ,p⟩,ow⟩:=c;obtain⟨j,e1,e2⟩:=h.kq p;have ij:=s.nd i j t _ a a a e e1 ow rfl h1 e2 (.inl rfl) (.inl rfl);subst ij;rw[e]at e1;cases e1;exact g.UQ a φ p
  ·refine r.mono tk (λb o ow hb z nt=>g.keep b o z (λφ p=>?_) nt);obtain⟨j,e1,e2⟩:=h.kq p;have ij:=s.nd i j t _ a b b e e1 ow rfl h1 e2 hb (.inl rfl);subst ij;rw[h1]at e2;cases e2;exact c ⟨⟨φ,p⟩,ow⟩
end
section
def Wo{m:O PV->W PV}(G:Sv X.prog X.w X.K X.mg X.base x k ps (Ih K ks m))(hr:d7 k' X.A)(hk:k<=k')(hg:Gl X x)(ha:AF X K fs (e::es) ks B)(m6:ir x:=by decide)
  (he:gV X e es:=by rfl) (dr:mr X pos es:=by rfl):EF X K fs (.Call (.Name x p) (e::es) [] pos) (B m):=by
 obtain⟨w,hp,hB⟩:=ha.p;rw[hB];exact⟨PE.imp (MJ G hr hk hg hp m6 he dr) λσ H Q ⟨sr,q⟩=>⟨sr,w.mono (λl q1 vs H1 g1 s1 v1=>⟨s1.tb,l,v1.c s1,(m l).mono (λz q2 u H2 g2 r2=>let ⟨s2,g3⟩:=g2.caller v1 s1;q2 u H2 (g1.trans g3) s2 r2) q1⟩) q⟩⟩
def Vt{m:O PV->W (O PV)}{B:(O PV->W (O PV))->W (O PV)}(G:Sv X.prog X.w X.K X.mg X.base x k ps (xZ K ks m))(hr:d7 k' X.A)(hk:k<=k')(hg:Gl X x)(ha:AF X K fs (e::es) ks B)(m6:ir x:=by decide)
  (he:gV X e es:=by rfl) (dr:mr X pos es:=by rfl):LF X K fs (.Call (.Name x p) (e::es) [] pos) (B m):=by
 obtain⟨w,hp,hB⟩:=ha.p;rw[hB];exact⟨PE.imp (MJ G hr hk hg hp m6 he dr) λσ H Q ⟨sr,q⟩=>⟨sr,w.mono (λl q1 vs H1 g1 s1 v1=>⟨s1.tb,l,v1.c s1,(m l).mono (λz q2 a ws H2 g2 n2 e2 r2=>let ⟨s2,g3⟩:=g2.caller v1 s1;q2 a ws H2 (g1.trans g3) s2 (g1.there a n2) e2 r2) q1⟩) q⟩⟩
end
end
end FL
variable{x:Bool}{T:Type}{p':Cj}
namespace FL
section
variable[dJ]
variable{K:Ab}
inductive End where
 | nx (fs:bc) | nc (fs:bc) | ct (fs:bc) | rt (v:PV) | rl (l:List PV) | bk (fs:bc) | ro (v:PV) (a:cr) (l:List PV)
def xF(σ:L2.St)(fs:bc)(H:Hp)(a:cr):Prop:=H a=bn\/∃(i:Nat) (s:SL) (x:cr),fs[i]?=ap (ap s)/\s.own=true/\(∀φ,s≠.kq φ)/\σ[i]?=ap (ap (.ref x))/\s.has x a
def bA(K:Ab)(x:Bool)(σ:L2.St)(fs:bc)(H:Hp)(D:Ends):End->Prop
 | .nx bx=>x=false->∀σ' H',cg σ fs H σ' bx H'->aR K H' σ' bx->D.nx σ' H'
 | .nc bx=>∀σ' H',cg σ fs H σ' bx H'->aR K H' σ' bx->(x=false->D.nx σ' H')/\D.ct σ' H'
 | .ct bx=>∀σ' H',cg σ fs H σ' bx H'->aR K H' σ' bx->D.ct σ' H'
 | .bk bx=>∀σ' H',cg σ fs H σ' bx H'->aR K H' σ' bx->D.bk σ' H'
 | .rt v=>∀u σ' bx H',cg σ fs H σ' bx H'->aR K H' σ' bx->VR K [] H' u v->D.rt u H'
 | .ro v a l=>∀u σ' bx H',cg σ fs H σ' bx H'->aR K H' σ' bx->(∃i:Nat,bx[i]?=ap (ap (.ol (ap a) l)))->VR K [] H' u v->D.rt u H'
 | .rl l=>∀a ws σ' bx H',cg σ fs H σ' bx H'->aR K H' σ' bx->xF σ fs H a->H' a=ap (.lst ws)->aG K [] H' ws l->D.rt (.ref a) H'
def fS(K:Ab)(x:Bool)(fs:bc)(w:W T)(out:T->End):TS:=λD σ H=>aR K H σ fs/\w.run λt=>bA K x σ fs H D (out t)
structure SF(X:Cx)(K:Ab)(x:Bool)(fs:bc)(Uk:List sn){T:Type}(w:W T)(out:T->End):Prop where p:qh X Uk (fS K x fs w out)
section
variable{σ1:L2.St}{NS:bc}
def xF.go(g:cg σ fs H σ1 NS H1)(s:aR K H σ fs)(s1:aR K H1 σ1 NS)(h:xF σ1 NS H1 a):xF σ fs H a:=by
 rcases h with h | ⟨i,t,x,e1,e2,np,e3,e4⟩
 ·exact .inl (g.there a h)
 ·cases z:H a with
  | none=>exact .inl z
  | some o=>
   by_cases c:cI σ fs a
   ·obtain⟨j,t',y,c1,c2,c3,c4⟩:=c;by_cases d:∃φ,t'=.kq φ
    ·obtain⟨φ,rfl⟩:=d;rcases c4 with rfl | c4
     ·rcases g.pk a φ ⟨j,c1,c3⟩ with⟨k,k1,k2⟩ | ⟨n,_⟩
      ·have:=s1.nd i k t _ x a a e1 k1 e2 rfl e3 k2 e4 (.inl rfl);subst this;rw[e1]at k1;cases k1;exact absurd rfl (np φ)
      ·exact absurd ⟨i,t,x,e1,e2,e3,e4⟩ n
     ·cases c4
    ·exact .inr ⟨j,t',y,c1,c2,λφ e=>d ⟨φ,e⟩,c3,c4⟩
   ·exact absurd ⟨i,t,x,e1,e2,e3,e4⟩ (g.keep a o z c).2
def bA.go(g:cg σ fs H σ1 NS H1)(s:aR K H σ fs)(s1:aR K H1 σ1 NS){E:End}(h:bA K x σ fs H D E):bA K x σ1 NS H1 D E:=by
 cases E with
 | nx bx=>exact λhx σ' H' g' s'=>h hx σ' H' (g.trans g') s'
 | nc bx=>exact λσ' H' g' s'=>h σ' H' (g.trans g') s'
 | bk bx=>exact λσ' H' g' s'=>h σ' H' (g.trans g') s'
 | ct bx=>exact λσ' H' g' s'=>h σ' H' (g.trans g') s'
 | rt v=>exact λu σ' bx H' g' s' r=>h u σ' bx H' (g.trans g') s' r
 | ro v a l=>exact λu σ' bx H' g' s' o r=>h u σ' bx H' (g.trans g') s' o r
 | rl l=>exact λa ws σ' bx H' g' s' f e r=>h a ws σ' bx H' (g.trans g') s' (f.go g s s1) e r
def bA.exit{D':Ends}(h1:D'.rt=D.rt)(h2:D'.ct=D.ct)(h3:D'.bk=D.bk){E:End}(h:bA K x σ fs H D E):bA K true σ fs H D' E:=by
 cases E with
 | nx bx=>exact λhx=>nomatch hx
 | nc bx=>exact λσ' H' g' s'=>⟨λhx=>(nomatch hx),h2▸(h σ' H' g' s').2⟩
 | bk bx=>exact λσ' H' g' s'=>h3▸h σ' H' g' s'
 | ct bx=>exact λσ' H' g' s'=>h2▸h σ' H' g' s'
 | rt v=>exact λu σ' bx H' g' s' r=>h1▸h u σ' bx H' g' s' r
 | ro v a l=>exact λu σ' bx H' g' s' o r=>h1▸h u σ' bx H' g' s' o r
 | rl l=>exact λa ws σ' bx H' g' s' f e r=>h1▸h a ws σ' bx H' g' s' f e r
end
section
variable{X:Cx}{a b c e o:im}{pos p:Pos}{fs bx:bc}{st:sn}{Uk rest sa sb:O sn}{T T1:Type}{w wk:W T}{out:T->End}{we:W PV}{wl:W (O PV)}{x:Bool}
def End.IT:End->Prop
 | .rt _=>True
 | .rl _=>True
 | .ro _ _ _=>True
 | _=>False
def bA.YB{D':Ends}{y:Bool}{E:End}(ho:E.IT)(e:D'.rt=D.rt)(h:bA K x σ fs H D E):bA K y σ fs H D' E:=by
 cases E with
 | rt v=>exact λu σ' bx H' g s r=>e▸h u σ' bx H' g s r
 | rl v=>exact λa ws σ' bx H' g s f ea r=>e▸h a ws σ' bx H' g s f ea r
 | ro v a l=>exact λu σ' bx H' g s o r=>e▸h u σ' bx H' g s o r
 | _=>exact ho.elim
def xR(X:Cx)(K:Ab)(x:Bool)(rest:O sn){T:Type}(out:T->End):TS:=λD σ H=>∃bx w',SF X K x bx rest w' out/\fS K x bx w' out D σ H
def Qa:qh X rest (xR X K x rest out):=λZ s σ H D I ⟨bx,w',h,q⟩=>h.p Z s σ H D I q
def MV:qh X rest Ug:=λ_ _ _ _ _ _ h=>h.elim
def SF.step{t:TS}(h:PS X st t)(hq:∀D σ H,fS K x fs w out D σ H->t {D with nx:=xR X K x rest out D} σ H):SF X K x fs (st::rest) w out:=⟨qh.imp (yg h Qa) λD σ H q=>hq D σ H q⟩
def SF.last{t:TS}(h:PS X st t)(hq:∀D σ H,fS K x fs w out D σ H->t {D with nx:=λ_ _=>False} σ H):SF X K x fs (st::rest) w out:=⟨qh.imp (yg h MV) λD σ H q=>hq D σ H q⟩
def SF.nil{t:T}(h:out t=.nx bx)(hl:gb fs bx):SF X K false fs [] (.ret t) out:=⟨qh.imp vv λD σ H ⟨sr,q⟩=>by
 have q:bA K false σ fs H D (out t):=q;rw[h]at q;exact q rfl σ H (cg.le sr hl) (sr.le hl)⟩
def SF.eN{t:T}(h:out t=.nc bx)(hl:gb fs bx):SF X K false fs [] (.ret t) out:=⟨qh.imp vv λD σ H ⟨sr,q⟩=>by
 have q:bA K false σ fs H D (out t):=q;rw[h]at q;exact(q σ H (cg.le sr hl) (sr.le hl)).1 rfl⟩
def SF.cont{t:T}(h:out t=.nc bx\/out t=.ct bx)(hl:gb fs bx):SF X K x fs (.Continue pos::rest) (.ret t) out:=SF.last yj λD σ H ⟨sr,q⟩=>by
 have q:bA K x σ fs H D (out t):=q;rcases h with h | h
 ·rw[h]at q;exact(q σ H (cg.le sr hl) (sr.le hl)).2
 ·rw[h]at q;exact q σ H (cg.le sr hl) (sr.le hl)
def SF.ret{k:PV->T}(he:EF X K fs e we)(h:∀v,out (k v)=.rt v):SF X K x fs (.Return (ap e) pos::rest) (.bind we λv=>.ret (k v)) out:=SF.last (vA he.p) λD σ H ⟨sr,q⟩=>⟨sr,we.mono (λv q1 u H1 g1 s1 v1=>by
 have q1:bA K x σ fs H D (out (k v)):=q1;rw[h]at q1;exact q1 u σ fs H1 g1.f s1 v1) q⟩
def SF.bK{out:PV->End}(he:EF X K fs e we)(h:∀v,out v=.rt v):SF X K x fs (.Return (ap e) pos::rest) we out:=SF.ret (k:=λv=>v) he h
def SF.abY{k:O PV->T}(he:LF X K fs e wl)(h:∀l,out (k l)=.rl l):SF X K x fs (.Return (ap e) pos::rest) (.bind wl λl=>.ret (k l)) out:=SF.last (vA he.p) λD σ H ⟨sr,q⟩=>⟨sr,wl.mono (λl q1 a ws H1 g1 s1 n e v1=>by
 have q1:bA K x σ fs H D (out (k l)):=q1;rw[h]at q1;exact q1 a ws σ fs H1 g1.f s1 (.inl n) e v1) q⟩
def SF.mG{out:O PV->End}(he:LF X K fs e wl)(h:∀v,out v=.rl v):SF X K x fs (.Return (ap e) pos::rest) wl out:=SF.abY (k:=λv=>v) he h
def SF.Mg(i:Nat){t:T}(hs:fs[i]?=ap (ap (.ol q0 l)))(h:out t=.rl l)(hN:X.N[i]?=ap y:=by rfl)(hv:xH X.env.scope y:=by first | exact Ck rfl | exact B9 (Ck rfl) | exact B9 (B9 rfl))(hd:ir y:=by decide)(ib:zS y:=by decide):SF X K x fs (.Return (ap (.Name y p)) pos::rest) (.ret t) out:=SF.last (vA (de hN hv hd ib)) λD σ H ⟨sr,q⟩=>by
 have q:bA K x σ fs H D (out t):=q;rw[h]at q;obtain⟨u,e1,r⟩:=sr.at' i _ hs;rcases r with⟨v,e,_⟩ | ⟨a,e,r⟩
 ·cases e
 ·subst e;obtain⟨_,ws,q1,q2⟩:=r;exact⟨_,e1,q a ws σ fs H .refl sr (.inr ⟨i,_,_,hs,rfl,by simp,e1,.inl rfl⟩) q1 q2⟩
def SF.Ye(i:Nat){ad:cr}{k:PV->T}(hs:fs[i]?=ap (ap (.ol (ap ad) l)))(he:EF X K fs e we)(h:∀v,out (k v)=.ro v ad l):SF X K x fs (.Return (ap e) pos::rest) (.bind we λv=>.ret (k v)) out:=SF.last (vA he.p) λD σ H ⟨sr,q⟩=>⟨sr,we.mono (λv q1 u H1 g1 s1 v1=>by
 have q1:bA K x σ fs H D (out (k v)):=q1;rw[h]at q1;exact q1 u σ fs H1 g1.f s1 ⟨i,hs⟩ v1) q⟩
def SF.expr{k:PV->W T}(he:EF X K fs e we)(hr:∀v,SF X K x fs rest (k v) out)(hs:lm e bn pos.line X.env=pure false:=by rfl):SF X K x fs (.Expr e pos::rest) (.bind we k) out:=SF.step (pW he.p hs) λD σ H ⟨sr,q⟩=>
 ⟨sr,we.mono (λv q1 u H1 g1 s1 v1=>⟨fs,k v,hr v,s1,(k v).mono (λt q2=>q2.go g1.f sr s1) q1⟩) q⟩
def SF.set{k:PV->W T}(hN:X.N.Nodup)(hi:X.N[i]?=ap y)(hx:Loc X.env.scope y)(he:EF X K fs e we)(hr:∀v,SF X K x (fs.set i (ap (.val v))) rest (k v) out)(hs:lm e (ap (.Name y p')) pos.line X.env=pure false:=by rfl)
  (hf:O1 X y:=by first | exact .inl rfl | exact .inr rfl | assumption):SF X K x fs (.Assign [.Name y p'] e pos::rest) (.bind we k) out:=SF.step (vz hN hi hx he.p hs hf) λD σ H ⟨sr,q⟩=>
 ⟨sr,we.mono (λv q1 u H1 g1 s1 v1=>⟨_,k v,hr v,s1.eU v1 i,(k v).mono (λt q2=>q2.go (g1.f.trans (cg.eU s1 u v i)) sr (s1.eU v1 i)) q1⟩) q⟩
def SF.abV{k:O PV->W T}(hN:X.N.Nodup)(hi:X.N[i]?=ap y)(hx:Loc X.env.scope y)(he:LF X K fs e wl)(hr:∀l,SF X K x (fs.set i (ap (.ol bn l))) rest (k l) out)(hs:lm e (ap (.Name y p')) pos.line X.env=pure false:=by rfl)
  (hf:O1 X y:=by first | exact .inl rfl | exact .inr rfl | assumption):SF X K x fs (.Assign [.Name y p'] e pos::rest) (.bind wl k) out:=SF.step (vz hN hi hx he.p hs hf) λD σ H ⟨sr,q⟩=>by
 refine⟨sr,wl.mono (λl q1 a ws H1 g1 s1 n e v1=>?_) q⟩;have no:=sr.noOwn n;have s2:=s1.vq (t:=.ol bn l) ⟨by simp,ws,e,v1⟩ no i;exact⟨_,k l,hr l,s2,(k l).mono (λt q2=>q2.go (cg.vq s1 g1.f no n i) sr s2) q1⟩
def SF.cz(i:Nat){t:SL}(hs:fs[i]?=ap (ap t))(hr:SF X K x (fs.set i (ap (.val t.bv))) Uk w out)(hb:t.bw=true:=by rfl):SF X K x fs Uk w out:=⟨λZ s σ H D I ⟨sr,q⟩=>by
 obtain⟨u,e1,r⟩:=sr.at' i _ hs;have ho:=SL.OG hb;rcases r with⟨v,e,_⟩ | ⟨a,e,oa⟩
 ·subst e;cases hb
 ·subst e;obtain⟨ob,o,h1,n1,n2,I2,vr⟩:=ZA I oa hb;have ow:∀b,cI σ (fs.set i (ap (.val t.bv))) b->cI σ fs b:=λb z=>by
   obtain⟨j,t,x,z1,z2,z3,z4⟩:=z;rcases cC z1 with⟨rfl,rfl⟩ | ⟨n,z1⟩
   ·cases z2
   ·exact⟨j,t,x,z1,z2,z3,z4⟩
  have s2:=sr.Zz hs ho e1 h1 n1 n2 vr;have g2:cg σ fs H σ (fs.set i (ap (.val t.bv))) (upd H a (.cz ob o)):=by
   refine⟨λb o z n=>⟨?_,λy=>n (ow b y)⟩,λb z=>?_,λb φ z=>?_⟩
   ·intro _;rw[au (λy=>by subst y;exact n ⟨i,_,_,hs,ho,e1,.inl rfl⟩)];exact z
   ·by_cases c:b=a
    ·subst c;rw[aO]at z;cases z
    ·rw[au c]at z;exact z
   ·obtain⟨j,z1,z2⟩:=z;have:j≠i:=λy=>by subst y;rw[hs]at z1;cases z1;cases hb
    exact .inl ⟨j,by rw[aM this];exact z1,z2⟩
  exact hr.p Z s σ _ D I2 ⟨s2,w.mono (λt q3=>q3.go g2 sr s2) q⟩⟩
variable{tc:W Bool}
def SF.W5(hc:TF X K fs c tc)(ha:SF X K x fs sa w out)(hb:SF X K x fs sb wk out):SF X K x fs [.If c sa sb pos] (.bind tc λb=>if b=true then w else wk) out:=⟨qh.imp (Qj (Mt hc.p ha.p hb.p)) λD σ H ⟨sr,q⟩=>⟨sr,tc.mono (λk q1 H1 g1 s1=>by
 cases k with
 | true=>exact tK ⟨s1,w.mono (λt q2=>q2.go g1.f sr s1) q1⟩
 | false=>exact tL ⟨s1,wk.mono (λt q2=>q2.go g1.f sr s1) q1⟩) q⟩⟩
def SF.yZ(hc:TF X K fs c tc)(ha:SF X K true fs sa w out)(hb:SF X K x fs rest wk out):SF X K x fs (.If c sa [] pos::rest) (.bind tc λb=>if b=true then w else wk) out:=SF.step (Mt hc.p ha.p vv) λD σ H ⟨sr,q⟩=>⟨sr,tc.mono (λk q1 H1 g1 s1=>by
 cases k with
 | true=>exact tK ⟨s1,w.mono (λt q2=>bA.exit (D:=D) (D':={D with nx:=xR X K x rest out D}) rfl rfl rfl (q2.go g1.f sr s1)) q1⟩
 | false=>exact tL ⟨fs,wk,hb,s1,wk.mono (λt q2=>q2.go g1.f sr s1) q1⟩) q⟩
def WV(X:Cx)(K:Ab)(x:Bool)(rest:O sn){T:Type}(w:W T)(out:T->End):End->Prop
 | .nx bx=>SF X K x bx rest w out
 | .nc bx=>False
 | .bk bx=>∃t,w=.ret t/\out t=.bk bx
 | .ct bx=>∃t,w=.ret t/\(out t=.ct bx\/out t=.nc bx)
 | .rt v=>∃t,w=.ret t/\out t=.rt v
 | .rl l=>∃t,w=.ret t/\out t=.rl l
 | .ro v a l=>∃t,w=.ret t/\out t=.ro v a l
def WV.r{E:End}(sr:aR K H σ fs)(h:WV X K x rest w out E)(q:w.run λt=>bA K x σ fs H D (out t)):bA K false σ fs H {D with nx:=xR X K x rest out D} E:=by
 cases E with
 | nx bx=>exact λ_ σ' H' g' s'=>⟨bx,w,h,s',w.mono (λt q2=>q2.go g' sr s') q⟩
 | nc bx=>exact h.elim
 | bk bx=>
  obtain⟨t,rfl,h⟩:=h;have q:bA K x σ fs H D (out t):=q;rw[h]at q;exact q
 | ct bx=>
  obtain⟨t,rfl,h⟩:=h;have q:bA K x σ fs H D (out t):=q;rcases h with h | h
  ·rw[h]at q;exact q
  ·rw[h]at q;exact λσ' H' g s=>(q σ' H' g s).2
 | rt v=>
  obtain⟨t,rfl,h⟩:=h;have q:bA K x σ fs H D (out t):=q;rw[h]at q;exact q
 | rl v=>
  obtain⟨t,rfl,h⟩:=h;have q:bA K x σ fs H D (out t):=q;rw[h]at q;exact q
 | ro v a l=>
  obtain⟨t,rfl,h⟩:=h;have q:bA K x σ fs H D (out t):=q;rw[h]at q;exact q
variable{w1 w2:W T1}{out1:T1->End}{k:T1->W T}
def SF.ifS(hc:TF X K fs c tc)(ha:SF X K false fs sa w1 out1)(hb:SF X K false fs sb w2 out1)(hr:∀t,WV X K x rest (k t) out (out1 t)):SF X K x fs (.If c sa sb pos::rest) (.bind tc λb=>.bind (if b=true then w1 else w2) k) out:=SF.step (Mt hc.p ha.p hb.p) λD σ H ⟨sr,q⟩=>⟨sr,tc.mono (λb q1 H1 g1 s1=>by
 have fin:∀t,(k t).run (λt=>bA K x σ fs H D (out t))->bA K false σ fs H {D with nx:=xR X K x rest out D} (out1 t):=λt q=>(hr t).r sr q;cases b with
 | true=>exact tK ⟨s1,w1.mono (λt q2=>(fin t q2).go g1.f sr s1) q1⟩
 | false=>exact tL ⟨s1,w2.mono (λt q2=>(fin t q2).go g1.f sr s1) q1⟩) q⟩
end
end
end FL
variable{is:O Nat}
namespace FL
section
variable[dJ]
variable{K:Ab}
def JF(K:Ab)(H:Hp)(J:It)(l:O PV):Prop:=l.length<=sizeLine/\∀H',a7 K H H'->(∀(i:Nat) (p:PV),l[i]?=ap p->J.go i H'/\∀x H2,J.Sz i H' x H2->jv H' H2/\VR K [] H2 x p)/\J.stop l.length H'
def JF.tk{J:It}(t:a7 K H H')(h:JF K H J l):JF K H' J l:=⟨h.1,λH2 t2=>h.2 H2 (a7.trans t t2)⟩
def fIt(K:Ab)(fs:bc)(w:W (O PV)):TI:=λσ H R=>aR K H σ fs/\w.run λl=>∀J H',cJ σ fs H H'->aR K H' σ fs->JF K H' J l->R J H'
structure qi(X:Cx)(K:Ab)(fs:bc)(tg e:im)(w:W (List PV)):Prop where p:PI X tg e (fIt K fs w)
section
variable{a c:im}{w:W PV}
def So{ad:cr}(h:Sr K H ad vs)(r:aG K [] H vs l)(hz:l.length<=sizeLine):JF K H (Itl K ad) l:=⟨hz,λH' t=>by
 have e1:=(t.f _ _ h).sq;have e2:=aG.tk t r;refine⟨λi p hp=>?_,vs,e1,by rw[e2.length];exact Ao _⟩;obtain⟨v,h3,h4⟩:=e2.get hp;refine⟨⟨vs,v,e1,h3⟩,λx H3 y=>?_⟩;obtain⟨rfl,y⟩:=y;have:=y vs e1;rw[h3]at this;cases this;exact⟨jv.refl _,h4⟩⟩
def WS{ad:cr}(h:H ad=ap (.tup vs))(r:aG K [] H vs l)(hz:l.length<=sizeLine):JF K H (Itt K ad) l:=⟨hz,λH' t=>by
 have e1:=dz.of (K:=K) (t.t _ _ h);have e2:=aG.tk t r;refine⟨λi p hp=>?_,vs,e1,by rw[e2.length];exact Ao _⟩;obtain⟨v,h3,h4⟩:=e2.get hp;refine⟨⟨vs,v,e1,h3⟩,λx H3 y=>?_⟩;obtain⟨rfl,y⟩:=y;have:=y vs e1;rw[h3]at this;cases this;exact⟨jv.refl _,h4⟩⟩
def bR(hK:X.K=K)(h:IF X K fs e wl):qi X K fs tg e wl:=⟨by
 subst hK;intro Z s σ H R I ⟨sr,q⟩;refine bp (h.p Z s σ H (λu H1=>∃l,WN X.K H1 u l/\∀J,JF X.K H1 J l->R J H1) I ⟨sr,wl.mono (λl q1 u H1 g1 s1 v1=>⟨l,v1,λJ j=>q1 J H1 g1 s1 j⟩) q⟩) λv s1 ⟨x,H1,I1,r1,l,⟨ad,vs,e,hh,rs⟩,q1⟩=>?_;subst e;cases r1;rcases hh with hh | hh
 ·obtain⟨ar,rv,pl,hz⟩:=I1.list hh.sq;refine C2 pl.isList ?_;refine⟨s1.heap.objs.size,[s1.heap.objs.size],_,_,H1,rfl,I1.kept (t':=s1.toks) λb o e=>Ah _ e,JA ad _,⟨_,Ap _ rfl,rfl,rfl⟩,λb hb=>?_,q1 _ (So hh rs (by rw[<- rs.length];exact hz))⟩;have e:b=s1.heap.objs.size:=by simpa using hb
  subst e;exact I1.wQ (Ao _) (I1.bj.fresh (Ao _))
 ·obtain⟨ar,rv,pl,hz⟩:=I1.tuple (dz.of hh);refine DZ (show s1.heap.IsTuple ad ar.toArray from pl) ?_;refine⟨s1.heap.objs.size,[s1.heap.objs.size],_,_,H1,rfl,I1.kept (t':=s1.toks) λb o e=>Ah _ e,FI ad _,⟨_,Ap _ rfl,rfl,rfl⟩,λb hb=>?_,q1 _ (WS hh rs (by rw[<- rs.length];exact hz))⟩;have e:b=s1.heap.objs.size:=by simpa using hb
  subst e;exact I1.wQ (Ao _) (I1.bj.fresh (Ao _))⟩
def okN(i j:Int):Prop:=-(2 ^ 62)<=i/\i < 2 ^ 62/\-(2 ^ 62)<=j/\j < 2 ^ 62/\(j-i).toNat<=sizeLine
def jN:PV->W (O PV)
 | .int j=>.ff (okN 0 j) (.ret (hZ 0 j.toNat))
 | _=>.fail
def Im:PV->PV->PV->W (O PV)
 | .int i,.int j,.int k=>.ff (k = -1/\okN j i) (.ret (eS i (i-j).toNat))
 | _,_,_=>.fail
def WU(lo:Int)(n:Nat)(hz:n<=sizeLine):JF K H (Itr lo n) (hZ lo n):=⟨by rw[kK];exact hz,λH' t=>⟨λi p hp=>by
  obtain⟨h1,rfl⟩:=oA hp;refine⟨h1,λx H2 y=>?_⟩;obtain⟨rfl,rfl⟩:=y;exact⟨jv.refl _,.int _⟩,by show n<=(hZ lo n).length;rw[kK];exact Ao _⟩⟩
theorem gB(hg:Gl X "range")(hm:X.mg "range"=bn)(ha:EF X K fs a wa)(hs:gl [a] X.env=[(false,lc a X.env)]:=by rfl):qi X K fs tg (.Call (.Name "range" p) [a] [] pos) (.bind wa jN):=
 ⟨PI.imp (JS hg hm (a9 ha.p cW hs) hs) λσ H R ⟨sr,q⟩=>⟨sr,wa.mono (λx q1 u1 H1 g1 s1 v1=>by
  cases v1 with
  | int j=>exact⟨_,rfl,q1.1.2.2.1,q1.1.2.2.2.1,q1.2 _ H1 g1 s1 (WU _ _ (by have:=q1.1.2.2.2.2;omega))⟩
  | _=>exact q1.elim) q⟩⟩
def IQ(hg:Gl X "range")(hm:X.mg "range"=bn)(ha:EF X K fs a wa)(hb:EF X K fs b wb)(hc:EF X K fs c wc)(hs:gl [a,b,c] X.env=[(false,lc a X.env),(false,lc b X.env),(false,lc c X.env)]:=by rfl)(qb:gl [b,c] X.env=[(false,lc b X.env),(false,lc c X.env)]:=by rfl)(hs3:gl [c] X.env=[(false,lc c X.env)]:=by rfl):qi X K fs tg (.Call (.Name "range" p) [a,b,c] [] pos) (.bind wa λx=>.bind wb λy=>.bind wc λz=>Im x y z):=
 ⟨PI.imp (JR hg hm (a9 ha.p (a9 hb.p (a9 hc.p cW hs3) (by show gl _ _=_;rw[qb,hs3])) (by show gl _ _=_;rw[hs,qb])) hs qb) λσ H R ⟨sr,q⟩=>⟨sr,wa.mono (λx q1 u1 H1 g1 s1 v1=>⟨s1,wb.mono (λy q2 u2 H2 g2 s2 v2=>⟨s2,wc.mono (λz q3 u3 H3 g3 s3 v3=>by
  cases v1 with
  | int i=>
   cases v2 with
   | int j=>
    cases v3 with
    | int k=>
     obtain⟨⟨rfl,k1,k2,k3,k4,k5⟩,q3⟩:=q3;refine⟨_,_,rfl,⟨k3,k4,k1,k2⟩,q3 _ H3 ((g1.trans g2).trans g3) s3 ⟨by rw[uM];exact k5,λH' t=>⟨λi p hp=>?_,?_⟩⟩⟩
     ·obtain⟨h1,rfl⟩:=uN hp;refine⟨h1,λx H2 y=>?_⟩;obtain⟨rfl,rfl⟩:=y;exact⟨jv.refl _,.int _⟩
     ·exact Nat.le_of_eq (uM _ _).symm
    | _=>exact q3.elim
   | _=>exact q3.elim
  | _=>exact q3.elim) q2⟩) q1⟩) q⟩⟩
def FV:PV->W (O PV)
 | .str z=>.ff (z.cps.size<=sizeLine) (.ret (z.cps.toList.map λc=>.str ⟨#[c]⟩))
 | _=>.fail
def VI(h:EF X K fs e w):qi X K fs tg e (.bind w FV):=⟨PI.imp (US h.p) λσ H R ⟨sr,q⟩=>⟨sr,w.mono (λx q1 u1 H1 g1 s1 v1=>by
 cases v1 with
 | str z=>
  refine⟨z,rfl,q1.2 _ H1 g1 s1 ⟨by simpa using q1.1,λH' t=>⟨λi p hp=>?_,?_⟩⟩⟩
  ·rw[Ak]at hp;cases e:z.cps.toList[i]? with
   | none=>rw[e]at hp;cases hp
   | some c=>
    rw[e]at hp;have ep:=(Option.some.inj hp).symm;subst ep;have hi:=(Am.mp e).1;have y7:i < z.cps.size:=by simpa using hi
    refine⟨y7,λx H2 y=>?_⟩;obtain⟨rfl,d,hd,rfl⟩:=y;have:z.cps[i]?=ap c:=by simpa using e
    rw[this]at hd;cases hd;exact⟨jv.refl _,.str _⟩
  ·show z.cps.size<=_;simp
 | _=>exact q1.elim) q⟩⟩
def mZ(hK:X.K=K)(hg:Gl X "enumerate")(hm:X.mg "enumerate"=bn)(h:IF X K fs e wl)(zX:gV X e []:=by rfl):qi X K fs (.Tuple Î kk tp) (.Call (.Name "enumerate" p1) [e] [] p2) (.bind wl λl=>.ff (l.length<=sizeLine) (.ret (c6 0 l))):=
 ⟨PI.imp (Mw K hK hg hm h.p zX) λσ H R ⟨sr,q⟩=>⟨sr,wl.mono (λl q1 u1 H1 g1 s1 v1=>by
  obtain⟨ad,vs,rfl,hh,rs⟩:=v1;have yl:∀{H':Hp}{i:Nat}{x v:V}{y:PV}{pp:cr},H' pp=bn->VR K [] H' v y->jv H' (upd H' pp (.tup [.int (i:Int),v]))/\VR K [] (upd H' pp (.tup [.int (i:Int),v])) (.ref pp) (.tup [.int ((0+i:Nat):Int),y]):=λ{H' i x v y pp} hn h4=>
   have sm:=jM hn (.tup [.int (i:Int),v])
   ⟨sm,.tup aO (.cons (by rw[AJ];exact .int _) (.cons (VR.tk sm.dN h4) .nil))⟩
  refine⟨ad,rfl,?_⟩;rcases hh with hh | hh
  ·refine .inl ⟨⟨vs,hh.sq⟩,q1.2 _ H1 g1 s1 ⟨by rw[bX];exact q1.1,λH' t=>⟨λi p hp=>?_,vs,(t.f _ _ hh).sq,by rw[rs.length,bX];exact Ao _⟩⟩⟩;obtain⟨y,hy,rfl⟩:=fh hp;obtain⟨v,h3,h4⟩:=(aG.tk t rs).get hy;refine⟨⟨vs,v,(t.f _ _ hh).sq,h3⟩,λx H3 z=>?_⟩;obtain⟨pp,x0,rfl,hn,rfl,hz⟩:=z;have:=hz vs (t.f _ _ hh).sq;rw[h3]at this;cases this;exact yl (x:=.aN) hn h4
  ·refine .inr ⟨⟨vs,dz.of hh⟩,q1.2 _ H1 g1 s1 ⟨by rw[bX];exact q1.1,λH' t=>⟨λi p hp=>?_,vs,dz.of (t.t _ _ hh),by rw[rs.length,bX];exact Ao _⟩⟩⟩;obtain⟨y,hy,rfl⟩:=fh hp;obtain⟨v,h3,h4⟩:=(aG.tk t rs).get hy;refine⟨⟨vs,v,dz.of (t.t _ _ hh),h3⟩,λx H3 z=>?_⟩;obtain⟨pp,x0,rfl,hn,rfl,hz⟩:=z;have:=hz vs (dz.of (t.t _ _ hh));rw[h3]at this;cases this;exact yl (x:=.aN) hn h4) q⟩⟩
end
def qz:O Nat->O V->L2.St->L2.St
 | i::is,u::us,σ=>qz is us (σ.set i (ap u))
 | _,_,σ=>σ
def fG(K:Ab)(fs:bc)(is:O Nat)(wt:PV->W T)(cU:T->bc):TG:=λv σ H Q=>∃p,aR K H σ fs/\VR K [] H v p/\(wt p).run λt=>∀us,cg σ fs H (qz is us σ) (cU t) H->aR K H (qz is us σ) (cU t)->Q (qz is us σ) H
structure GF(X:Cx)(K:Ab)(fs:bc)(tg:im)(is:List Nat){T:Type}(wt:PV->W T)(cU:T->bc):Prop where p:PG X tg (fG K fs is wt cU)
def sX:PV->W (PV×PV)
 | .tup [a,b]=>.ret (a,b)
 | _=>.fail
def un4:PV->W (PV×PV×PV×PV)
 | .tup [a,b,c,d]=>.ret (a,b,c,d)
 | _=>.fail
section
def V2(h:PG X tg (dD i)):GF X K fs tg [i] .ret (λp=>fs.set i (ap (.val p))):=⟨PG.imp h λv σ H Q ⟨p,sr,r,q⟩=>q [v] (cg.eU sr v p i) (sr.eU r i)⟩
def RE(hK:X.K=K)(h:PG X tg (V3 X.K 2 (rG (dD i) (rG (dD j) V5)))):GF X K fs tg [i,j] sX (λt=>(fs.set i (ap (.val t.1))).set j (ap (.val t.2))):=⟨PG.imp h λv σ H Q ⟨p,sr,r,q⟩=>by
 unfold sX at q
 split at q
 ·cases r with
  | tup e rs=>
   cases rs with
   | cons ra t=>
   cases t with
   | cons rb t=>
   cases t;have s1:=sr.eU ra i;exact⟨_,_,rfl,dz.of e,rfl,_,_,rfl,_,_,rfl,rfl,q [_,_] ((cg.eU sr _ _ i).trans (cg.eU s1 _ _ j)) (s1.eU rb j)⟩
 ·exact q.elim⟩
def g_4{l:Nat}(hK:X.K=K)(h:PG X tg (V3 X.K 4 (rG (dD i) (rG (dD j) (rG (dD k) (rG (dD l) V5)))))):GF X K fs tg [i,j,k,l] un4 (λt=>(((fs.set i (ap (.val t.1))).set j (ap (.val t.2.1))).set k (ap (.val t.2.2.1))).set l (ap (.val t.2.2.2))):=⟨PG.imp h λv σ H Q ⟨p,sr,r,q⟩=>by
 unfold un4 at q
 split at q
 ·cases r with
  | tup e rs=>
   cases rs with
   | cons ra t=>
   cases t with
   | cons rb t=>
   cases t with
   | cons rc t=>
   cases t with
   | cons rd t=>
   cases t;have s1:=sr.eU ra i;have s2:=s1.eU rb j;have s3:=s2.eU rc k;exact⟨_,_,rfl,dz.of e,rfl,_,_,rfl,_,_,rfl,_,_,rfl,_,_,rfl,rfl,q [_,_,_,_] ((((cg.eU sr _ _ i).trans (cg.eU s1 _ _ j)).trans (cg.eU s2 _ _ k)).trans (cg.eU s3 _ _ l)) (s3.eU rd l)⟩
 ·exact q.elim⟩
end
section
variable{S T:Type}
def di:O PV->S->(PV->S->W S)->W S
 | [],s,_=>.ret s
 | x::r,s,f=>.bind (f x s) λs'=>di r s' f
inductive Lp(S T:Type) where
 | go (s:S) | out (t:T)
def d6:O PV->S->(PV->S->W (Lp S T))->W (Lp S T)
 | [],s,_=>.ret (.go s)
 | x::r,s,f=>.bind (f x s) λo=>match o with
  | .go s'=>d6 r s' f
  | .out t=>.ret (.out t)
def wL(k:S->W T)(inj:R->T):Lp S R->W T
 | .go s=>k s
 | .out r=>.ret (inj r)
@[simp] theorem V0(k:S->W T)(inj:R->T)(s:S):wL k inj (.go s)=k s:=(rfl)
@[simp] theorem aaU(k:S->W T)(inj:R->T)(r:R):wL k inj (.out r)=.ret (inj r):=(rfl)
def YO(hd:S->bc)(out:R->End):Lp S R->End
 | .go s=>.nc (hd s)
 | .out r=>out r
def lH(c:S->W Bool)(b:S->W S):Nat->S->W S
 | 0,_=>.fail
 | n+1,s=>.bind (c s) λk=>if k=true then .bind (b s) (lH c b n) else .ret s
def qm(c:S->W Bool)(b:S->W S)(s:S):W S:=⟨λQ=>∃n,(lH c b n s).run Q,λh ⟨n,q⟩=>⟨n,(lH c b n s).mono h q⟩⟩
def iu(c:S->W Bool)(b:S->W (Lp S T)):Nat->S->W (Lp S T)
 | 0,_=>.fail
 | n+1,s=>.bind (c s) λk=>if k=true then .bind (b s) (λo=>match o with
  | .go s'=>iu c b n s'
  | .out t=>.ret (.out t)) else .ret (.go s)
def qo(c:S->W Bool)(b:S->W (Lp S T))(s:S):W (Lp S T):=⟨λQ=>∃n,(iu c b n s).run Q,λh ⟨n,q⟩=>⟨n,(iu c b n s).mono h q⟩⟩
end
section
variable{c:im}{rest:O sn}{S T T2:Type}{hd:S->bc}{s0:S}{wt:PV->W T2}{cU:S->T2->bc}{k:S->W T}{out:T->End}{R:Type}{inj:R->T}
theorem SF.for{f:PV->S->W S}{wb:T2->S->W S}(hp:xL (f8 X.prog X.w) X.A X.env X.xe)(hc:X.calm=true)(hi:qi X K fs tg iter wl)(hl:gb fs (hd s0))(hg:∀s,GF X K (hd s) tg is wt (cU s))(hf:∀p s,f p s=.bind (wt p) λt=>wb t s)
  (hb:∀s t,SF X K false (cU s t) body (wb t s) λs'=>.nc (hd s')) (hr:∀s,SF X K x (hd s) rest (k s) out) (hs:u9 X iter:=by intro _;rfl) :
  SF X K x fs (.For tg iter body [] pos::rest) (.bind wl λl=>.bind (di l s0 f) k) out:=by
 refine SF.step (Mu (g:=λv σ H Q=>∃s,fG K (hd s) is wt (cU s) v σ H Q) (tb:=λD σ H=>∃s t,fS K false (cU s t) (wb t s) (λs'=>.nc (hd s')) D σ H) hp hc hi.p (λZ s σ H v u Q I r ⟨s1,q⟩=>(hg s1).p Z s σ H v u Q I r q) (λZ s σ H D I ⟨s1,t1,q⟩=>(hb s1 t1).p Z s σ H D I q) hs) λD σ H ⟨sr,q⟩=>?_;refine⟨sr,wl.mono (λl q1 J H1 g1 s1 jf=>?_) q⟩;refine⟨λi m σ' H'=>∃s,aR K H' σ' (hd s)/\cg σ fs H σ' (hd s) H'/\JF K H' J l/\m=l.length-i/\i<=l.length/\(di (l.drop i) s f).run λs'=>(k s').run λt=>bA K x σ fs H D (out t),⟨l.length,s0,s1.le hl,g1.f.trans (cg.le s1 hl),jf,by simp,Bn _,by simpa using q1⟩,?_⟩;rintro i m σ2 H2 ⟨s,s2,g2,Rg,rfl,hi,q2⟩;obtain⟨j1,j2⟩:=Rg.2 H2 (a7.refl H2);by_cases lq:i < l.length
 ·obtain⟨go,yl⟩:=j1 i _ (Ae lq);have ed:=Bo lq;rw[ed]at q2;refine .inr ⟨go,λσ3 H3=>∃s',aR K H3 σ3 (hd s')/\cg σ fs H σ3 (hd s') H3/\JF K H3 J l/\(di (l.drop (i+1)) s' f).run λs'=>(k s').run λt=>bA K x σ fs H D (out t),λσ3 H3 ⟨s',a1,a2,a3,a4⟩=>⟨l.length-(i+1),by omega,s',a1,a2,a3,rfl,lq,a4⟩,λv H3 y=>?_⟩;obtain⟨sm,vx⟩:=yl v H3 y;have q2:(f l[i] s).run λs'=>(di (l.drop (i+1)) s' f).run λs'=>(k s').run λt=>bA K x σ fs H D (out t):=q2;rw[hf]at q2;have s3:=s2.same sm;have g3:=g2.trans (cg.same sm s2);refine⟨s,_,s3,vx,(wt l[i]).mono (λt q4 us g4 s4=>?_) q2⟩;refine⟨s,t,s4,(wb t s).mono (λs' q5 σ5 H5 g5 s5=>?_) q4⟩;have fin:∃s',aR K H5 σ5 (hd s')/\cg σ fs H σ5 (hd s') H5/\JF K H5 J l/\(di (l.drop (i+1)) s' f).run λs'=>(k s').run λt=>bA K x σ fs H D (out t):=⟨s',s5,(g3.trans g4).trans g5,Rg.tk (a7.trans sm.dN (a7.trans (g4.dc s3) (g5.dc s4))),q5⟩;exact⟨λ_=>fin,fin⟩
 ·have e:i=l.length:=by omega
  subst e;rw[Em]at q2;exact .inl ⟨j2,hd s,k s,hr s,s2,(k s).mono (λt q3=>q3.go g2 sr s2) q2⟩
theorem SF.d6{f:PV->S->W (Lp S R)}{wb:T2->S->W (Lp S R)}(hp:xL (f8 X.prog X.w) X.A X.env X.xe)(hc:X.calm=true)(hi:qi X K fs tg iter wl)(hl:gb fs (hd s0))(hg:∀s,GF X K (hd s) tg is wt (cU s))(hf:∀p s,f p s=.bind (wt p) λt=>wb t s)
  (ho:∀t,(out (inj t)).IT)
  (hb:∀s t,SF X K false (cU s t) body (wb t s) (YO hd λr=>out (inj r))) (hr:∀s,SF X K x (hd s) rest (k s) out) (hs:u9 X iter:=by intro _;rfl) :
  SF X K x fs (.For tg iter body [] pos::rest) (.bind wl λl=>.bind (FL.d6 l s0 f) (wL k inj)) out:=by
 refine SF.step (Mu (g:=λv σ H Q=>∃s,fG K (hd s) is wt (cU s) v σ H Q) (tb:=λD σ H=>∃s t,fS K false (cU s t) (wb t s) (YO hd λr=>out (inj r)) D σ H) hp hc hi.p (λZ s σ H v u Q I r ⟨s1,q⟩=>(hg s1).p Z s σ H v u Q I r q) (λZ s σ H D I ⟨s1,t1,q⟩=>(hb s1 t1).p Z s σ H D I q) hs) λD σ H ⟨sr,q⟩=>?_;refine⟨sr,wl.mono (λl q1 J H1 g1 s1 jf=>?_) q⟩;have lo:∀(D':Ends) (y:Bool) (t:R),D'.rt=D.rt->bA K x σ fs H D (out (inj t))->bA K y σ fs H D' (out (inj t)):=λD' y t e h=>bA.YB (ho t) e h;refine⟨λi m σ' H'=>∃s,aR K H' σ' (hd s)/\cg σ fs H σ' (hd s) H'/\JF K H' J l/\m=l.length-i/\i<=l.length/\(FL.d6 (l.drop i) s f).run λo=>(wL k inj o).run λt=>bA K x σ fs H D (out t),⟨l.length,s0,s1.le hl,g1.f.trans (cg.le s1 hl),jf,by simp,Bn _,by simpa using q1⟩,?_⟩;rintro i m σ2 H2 ⟨s,s2,g2,Rg,rfl,hi,q2⟩;obtain⟨j1,j2⟩:=Rg.2 H2 (a7.refl H2);by_cases lq:i < l.length
 ·obtain⟨go,yl⟩:=j1 i _ (Ae lq);have ed:=Bo lq;rw[ed]at q2;refine .inr ⟨go,λσ3 H3=>∃s',aR K H3 σ3 (hd s')/\cg σ fs H σ3 (hd s') H3/\JF K H3 J l/\(FL.d6 (l.drop (i+1)) s' f).run λo=>(wL k inj o).run λt=>bA K x σ fs H D (out t),λσ3 H3 ⟨s',a1,a2,a3,a4⟩=>⟨l.length-(i+1),by omega,s',a1,a2,a3,rfl,lq,a4⟩,λv H3 y=>?_⟩;obtain⟨sm,vx⟩:=yl v H3 y;have q2:(f l[i] s).run λo=>(match o with | .go s'=>FL.d6 (l.drop (i+1)) s' f | .out t=>bd (.out t)).run λo=>(wL k inj o).run λt=>bA K x σ fs H D (out t):=q2;rw[hf]at q2;have s3:=s2.same sm;have g3:=g2.trans (cg.same sm s2);refine⟨s,_,s3,vx,(wt l[i]).mono (λt q4 us g4 s4=>?_) q2⟩;refine⟨s,t,s4,(wb t s).mono (λo q5=>?_) q4⟩;cases o with
  | out t5=>
   refine bA.go (g3.trans g4) sr s4 (lo _ false t5 ?_ q5);rfl
  | go s'=>
   intro σ5 H5 g5 s5;have fin:∃s',aR K H5 σ5 (hd s')/\cg σ fs H σ5 (hd s') H5/\JF K H5 J l/\(FL.d6 (l.drop (i+1)) s' f).run λo=>(wL k inj o).run λt=>bA K x σ fs H D (out t):=⟨s',s5,(g3.trans g4).trans g5,Rg.tk (a7.trans sm.dN (a7.trans (g4.dc s3) (g5.dc s4))),q5⟩;exact⟨λ_=>fin,fin⟩
 ·have e:i=l.length:=by omega
  subst e;rw[Em]at q2;exact .inl ⟨j2,hd s,k s,hr s,s2,(k s).mono (λt q3=>q3.go g2 sr s2) q2⟩
def SF.LM{cw:S->W Bool}{b:S->W S}(hp:xL (f8 X.prog X.w) X.A X.env X.xe)(hl:gb fs (hd s0))(hc:∀s,TF X K (hd s) c (cw s))(hb:∀s,SF X K false (hd s) body (b s) λs'=>.nc (hd s'))(hr:∀s,SF X K x (hd s) rest (k s) out) :
  SF X K x fs (.While c body [] pos::rest) (.bind (qm cw b s0) k) out:=by
 refine SF.step (yh (tc:=λσ H Q=>∃s,fT K (hd s) (cw s) σ H Q) (tb:=λD σ H=>∃s,fS K false (hd s) (b s) (λs'=>.nc (hd s')) D σ H) hp (λZ s σ H Q I ⟨s1,q⟩=>(hc s1).p Z s σ H Q I q) (λZ s σ H D I ⟨s1,q⟩=>(hb s1).p Z s σ H D I q)) λD σ H ⟨sr,n,q⟩=>?_;refine⟨λm σ' H'=>∃s,aR K H' σ' (hd s)/\cg σ fs H σ' (hd s) H'/\(lH cw b m s).run λs'=>(k s').run λt=>bA K x σ fs H D (out t),⟨n,s0,sr.le hl,cg.le sr hl,q⟩,?_⟩;rintro m σ1 H1 ⟨s,s1,g1,q1⟩;cases m with
 | zero=>exact q1.elim
 | succ m=>
  refine⟨s,s1,(cw s).mono (λkk q2 H2 g2 s2=>?_) q1⟩;cases kk with
  | false=>
   refine tL ?_;exact⟨hd s,k s,hr s,s2,(k s).mono (λt q3=>q3.go (g1.trans g2.f) sr s2) q2⟩
  | true=>
   refine tK ?_;refine⟨λσ3 H3=>∃s,aR K H3 σ3 (hd s)/\cg σ fs H σ3 (hd s) H3/\(lH cw b m s).run λs'=>(k s').run λt=>bA K x σ fs H D (out t),λσ3 H3 a=>⟨m,Di m,a⟩,s,s2,(b s).mono (λs' q5 σ5 H5 g5 s5=>?_) q2⟩;have fin:∃s,aR K H5 σ5 (hd s)/\cg σ fs H σ5 (hd s) H5/\(lH cw b m s).run λs'=>(k s').run λt=>bA K x σ fs H D (out t):=⟨s',s5,(g1.trans g2.f).trans g5,q5⟩;exact⟨λ_=>fin,fin⟩
def SF.qo{cw:S->W Bool}{b:S->W (Lp S R)}(hp:xL (f8 X.prog X.w) X.A X.env X.xe)(hl:gb fs (hd s0))(hc:∀s,TF X K (hd s) c (cw s))(ho:∀t,(out (inj t)).IT)
  (hb:∀s,SF X K false (hd s) body (b s) (YO hd λr=>out (inj r))) (hr:∀s,SF X K x (hd s) rest (k s) out) :
  SF X K x fs (.While c body [] pos::rest) (.bind (FL.qo cw b s0) (wL k inj)) out:=by
 refine SF.step (yh (tc:=λσ H Q=>∃s,fT K (hd s) (cw s) σ H Q) (tb:=λD σ H=>∃s,fS K false (hd s) (b s) (YO hd λr=>out (inj r)) D σ H) hp (λZ s σ H Q I ⟨s1,q⟩=>(hc s1).p Z s σ H Q I q) (λZ s σ H D I ⟨s1,q⟩=>(hb s1).p Z s σ H D I q)) λD σ H ⟨sr,n,q⟩=>?_;have lo:∀(D':Ends) (y:Bool) (t:R),D'.rt=D.rt->bA K x σ fs H D (out (inj t))->bA K y σ fs H D' (out (inj t)):=λD' y t e h=>bA.YB (ho t) e h;refine⟨λm σ' H'=>∃s,aR K H' σ' (hd s)/\cg σ fs H σ' (hd s) H'/\(iu cw b m s).run λo=>(wL k inj o).run λt=>bA K x σ fs H D (out t),⟨n,s0,sr.le hl,cg.le sr hl,q⟩,?_⟩;rintro m σ1 H1 ⟨s,s1,g1,q1⟩;cases m with
 | zero=>exact q1.elim
 | succ m=>
  refine⟨s,s1,(cw s).mono (λkk q2 H2 g2 s2=>?_) q1⟩;cases kk with
  | false=>
   refine tL ?_;exact⟨hd s,k s,hr s,s2,(k s).mono (λt q3=>q3.go (g1.trans g2.f) sr s2) q2⟩
  | true=>
   refine tK ?_;refine⟨λσ3 H3=>∃s,aR K H3 σ3 (hd s)/\cg σ fs H σ3 (hd s) H3/\(iu cw b m s).run λo=>(wL k inj o).run λt=>bA K x σ fs H D (out t),λσ3 H3 a=>⟨m,Di m,a⟩,s,s2,(b s).mono (λo q5=>?_) q2⟩;cases o with
   | out t5=>
    refine bA.go (g1.trans g2.f) sr s2 (lo _ false t5 ?_ q5);rfl
   | go s'=>
    intro σ5 H5 g5 s5;have fin:∃s,aR K H5 σ5 (hd s)/\cg σ fs H σ5 (hd s) H5/\(iu cw b m s).run λo=>(wL k inj o).run λt=>bA K x σ fs H D (out t):=⟨s',s5,(g1.trans g2.f).trans g5,q5⟩;exact⟨λ_=>fin,fin⟩
end
end
end FL
variable{f:PL.PV->FL.W (Option PL.PV)}{mx:FL.bc}
namespace FL
section
variable[dJ]
variable{K:Ab}
def lR:O PV->(PV->W (Option PV))->W (O PV)
 | [],_=>.ret []
 | x::r,f=>.bind (f x) λo=>.bind (lR r f) λl=>.ret (o.toList++l)
def bN:O PV->(PV->W PV)->W (O PV)
 | [],_=>.ret []
 | x::r,f=>.bind (f x) λy=>.bind (bN r f) λl=>.ret (y::l)
theorem vP(f:PV->W PV):∀l,bN l f=lR l λp=>.bind (f p) λv=>.ret (ap v)
 | []=>rfl
 | x::r=>by
  show am (f x) (λy=>am (bN r f) λl=>bd (y::l))=am (f x) λy=>am (lR r _) λl=>bd (y::l);rw[vP f r]
def bE(ix:O (Option Nat))(fs:bc):bc:=ix.map λo=>match o with | some j=>(fs[j]?).getD bn | none=>bn
section
def nJ{s:SL}(h:(bE ix fs)[i]?=ap (ap s)):∃j,ix[i]?=ap (ap j)/\fs[j]?=ap (ap s):=by
 unfold bE at h;rw[Ak]at h;cases q:ix[i]? with
 | none=>rw[q]at h;cases h
 | some o=>
  rw[q]at h;cases o with
  | none=>cases h
  | some j=>
   refine⟨j,rfl,?_⟩;have h:(fs[j]?).getD bn=ap s:=Option.some.inj h;cases z:fs[j]? with
   | none=>rw[z]at h;cases h
   | some y=>rw[z]at h;exact congrArg ap h
def kQ(h:ix[i]?=ap (ap j))(e:σ[j]?=ap (ap u)):(nH ix σ)[i]?=ap (ap u):=by
 unfold nH;rw[Ak,h];show ap ((σ[j]?).getD bn)=_;rw[e];rfl
def aR.eT(s:aR K H σ fs)(inj:∀i i' j:Nat,ix[i]?=ap (ap j)->ix[i']?=ap (ap j)->i=i'):aR K H (nH ix σ) (bE ix fs):=by
 refine⟨by unfold nH bE;simp,λi t e=>?_,λi i' t u x y a e1 e2 o1 o2 q1 q2 z1 z2=>?_,s.tb⟩
 ·obtain⟨j,h1,h2⟩:=nJ e;obtain⟨u,h3,h4⟩:=s.at' j t h2;exact⟨u,kQ h1 h3,h4⟩
 ·obtain⟨j,h1,h2⟩:=nJ e1;obtain⟨j',eP,sQ⟩:=nJ e2;obtain⟨u1,h3,_⟩:=s.at' j t h2;obtain⟨u2,GX,_⟩:=s.at' j' u sQ;rw[kQ h1 h3]at q1;rw[kQ eP GX]at q2;cases q1;cases q2;have:=s.nd j j' t u x y a h2 sQ o1 o2 h3 GX z1 z2;subst this;exact inj i i' j h1 eP
structure Sq(ix:List (Option Nat))(σ:L2.St)(fs:bc)(σ':L2.St)(bx:bc):Prop where
 own:∀(i:Nat) (t:SL),bx[i]?=ap (ap t)->t.own=true->∃j,ix[i]?=ap (ap j)/\fs[j]?=ap (ap t)/\σ'[i]?=σ[j]?
def Sq.vJ(h:Sq ix σ fs σ' bx)(o:cI σ' bx a):cI σ fs a:=by
 obtain⟨i,t,x,e1,e2,e3,e4⟩:=o;obtain⟨j,h1,h2,h3⟩:=h.own i t e1 e2;exact⟨j,t,x,h2,e2,h3▸e3,e4⟩
def Sq.kq(h:Sq ix σ fs σ' bx)(o:gG σ' bx φ a):gG σ fs φ a:=by
 obtain⟨i,e1,e3⟩:=o;obtain⟨j,h1,h2,h3⟩:=h.own i _ e1 rfl;exact⟨j,h2,h3▸e3⟩
def Sq.out(h:Sq ix σ fs σ' bx)(s:aR K H1 σ fs)(g:cJ σ' bx H1 H2)(s2:aR K H2 σ' bx):aR K H2 σ fs/\cJ σ fs H1 H2:=by
 have gf:cJ σ fs H1 H2:=⟨λa o e n t=>g.keep a o e (λφ z=>n φ (h.kq z)) t,g.there⟩;refine⟨⟨s.len,λj t e=>?_,s.nd,s2.tb⟩,gf⟩;obtain⟨u,h1,h2⟩:=s.at' j t e;refine⟨u,h1,?_⟩;have tk:=gf.dc s;rcases h2 with⟨v,q,r⟩ | ⟨a,q,r⟩
 ·exact .inl ⟨v,q,VR.tk tk r⟩
 ·subst q;refine .inr ⟨a,rfl,?_⟩;by_cases c:∃b,t.own=true/\t.has a b/\cI σ' bx b
  ·obtain⟨b,ow,hb,i,t',x,c1,c2,c3,c4⟩:=c;obtain⟨j',k1,k2,k3⟩:=h.own i t' c1 c2;have jj:=s.nd j j' t t' a x b e k2 ow c2 h1 (k3▸c3) hb c4;subst jj;rw[e]at k2;cases k2;exact s2.ownAt c1 c2 (k3.trans h1)
  ·exact r.mono tk (λb o ow hb z nt=>g.qZ z (λy=>c ⟨b,ow,hb,y⟩) nt)
theorem qx:∀{is:O Nat}{us:O V}{σ:L2.St}{i:Nat},i∉is->(qz is us σ)[i]?=σ[i]?
 | [],us,σ,i,_=>by cases us <;> rfl
 | j::is,[],σ,i,_=>rfl
 | j::is,u::us,σ,i,h=>by
  rw[qz,qx (λz=>h (AM _ z))];exact aM (λz=>h (by rw[z];exact Br))
end
section
variable{T2:Type}{wt:PV->W T2}{cU:T2->bc}{tf:T2->W Bool}{te:T2->W PV}
structure FF(X:Cx)(K:Ab)(fs:bc)(É:List im)(w:W Bool):Prop where p:Xu X É (fT K fs w)
def NV:FF X K fs [] (.ret true):=⟨λZ s σ H Q I ⟨sr,q⟩=>Qs Z s σ H Q I (q H .refl sr)⟩
def wX{c:im}{w:W Bool}(h:TF X K fs c w):FF X K fs [c] w:=⟨Qr h.p⟩
def t4(is:O Nat)(mx:bc)(cU:T2->bc):Prop:=∀t,(cU t).length=mx.length/\∀(i:Nat) (s:SL),(cU t)[i]?=ap (ap s)->(i∈is/\s.own=false)\/(i∉is/\mx[i]?=ap (ap s))
theorem NZ(S:br X.env.scope X.N sc N' ix)(hb:mx=bE ix fs)(hf:∀p,f p=.bind (wt p) λt=>.bind (tf t) λk=>if k=true then .bind (te t) λv=>.ret (ap v) else .ret bn)(hl:t4 is mx cU)(hr:∀t,gb (cU t) mx)(y6:∀j∈is,ix[j]?=ap bn) :
  ∀σ H Q,fL K fs (.bind wl λl=>lR l f) σ H Q->tLc ix (fIt K fs wl) (λv σ H Q=>fG K mx is wt cU v σ H Q) (λσ H Q=>∃t,fT K (cU t) (tf t) σ H Q) (λσ H Q=>∃t,fE K (cU t) (te t) σ H Q) σ H Q:=by
 subst hb;rintro σ H Q ⟨sr,q⟩;refine⟨sr,wl.mono (λl q1 J H1 g1 s1 jf D hD=>?_) q⟩;have inj:∀i i' j:Nat,ix[i]?=ap (ap j)->ix[i']?=ap (ap j)->i=i':=λi i' j h1 h2=>by
  have hi:i < N'.length:=by rw[<- S.len];exact(Am.mp h1).1
  have y7:i' < N'.length:=by rw[<- S.len];exact(Am.mp h2).1
  have e1:=(S.at h1 (Ae hi)).1;have e2:=(S.at h2 (Ae y7)).1;rw[e1]at e2;exact(List.getElem_inj S.nd).mp (Option.some.inj e2)
 have nD:=s1.noOwn hD;refine⟨λi m σ' ys H'=>∃Ä,aR K H' σ fs/\cJ σ fs H H'/\aR K H' σ' (bE ix fs)/\Sq ix σ fs σ' (bE ix fs)/\JF K H' J l/\H' D=ap (.lst ys)/\aG K [] H' ys Ä/\Ä.length<=i/\m=l.length-i/\i<=l.length/\
  (lR (l.drop i) f).run λr=>∀a vs H',cJ σ fs H H'->aR K H' σ fs->H a=bn->H' a=ap (.lst vs)->aG K [] H' vs (Ä++r)->Q (.ref a) H',⟨l.length,[],?_⟩,?_⟩
 ·have sm:=jM hD (.lst []);refine⟨s1.same sm,g1.trans (cJ.same sm),(s1.same sm).eT inj,⟨λi t e o=>?_⟩,jf.tk sm.dN,aO,.nil,Bn _,by simp,Bn _,by simpa using q1⟩;obtain⟨j,h1,h2⟩:=nJ e;obtain⟨u,h3,_⟩:=s1.at' j t h2;exact⟨j,h1,h2,by rw[kQ h1 h3,h3]⟩
 rintro i m σ2 ys H2 ⟨Ä,sO,gO,s2,Ti,Rg,hy,vy,Zr,rfl,hi,q2⟩;refine⟨hy,?_⟩;obtain⟨j1,j2⟩:=Rg.2 H2 (a7.refl H2);by_cases lq:i < l.length
 ·obtain⟨go,yl⟩:=j1 i _ (Ae lq);have ed:=Bo lq;rw[ed]at q2;refine .inr ⟨go,λv H3 y=>?_⟩;obtain⟨sm,vx⟩:=yl v H3 y;have q2:(f l[i]).run λo=>(lR (l.drop (i+1)) f).run λr=>∀a vs H',cJ σ fs H H'->aR K H' σ fs->H a=bn->H' a=ap (.lst vs)->aG K [] H' vs (Ä++(o.toList++r))->Q (.ref a) H':=q2;rw[hf]at q2;have s3:=s2.same sm;have sO3:=sO.same sm;have gO3:=gO.trans (cJ.same sm);have hy3:=sm _ _ hy;have vy3:=aG.tk sm.dN vy;have jf3:=Rg.tk sm.dN;refine⟨_,s3,vx,(wt l[i]).mono (λt q4 us g4 s4=>?_) q2⟩;have Rn:Sq ix σ fs (qz is us σ2) (cU t):=⟨λj u e o=>by
   rcases (hl t).2 j u e with⟨_,z⟩ | ⟨n,z⟩
   ·rw[z]at o;cases o
   ·obtain⟨j',k1,k2,k3⟩:=Ti.own j u z o;exact⟨j',k1,k2,by rw[qx n];exact k3⟩⟩
  refine⟨t,s4,(tf t).mono (λkk q5 H5 g5 s5=>?_) q4⟩;obtain⟨sO5,adb⟩:=Rn.out sO3 g5 s5;have gO5:=gO3.trans adb;have tk5:=g5.dc s4;have nD4:¬cI (qz is us σ2) (cU t) D:=λz=>nD (Rn.vJ z);have hy5:=g5.qZ hy3 nD4;have vy5:=aG.tk tk5 vy3;have jf5:=jf3.tk (g5.dc s4);have Ï:∀{H6:Hp},aR K H6 (qz is us σ2) (cU t)->aR K H6 (qz is us σ2) (bE ix fs)/\Sq ix σ fs (qz is us σ2) (bE ix fs):=λ{H6} z=>⟨z.le (hr t),⟨λj u e o=>Rn.own j u ((hr t).at j u e) o⟩⟩;cases kk with
  | false=>
   refine tL ⟨l.length-(i+1),by omega,Ä,sO5,gO5,(Ï s5).1,(Ï s5).2,jf5,hy5,vy5,by omega,rfl,lq,?_⟩;exact q5
  | true=>
   refine tK ⟨t,s5,(te t).mono (λv6 q6 u6 H6 g6 s6 v6'=>?_) q5⟩;obtain⟨sO6,ada⟩:=Rn.out sO5 g6 s6;have gO6:=gO5.trans ada;have tk6:=g6.dc s5;have Y6:=g6.qZ hy5 nD4;have vy6:=aG.tk tk6 vy5;have tkD:=pU (K:=K) (.lst (ys++[u6])) Y6;have hD0:=g1.there D hD;refine⟨Y6,by rw[vy6.length];have:=Rg.1;omega,l.length-(i+1),by omega,Ä++[v6],sO6.side nD Y6 _,gO6.side hD0 _,((Ï s6).1).side (λz=>nD ((Ï s6).2.vJ z)) Y6 _,(Ï s6).2,(jf5.tk (g6.dc s5)).tk (pU _ Y6),aO,aG.tk tkD (vy6.append (.cons v6' .nil)),by rw[Ad];simp;omega,rfl,lq,?_⟩;refine(lR (l.drop (i+1)) f).mono (λr q7 a vs H7 g7 s7 n e v7=>q7 a vs H7 g7 s7 n e ?_) q6;simpa using v7
 ·have e:i=l.length:=by omega
  subst e;rw[Em]at q2;exact .inl ⟨j2,q2 D ys H2 gO sO (g1.there D hD) hy (by simpa using vy)⟩
end
end
end FL
namespace L2
def pE(l:cr)(items:Array ce)(n:Nat)(b:cr)(bL:Array ce)(n2:Nat)(sl:Array (Option ce))(hc0:¬(!items.isEmpty&&Builtin.List.listTooLong (items.size+bL.size))=true)(hc1:items.size<=sizeLine)(qb:items.size+bL.size<=sizeLine+1) :
  Meets (wP.«list.extend» ⟨[.ref l,.ref b],[]⟩) (λ_ R s=>s.heap.get? l=ap {cls:=.type "list",dict:=bn,data:=.seq items n,slots:=#[]}/\s.heap.get? b=ap {cls:=.type "list",dict:=bn,data:=.seq bL n2,slots:=sl}/\R (.ok (.ret AN)) {s with heap:=s.heap.update l (Bj λx=>x++bL),toks:=s.toks}):=
 .of_wp λprog w A R s h=>by
  obtain⟨hp,g,d,tk,os⟩:=s;obtain⟨hl,hb,h⟩:=h;have f1:=Et;have f2:=Dg;have f3:=Dy;have f4:=Dq;have f5:=Dr;have GS:(items++bL).size<=sizeLine+1:=by rw[Ec];exact qb
  wp_walk using (Dz hl rfl (hz:=hc1) (_hz':=GS)),BN hl,BN hb;exact⟨_,rfl,h⟩
def Yn(K:Ab):V->O V->Hp->VK->Prop:=λx vs H Q=>∃l b xs zs,x=.ref l/\vs=[.ref b]/\H l=ap (.lst xs)/\(cT K H b zs\/dz K H b zs)/\xs.length+zs.length<=sizeLine/\xQ H l (.lst (xs++zs)) (Q .aN)
theorem QW(K:Ab)(hK:X.K=K):LD X "list.extend" (Yn K):=by
 subst hK;intro Z s σ H x vs v us Q I rx rv h;obtain⟨l,b,xs,zs,rfl,rfl,hH,hB | hB,hz,q⟩:=h
 ·cases rx;obtain⟨u,rfl,ru⟩:=rv.one;cases ru;obtain⟨z,ar,n,r,hl,e⟩:=I.og hH;obtain⟨bQ,r2,⟨⟨cls,dd,data,sl⟩,n2,e2,hc,hd,m7⟩,z2⟩:=I.list hB;simp only at hc hd m7;subst hc hd m7;have Ly:=r2.length;have hsz:ar.toArray.size+bQ.toArray.size<=sizeLine:=by rw[Ai,Ai];omega
  have rB:¬(!ar.toArray.isEmpty&&Builtin.List.listTooLong (ar.toArray.size+bQ.toArray.size))=true:=by
   rw[g8 hsz,CG];exact AQ
  refine wf DV ⟨_,e,rfl⟩ DG (Dp _ _)
   (pE l ar.toArray n b bQ.toArray n2 sl rB (by rw[Ai];omega) ∅) ⟨e,e2,?_⟩
  refine⟨.aN,_,I.Gq (its':=ar++bQ) hH e (by simp) (r.append r2) ?_,rfl,q.at⟩;rw[Ad];omega
 ·exact yA Z s σ H _ _ v us Q I rx rv ⟨l,b,xs,zs,rfl,rfl,hH,hB,hz,q⟩
end L2
variable{wi we:FL.W PL.PV}{z:BU}{ei:BW}
namespace FL
section
variable[dJ]
variable{K:Ab}
section
variable{T2:Type}{wt:PV->W T2}{cU:T2->bc}{tf:T2->W Bool}{te:T2->W PV}
def Vs(hc:X.calm=true)(S:br X.env.scope X.N sc N' ix)(hi:qi X K fs tg iter wl)(hg:∀cl C s2 H2 fp,GF (eT X sc N' cl C s2 H2 fp) K (bE ix fs) tg is wt cU)(Zm:∀cl C s2 H2 fp t,FF (eT X sc N' cl C s2 H2 fp) K (cU t) É (tf t))(he:∀cl C s2 H2 fp t,EF (eT X sc N' cl C s2 H2 fp) K (cU t) Ã (te t))
  (hf:∀p,f p=.bind (wt p) λt=>.bind (tf t) λk=>if k=true then .bind (te t) λv=>.ret (ap v) else .ret bn) (hl:t4 is (bE ix fs) cU/\∀t,gb (cU t) (bE ix fs)) (y6:∀j∈is,ix[j]?=ap bn) (hs:u9 X iter:=by intro _;rfl) :
  LF X K fs (.ListComp Ã [⟨tg,iter,É,0⟩] sc pos) (.bind wl λl=>lR l f):=
 ⟨PE.imp (Yv hc S hi.p (λcl C s2 H2 fp=>(hg cl C s2 H2 fp).p) (λcl C s2 H2 fp Z s σ H Q I ⟨t,q⟩=>(Zm cl C s2 H2 fp t).p Z s σ H Q I q) (λcl C s2 H2 fp Z s σ H Q I ⟨t,q⟩=>(he cl C s2 H2 fp t).p Z s σ H Q I q) hs) (NZ S rfl hf hl.1 hl.2 y6)⟩
def S6{f:PV->W PV}(hc:X.calm=true)(S:br X.env.scope X.N sc N' ix)(hi:qi X K fs tg iter wl)(hg:∀cl C s2 H2 fp,GF (eT X sc N' cl C s2 H2 fp) K (bE ix fs) tg is wt cU)(he:∀cl C s2 H2 fp t,EF (eT X sc N' cl C s2 H2 fp) K (cU t) Ã (te t))
  (hf:∀p,f p=.bind (wt p) te) (hl:t4 is (bE ix fs) cU/\∀t,gb (cU t) (bE ix fs)) (y6:∀j∈is,ix[j]?=ap bn) (hs:u9 X iter:=by intro _;rfl) :
  LF X K fs (.ListComp Ã [⟨tg,iter,[],0⟩] sc pos) (.bind wl λl=>bN l f):=by
 have:(λl=>bN l f)=λl=>lR l λp=>.bind (wt p) λt=>.bind (.ret true) λk=>if k=true then .bind (te t) λv=>.ret (ap v) else .ret bn:=funext λl=>by
  rw[vP];congr 1;funext p;rw[hf];rfl
 rw[this];exact Vs (tf:=λ_=>.ret true) hc S hi hg (λ_ _ _ _ _ _=>NV) he (λp=>rfl) hl y6 hs
def SF.SJ{rest:O sn}{out:T->End}{k:O PV->W T}(hc:X.calm=true)(hN:X.N.Nodup)(y7:X.N[i]?=ap y)(hx:X.env.scope.names.lookup y=ap .local)(S:br X.env.scope X.N sc N' ix)(hi:qi X K fs tg iter wl)(hg:∀cl C s2 H2 fp,GF (eT X sc N' cl C s2 H2 fp) K (bE ix fs) tg is wt cU)(Zm:∀cl C s2 H2 fp t,FF (eT X sc N' cl C s2 H2 fp) K (cU t) É (tf t))(he:∀cl C s2 H2 fp t,EF (eT X sc N' cl C s2 H2 fp) K (cU t) Ã (te t))
  (hf:∀p,f p=.bind (wt p) λt=>.bind (tf t) λk=>if k=true then .bind (te t) λv=>.ret (ap v) else .ret bn) (hl:t4 is (bE ix fs) cU/\∀t,gb (cU t) (bE ix fs)) (y6:∀j∈is,ix[j]?=ap bn) (hr:∀l,SF X K x (fs.set i (ap (.ol bn l))) rest (k l) out)
  (rq:lm (.ListComp Ã [⟨tg,iter,É,0⟩] sc pos) (ap (.Name y px)) mE.line X.env=pure true:=by rfl) (hs:u9 X iter:=by intro _;rfl) :
  SF X K x fs (.Assign [.Name y px] (.ListComp Ã [⟨tg,iter,É,0⟩] sc pos) mE::rest) (.bind (.bind wl λl=>lR l f) k) out:=
 SF.step (yi hc hN y7 hx S hi.p (λcl C s2 H2 fp=>(hg cl C s2 H2 fp).p) (λcl C s2 H2 fp Z s σ H Q I ⟨t,q⟩=>(Zm cl C s2 H2 fp t).p Z s σ H Q I q) (λcl C s2 H2 fp Z s σ H Q I ⟨t,q⟩=>(he cl C s2 H2 fp t).p Z s σ H Q I q) rq hs) λD σ H ⟨sr,q⟩=>
  NZ (K:=K) S rfl hf hl.1 hl.2 y6 σ H _ ⟨sr,(am wl λl=>lR l f).mono (λl q1 a ws H1 g1 s1 n e v1=>by
   have no:=sr.noOwn n;have s2:=s1.vq (t:=.ol bn l) ⟨by simp,ws,e,v1⟩ no i;exact⟨_,k l,hr l,s2,(k l).mono (λt q2=>q2.go (cg.vq s1 g1.f no n i) sr s2) q1⟩) q⟩
theorem v9:∀{l:bc}{i:Nat} (s:Option SL),l[i]?=ap bn->gb (l.set i s) l
 | [],_,_,h=>by simp at h
 | x::l,0,s,h=>by
  simp at h;subst h;exact .drop (gb.refl l)
 | x::l,i+1,s,h=>by
  rw[List.set_cons_succ];exact .keep (v9 s (by simpa using h))
def gb.trans{a b c:bc}(h1:gb a b)(h2:gb b c):gb a c:=by
 induction h1 generalizing c with
 | nil=>exact h2
 | drop h ih=>cases h2 with | drop h2=>exact .drop (ih h2) | keep h2=>exact .drop (ih h2)
 | keep h ih=>cases h2 with | drop h2=>exact .drop (ih h2) | keep h2=>exact .keep (ih h2)
def qW{l:bc}{is:O Nat}(hl:l.length=mx.length/\∀(j:Nat) (s:SL),l[j]?=ap (ap s)->(j∈is/\s.own=false)\/(j∉is/\mx[j]?=ap (ap s)))(hi:mx[i]?=ap bn) :
  (l.set i (ap (.val v))).length=mx.length/\∀(j:Nat) (s:SL),(l.set i (ap (.val v)))[j]?=ap (ap s)->(j∈is++[i]/\s.own=false)\/(j∉is++[i]/\mx[j]?=ap (ap s)):=by
 refine⟨by rw[BK];exact hl.1,λj s e=>?_⟩;rcases cC e with⟨rfl,rfl⟩ | ⟨n,e⟩
 ·exact .inl ⟨by simp,rfl⟩
 ·rcases hl.2 j s e with⟨h1,h2⟩ | ⟨h1,h2⟩
  ·exact .inl ⟨by simp[h1],h2⟩
  ·exact .inr ⟨by simp[h1,n],h2⟩
def S4(mx:bc):mx.length=mx.length/\∀(j:Nat) (s:SL),mx[j]?=ap (ap s)->(j∈([]:O Nat)/\s.own=false)\/(j∉([]:O Nat)/\mx[j]?=ap (ap s)):=⟨rfl,λj s e=>.inr ⟨by simp,e⟩⟩
def Nd(hi:mx[i]?=ap bn):t4 [i] mx (λp=>mx.set i (ap (.val p)))/\∀t,gb (mx.set i (ap (.val t))) mx:=⟨λt=>qW (is:=[]) (S4 mx) hi,λt=>v9 _ hi⟩
def Ma{l:bc}{s:Option SL}(h:l[j]?=ap bn)(n:j≠i):(l.set i s)[j]?=ap bn:=by rw[aM n];exact h
def Nc(hi:mx[i]?=ap bn)(hj:mx[j]?=ap bn)(n:j≠i):t4 [i,j] mx (λt:PV×PV=>(mx.set i (ap (.val t.1))).set j (ap (.val t.2)))/\∀t:PV×PV,gb ((mx.set i (ap (.val t.1))).set j (ap (.val t.2))) mx:=
 ⟨λt=>qW (is:=[i]) (qW (is:=[]) (S4 mx) hi) hj,λt=>(v9 _ (Ma hj n)).trans (v9 _ hi)⟩
end
section
variable{rest:O sn}{T:Type}{out:T->End}
def cG(sr:aR K H σ fs)(hs:fs[i]?=ap (ap (.ol q0 l))):∃a ws,σ[i]?=ap (ap (.ref a))/\H a=ap (.lst ws)/\aG K [] H ws l:=by
 obtain⟨u,e1,r⟩:=sr.at' i _ hs;rcases r with⟨v,e,_⟩ | ⟨a,e,z,ws,q1,q2⟩
 ·cases e
 ·subst e;exact⟨a,ws,e1,q1,q2⟩
def iE{uc:O V}{l':O PV}(sr:aR K H σ fs)(hs:fs[i]?=ap (ap (.ol q0 l)))(e1:σ[i]?=ap (ap (.ref a)))(sx:nP a H H')(h':H' a=ap (.lst uc))(r:aG K [] H uc l'):aR K H' σ (fs.set i (ap (.ol q0 l')))/\cg σ fs H σ (fs.set i (ap (.ol q0 l'))) H':=
 lK (t':=.ol q0 l') sr hs rfl (by simp) e1 sx λtk=>⟨(sr.ownAt hs rfl e1).1,uc,h',aG.tk tk r⟩
def mn(l:O PV)(v:PV):W (O PV):=.ff (l.length < sizeLine) (.ret (l++[v]))
theorem SF.append(i:Nat){k:O PV->W T}(hs:fs[i]?=ap (ap (.ol q0 l)))(hK:X.K=K)(hN:X.N[i]?=ap y)(hv:xH X.env.scope y)(he:EF X K fs e we)(hr:∀l',SF X K x (fs.set i (ap (.ol q0 l'))) rest (k l') out)
  (hd:ir y:=by decide) (ib:zS y:=by decide) (fN:ss (.Name y p) "append" X.env (lc (.Name y p) X.env)=lc (.Name y p) X.env:=by rfl)
  (wJ:HWa X cv [e]:=by rfl)
  (fM:TY Â cv:=by rfl) (zW:gV X e []:=by rfl) (iV:mr X cv []:=by rfl)
  (rq:lm (.Call (.Attribute (.Name y p) "append" Â) [e] [] cv) bn pos.line X.env=pure false:=by rfl) :
  SF X K x fs (.Expr (.Call (.Attribute (.Name y p) "append" Â) [e] [] cv) pos::rest) (.bind we λv=>.bind (mn l v) k) out:=
 SF.step (pW (F2 K hK Ci PySem.F.slot_list_append PySem.F.type_list_append Gh (de hN hv hd ib) (a9 he.p cW zW) fN wJ fM zW iV) rq) λD σ H ⟨sr,q⟩=>by
  obtain⟨a,ws,e1,h1,r1⟩:=cG sr hs;refine⟨_,e1,.inl ⟨rfl,_,cT.of h1⟩,sr,we.mono (λv q1 u H1 g1 s1 v1=>?_) q⟩;obtain⟨a',uc,sR,eP,xG⟩:=cG s1 hs;rw[e1]at sR;cases sR;refine⟨a,uc,u,rfl,rfl,eP,by rw[xG.length];exact q1.1,λH2 sx h2=>?_⟩;obtain⟨s2,g2⟩:=iE s1 hs e1 sx h2 (xG.append (.one v1));exact⟨_,k _,hr _,s2,(k _).mono (λt q2=>q2.go (g1.f.trans g2) sr s2) q1.2⟩
def rO(l m:O PV):W (O PV):=.ff (l.length+m.length<=sizeLine) (.ret (l++m))
theorem SF.extend(i:Nat){k:O PV->W T}(hs:fs[i]?=ap (ap (.ol q0 l)))(hK:X.K=K)(hN:X.N[i]?=ap y)(hv:xH X.env.scope y)(he:QF X K fs e wl)(hr:∀l',SF X K x (fs.set i (ap (.ol q0 l'))) rest (k l') out)
  (hd:ir y:=by decide) (ib:zS y:=by decide) (fN:ss (.Name y p) "extend" X.env (lc (.Name y p) X.env)=lc (.Name y p) X.env:=by rfl)
  (wJ:HWa X cv [e]:=by rfl)
  (fM:TY Â cv:=by rfl) (zW:gV X e []:=by rfl) (iV:mr X cv []:=by rfl)
  (rq:lm (.Call (.Attribute (.Name y p) "extend" Â) [e] [] cv) bn pos.line X.env=pure false:=by rfl) :
  SF X K x fs (.Expr (.Call (.Attribute (.Name y p) "extend" Â) [e] [] cv) pos::rest) (.bind wl λm=>.bind (rO l m) k) out:=
 SF.step (pW (F2 K hK Ci PySem.F.slot_list_extend PySem.F.type_list_extend (QW K hK) (de hN hv hd ib) (a9 he.p cW zW) fN wJ fM zW iV) rq) λD σ H ⟨sr,q⟩=>by
  obtain⟨a,ws,e1,h1,r1⟩:=cG sr hs;refine⟨_,e1,.inl ⟨rfl,_,cT.of h1⟩,sr,wl.mono (λm q1 u H1 g1 s1 v1=>?_) q⟩;obtain⟨a',uc,sR,eP,xG⟩:=cG s1 hs;rw[e1]at sR;cases sR;obtain⟨b,zs,rfl,hb,rb⟩:=v1.sq s1;refine⟨a,b,uc,zs,rfl,rfl,eP,hb,by rw[xG.length,rb.length];exact q1.1,λH2 sx h2=>?_⟩;obtain⟨s2,g2⟩:=iE s1 hs e1 sx h2 (xG.append rb);exact⟨_,k _,hr _,s2,(k _).mono (λt q2=>q2.go (g1.f.trans g2) sr s2) q1.2⟩
def vB(l:O PV):W (O PV×PV):=match l.getLast? with
 | some v=>.ret (l.dropLast,v)
 | none=>.fail
def L7{l:O PV}(h:l.getLast?=ap v):l=l.dropLast++[v]:=by
 rw[List.getLast?_eq_some_iff]at h;obtain⟨ys,rfl⟩:=h;simp
theorem aG.snoc:∀{ws:O V}{l:O PV}{v:PV},aG K [] H ws (l++[v])->∃WX u,ws=WX++[u]/\aG K [] H WX l/\VR K [] H u v
 | _,[],_,.cons r .nil=>⟨[],_,rfl,.nil,r⟩
 | _,x::l,v,.cons r t=>by
  obtain⟨WX,u,rfl,h1,h2⟩:=aG.snoc t;exact⟨_::WX,u,rfl,.cons r h1,h2⟩
def SF.vC(i j:Nat){k:O PV×PV->W T}(hs:fs[i]?=ap (ap (.ol q0 l)))(ó:j≠i)(hK:X.K=K)(hN:X.N[i]?=ap y)(hv:xH X.env.scope y)(hNd:X.N.Nodup)(hj:X.N[j]?=ap z)(hx:Loc X.env.scope z)(hr:∀t:O PV×PV,SF X K x ((fs.set i (ap (.ol q0 t.1))).set j (ap (.val t.2))) rest (k t) out)
  (hd:ir y:=by decide) (ib:zS y:=by decide) (fN:ss (.Name y p) "pop" X.env (lc (.Name y p) X.env)=lc (.Name y p) X.env:=by rfl) (fM:TY Â cv:=by rfl)
  (rq:lm (.Call (.Attribute (.Name y p) "pop" Â) [] [] cv) (ap (.Name z p')) pos.line X.env=pure false:=by rfl) (hf:O1 X z:=by first | exact .inl rfl | exact .inr rfl | assumption) :
  SF X K x fs (.Assign [.Name z p'] (.Call (.Attribute (.Name y p) "pop" Â) [] [] cv) pos::rest) (.bind (vB l) k) out:=
 SF.step (vz hNd hj hx (Qw K hK Ci PySem.F.slot_list_pop PySem.F.type_list_pop QU (de hN hv hd ib) fN fM) rq hf) λD σ H ⟨sr,q⟩=>by
  obtain⟨a,ws,e1,h1,r1⟩:=cG sr hs;have q:(vB l).run λt=>(k t).run λt=>bA K x σ fs H D (out t):=q;unfold vB at q;cases hl:l.getLast? with
  | none=>rw[hl]at q;exact q.elim
  | some v=>
   rw[hl]at q;have el:=L7 hl;rw[el]at r1;obtain⟨WX,u,rfl,r0,ru⟩:=aG.snoc r1;refine⟨_,e1,.inl ⟨rfl,_,cT.of h1⟩,a,WX,u,rfl,rfl,h1,λH2 sx h2=>?_⟩;obtain⟨s2,g2⟩:=iE sr hs e1 sx h2 r0;have ru2:VR K [] H2 u v:=g2.vr sr ru;have s3:=s2.eU ru2 j;exact⟨_,k _,hr (l.dropLast,v),s3,(k _).mono (λt q2=>q2.go (g2.trans (cg.eU s2 _ _ j)) sr s3) q⟩
def iB(l:O PV)(i v:PV):W (O PV):=match i with
 | .int k=>match rf l.length k with
  | some j=>.ret (l.set j v)
  | none=>.fail
 | _=>.fail
def SF.FW(i:Nat){k:O PV->W T}(hs:fs[i]?=ap (ap (.ol q0 l)))(hN:X.N[i]?=ap y)(hv:xH X.env.scope y)(he:EF X K fs e we)(hi:EF X K fs ei wi)(hr:∀l',SF X K x (fs.set i (ap (.ol q0 l'))) rest (k l') out)
  (ha:∀v,xz (.Subscript (.Name y p) ei jB) X.env v=(do
   let ov <- sw [v] (lc (.Name y p) X.env)
   let iv <- sw [v,ov] (lc ei X.env)
   standAt jB
   sw [v,ov,iv] (Ch ov iv v)
   release [v,ov,iv] []):=by intro _;rfl)
  (hd:ir y:=by decide) (ib:zS y:=by decide) (Ď:zn [.Subscript (.Name y p) ei jB] e pos.line X.env=pure false:=by rfl) (hw:BT [.Subscript (.Name y p) ei jB] e X.env=pure bn:=by rfl)
  (h1:(wn [.Subscript (.Name y p) ei jB] X.env).map (·.2)=[xz (.Subscript (.Name y p) ei jB) X.env]:=by rfl) :
  SF X K x fs (.Assign [.Subscript (.Name y p) ei jB] e pos::rest) (.bind we λv=>.bind wi λn=>.bind (iB l n v) k) out:=
 SF.step (FZ he.p (UT (de hN hv hd ib) hi.p uk ha) Ď hw h1) λD σ H ⟨sr,q⟩=>by
  refine⟨sr,we.mono (λv q1 u H1 g1 s1 v1=>?_) q⟩;obtain⟨a,ws,e1,h1,r1⟩:=cG s1 hs;refine⟨_,e1,s1,wi.mono (λn q2 u2 H2 g2 s2 v2=>?_) q1⟩;obtain⟨a',uc,sR,eP,xG⟩:=cG s2 hs;rw[e1]at sR;cases sR;cases v2 with
  | int kk=>
   have q2:(match rf l.length kk with | some j=>bd (l.set j v) | none=>W.fail).run _:=q2;cases hj:rf l.length kk with
   | none=>rw[hj]at q2;exact q2.elim
   | some j=>
    rw[hj]at q2;refine⟨a,uc,kk,j,rfl,rfl,eP,by rw[xG.length];exact hj,λH3 sx h3=>?_⟩;obtain⟨s3,g3⟩:=iE s2 hs e1 sx h3 (xG.set (g2.vr s1 v1) j);exact⟨_,k _,hr _,s3,(k _).mono (λt q3=>q3.go ((g1.trans g2).f.trans g3) sr s3) q2⟩
  | _=>exact q2.elim
end
end
end FL
variable{x:BU}
namespace FL
section
variable[dJ]
variable{K:Ab}
def f9:O AK->O PV->bc
 | [],_=>[]
 | .v::ks,x::l=>ap (.val x)::f9 ks l
 | .v::_,[]=>[]
 | .p φ::ks,l=>ap (.kq φ)::f9 ks l
 | .f a us ps fz::ks,l=>ap (.adr a us ps fz)::f9 ks l
def tW(ks:O AK)(l:O PV)(n:Nat):bc:=f9 ks l++Al (n-ks.length) bn
def HP(ks:O AK):Prop:=∀i j:Nat,(∃φ,ks[i]?=ap (.p φ))->(∃φ,ks[j]?=ap (.p φ))->i=j
theorem iw:∀{n:Nat}{m:zY R n}{l:O PV}{Q:R->Prop},(oU n m l).run Q->l.length=n
 | 0,_,[],_,_=>rfl
 | 0,_,_::_,_,h=>h.elim
 | n+1,_,[],_,h=>h.elim
 | n+1,m,x::l,Q,h=>by rw[An,iw (n:=n) (m:=m x) h]
section
theorem gU.len(h:gU K H vs ks l):vs.length=ks.length:=by induction h <;> simp_all
def gU.slot(h:gU K H vs ks l):(f9 ks l).length=vs.length/\∀(i:Nat) (s:SL),(f9 ks l)[i]?=ap (ap s)->∃u,vs[i]?=ap u/\uY K H u s/\(s.own=true->∃φ,s=.kq φ/\ks[i]?=ap (.p φ)):=by
 induction h with
 | nil=>exact⟨rfl,λi s e=>by simp[f9]at e⟩
 | @v u x vs ks l r t ih=>
  refine⟨by simp[f9,ih.1],λi s e=>?_⟩;cases i with
  | zero=>simp[f9]at e;subst e;exact⟨u,rfl,.inl ⟨x,rfl,r⟩,λz=>by cases z⟩
  | succ i=>simp[f9]at e;obtain⟨w,h1,h2,h3⟩:=ih.2 i s e;exact⟨w,by simpa using h1,h2,by simpa using h3⟩
 | @p a φ ws vs ks l e0 r t ih=>
  refine⟨by simp[f9,ih.1],λi s e=>?_⟩;cases i with
  | zero=>simp[f9]at e;subst e;exact⟨_,rfl,.inr ⟨a,rfl,ws,e0,r⟩,λ_=>⟨φ,rfl,rfl⟩⟩
  | succ i=>simp[f9]at e;obtain⟨w,h1,h2,h3⟩:=ih.2 i s e;exact⟨w,by simpa using h1,h2,by simpa using h3⟩
 | @f a us vs ps fz ks l r z t ih=>
  refine⟨by simp[f9,ih.1],λi s e=>?_⟩;cases i with
  | zero=>simp[f9]at e;subst e;exact⟨_,rfl,.inr ⟨a,rfl,rfl,r,z⟩,λz=>by cases z⟩
  | succ i=>simp[f9]at e;obtain⟨w,h1,h2,h3⟩:=ih.2 i s e;exact⟨w,by simpa using h1,h2,by simpa using h3⟩
def gU.UQ(h:gU K H vs ks l)(e:ks[i]?=ap (.p φ)):(f9 ks l)[i]?=ap (ap (.kq φ)):=by
 induction h generalizing i with
 | nil=>simp at e
 | v r t ih=>cases i with | zero=>simp at e | succ i=>simp[f9];exact ih (by simpa using e)
 | p e0 r t ih=>cases i with | zero=>simp at e;subst e;rfl | succ i=>simp[f9];exact ih (by simpa using e)
 | f r z t ih=>cases i with | zero=>simp at e | succ i=>simp[f9];exact ih (by simpa using e)
theorem nK{s:SL}(h:(tW ks l n)[i]?=ap (ap s)):(f9 ks l)[i]?=ap (ap s):=by
 unfold tW at h;by_cases c:i < (f9 ks l).length
 ·rw[AV c]at h;exact h
 ·rw[AA ∅,BE]at h
  split at h <;> cases h
def km{N:O Str}(h:vs[i]?=ap u):(L2.start N vs)[i]?=ap (ap u):=by
 unfold L2.start;rw[AV (by rw[Aj];exact(Am.mp h).1),Ak,h];rfl
def ui{N:O Str}(h:(L2.start N vs)[i]?=ap (ap u)):vs[i]?=ap u:=by
 unfold L2.start at h;by_cases c:i < vs.length
 ·rw[AV (by simpa using c),Ak]at h;cases z:vs[i]? with
  | none=>rw[z]at h;cases h
  | some q=>rw[z]at h;cases h;rfl
 ·rw[AA (by simpa using c),BE]at h
  split at h <;> cases h
def gU.beg(h:gU K H vs ks l)(tb:TB H)(one:HP ks)(N:O Str):aR K H (L2.start N vs) (tW ks l N.length):=by
 obtain⟨hl,hs⟩:=h.slot;refine⟨?_,λi s e=>?_,λi j s t x y a e1 e2 o1 o2 q1 q2 z1 z2=>?_,tb⟩
 ·unfold L2.start tW;rw[Ad,Ad,Aj,hl,Bi,Bi,h.len]
 ·obtain⟨u,h1,h2,_⟩:=hs i s (nK e);exact⟨u,km h1,h2⟩
 ·obtain⟨_,_,_,h3⟩:=hs i s (nK e1);obtain⟨_,_,_,h4⟩:=hs j t (nK e2);obtain⟨φ,_,k1⟩:=h3 o1;obtain⟨ψ,_,k2⟩:=h4 o2;exact one i j ⟨φ,k1⟩ ⟨ψ,k2⟩
def gU.go(h:gU K H vs ks l){N:O Str}(g:cg (L2.start N vs) (tW ks l N.length) H σ' bx H')(s':aR K H' σ' bx):GoC vs ks H H':=by
 obtain⟨hl,hs⟩:=h.slot;refine⟨λa o e n=>(g.keep a o e λz=>?_).1,s'.tb,g.there,λa φ p=>?_⟩
 ·obtain⟨i,s,x,e1,e2,e3,e4⟩:=z;obtain⟨u,h1,h2,h3⟩:=hs i s (nK e1);obtain⟨φ,rfl,k⟩:=h3 e2;rcases e4 with rfl | e4
  ·exact n φ ⟨i,k,ui e3⟩
  ·cases e4
 ·obtain⟨i,e1,e2⟩:=p;have e3:=h.UQ e1;have hi:=(Am.mp e3).1;have e4:(tW ks l N.length)[i]?=ap (ap (.kq φ)):=by unfold tW;rw[AV hi];exact e3
  rcases g.pk a φ ⟨i,e4,km e2⟩ with⟨j,k1,k2⟩ | ⟨_,k⟩
  ·exact s'.ownAt k1 rfl k2
  ·exact k
end
section
variable{st:sn}{f:cr}{N:O Str}
def fnV{m:zY PV n}(Fn:Pf K x qual st f fd)(S:da N ps (aH st))(VU:ks.length=ps.length)(one:HP ks)
  (Ì:∀l:O PV,l.length=n->∀(eE:ce) (A:wS) (outer:O Env) (s:db) (H:Hp) (E:XK),d7 k (A.deeper (Db qual (aH st) s.heap.objs.size f eE))->SF (tT sS P w K mg base N qual (aH st) f eE A outer s H E).SY K false (tW ks l N.length) (cE st) (oU n m l) .rt) :
  gc P w K mg base sS (k+1) f fd ps (Ih K ks (oU n m)):=by
 refine Fn.ok S (λvs H Q E h=>?_) (λeE A outer s H vs Q E hr h=>?_)
 ·obtain⟨_,l,h,_⟩:=h;rw[h.len];exact VU
 obtain⟨tb,l,h,q⟩:=h;refine⟨_,(Ì l (iw q) eE A outer s H E hr).p,h.beg tb one N,(oU n m l).mono (λv q1 u σ' bx H' g s' r=>q1 u H' (h.go g s') r) q⟩
def fnL{m:zY (O PV) n}(Fn:Pf K x qual st f fd)(S:da N ps (aH st))(VU:ks.length=ps.length)(one:HP ks)
  (Ì:∀l:O PV,l.length=n->∀(eE:ce) (A:wS) (outer:O Env) (s:db) (H:Hp) (E:XK),d7 k (A.deeper (Db qual (aH st) s.heap.objs.size f eE))->SF (tT sS P w K mg base N qual (aH st) f eE A outer s H E).SY K false (tW ks l N.length) (cE st) (oU n m l) .rl) :
  gc P w K mg base sS (k+1) f fd ps (xZ K ks (oU n m)):=by
 refine Fn.ok S (λvs H Q E h=>?_) (λeE A outer s H vs Q E hr h=>?_)
 ·obtain⟨_,l,h,_⟩:=h;rw[h.len];exact VU
 obtain⟨tb,l,h,q⟩:=h;have sr:=h.beg tb one N;refine⟨_,(Ì l (iw q) eE A outer s H E hr).p,sr,(oU n m l).mono (λz q1 a ws σ' bx H' g s' fr e r=>q1 a ws H' (h.go g s') ?_ e r) q⟩;rcases fr with fr | ⟨i,t,x,e1,e2,np,e3,e4⟩
 ·exact fr
 ·obtain⟨_,_,_,h3⟩:=h.slot.2 i t (nK e1);obtain⟨φ,e,_⟩:=h3 e2;exact absurd e (np φ)
end
def IB:HP []:=λi j ⟨_,h⟩=>by simp at h
def yt(h:HP ks):HP (.v::ks):=λi j ⟨φ,a⟩ ⟨ψ,b⟩=>by
 cases i with
 | zero=>simp at a
 | succ i=>
  cases j with
  | zero=>simp at b
  | succ j=>rw[h i j ⟨φ,by simpa using a⟩ ⟨ψ,by simpa using b⟩]
end
end FL
namespace L2
def Yp(K:Ab):R2:=λx y H Q=>∃a b xs zs,x=.ref a/\y=.ref b/\cT K H a xs/\cT K H b zs/\xs.length+zs.length<=sizeLine/\jQ H (.lst (xs++zs)) Q
theorem QG(K:Ab)(hK:X.K=K):f6 X (re .Add) (Yp K):=by
 subst hK;intro Z s σ H x y v u Q I rx ry h;obtain⟨l,b,xs,zs,rfl,rfl,hH,hB,hz,q⟩:=h;cases rx;cases ry;obtain⟨ar,r,⟨⟨cls,dd,data,sl⟩,n,ho,hc,hd,m7⟩,_⟩:=I.list hH;obtain⟨bQ,r2,⟨⟨Wy,R6,data2,O9⟩,n2,Ko,NI,Ó,Tt⟩,_⟩:=I.list hB;simp only at hc hd m7 NI Ó Tt;subst hc hd m7 NI Ó Tt;have e:ar.toArray++bQ.toArray=(ar++bQ).toArray:=by simp
 have hl:=r.length;have Ly:=r2.length;refine concat_meets ⟨_,ho,rfl⟩ ⟨_,Ko,rfl⟩ noFill_list_add seq_list_add PySem.F.slot_list_add PySem.F.entry_list_add (PySem.F.args_list_add_2 _ _) (list_addW l b ar.toArray bQ.toArray n n2 bn bn sl O9 (by simp;omega)) ⟨ho,Ko,?_⟩;rw[e];exact⟨.ref _,_,I.Vo (t':=s.toks) (r.append r2) (by rw[Ad];omega),rfl,q.at _ I.fresh⟩
end L2
variable{hi:FL.W (Option Int)}{neg:Bool}
namespace FL
section
variable[dJ]
variable{K:Ab}
section
variable{a c:im}{w:W PV}{wm:W (O PV)}
def zF(l m:O PV):W (O PV):=.ff (l.length+m.length<=sizeLine) (.ret (l++m))
def fQL(K:Ab)(fs:bc)(w:W (O PV)):TE:=λσ H Q=>aR K H σ fs/\w.run λl=>∀u H',cJ σ fs H H'->aR K H' σ fs->Sl K σ fs H' u l->(∀ü,cJ σ fs H' ü->aR K ü σ fs->∃a vs,u=.ref a/\cT K ü a vs/\aG K [] ü vs l)->Q u H'
structure Lo(X:Cx)(K:Ab)(fs:bc)(e:im)(w:W (List PV)):Prop where p:PE X e (fQL K fs w)
def cV(h:LF X K fs e wl):Lo X K fs e wl:=⟨PE.imp h.p λσ H Q ⟨sr,q⟩=>⟨sr,wl.mono (λl q1 a vs H1 g1 s1 n e v=>q1 _ H1 g1 s1 (.inr ⟨a,rfl,.inl ⟨sr.noOwn n,vs,e,v⟩⟩) λH2 g2 s2=>⟨a,vs,rfl,cT.of (g2.qZ e (sr.noOwn n)),g2.Ls s1 v⟩) q⟩⟩
def FX(i:Nat)(hs:fs[i]?=ap (ap (.ol q0 l)):=by rfl)(hN:X.N[i]?=ap x:=by rfl)(hv:xH X.env.scope x:=by first | exact Ck rfl | exact B9 (Ck rfl) | exact B9 (B9 rfl))(hd:ir x:=by decide)(ib:zS x:=by decide):Lo X K fs (.Name x pos) (.ret l):=
 ⟨PE.imp (de hN hv hd ib) λσ H Q ⟨sr,q⟩=>by
  obtain⟨a,ws,e1,h1,r1⟩:=cG sr hs;refine⟨_,e1,q _ H .refl sr (.inr ⟨a,rfl,.inr ⟨i,q0,hs,e1⟩⟩) λH2 g2 s2=>?_⟩;obtain⟨a',uc,sR,eP,xG⟩:=cG s2 hs;rw[e1]at sR;cases sR;exact⟨a,uc,rfl,cT.of eP,xG⟩⟩
def QY:PV->W (O PV)
 | .cl l=>.ret l
 | _=>.fail
def Mp(h:EF X K fs e w):Lo X K fs e (.bind w QY):=⟨PE.imp h.p λσ H Q ⟨sr,q⟩=>⟨sr,w.mono (λx q1 u1 H1 g1 s1 v1=>by
 cases v1 with
 | cl e r=>exact q1 _ H1 g1 s1 (.inl ⟨_,_,rfl,.inl e,r⟩) λH2 g2 s2=>⟨_,_,rfl,((g2.dc s1).f _ _ e).sq,g2.Ls s1 r⟩
 | _=>exact q1.elim) q⟩⟩
def yM(hK:X.K=K)(ha:Lo X K fs a wl)(hb:Lo X K fs b wm):LF X K fs (.BinOp a .Add b pos) (.bind wl λl=>.bind wm λm=>zF l m):=⟨PE.imp (Ir (QG K hK) ha.p hb.p) λσ H Q ⟨sr,q⟩=>⟨sr,wl.mono (λl q1 u1 H1 g1 s1 _ v1=>⟨s1,wm.mono (λm q2 u2 H2 g2 s2 _ v2=>by
 obtain⟨a,vs,rfl,h1,r1⟩:=v1 H2 g2 s2;obtain⟨b,ws,rfl,h2,r2⟩:=v2 H2 .refl s2;refine⟨a,b,vs,ws,rfl,rfl,h1,h2,by rw[r1.length,r2.length];exact q2.1,λp H3 s3 h3 n3=>?_⟩;have gg:=g1.trans g2;exact q2.2 p _ H3 (gg.trans (cJ.same s3)) (s2.same s3) (gg.there p n3) h3 (aG.tk s3.dN (r1.append r2))) q1⟩) q⟩⟩
def ID{Q:VK}(g1:cJ σ fs H H1)(s1:aR K H1 σ fs)(r:aG K [] H1 vs l)(q:∀a vs H',cJ σ fs H H'->aR K H' σ fs->H a=bn->H' a=ap (.lst vs)->aG K [] H' vs l->Q (.ref a) H'):jQ H1 (.lst vs) Q:=λp H2 s2 h2 n2=>q p vs H2 (g1.trans (cJ.same s2)) (s1.same s2) (g1.there p n2) h2 (aG.tk s2.dN r)
def M8(K:Ab):CL K (Mm K) .ret:=λ{fs σ H Q u l} s v q=>by
 obtain⟨a,vs,rfl,h,rs⟩:=v.sq s;exact⟨a,vs,rfl,h,ID .refl s rs q⟩
def Vr(hK:X.K=K)(hg:Gl X "list")(hm:X.mg "list"=bn)(ha:QF X K fs e wl)(he:gV X e []:=by rfl)(dr:mr X pos []:=by rfl):LF X K fs (.Call (.Name "list" p) [e] [] pos) wl:=Ng (m:=.ret) (Hu K hK) (M8 K) hg hm boot_list ha ⋯ ⋯ he dr
def fc(hK:X.K=K)(hg:Gl X "tuple")(hm:X.mg "tuple"=bn)(ha:QF X K fs e wl)(he:gV X e []:=by rfl)(dr:mr X pos []:=by rfl):EF X K fs (.Call (.Name "tuple" p) [e] [] pos) (.bind wl pq):=KW (K6 K hK) (Pu K) hg hm boot_tuple ha ⋯ ⋯ he dr
def oJ(hK:X.K=K)(hg:Gl X "len")(hm:X.mg "len"=bn)(ha:QF X K fs e wl)(he:gV X e []:=by rfl)(dr:mr X pos []:=by rfl):EF X K fs (.Call (.Name "len" p) [e] [] pos) (.bind wl v8):=Ou (uP K hK) (Q2 K) hg hm boot_len ha ⋯ ⋯ he dr
def OV(ha:EF X K fs e w)(he:gl [e] X.env=(false,lc e X.env)::gl [] X.env):AF X K fs [e] (Al 1 .v) (R:=R) (λk=>.bind w λx=>k [x]):=aj ha ai he
def cD(hK:X.K=K)(hg:Gl X "len")(hm:X.mg "len"=bn)(ha:EF X K fs e w)(he:gV X e []:=by rfl)(dr:mr X pos []:=by rfl):EF X K fs (.Call (.Name "len" p) [e] [] pos) (.bind w λx=>qC cS [x]):=qf (n:=1) (uP K hK) (Se K) hg hm boot_len (OV ha he) ⋯ ⋯ he dr
def ZT(hg:Gl X "abs")(hm:X.mg "abs"=bn)(ha:EF X K fs e w)(he:gV X e []:=by rfl)(dr:mr X pos []:=by rfl):EF X K fs (.Call (.Name "abs" p) [e] [] pos) (.bind w λx=>qC OM [x]):=qf (n:=1) OE Sg hg hm boot_abs (OV ha he) ⋯ ⋯ he dr
def w4(hg:Gl X "int")(hm:X.mg "int"=bn)(ha:EF X K fs e w)(he:gV X e []:=by rfl)(dr:mr X pos []:=by rfl):EF X K fs (.Call (.Name "int" p) [e] [] pos) (.bind w λx=>qC xo [x]):=Ot (n:=1) Lb Sf hg hm boot_int (OV ha he) ⋯ ⋯ he dr
def ZQ(hc:X.calm=true)(hg:Gl X "max")(hm:X.mg "max"=bn)(ha:EF X K fs a wa)(hb:EF X K fs b wb)(he:gl [a,b] X.env=(false,lc a X.env)::gl [b] X.env:=by rfl)(VX:gV X b []:=by rfl)(dr:(FS pos (gl [b] X.env)).any (·.1)=false:=by rfl):EF X K fs (.Call (.Name "max" p) [a,b] [] pos) (.bind wa λx=>.bind wb λy=>qC OL [x,y]):=qf (n:=2) (K8 hc) Sd hg hm boot_max (aj ha (aj hb ai VX) he) ⋯ ⋯ he dr
def ZP(hc:X.calm=true)(hg:Gl X "min")(hm:X.mg "min"=bn)(ha:EF X K fs a wa)(hb:EF X K fs b wb)(he:gl [a,b] X.env=(false,lc a X.env)::gl [b] X.env:=by rfl)(VX:gV X b []:=by rfl)(dr:(FS pos (gl [b] X.env)).any (·.1)=false:=by rfl):EF X K fs (.Call (.Name "min" p) [a,b] [] pos) (.bind wa λx=>.bind wb λy=>qC OK [x,y]):=qf (n:=2) (K7 hc) Sb hg hm boot_min (aj ha (aj hb ai VX) he) ⋯ ⋯ he dr
def YR(hK:X.K=K)(hc:X.calm=true)(ė:Gl X "list")(ē:X.mg "list"=bn)(Ė:Gl X "reversed")(W8:X.mg "reversed"=bn)(he:Lo X K fs e wl)
  (zX:gl [.Call (.Name "reversed" p3) [e] [] p4] X.env=(false,lc (.Call (.Name "reversed" p3) [e] [] p4) X.env)::gl [] X.env:=by rfl) (qb:gV X e []:=by rfl) :
  LF X K fs (.Call (.Name "list" p1) [.Call (.Name "reversed" p3) [e] [] p4] [] p2) (.bind wl λl=>.ret l.reverse):=⟨PE.imp (F1 K hK hc ė ē Ė W8 he.p zX qb) λσ H Q ⟨sr,q⟩=>⟨sr,wl.mono (λl q1 u1 H1 g1 s1 _ v1=>by
 obtain⟨a,vs,rfl,h1,r1⟩:=v1 H1 .refl s1;exact⟨a,vs,rfl,h1,ID g1 s1 r1.reverse q1⟩) q⟩⟩
def Z3:O PV->W (O Bool)
 | []=>.ret []
 | .bl b::r=>.bind (Z3 r) λl=>.ret (b::l)
 | _=>.fail
theorem Jo:∀{l:O PV}{Q:O Bool->Prop},(Z3 l).run Q->∃bs:O Bool,l=bs.map PV.bl/\Q bs
 | [],Q,h=>⟨[],rfl,h⟩
 | .bl b::r,Q,h=>by
  obtain⟨bs,e,q⟩:=Jo (l:=r) h;exact⟨b::bs,by rw[e];rfl,q⟩
 | .aN::r,Q,h=>h.elim
 | .int _::r,Q,h=>h.elim
 | .str _::r,Q,h=>h.elim
 | .tup _::r,Q,h=>h.elim
 | .ref _::r,Q,h=>h.elim
 | .ty _::r,Q,h=>h.elim
 | .cl _::r,Q,h=>h.elim
@[simp] theorem Jp:∀bs:O Bool,Z3 (bs.map PV.bl)=.ret bs
 | []=>rfl
 | b::bs=>by
  show am (Z3 (bs.map PV.bl)) _=_;rw[Jp bs];rfl
def tX(l:O PV):W PV:=.bind (Z3 l) λbs=>.ret (.bl (bs.all id))
def uL(hK:X.K=K)(hc:X.calm=true)(hg:Gl X "all")(hm:X.mg "all"=bn)(ha:Lo X K fs e wl)(he:gV X e []:=by rfl)(dr:mr X pos []:=by rfl):EF X K fs (.Call (.Name "all" p) [e] [] pos) (.bind wl tX):=⟨PE.imp (fw (Lc K hK hc) hg hm boot_all (a9 ha.p cW he) ⋯ ⋯ he dr) λσ H Q ⟨sr,q⟩=>⟨sr,wl.mono (λl q1 u1 H1 g1 s1 _ v1=>by
 obtain⟨bs,e,q2⟩:=Jo (l:=l) q1;obtain⟨a,vs,rfl,h1,r1⟩:=v1 H1 .refl s1;rw[e]at r1;have:=uQ r1;subst this;exact⟨a,bs,rfl,h1,q2 _ H1 g1 s1 (.bl _)⟩) q⟩⟩
def cZ(k:Kd)(x:PV):W PV:=match x with
 | .ref _=>.fail
 | .ty _=>.fail
 | .ob _ _=>.fail
 | x=>.ret (.bl (k.is x))
def SR(K:Ab):O V->Hp->VK->Prop:=λxs H Q=>∃x c t b,xs=[x,.ty c]/\(kX K H x t\/(t=.type "tuple"/\∃a vs,x=.ref a/\dz K H a vs)\/(t=.type "list"/\∃a vs,x=.ref a/\cT K H a vs)\/(t=.type "dict"/\∃a,x=.ref a/\IsD H a))/\Bq K t (.type c)=ap b/\Q (.bl b) H
def La(hK:X.K=K):bJ X (.builtin "isinstance") (SR K):=by
 subst hK;intro Z s σ H xs us Q I r h;obtain⟨x,c,t,b,rfl,ty | ty | ⟨rfl,a,vs,rfl,hL⟩ | ⟨rfl,a,rfl,hD⟩,e,q⟩:=h
 ·exact pd Z s σ H _ us Q I r ⟨x,c,t,b,rfl,ty,e,q⟩
 ·exact K9 X.K rfl Z s σ H _ us Q I r ⟨x,c,t,b,rfl,.inr ty,e,q⟩
 ·obtain⟨u,w,rfl,r1,r2⟩:=vals2 r;cases r1;cases r2;obtain⟨ar,_,⟨o,n,h1,h2,_⟩,_⟩:=I.list hL;exact A8 D6 I.tJ ⟨o,h1,h2⟩ e (λz=>nomatch z) λtk=>⟨.bl b,H,I.tok _,rfl,q⟩
 ·obtain⟨u,w,rfl,r1,r2⟩:=vals2 r;cases r1;cases r2;have:∃o,s.heap.get? a=ap o/\o.cls=.type "dict":=by
   rcases hD with⟨kvs,e⟩ | ⟨kvs,e⟩
   ·obtain⟨_,_,vs,_,o,_,_,h1,h2,_⟩:=se I.bj e;exact⟨o,h1,h2.1⟩
   ·obtain⟨_,_,xs,_,o,_,_,h1,h2,_⟩:=sd I.bj e;exact⟨o,h1,h2.1⟩
  obtain⟨o,h1,h2⟩:=this;exact A8 D7 I.tJ ⟨o,h1,h2⟩ e (λz=>nomatch z) λtk=>⟨.bl b,H,I.tok _,rfl,q⟩
def cu(hK:X.K=K)(k:Kd)(hg:Gl X "isinstance")(hm:X.mg "isinstance"=bn)(ha:EF X K fs a wa)(hgx:Gl X x)(hmx:X.mg x=bn)(hv:nw x=ap (.type k.name))(hn:x≠"__name__":=by decide)(hd:ir x:=by decide)
  (he:gl [a,.Name x p2] X.env=(false,lc a X.env)::gl [.Name x p2] X.env:=by rfl) (VX:gl [Expr.Name x p2] X.env=(false,lc (.Name x p2) X.env)::gl [] X.env:=by rfl)
  (dr:(FS pos (gl [Expr.Name x p2] X.env)).any (·.1)=false:=by rfl):EF X K fs (.Call (.Name "isinstance" p) [a,.Name x p2] [] pos) (.bind wa (cZ k)):=
 ⟨PE.imp (fw (La hK) hg hm boot_isinstance (a9 ha.p (a9 (Qx (v:=.ty k.name) hgx hmx hv rfl hn hd) cW VX) he) ⋯ ⋯ he dr) λσ H Q ⟨sr,q⟩=>⟨sr,wa.mono (λx q1 u1 H1 g1 s1 v1=>by
  have fin:∀{t:ce}{y:PV},kX K H1 u1 t->Bq K t (.type k.name)=ap (k.is y)->Q (.bl (k.is y)) H1->SR K [u1,.ty k.name] H1 Q:=λty e q=>⟨_,_,_,_,rfl,.inl ty,e,q⟩;cases v1 with
  | aN=>exact fin (y:=.aN) .aN (by rw[(qa K).1 k];cases k <;> rfl) (q1 _ H1 g1 s1 (.bl _))
  | bl b=>exact fin (.bl b) (Vx K b k) (q1 _ H1 g1 s1 (.bl _))
  | int b=>exact fin (.int b) (Ra K b k) (q1 _ H1 g1 s1 (.bl _))
  | str b=>exact fin (.str b) (Q9 K b k) (q1 _ H1 g1 s1 (.bl _))
  | ty n=>exact q1.elim
  | ref n=>exact q1.elim
  | ob _ _ _ _ _=>exact q1.elim
  | @dk a o kvs ks l e k1 r=>exact⟨_,_,_,_,rfl,.inr (.inr (.inr ⟨rfl,_,rfl,.inl ⟨_,.inr ⟨_,e⟩⟩⟩)),(show _=ap (k.is (.dv ks l)) by rw[(qa K).2.2 k];cases k <;> rfl),q1 _ H1 g1 s1 (.bl _)⟩
  | @dt a o kvs ks l e k1 r=>exact⟨_,_,_,_,rfl,.inr (.inr (.inr ⟨rfl,_,rfl,.inr ⟨_,.inr ⟨_,e⟩⟩⟩)),(show _=ap (k.is (.dv ks l)) by rw[(qa K).2.2 k];cases k <;> rfl),q1 _ H1 g1 s1 (.bl _)⟩
  | @cl p vs l e r=>exact⟨_,_,_,_,rfl,.inr (.inr (.inl ⟨rfl,_,_,rfl,e.sq⟩)),(show _=ap (k.is (.cl l)) by rw[(qa K).2.1 k];cases k <;> rfl),q1 _ H1 g1 s1 (.bl _)⟩
  | @tup p vs l e r=>exact⟨_,_,_,_,rfl,.inr (.inl ⟨rfl,_,_,rfl,dz.of e⟩),Q8 K _ k,q1 _ H1 g1 s1 (.bl _)⟩) q⟩⟩
def Qb(l:O PV):PV->W (O PV)
 | .int k=>.ff (-(2 ^ 63)<=k/\k < 2 ^ 63/\l.length*k.toNat<=sizeLine) (.ret (Al k.toNat l).flatten)
 | _=>.fail
def YS(ha:LF X K fs a wl)(hb:EF X K fs b wb):LF X K fs (.BinOp a .Mult b pos) (.bind wl λl=>.bind wb λy=>Qb l y):=⟨PE.imp (Ir U5 ha.p hb.p) λσ H Q ⟨sr,q⟩=>⟨sr,wl.mono (λl q1 a vs H1 g1 s1 n e v=>⟨s1,wb.mono (λy q2 u2 H2 g2 s2 v2=>by
 cases v2 with
 | int k=>
  have no:=sr.noOwn n;have e2:=(g2.qZ e no);have r2:=g2.Ls s1 v;refine⟨a,k,vs,rfl,rfl,e2,q2.1.1,q2.1.2.1,by rw[r2.length];exact q2.1.2.2,λp hp=>?_⟩;have sm:=jM hp (.lst (Al k.toNat vs).flatten);have gg:=g1.trans g2;exact q2.2 p _ _ (gg.trans (cJ.same sm)) (s2.same sm) (gg.there p hp) aO (aG.tk sm.dN (r2.rep k.toNat))
 | _=>exact q2.elim) q1⟩) q⟩⟩
def part:PV->W (Option Int)
 | .int i=>.ret (ap i)
 | _=>.fail
def F8:OF X K fs bn (.ret bn):=⟨PO.imp Qo λσ H Q ⟨sr,q⟩=>q H .refl sr⟩
def F7(h:EF X K fs e w):OF X K fs (ap e) (.bind w part):=⟨PO.imp (Qn h.p) λσ H Q ⟨sr,q⟩=>⟨sr,w.mono (λx q1 u1 H1 g1 s1 v1=>by
 cases v1 with
 | int i=>exact⟨_,rfl,q1 H1 g1 s1⟩
 | _=>exact q1.elim) q⟩⟩
def o6(h:Lo X K fs e wl):∀σ H Q,fE K fs (.bind wl λl=>.ret (.bl (if neg then !l.isEmpty else l.isEmpty))) σ H Q->SE (λx y H Q=>∃p q xs,x=.ref p/\y=.ref q/\cT K H p xs/\cT K H q []/\Q (.bl (if neg then !xs.isEmpty else xs.isEmpty)) H) (fQL K fs wl) (fL K fs (.ret [])) σ H Q:=λσ H Q ⟨sr,q⟩=>
 ⟨sr,wl.mono (λl q1 u1 H1 g1 s1 _ v1=>⟨s1,λa2 vs2 H2 g2 s2 n2 e2 r2=>by
  cases r2;obtain⟨a,vs,rfl,h1,r1⟩:=v1 H2 g2 s2;refine⟨a,a2,vs,rfl,rfl,h1,cT.of e2,?_⟩;rw[Oc r1];exact q1 _ H2 (g1.trans g2) s2 (.bl _)⟩) q⟩
def S5:LF X K fs (.List [] pos) (.ret []):=S7 (n:=0) ai
theorem aey(hK:X.K=K)(hu:X.A.units+200 < pc)(h:Lo X K fs e wl)(hk:nn .Eq (.List [] p2)=false:=by rfl):EF X K fs (.Compare e [.Eq] [.List [] p2] pos) (.bind wl λl=>.ret (.bl l.isEmpty)):=⟨PE.imp (vE (F4 K hK ∅) h.p S5.p hk) (o6 (neg:=false) h)⟩
theorem XI(hK:X.K=K)(hu:X.A.units+200 < pc)(h:Lo X K fs e wl)(hk:nn .NotEq (.List [] p2)=false:=by rfl):TF X K fs (.Compare e [.NotEq] [.List [] p2] pos) (.bind wl λl=>.ret (!l.isEmpty)):=⟨PT.imp (vt (F3 K hK ∅) h.p S5.p hk) λσ H Q q=>o6 (neg:=true) h σ H _ (Wc (w:=.bind wl λl=>.ret (.bl (!l.isEmpty))) σ H Q q)⟩
def rh:O PV->W (O Int)
 | []=>.ret []
 | .int i::r=>.bind (rh r) λl=>.ret (i::l)
 | _=>.fail
theorem oy:∀{l:O PV}{Q:O Int->Prop},(rh l).run Q->∃ns:O Int,l=ns.map PV.int/\Q ns
 | [],Q,h=>⟨[],rfl,h⟩
 | .int b::r,Q,h=>by
  obtain⟨bs,e,q⟩:=oy (l:=r) h;exact⟨b::bs,by rw[e];rfl,q⟩
 | .aN::r,Q,h=>h.elim
 | .bl _::r,Q,h=>h.elim
 | .str _::r,Q,h=>h.elim
 | .tup _::r,Q,h=>h.elim
 | .ref _::r,Q,h=>h.elim
 | .ty _::r,Q,h=>h.elim
 | .cl _::r,Q,h=>h.elim
@[simp] theorem oz:∀bs:O Int,rh (bs.map PV.int)=.ret bs
 | []=>rfl
 | b::bs=>by
  show am (rh (bs.map PV.int)) _=_;rw[oz bs];rfl
end
end
end FL
variable{k2:Nat}
namespace FL
section
variable[dJ]
variable{K:Ab}
abbrev b2(m:M2)(wa wb:W PV):W PV:=.bind wa λx=>.bind wb λy=>of2 m x y
abbrev t2(m:M2)(wa wb:W PV):W Bool:=.bind wa λx=>.bind wb λy=>.bind (of2 m x y) Xp
abbrev c1(m:uZ)(w:W PV):W PV:=.bind w λx=>qC m [x]
abbrev bu(wl:W (O PV))(wb:W PV):W PV:=.bind wl λl=>.bind wb λy=>Tg l y
abbrev xT(a b:W Bool):W Bool:=.bind a λk=>if k=true then b else .ret false
abbrev LU(a b:W Bool):W Bool:=.bind a λk=>if k=true then .ret true else b
abbrev iz(a:W Bool):W Bool:=.bind a λk=>.ret (!k)
abbrev dh{α:Type}(t:W Bool)(a b:W α):W α:=.bind t λk=>if k=true then a else b
section
variable{a c:im}{rest:O sn}{S T T2:Type}{hd:S->bc}{s0:S}{w:W PV}{wt:PV->W T2}{cU:S->T2->bc}{k:S->W T}{out:T->End}{x:Bool}
def SF.G9{f:PV->S->W S}(hp:xL (f8 X.prog X.w) X.A X.env X.xe)(hc:X.calm=true)(hi:qi X K fs tg iter wl)(hl:gb fs (hd s0))(hg:PG X tg (dD i))(hb:∀s p,SF X K false ((hd s).set i (ap (.val p))) body (f p s) λs'=>.nc (hd s'))(hr:∀s,SF X K x (hd s) rest (k s) out)(hs:u9 X iter:=by intro _;rfl) :
  SF X K x fs (.For tg iter body [] pos::rest) (.bind wl λl=>.bind (di l s0 f) k) out:=SF.for (wt:=.ret) (wb:=λp s=>f p s) hp hc hi hl (λs=>V2 hg) (λ_ _=>rfl) hb hr hs
def SF.RG{wb:T2->S->W S}(hp:xL (f8 X.prog X.w) X.A X.env X.xe)(hc:X.calm=true)(hi:qi X K fs tg iter wl)(hl:gb fs (hd s0))(hg:∀s,GF X K (hd s) tg is wt (cU s))(hb:∀s t,SF X K false (cU s t) body (wb t s) λs'=>.nc (hd s'))(hr:∀s,SF X K x (hd s) rest (k s) out)(hs:u9 X iter:=by intro _;rfl) :
  SF X K x fs (.For tg iter body [] pos::rest) (.bind wl λl=>.bind (di l s0 λp s=>.bind (wt p) λt=>wb t s) k) out:=SF.for hp hc hi hl hg (λ_ _=>rfl) hb hr hs
def SF.uF{inj:R->T}{f:PV->S->W (Lp S R)}(hp:xL (f8 X.prog X.w) X.A X.env X.xe)(hc:X.calm=true)(hi:qi X K fs tg iter wl)(hl:gb fs (hd s0))(hg:PG X tg (dD i))(ho:∀t,(out (inj t)).IT)(hb:∀s p,SF X K false ((hd s).set i (ap (.val p))) body (f p s) (YO hd λr=>out (inj r)))(hr:∀s,SF X K x (hd s) rest (k s) out)(hs:u9 X iter:=by intro _;rfl) :
  SF X K x fs (.For tg iter body [] pos::rest) (.bind wl λl=>.bind (FL.d6 l s0 f) (wL k inj)) out:=SF.d6 (wt:=.ret) (wb:=λp s=>f p s) hp hc hi hl (λs=>V2 hg) (λ_ _=>rfl) ho hb hr hs
def SF.abU{fs3:T2->bc}{k:T2->W T}(he:EF X K fs e we)(hg:GF X K fs tg is wt fs3)(hr:∀t,SF X K x (fs3 t) rest (k t) out)(hs:zn [tg] e pos.line X.env=pure false:=by rfl)(hw:BT [tg] e X.env=pure bn:=by rfl)
  (h1:(wn [tg] X.env).map (·.2)=[xz tg X.env]:=by rfl):SF X K x fs (.Assign [tg] e pos::rest) (.bind we λv=>.bind (wt v) k) out:=SF.step (FZ he.p hg.p hs hw h1) λD σ H ⟨sr,q⟩=>
 ⟨sr,we.mono (λv q1 u H1 g1 s1 v1=>⟨v,s1,v1,(wt v).mono (λt q2 us g2 s2=>⟨_,k t,hr t,s2,(k t).mono (λt' q3=>q3.go (g1.f.trans g2) sr s2) q2⟩) q1⟩) q⟩
def SF.par{UO:Pos}{kt:Nat}{k:PV->PV->W T}(hc:X.calm=true)(hN:X.N.Nodup)(hi:X.N[i]?=ap y)(hj:X.N[j]?=ap z)(ó:i≠j)(hx:X.env.scope.names.lookup y=ap .local)(hy:X.env.scope.names.lookup z=ap .local)
  (ha:EF X K fs a wa) (hb:EF X K fs b wb) (hr:∀u v,SF X K x ((fs.set i (ap (.val u))).set j (ap (.val v))) rest (k u v) out)
  (hw:BT [.Tuple [.Name y px,.Name z py] kt pt] (.Tuple [a,b] k2 UO) X.env=pure (ap [y,z]):=by rfl) (hs:zn [.Tuple [.Name y px,.Name z py] kt pt] (.Tuple [a,b] k2 UO) pos.line X.env=pure false:=by rfl)
  (he:gl [a,b] X.env=(false,lc a X.env)::gl [b] X.env:=by rfl) (VX:gV X b []:=by rfl) :
  SF X K x fs (.Assign [.Tuple [.Name y px,.Name z py] kt pt] (.Tuple [a,b] k2 UO) pos::rest) (.bind wa λu=>.bind wb λv=>k u v) out:=
 SF.step (UP hc hN hi hj ó hx hy (a9 ha.p (a9 hb.p cW VX) he) hw hs) λD σ H ⟨sr,q⟩=>⟨sr,wa.mono (λu q1 u1 H1 g1 s1 v1=>⟨s1,wb.mono (λv q2 u2 H2 g2 s2 v2=>by
  have s3:=s2.eU (g2.vr s1 v1) i;have s4:=s3.eU v2 j;exact⟨_,_,rfl,_,k u v,hr u v,s4,(k u v).mono (λt q3=>q3.go (((g1.trans g2).f.trans (cg.eU s2 _ _ i)).trans (cg.eU s3 _ _ j)) sr s4) q2⟩) q1⟩) q⟩
def LV(l:O PV):W (O PV):=.ff (tS l=true) (.ret l)
mutual
theorem VR.ny{ι:O cr}{H H':Hp}(t:∀p vs,H p=ap (.tup vs)->H' p=ap (.tup vs)):∀{v:V}{q:PV},VR K ι H v q->q.dat=true->VR K [] H' v q
 | _,_,.aN,_=>.aN
 | _,_,.bl b,_=>.bl b
 | _,_,.int i,_=>.int i
 | _,_,.str x,_=>.str x
 | _,_,.ty n,h=>by rw[PV.dat]at h;cases h
 | _,_,.tup e r,h=>.tup (t _ _ e) (aG.ny t r (by rw[PV.dat]at h;exact h))
 | _,_,.cl e r,h=>by rw[PV.dat]at h;cases h
 | _,_,.dk _ _ _,h=>by rw[PV.dat]at h;cases h
 | _,_,.dt _ _ _,h=>by rw[PV.dat]at h;cases h
 | _,_,.ob _ _ _ _ _,h=>by rw[PV.dat]at h;cases h
 | _,_,.ref e,h=>by rw[PV.dat]at h;cases h
theorem aG.ny{ι:O cr}{H H':Hp}(t:∀p vs,H p=ap (.tup vs)->H' p=ap (.tup vs)):∀{v:O V}{q:O PV},aG K ι H v q->tS q=true->aG K [] H' v q
 | _,_,.nil,_=>.nil
 | _,_,.cons r s,h=>by
  rw[tS,Aw]at h;exact .cons (VR.ny t r h.1) (aG.ny t s h.2)
end
def bor(I:Inv X Z σ H s)(sr:aR K H σ fs)(hs:fs[i]?=ap (ap t))(hb:t.bw=true):∃a o ob,Inv X Z σ (upd H a (.cz ob o)) s/\aR K (upd H a (.cz ob o)) σ (fs.set i (ap (.val t.bv)))/\
  ∀σ' s' H1,Inv X Z σ' H1 s'->cJ σ (fs.set i (ap (.val t.bv))) (upd H a (.cz ob o)) H1->aR K H1 σ (fs.set i (ap (.val t.bv)))->Inv X Z σ' (upd H1 a o) s'/\cJ σ fs H (upd H1 a o)/\aR K (upd H1 a o) σ fs/\(∀p vs,H1 p=ap (.tup vs)->upd H1 a o p=ap (.tup vs))/\∀p vs,p≠a->H1 p=ap (.lst vs)->upd H1 a o p=ap (.lst vs):=by
 have ho:=SL.OG hb;obtain⟨u,e1,⟨v,e,_⟩ | ⟨a,e,oa⟩⟩:=sr.at' i _ hs
 ·subst e;cases hb
 subst e;obtain⟨ob,o,h1,n1,n2,I2,vr⟩:=ZA I oa hb;have h0:∀o u,X.H₀ a≠ap (.cz o u):=λo u z=>by
  have:=I.base.rJ a o u z;rw[h1]at this;exact n2 _ _ (Option.some.inj this)
 refine⟨a,o,ob,I2,sr.Zz hs ho e1 h1 n1 n2 vr,λσ' s' H1 J g s1=>?_⟩;have pf:∀φ b,gG σ (fs.set i (ap (.val t.bv))) φ b->gG σ fs φ b:=λφ b ⟨j,z1,z3⟩=>by
  rcases cC z1 with⟨_,z⟩ | ⟨n,z1⟩
  ·cases z
  ·exact⟨j,z1,z3⟩
 have npa:∀φ,¬gG σ fs φ a:=λφ ⟨j,z1,z3⟩=>by
  have:=sr.nd j i _ _ a a a z1 hs rfl ho z3 e1 (.inl rfl) (.inl rfl);subst this;rw[hs]at z1;cases z1;cases hb
 have e2:=g.keep a _ aO λφ p=>npa φ (pf φ a p);have hk:=NA J.bj e2;have ow:o.ow=true:=by
  obtain⟨o',z1,_,_,z2⟩:=oa.ex ho (.inl rfl);rw[h1]at z1;cases z1;exact z2
 have ge:cJ σ fs H (upd H1 a o):=by
  refine⟨λb o z n nt=>?_,λb z=>?_⟩
  ·by_cases c:b=a
   ·subst c;rw[h1]at z;cases z;exact aO
   ·rw[au c];exact g.keep b o (by rw[au c];exact z) (λφ p=>n φ (pf φ b p)) nt
  ·by_cases c:b=a
   ·subst c;rw[aO]at z;cases z
   ·rw[au c]at z;have:=g.there b z;rw[au c]at this;exact this
 refine⟨J.Ud e2 h0 (hk a _ aO) hk,ge,⟨sr.len,λj t z=>?_,sr.nd,s1.tb.Ud J.bj e2 ow⟩,λp vs z=>?_,λp vs n z=>by rw[au n];exact z⟩
 ·obtain⟨u,k1,k2⟩:=sr.at' j t z;refine⟨u,k1,?_⟩;by_cases c:∃φ,t=.kq φ
  ·obtain⟨φ,rfl⟩:=c;have ji:j≠i:=λy=>by subst y;rw[hs]at z;cases z;cases hb
   rcases k2 with⟨v,y,_⟩ | ⟨b,rfl,_⟩
   ·cases y
   ·obtain⟨vs,y1,y2⟩:=s1.ownAt (t:=.kq φ) (i:=j) (by rw[aM ji];exact z) rfl k1;refine .inr ⟨b,rfl,vs,?_,y2⟩;rw[au (λy=>by subst y;exact npa φ ⟨j,z,k1⟩)];exact y1
  ·refine k2.mono (ge.dc sr) (λx b o eb ow hb zz nt=>ge.keep b o zz (λφ ⟨j',p1,p3⟩=>?_) nt);subst eb;have:=sr.nd j j' t _ x b b z p1 ow rfl k1 p3 hb (.inl rfl);subst this;rw[z]at p1;cases p1;exact c ⟨φ,rfl⟩
 ·rw[au (λy=>by subst y;rw[e2]at z;cases z)];exact z
end
end
end FL
variable{G:O Int->Prop}
namespace FL
section
variable[dJ]
variable{K:Ab}
def X7(K:Ab)(m:O PV->O PV->W (PV×O PV)):Sp:=λvs H Q _=>TB H/\∃a O7 ws lo l,vs=.ref a::O7/\H a=ap (.lst ws)/\aG K [] H ws lo/\aG K [] H O7 l/\(m lo l).run λt=>∀u uc H',(∀c o,c≠a->H c=ap o->o.nt=true->H' c=ap o)->TB H'->(∀b,H' b=bn->H b=bn)->H' a=ap (.lst uc)->aG K [] H' uc t.2->VR K [] H' u t.1->Q u H'
section
variable{st:sn}{f:cr}{N:O Str}
def OI(a:cr)(lo l:O PV)(n:Nat):bc:=ap (.ol (ap a) lo)::(l.map λv=>ap (SL.val v))++Al (n-1-l.length) bn
def aG.slot(r:aG K [] H vs l){s:SL}(h:(l.map λv=>ap (SL.val v))[i]?=ap (ap s)):∃u v,vs[i]?=ap u/\s=.val v/\VR K [] H u v:=by
 rw[Ak]at h;cases e:l[i]? with
 | none=>rw[e]at h;cases h
 | some v=>
  rw[e]at h;obtain⟨u,h1,h2⟩:=r.get e;cases h;exact⟨u,v,h1,rfl,h2⟩
theorem fnO{m:O PV->zY (PV×O PV) n}(Fn:Pf K x qual st f fd)(S:da N ps (aH st))(hn:n+1=ps.length)
  (Ì:∀(a:cr) (lo l:O PV),l.length=n->∀(eE:ce) (A:wS) (outer:O Env) (s:db) (H:Hp) (E:XK),d7 k (A.deeper (Db qual (aH st) s.heap.objs.size f eE))->SF (tT sS P w K mg base N qual (aH st) f eE A outer s H E).SY K false (OI a lo l N.length) (cE st) (oU n (m lo) l) λt=>.ro t.1 a t.2) :
  gc P w K mg base sS (k+1) f fd ps (X7 K λlo l=>oU n (m lo) l):=by
 refine Fn.ok S (λvs H Q E h=>?_) (λeE A outer s H vs Q E hr h=>?_)
 ·obtain⟨_,a,O7,ws,lo,l,rfl,_,_,r,q⟩:=h;rw[An,r.length,iw q];exact hn
 obtain⟨tb,a,O7,ws,lo,l,rfl,ha,yb,r,q⟩:=h;have hl:=iw q;have hr2:=r.length;have RC:∀{i:Nat}{s:SL},(OI a lo l N.length)[i]?=ap (ap s)->(i=0/\s=.ol (ap a) lo)\/∃j u v,i=j+1/\O7[j]?=ap u/\s=.val v/\VR K [] H u v:=λ{i s} e=>by
  unfold OI at e;cases i with
  | zero=>simp at e;exact .inl ⟨rfl,e.symm⟩
  | succ j=>
   rw[List.cons_append,List.getElem?_cons_succ]at e;by_cases c:j < l.length
   ·rw[AV (by simpa using c)]at e;obtain⟨u,v,h1,h2,h3⟩:=aG.slot r e;exact .inr ⟨j,u,v,rfl,h1,h2,h3⟩
   ·rw[AA (by simpa using c),BE]at e
    split at e <;> cases e
 have sr:aR K H (L2.start N (.ref a::O7)) (OI a lo l N.length):=by
  refine⟨?_,λi s e=>?_,λi j s t x y b e1 e2 o1 o2 q1 q2 _ _=>?_,tb⟩
  ·unfold L2.start OI;rw[Ad,Aj,Bi,Ad,An,An,Aj,Bi];omega
  ·rcases RC e with⟨rfl,rfl⟩ | ⟨j,u,v,rfl,h1,rfl,h3⟩
   ·exact⟨.ref a,km rfl,.inr ⟨a,rfl,λb z=>Option.some.inj z,ws,ha,yb⟩⟩
   ·exact⟨u,km (by simpa using h1),.inl ⟨v,rfl,h3⟩⟩
  ·rcases RC e1 with⟨rfl,rfl⟩ | ⟨j1,u,v,rfl,h1,rfl,h3⟩
   ·rcases RC e2 with⟨rfl,rfl⟩ | ⟨j1,u,v,rfl,h1,rfl,h3⟩
    ·rfl
    ·cases o2
   ·cases o1
 refine⟨_,(Ì a lo l hl eE A outer s H E hr).p,sr,(oU n (m lo) l).mono (λt q1 u σ' bx H' g s' ho rv=>?_) q⟩;obtain⟨i,e⟩:=ho;obtain⟨u',e',r'⟩:=s'.at' i _ e;rcases r' with⟨v,z,_⟩ | ⟨b,rfl,hb,uc,h1,h2⟩
 ·cases z
 have hba:=hb a rfl;subst hba;refine q1 u uc H' (λc o nc e=>(g.keep c o e λz=>?_).1) s'.tb g.there h1 h2 rv;obtain⟨j,t',x,z1,z2,z3,z4⟩:=z;rcases RC z1 with⟨rfl,rfl⟩ | ⟨j1,u,v,rfl,_,rfl,_⟩
 ·have:=ui z3;simp at this;rcases z4 with rfl | z4
  ·exact nc this.symm
  ·cases z4
 ·cases z2
def ki(G:O Int->Prop):O V->Prop:=λws=>∃ns:O Int,ws=ns.map V.int/\G ns
def UR{m:O PV->O PV->W (PV×O PV)}{mp:O PV->W PV}(F:gc P w K mg base sS k f fd ps (X7 K m))(hm:∀ns l Q,G ns->(mp l).run Q->(m (ns.map PV.int) l).run λt=>Q t.1/\∃IC:O Int,t.2=IC.map PV.int/\G IC) :
  gc P w K mg base sS k f fd ps (Ih K (.p (ki G)::Al n .v) mp):=F.imp λvs H Q E h=>by
 obtain⟨tb,l,ha,q⟩:=h;cases ha with
 | @p a φ ws vs ks l e r t=>
  obtain⟨ns,rfl,hG⟩:=r;have tv:∀{n:Nat}{vs:O V}{l:O PV},gU K H vs (Al n .v) l->aG K [] H vs l:=by
   intro n
   induction n with
   | zero=>intro vs l h;cases h;exact .nil
   | succ n ih=>intro vs l h;cases h with | v r t=>exact .cons r (ih t)
  refine⟨tb,a,vs,ns.map V.int,ns.map PV.int,l,rfl,e,m5 _ _ ns,tv t,(m _ _).mono (λt q1 u uc H' sx tb' hth e' r' rv=>?_) (hm ns l _ hG q)⟩;obtain⟨q1,IC,et,hG'⟩:=q1;rw[et]at r';have:=m4 r';subst this;refine q1 u H' ⟨λb o eb nb nt=>sx b o (λz=>?_) eb nt,tb',hth,λb φ p=>?_⟩ rv
  ·subst z;exact nb _ ⟨0,rfl,rfl⟩
  ·obtain⟨i,e1,e2⟩:=p;cases i with
   | zero=>simp at e1 e2;subst e1;subst e2;exact⟨_,e',IC,rfl,hG'⟩
   | succ i=>
    simp at e1;rw[BE]at e1
    split at e1 <;> simp at e1
end
section
variable{Uk:O sn}{T:Type}{w:W T}{out:T->End}{x:Bool}
def Ys(G:O Int->Prop)(l:O PV)(w:W T):W T:=.ff (∃ns:O Int,l=ns.map PV.int/\G ns) w
def SF.kq(i:Nat)(hs:fs[i]?=ap (ap (.ol bn l)))(hr:SF X K x (fs.set i (ap (.kq (ki G)))) Uk w out):SF X K x fs Uk (Ys G l w) out:=⟨λZ s σ H D I ⟨sr,q⟩=>by
 obtain⟨⟨ns,el,hG⟩,q⟩:=q;obtain⟨a,ws,e1,h1,r1⟩:=cG sr hs;subst el;have:=m4 r1;subst this;obtain⟨s2,g2⟩:=lK (t':=.kq (ki G)) sr hs rfl (by simp) e1 (λ_ _ _ z=>z:nP a H H) λtk=>⟨_,h1,ns,rfl,hG⟩;exact hr.p Z s σ H D I ⟨s2,w.mono (λt q2=>q2.go g2 sr s2) q⟩⟩
end
end
end FL
variable{W':FL.W PL.PV}
namespace FL
section
variable[dJ]
variable{K:Ab}
abbrev chB(m m':M2)(wa wb wc:W PV):W PV:=.bind wa λx=>.bind wb λy=>.bind (of2 m x y) λz=>kg z (.bind wc λw=>of2 m' y w)
abbrev chT(m m':M2)(wa wb wc:W PV):W Bool:=.bind wa λx=>.bind wb λy=>.bind (of2 m x y) λz=>.bind (kg z (.bind wc λw=>of2 m' y w)) Xp
abbrev pO(wa wb:W PV):W PV:=.bind wa λx=>Lf x wb
abbrev ZC(wl:W (O PV)):W PV:=.bind wl λl=>.ret (.cl l)
abbrev Pb(t:W Bool)(w:W PV):W (Option PV):=.bind t λk=>if k=true then .bind w λv=>.ret (ap v) else .ret bn
section
variable{c:im}{WL:W (O PV)}
def RZ{m:O PV->W PV}(G:Sv X.prog X.w X.K X.mg X.base x k ps (Ih K ks m))(hr:d7 k' X.A)(hk:k<=k')(hg:Gl X x)(ha:AF X K fs (e::es) ks B)(hW:W'=B m)(m6:ir x:=by decide)
  (he:gV X e es:=by rfl) (dr:mr X pos es:=by rfl):EF X K fs (.Call (.Name x p) (e::es) [] pos) W':=hW▸Wo G hr hk hg ha m6 he dr
def Q6{m:O PV->W (O PV)}{B:(O PV->W (O PV))->W (O PV)}(G:Sv X.prog X.w X.K X.mg X.base x k ps (xZ K ks m))(hr:d7 k' X.A)(hk:k<=k')(hg:Gl X x)(ha:AF X K fs (e::es) ks B)(hW:WL=B m)(m6:ir x:=by decide)
  (he:gV X e es:=by rfl) (dr:mr X pos es:=by rfl):LF X K fs (.Call (.Name x p) (e::es) [] pos) WL:=hW▸Vt G hr hk hg ha m6 he dr
def aK{x1}(h:AF X K fs es (Al n .v) B)(hW:W'=B λl=>.ret (.tup l))(hn:n<=1000:=by decide):EF X K fs (.Tuple es x1 pos) W':=hW▸ZO h hn
def a8{B:(O PV->W (O PV))->W (O PV)}(h:AF X K fs es (Al n .v) B)(hW:WL=B λl=>.ret l)(hn:n<=1000:=by decide):LF X K fs (.List es pos) WL:=hW▸S7 h hn
variable{T2:Type}{wt:PV->W T2}{cU:T2->bc}{tf:T2->W Bool}{te:T2->W PV}
def fJ{f:PV->W PV}(hc:X.calm=true)(S:br X.env.scope X.N sc N' ix)(hi:qi X K fs tg iter wl)(hg:∀cl C s2 H2 fp,PG (eT X sc N' cl C s2 H2 fp) tg (dD i))(he:∀cl C s2 H2 fp t,EF (eT X sc N' cl C s2 H2 fp) K ((bE ix fs).set i (ap (.val t))) Ã (f t))(h0:ix[i]?=ap bn)(hs:u9 X iter:=by intro _;rfl) :
  LF X K fs (.ListComp Ã [⟨tg,iter,[],0⟩] sc pos) (.bind wl λl=>bN l f):=
 have h1:(bE ix fs)[i]?=ap bn:=by unfold bE;rw[Ak,h0];rfl
 S6 hc S hi (λcl C s2 H2 fp=>V2 (hg cl C s2 H2 fp)) he (λ_=>rfl) (Nd h1) (λj hj=>by rw[AX]at hj;subst hj;exact h0) hs
def S9{tf:PV->W Bool}{te:PV->W PV}(hc:X.calm=true)(S:br X.env.scope X.N sc N' ix)(hi:qi X K fs tg iter wl)(hg:∀cl C s2 H2 fp,PG (eT X sc N' cl C s2 H2 fp) tg (dD i))(hf:∀cl C s2 H2 fp t,TF (eT X sc N' cl C s2 H2 fp) K ((bE ix fs).set i (ap (.val t))) c (tf t))(he:∀cl C s2 H2 fp t,EF (eT X sc N' cl C s2 H2 fp) K ((bE ix fs).set i (ap (.val t))) Ã (te t))(h0:ix[i]?=ap bn)(hs:u9 X iter:=by intro _;rfl) :
  LF X K fs (.ListComp Ã [⟨tg,iter,[c],0⟩] sc pos) (.bind wl λl=>lR l λp=>Pb (tf p) (te p)):=
 have h1:(bE ix fs)[i]?=ap bn:=by unfold bE;rw[Ak,h0];rfl
 Vs (wt:=.ret) (tf:=tf) (te:=te) hc S hi (λcl C s2 H2 fp=>V2 (hg cl C s2 H2 fp)) (λcl C s2 H2 fp t=>wX (hf cl C s2 H2 fp t)) he (λ_=>rfl) (Nd h1) (λj hj=>by rw[AX]at hj;subst hj;exact h0) hs
def Gx(hc:X.calm=true)(S:br X.env.scope X.N sc N' ix)(hi:qi X K fs tg iter wl)(hg:∀cl C s2 H2 fp,GF (eT X sc N' cl C s2 H2 fp) K (bE ix fs) tg is wt cU)(he:∀cl C s2 H2 fp t,EF (eT X sc N' cl C s2 H2 fp) K (cU t) Ã (te t))
  (hl:t4 is (bE ix fs) cU/\∀t,gb (cU t) (bE ix fs)) (y6:∀j∈is,ix[j]?=ap bn) (hs:u9 X iter:=by intro _;rfl) :
  LF X K fs (.ListComp Ã [⟨tg,iter,[],0⟩] sc pos) (.bind wl λl=>bN l λp=>.bind (wt p) te):=S6 hc S hi hg he (λ_=>rfl) hl y6 hs
def S8(hc:X.calm=true)(S:br X.env.scope X.N sc N' ix)(hi:qi X K fs tg iter wl)(hg:∀cl C s2 H2 fp,GF (eT X sc N' cl C s2 H2 fp) K (bE ix fs) tg is wt cU)(hf:∀cl C s2 H2 fp t,TF (eT X sc N' cl C s2 H2 fp) K (cU t) c (tf t))(he:∀cl C s2 H2 fp t,EF (eT X sc N' cl C s2 H2 fp) K (cU t) Ã (te t))
  (hl:t4 is (bE ix fs) cU/\∀t,gb (cU t) (bE ix fs)) (y6:∀j∈is,ix[j]?=ap bn) (hs:u9 X iter:=by intro _;rfl) :
  LF X K fs (.ListComp Ã [⟨tg,iter,[c],0⟩] sc pos) (.bind wl λl=>lR l λp=>.bind (wt p) λt=>Pb (tf t) (te t)):=Vs hc S hi hg (λcl C s2 H2 fp t=>wX (hf cl C s2 H2 fp t)) he (λ_=>rfl) hl y6 hs
variable{rest:O sn}{T:Type}{out:T->End}{x0:Bool}{kk:O PV->W T}
def SF.Us{tf:PV->W Bool}{te:PV->W PV}(hc:X.calm=true)(hN:X.N.Nodup)(y7:X.N[i]?=ap y)(hx:X.env.scope.names.lookup y=ap .local)(S:br X.env.scope X.N sc N' ix)(hi:qi X K fs tg iter wl)(hg:∀cl C s2 H2 fp,PG (eT X sc N' cl C s2 H2 fp) tg (dD j))(hf:∀cl C s2 H2 fp t,TF (eT X sc N' cl C s2 H2 fp) K ((bE ix fs).set j (ap (.val t))) c (tf t))(he:∀cl C s2 H2 fp t,EF (eT X sc N' cl C s2 H2 fp) K ((bE ix fs).set j (ap (.val t))) Ã (te t))(h0:ix[j]?=ap bn)(hr:∀l,SF X K x0 (fs.set i (ap (.ol bn l))) rest (kk l) out)
  (rq:lm (.ListComp Ã [⟨tg,iter,[c],0⟩] sc pos) (ap (.Name y px)) mE.line X.env=pure true:=by rfl) (hs:u9 X iter:=by intro _;rfl) :
  SF X K x0 fs (.Assign [.Name y px] (.ListComp Ã [⟨tg,iter,[c],0⟩] sc pos) mE::rest) (.bind (.bind wl λl=>lR l λp=>Pb (tf p) (te p)) kk) out:=
 have h1:(bE ix fs)[j]?=ap bn:=by unfold bE;rw[Ak,h0];rfl
 SF.SJ (wt:=.ret) (tf:=tf) (te:=te) hc hN y7 hx S hi (λcl C s2 H2 fp=>V2 (hg cl C s2 H2 fp)) (λcl C s2 H2 fp t=>wX (hf cl C s2 H2 fp t)) he (λ_=>rfl) (Nd h1) (λm hj=>by rw[AX]at hj;subst hj;exact h0) hr rq hs
def QX{wt:PV->W T2}{te:T2->W PV}:(λl=>bN l λp=>.bind (wt p) te)=λl=>lR l λp=>.bind (wt p) λt=>.bind (.ret true) λk=>if k=true then .bind (te t) λv=>.ret (ap v) else .ret bn:=funext λl=>by
 rw[vP];rfl
def SF.P4(hc:X.calm=true)(hN:X.N.Nodup)(y7:X.N[i]?=ap y)(hx:X.env.scope.names.lookup y=ap .local)(S:br X.env.scope X.N sc N' ix)(hi:qi X K fs tg iter wl)(hg:∀cl C s2 H2 fp,GF (eT X sc N' cl C s2 H2 fp) K (bE ix fs) tg is wt cU)(he:∀cl C s2 H2 fp t,EF (eT X sc N' cl C s2 H2 fp) K (cU t) Ã (te t))
  (hl:t4 is (bE ix fs) cU/\∀t,gb (cU t) (bE ix fs)) (y6:∀j∈is,ix[j]?=ap bn) (hr:∀l,SF X K x0 (fs.set i (ap (.ol bn l))) rest (kk l) out)
  (rq:lm (.ListComp Ã [⟨tg,iter,[],0⟩] sc pos) (ap (.Name y px)) mE.line X.env=pure true:=by rfl) (hs:u9 X iter:=by intro _;rfl) :
  SF X K x0 fs (.Assign [.Name y px] (.ListComp Ã [⟨tg,iter,[],0⟩] sc pos) mE::rest) (.bind (.bind wl λl=>bN l λp=>.bind (wt p) te) kk) out:=by
 rw[QX];exact SF.SJ (tf:=λ_=>.ret true) hc hN y7 hx S hi hg (λ_ _ _ _ _ _=>NV) he (λp=>rfl) hl y6 hr rq hs
def SF.mF{f:PV->W PV}(hc:X.calm=true)(hN:X.N.Nodup)(y7:X.N[i]?=ap y)(hx:X.env.scope.names.lookup y=ap .local)(S:br X.env.scope X.N sc N' ix)(hi:qi X K fs tg iter wl)(hg:∀cl C s2 H2 fp,PG (eT X sc N' cl C s2 H2 fp) tg (dD j))(he:∀cl C s2 H2 fp t,EF (eT X sc N' cl C s2 H2 fp) K ((bE ix fs).set j (ap (.val t))) Ã (f t))(h0:ix[j]?=ap bn)(hr:∀l,SF X K x0 (fs.set i (ap (.ol bn l))) rest (kk l) out)
  (rq:lm (.ListComp Ã [⟨tg,iter,[],0⟩] sc pos) (ap (.Name y px)) mE.line X.env=pure true:=by rfl) (hs:u9 X iter:=by intro _;rfl) :
  SF X K x0 fs (.Assign [.Name y px] (.ListComp Ã [⟨tg,iter,[],0⟩] sc pos) mE::rest) (.bind (.bind wl λl=>bN l f) kk) out:=
 have h1:(bE ix fs)[j]?=ap bn:=by unfold bE;rw[Ak,h0];rfl
 SF.P4 (wt:=.ret) hc hN y7 hx S hi (λcl C s2 H2 fp=>V2 (hg cl C s2 H2 fp)) he (Nd h1) (λm hj=>by rw[AX]at hj;subst hj;exact h0) hr rq hs
end
def Tv{f:cr}(h:∀vs H Q E,¬sp vs H Q E):gc P w K mg base sS k f fd ps sp:=⟨λvs H Q E q=>(h _ _ _ _ q).elim,λA outer s H args us vs Q E _ _ _ _ q=>(h _ _ _ _ q).elim⟩
def Uo{m:zY PV n}(h:∀l Q,l.length=n->¬(oU n m l).run Q):∀vs H Q E,¬Ih K ks (oU n m) vs H Q E:=λvs H Q E ⟨_,l,_,q⟩=>h l _ (iw q) q
def PX{m:zY (O PV) n}(h:∀l Q,l.length=n->¬(oU n m l).run Q):∀vs H Q E,¬xZ K ks (oU n m) vs H Q E:=λvs H Q E ⟨_,l,_,q⟩=>h l _ (iw q) q
theorem aP(hr:d7 k A):A.units+200 < pc:=by have:=hr.un;omega
end
section
variable[dJ]
variable{K:Ab}
mutual
def PV.ic:PV->Bool
 | .tup l=>eK l
 | .cl l=>eK l
 | .ref _=>false
 | .ty _=>false
 | .dv _ _=>false
 | .ob _ _=>false
 | _=>true
def eK:O PV->Bool
 | []=>true
 | x::l=>PV.ic x&&eK l
end
mutual
def PV.f7:PV->Nat
 | .tup l=>du l+1
 | .cl l=>du l+1
 | _=>0
def du:O PV->Nat
 | []=>0
 | x::l=>max (PV.f7 x) (du l)
end
mutual
def jz:PV->PV->Bool
 | .aN,.aN=>true
 | .bl a,.bl b=>a==b
 | .bl a,.int b=>(if a then 1 else 0)==b
 | .int a,.bl b=>a==(if b then 1 else 0)
 | .int a,.int b=>a==b
 | .str a,.str b=>a==b
 | .tup l,.tup m=>eZ l m
 | .cl l,.cl m=>eZ l m
 | _,_=>false
def eZ:O PV->O PV->Bool
 | [],[]=>true
 | x::l,y::m=>jz x y&&eZ l m
 | _,_=>false
end
theorem rL:∀{l:O PV}{j:Nat}{x:PV},eK l=true->l[j]?=ap x->PV.ic x=true
 | [],_,_,_,e=>by simp at e
 | y::l,0,x,h,e=>by
  simp at e;subst e;rw[eK,Aw]at h;exact h.1
 | y::l,j+1,x,h,e=>by
  rw[eK,Aw]at h;exact rL h.2 (by simpa using e)
theorem uG:∀{l:O PV}{j:Nat}{x:PV},l[j]?=ap x->PV.f7 x<=du l
 | [],_,_,e=>by simp at e
 | y::l,0,x,e=>by
  simp at e;subst e;rw[du];omega
 | y::l,j+1,x,e=>by
  have:=uG (l:=l) (j:=j) (x:=x) (by simpa using e);rw[du];omega
mutual
theorem zk:∀(x:PV),PV.ic x=true->jz x x=true
 | .aN,_=>by rw[jz]
 | .bl b,_=>by rw[jz];simp
 | .int i,_=>by rw[jz];simp
 | .str i,_=>by rw[jz];simp
 | .tup l,h=>by rw[jz];exact kM l (by rw[PV.ic]at h;exact h)
 | .cl l,h=>by rw[jz];exact kM l (by rw[PV.ic]at h;exact h)
 | .ref _,h=>by rw[PV.ic]at h;cases h
 | .ty _,h=>by rw[PV.ic]at h;cases h
 | .dv _ _,h=>by rw[PV.ic]at h;cases h
 | .ob _ _,h=>by rw[PV.ic]at h;cases h
theorem kM:∀(l:O PV),eK l=true->eZ l l=true
 | [],_=>by rw[eZ]
 | x::l,h=>by
  rw[eK,Aw]at h;rw[eZ,zk x h.1,kM l h.2];rfl
end
def N8(l m:O PV)(j:Nat):Bool:=match l[j]?,m[j]? with | some x,ap y=>jz x y | _,_=>true
theorem nk:∀(l m:O PV),((AE (min l.length m.length)).all (N8 l m)&&l.length==m.length)=eZ l m
 | [],[]=>by rw[eZ];rfl
 | [],_::_=>by
  rw[eZ]
  ·simp
  ·intros;simp_all
  ·intros;simp_all
 | _::_,[]=>by
  rw[eZ]
  ·simp
  ·intros;simp_all
  ·intros;simp_all
 | x::l,y::m=>by
  rw[eZ,<- nk l m];have e:min (x::l).length (y::m).length=min l.length m.length+1:=by simp only[An];omega
  rw[e,C6,Fb,List.all_map];have e2:((x::l).length==(y::m).length)=(l.length==m.length):=by simp
  rw[e2,Bool.and_assoc];rfl
def NW{m:O PV}(h:l.length≠m.length):eZ l m=false:=by
 rw[<- nk];have:(l.length==m.length)=false:=by simpa using h
 rw[this,CG]
section
mutual
theorem VR.LB(I:Inv X Z σ H s):∀{v:V}{x y:PV},VR X.K [] H v x->VR X.K [] H v y->x=y
 | _,_,_,.aN,h=>by cases h;rfl
 | _,_,_,.bl b,h=>by cases h;rfl
 | _,_,_,.int b,h=>by cases h;rfl
 | _,_,_,.str b,h=>by cases h;rfl
 | _,_,_,.ty b,h=>by cases h;rfl
 | _,_,_,.ref e,h=>by simp at e
 | _,_,_,.tup e r,h=>by
  cases h with
  | tup e' r'=>
   have ee:=I.kl (dz.of e) (dz.of e');subst ee;rw[aG.LB I r r']
  | ref e=>simp at e
  | cl e' r'=>
   obtain⟨ar,_,⟨o,n,h1,h2,_⟩,_⟩:=I.list e'.sq;obtain⟨its',_,⟨o',eP,sQ,_⟩,_⟩:=I.tuple (dz.of e);rw[h1]at eP;cases eP;rw[h2]at sQ;simp at sQ
  | dk e' _ _=>rw[e]at e';cases e'
  | dt e' _ _=>rw[e]at e';cases e'
  | ob e' _ _ _ _=>rw[e]at e';cases e'
 | _,_,_,.ob e c na k r,h=>by
  cases h with
  | ob e' _ _ k' r'=>rw[e]at e';cases e';rw[k,k',aG.LB I r r']
  | dk e' _ _=>rw[e]at e';cases e'
  | dt e' _ _=>rw[e]at e';cases e'
  | ref e=>simp at e
  | tup e' _=>rw[e]at e';cases e'
  | cl e' r'=>
   obtain⟨ar,_,⟨o,n,h1,h2,_⟩,_⟩:=I.list e'.sq;obtain⟨_,_,_,_,eP,_⟩:=I.bj _ _ e;rw[h1]at eP;cases eP;simp at h2
 | _,_,_,.dk e k r,h=>by
  cases h with
  | dk e' k' r'=>rw[e]at e';cases e';rw[k,k',aG.LB I r r']
  | dt e' _ _=>rw[e]at e';cases e'
  | ob e' _ _ _ _=>rw[e]at e';cases e'
  | ref e=>simp at e
  | tup e' _=>rw[e]at e';cases e'
  | cl e' r'=>
   obtain⟨ar,_,⟨o,n,h1,h2,_⟩,_⟩:=I.list e'.sq;obtain⟨_,_,vs,_,o',_,_,eP,sQ,_⟩:=se I.bj (.inr ⟨_,e⟩);rw[h1]at eP;cases eP;have h3:=sQ.1;rw[h2]at h3;simp at h3
 | _,_,_,.dt e k r,h=>by
  cases h with
  | dt e' k' r'=>rw[e]at e';cases e';rw[k,k',aG.LB I r r']
  | ob e' _ _ _ _=>rw[e]at e';cases e'
  | dk e' _ _=>rw[e]at e';cases e'
  | ref e=>simp at e
  | tup e' _=>rw[e]at e';cases e'
  | cl e' r'=>
   obtain⟨ar,_,⟨o,n,h1,h2,_⟩,_⟩:=I.list e'.sq;obtain⟨_,_,vs,_,o',_,_,eP,sQ,_⟩:=sd I.bj (.inr ⟨_,e⟩);rw[h1]at eP;cases eP;have h3:=sQ.1;rw[h2]at h3;simp at h3
 | _,_,_,.cl e r,h=>by
  cases h with
  | ob e' _ _ _ _=>
   obtain⟨ar,_,⟨o,n,h1,h2,_⟩,_⟩:=I.list e.sq;obtain⟨_,_,_,_,eP,_⟩:=I.bj _ _ e';rw[h1]at eP;cases eP;simp at h2
  | dk e' _ _=>
   obtain⟨ar,_,⟨o,n,h1,h2,_⟩,_⟩:=I.list e.sq;obtain⟨_,_,vs,_,o',_,_,eP,sQ,_⟩:=se I.bj (.inr ⟨_,e'⟩);rw[h1]at eP;cases eP;have h3:=sQ.1;rw[h2]at h3;simp at h3
  | dt e' _ _=>
   obtain⟨ar,_,⟨o,n,h1,h2,_⟩,_⟩:=I.list e.sq;obtain⟨_,_,vs,_,o',_,_,eP,sQ,_⟩:=sd I.bj (.inr ⟨_,e'⟩);rw[h1]at eP;cases eP;have h3:=sQ.1;rw[h2]at h3;simp at h3
  | cl e' r'=>
   obtain⟨ar,k,⟨o,n,h1,h2,h3,h4⟩,_⟩:=I.list e.sq;obtain⟨its',k',⟨o',n',eP,sQ,GX,VZ⟩,_⟩:=I.list e'.sq;rw[h1]at eP;cases eP;rw[h4]at VZ;have:ar=its':=by injection VZ with a b;simpa using a
   subst this;have ee:=Vals.inj k k';subst ee;rw[aG.LB I r r']
  | ref e=>simp at e
  | tup e' r'=>
   obtain⟨ar,_,⟨o,n,h1,h2,_⟩,_⟩:=I.list e.sq;obtain⟨its',_,⟨o',eP,sQ,_⟩,_⟩:=I.tuple (dz.of e');rw[h1]at eP;cases eP;rw[h2]at sQ;simp at sQ
theorem aG.LB(I:Inv X Z σ H s):∀{v:O V}{x y:O PV},aG X.K [] H v x->aG X.K [] H v y->x=y
 | _,_,_,.nil,h=>by cases h;rfl
 | _,_,_,.cons r t,h=>by
  cases h with
  | cons r' t'=>rw[VR.LB I r r',aG.LB I t t']
end
structure Cmp(A:wS)(s:db)(w w':ce)(b:Bool):Prop where
 rc:SeqAt.RcAt A s w w' b
 ne:SeqAt.RcNeAt A s w w' (!b)
 eq:De A s w w' b
def ZN(I:Inv X Z σ H s){ws:O V}{m:O PV}(r:Vals vs ar)(r':Vals ws its')(r1:aG X.K [] H vs l)(r2:aG X.K [] H ws m)
  (ih:∀(j:Nat) (x y:PV) (v v':V) (w w':ce),l[j]?=ap x->m[j]?=ap y->VR X.K [] H v x->VR X.K [] H v' y->RelV v w->RelV v' w'->De A s w w' (jz x y)) :
  ∀j (g1:j < ar.toArray.size) (g2:j < its'.toArray.size),De A s ar.toArray[j] its'.toArray[j] (N8 l m j):=λj g1 g2=>by
 have h1:j < ar.length:=by simpa using g1
 have h2:j < its'.length:=by simpa using g2
 have hl:j < l.length:=by rw[<- r1.length,r.length];exact h1
 have hm:j < m.length:=by rw[<- r2.length,r'.length];exact h2
 obtain⟨v,v1,v2⟩:=r1.get (Ae hl);obtain⟨v',XF,þ⟩:=r2.get (Ae hm);obtain⟨u,u1,u2⟩:=r.get v1;obtain⟨u',u1',u2'⟩:=r'.get XF;rw[Ae h1]at u1;rw[Ae h2]at u1';cases u1;cases u1';unfold N8;rw[Ae hl,Ae hm];have:=ih j _ _ v v' _ _ (Ae hl) (Ae hm) v2 þ u2 u2';simpa using this
inductive Sh(X:Cx)(H:Hp)(s:db):PV->ce->Prop
 | aN:Sh X H s .aN .none
 | bl (b:Bool):Sh X H s (.bl b) (.bool b)
 | int (i:Int) (t:Tok):Sh X H s (.int i) (.int i t)
 | str (x:Str) (t:Tok):Sh X H s (.str x) (.str x t)
 | tup {p:cr}{vs:List V}{ar:List ce}{l:List PV} (e:VR X.K [] H (.ref p) (.tup l)) (k:Vals vs ar) (r:aG X.K [] H vs l) (h:s.heap.IsTuple p ar.toArray):Sh X H s (.tup l) (.ref p)
 | cl {p:cr}{vs:List V}{ar:List ce}{l:List PV} (e:VR X.K [] H (.ref p) (.cl l)) (k:Vals vs ar) (r:aG X.K [] H vs l) (h:s.heap.IsList p ar.toArray):Sh X H s (.cl l) (.ref p)
def Sh.of(I:Inv X Z σ H s){v:V}{x:PV}{w:ce}(h:VR X.K [] H v x)(r:RelV v w)(d:PV.ic x=true):Sh X H s x w:=by
 cases h with
 | ref e=>simp at e
 | aN=>cases r;exact .aN
 | bl a=>cases r;exact .bl a
 | int a=>obtain⟨t,rfl⟩:=r;exact .int a t
 | str a=>obtain⟨t,rfl⟩:=r;exact .str a t
 | tup e q=>
  cases r;obtain⟨ar,k,ht,_⟩:=I.tuple (dz.of e);exact .tup (.tup e q) k q ht
 | cl e q=>
  cases r;obtain⟨ar,k,pl,_⟩:=I.list e.sq;exact .cl (.cl e q) k q pl.isList
 | _=>rw[PV.ic]at d;cases d
set_option maxHeartbeats 8000000 in
theorem Wx(hK:X.K=K)(I:Inv X Z σ H s):∀(n:Nat) (x y:PV) (A:wS) (v v':V) (w w':ce),PV.f7 x<=n->PV.ic x=true->PV.ic y=true->VR K [] H v x->VR K [] H v' y->RelV v w->RelV v' w'->A.units+n+1 < pc->Cmp A s w w' (jz x y):=by
 subst hK;intro n
 induction n using DC with
 | ind n ih=>
 intro x y A v v' w w' hd dx dy hv hv' r1 r2 hu;have a:=Sh.of I hv r1 dx;have b:=Sh.of I hv' r2 dy;clear hv hv' r1 r2;have el:∀{l m:O PV}{vs ws:O V}{ar bQ:O ce},eK l=true->eK m=true->du l < n->Vals vs ar->Vals ws bQ->aG X.K [] H vs l->aG X.K [] H ws m->ar.toArray.size=l.length/\bQ.toArray.size=m.length/\∀j (g1:j < ar.toArray.size) (g2:j < bQ.toArray.size),De A.in1 s ar.toArray[j] bQ.toArray[j] (N8 l m j):=λd1 d2 hd k1 k2 r r'=>⟨by rw[Ai,<- k1.length,r.length],by rw[Ai,<- k2.length,r'.length],ZN I (A:=A.in1) k1 k2 r r' λj x y v v' w w' hx hy vx vy rx ry=>(ih _ hd x y A.in1 v v' w w' (uG hx) (rL d1 hx) (rL d2 hy) vx vy rx ry (by show A.units+1+_+1 < _;omega)).eq⟩;have fin:∀{pa pb:cr}{l m:O PV},(pa=pb->l=m)->eK l=true->SeqAt.RcAt A s (.ref pa) (.ref pb) (eZ l m)->De A s (.ref pa) (.ref pb) (eZ l m):=λ{pa pb l m} h d q=>by
  by_cases Zs:pa=pb
  ·rw[h Zs,kM _ (h Zs▸d),Zs];exact Fx _
  ·exact Fe Zs q
 cases a <;> cases b
 case tup.tup pa vs ar l e k r ht pb ws bQ m e2 k2 r2 GU=>
  rw[PV.f7]at hd;obtain⟨z1,z2,ie⟩:=el dx dy ∅ k k2 r r2;have q1:=Fg ht GU (A:=A) ∅ ie;have q2:=SeqAt.RcNeAt.tuples ht GU (A:=A) ∅ ie;rw[z1,z2,nk]at q1 q2;exact⟨q1,q2,fin (λz=>by subst z;have:=VR.LB I e e2;injection this) dx q1⟩
 case cl.cl pa vs ar l e k r ht pb ws bQ m e2 k2 r2 GU=>
  rw[PV.f7]at hd;obtain⟨z1,z2,ie⟩:=el dx dy ∅ k k2 r r2;by_cases hz:l.length=m.length
  ·have q1:=Fs ht GU (by rw[z1,z2];exact hz) (A:=A) ∅ ie;have q2:=Fd ht GU (by rw[z1,z2];exact hz) (A:=A) ∅ ie;have ef:(AE l.length).all (N8 l m)=eZ l m:=by rw[<- nk,hz,Nat.min_self,beq_self_eq_true,CS]
   rw[z1,ef]at q1 q2;exact⟨q1,q2,fin (λz=>by subst z;have:=VR.LB I e e2;injection this) dx q1⟩
  ·have q1:=Ed (A:=A) ht GU (by rw[z1,z2];simpa using hz) ∅;have q2:=DT (A:=A) ht GU (by rw[z1,z2];simpa using hz) ∅;have ef:=NW hz;rw[<- ef]at q1;have q2:SeqAt.RcNeAt A s (.ref pa) (.ref pb) (!eZ l m):=by rw[ef];exact q2
   exact⟨q1,q2,fin (λz=>by subst z;have:=VR.LB I e e2;injection this) dx q1⟩
 all_goals
  clear ih el fin;rw[jz] <;> try (intros;simp_all;done)
  refine⟨?_,?_,?_⟩ <;> (try simp only[AU,E1]) <;> first | with_reducible exact .none_none | with_reducible exact .none_bool _ | with_reducible exact .none_int _ _ | with_reducible exact .none_str _ _ | with_reducible exact .none_tuple ‹_› ∅ | with_reducible exact .none_list ‹_› ∅ | with_reducible exact .bool_none _ | with_reducible exact .bool_str _ _ _ | with_reducible exact .bool_tuple _ ‹_› ∅ | with_reducible exact .bool_list _ ‹_› ∅ | with_reducible exact .int_none _ _ | with_reducible exact .int_str _ _ _ _ | with_reducible exact .int_tuple _ _ ‹_› ∅ | with_reducible exact .int_list _ _ ‹_› ∅ | with_reducible exact .str_none _ _ | with_reducible exact .str_bool _ _ _ | with_reducible exact .str_int _ _ _ _ | with_reducible exact .str_tuple _ _ ‹_› ∅ | with_reducible exact .str_list _ _ ‹_› ∅ | with_reducible exact .tuple_none ‹_› ∅ | with_reducible exact .tuple_bool _ ‹_› ∅ | with_reducible exact .tuple_int _ _ ‹_› ∅ | with_reducible exact .tuple_str _ _ ‹_› ∅ | with_reducible exact .tuple_list ‹_› ‹_› ∅ | with_reducible exact .list_none ‹_› ∅ | with_reducible exact .list_bool _ ‹_› ∅ | with_reducible exact .list_int _ _ ‹_› ∅ | with_reducible exact .list_str _ _ ‹_› ∅ | with_reducible exact .list_tuple ‹_› ‹_› ∅ | exact .same _ | exact .bool_bool _ _ | exact .bool_int _ _ _ | exact .int_bool _ _ _ | exact .int_int _ _ _ _ | exact .str_str _ _ _ _
end
end
section
variable[dJ]
variable{K:Ab}
mutual
theorem VR.mL{ι:O cr}{H:Hp}:∀{v:V}{q:PV},VR K ι H v q->PV.ic q=true->VR K [] H v q
 | _,_,.aN,_=>.aN
 | _,_,.bl b,_=>.bl b
 | _,_,.int i,_=>.int i
 | _,_,.str x,_=>.str x
 | _,_,.ty n,h=>by rw[PV.ic]at h;cases h
 | _,_,.dk _ _ _,h=>by rw[PV.ic]at h;cases h
 | _,_,.dt _ _ _,h=>by rw[PV.ic]at h;cases h
 | _,_,.ob _ _ _ _ _,h=>by rw[PV.ic]at h;cases h
 | _,_,.tup e r,h=>.tup e (aG.mL r (by rw[PV.ic]at h;exact h))
 | _,_,.cl e r,h=>.cl e (aG.mL r (by rw[PV.ic]at h;exact h))
 | _,_,.ref e,h=>by rw[PV.ic]at h;cases h
theorem aG.mL{ι:O cr}{H:Hp}:∀{v:O V}{q:O PV},aG K ι H v q->eK q=true->aG K [] H v q
 | _,_,.nil,_=>.nil
 | _,_,.cons r s,h=>by
  rw[eK,Aw]at h;exact .cons (VR.mL r h.1) (aG.mL s h.2)
end
def KG(x y:PV):Prop:=PV.ic x=true/\PV.ic y=true/\PV.f7 x<=150
def dY:M2:=⟨λx y h Q=>KG x y/\Q (.bl (jz x y)) h,λf q=>⟨q.1,f _ _ q.2⟩⟩
def qD:M2:=⟨λx y h Q=>KG x y/\Q (.bl (!jz x y)) h,λf q=>⟨q.1,f _ _ q.2⟩⟩
def Qg(K:Ab)(neg:Bool):R2:=λu v H Q=>∃x y,VR K [] H u x/\VR K [] H v y/\KG x y/\Q (.bl (if neg then !jz x y else jz x y)) H
section
theorem Vb(hK:X.K=K)(hu:X.A.units+200 < pc):f6 X (kw .Eq) (Qg K false):=λZ s σ H u v w w' Q I r1 r2 ⟨x,y,h1,h2,⟨o1,o2,o3⟩,q⟩=>by
 exact EE (Wx hK I 150 x y X.A u v w w' o3 o1 o2 h1 h2 r1 r2 ∅).rc ⟨.bl _,H,I,rfl,q⟩
theorem U7(hK:X.K=K)(hu:X.A.units+200 < pc):f6 X (kw .NotEq) (Qg K true):=λZ s σ H u v w w' Q I r1 r2 ⟨x,y,h1,h2,⟨o1,o2,o3⟩,q⟩=>by
 exact D8 (Wx hK I 150 x y X.A u v w w' o3 o1 o2 h1 h2 r1 r2 ∅).ne ⟨.bl _,H,I,rfl,q⟩
def QP:M2.Ok K (Qg K false) dY:=λ{ι H h u v x y Q} hr hu hv q=>⟨x,y,VR.mL hu q.1.1,VR.mL hv q.1.2.1,q.1,q.2 ι _ H (Go.refl _ _) hr (.bl _)⟩
def QL:M2.Ok K (Qg K true) qD:=λ{ι H h u v x y Q} hr hu hv q=>⟨x,y,VR.mL hu q.1.1,VR.mL hv q.1.2.1,q.1,q.2 ι _ H (Go.refl _ _) hr (.bl _)⟩
def dP(hK:X.K=K)(hu:X.A.units+200 < pc):JC X K .Eq b dY:=⟨⟨_,Vb hK hu,QP⟩,lM _⟩
def yV(hK:X.K=K)(hu:X.A.units+200 < pc):JC X K .NotEq b qD:=⟨⟨_,U7 hK hu,QL⟩,lM _⟩
end
end
end FL
variable{x:A5}{b b1:Bool}{ys:Array A5}{z i1 i2 a1 a2:BG}{k1:Nat}
namespace L2
def sM(b:Bool)(h:mo)(it a:cr)(k:Nat):Prop:=match b with
 | true=>h.IsListIter it a k
 | false=>h.IsTupleIter it a k
def gT(b:Bool)(h:mo)(a:cr)(xs:Array ce):Prop:=match b with
 | true=>h.IsList a xs
 | false=>h.IsTuple a xs
def sM.move(x:sM b h it a k)(g:∀o,h.get? it=ap o->h'.get? it=ap o):sM b h' it a k:=by
 cases b with
 | true=>obtain⟨o,e,p⟩:=(show h.IsListIter it a k from x);exact(show h'.IsListIter it a k from⟨o,g o e,p⟩)
 | false=>obtain⟨o,e,p⟩:=(show h.IsTupleIter it a k from x);exact(show h'.IsTupleIter it a k from⟨o,g o e,p⟩)
def gT.move(x:gT b h a xs)(g:∀o,h.get? a=ap o->h'.get? a=ap o):gT b h' a xs:=by
 cases b with
 | true=>obtain⟨o,e,p⟩:=(show h.IsList a xs from x);exact(show h'.IsList a xs from⟨o,g o e,p⟩)
 | false=>obtain⟨o,e,p⟩:=(show h.IsTuple a xs from x);exact(show h'.IsTuple a xs from⟨o,g o e,p⟩)
def sM.obj(x:sM b h it a k):∃o,h.get? it=ap o/\∀v,o.data≠.cell v:=by
 cases b with
 | true=>obtain⟨o,e,_,d⟩:=(show h.IsListIter it a k from x);exact⟨o,e,λv z=>by rw[d]at z;cases z⟩
 | false=>obtain⟨o,e,_,d⟩:=(show h.IsTupleIter it a k from x);exact⟨o,e,λv z=>by rw[d]at z;cases z⟩
def gT.lt(x:gT b h a xs):a < h.objs.size:=by
 cases b with
 | true=>obtain⟨o,e,p⟩:=(show h.IsList a xs from x);exact Aq e
 | false=>obtain⟨o,e,p⟩:=(show h.IsTuple a xs from x);exact Aq e
section
def jP{t:cr}(h:sM b s.heap it t i)(ht:gT b s.heap t items)(hx:items[i]?=ap x)
  (q:∀h':mo,sM b h' it t (i+1)->B3 it s.heap h'->Q x {s with heap:=h'}):ev (f8 prog w) A (Builtin.SmallTypes.nextOf (.ref it)) Q E s:=by
 cases b with
 | true=>exact wpAny_nextOf_list_item h ht hx λh' a b=>q h' a b
 | false=>exact gp h ht hx q
def qH{t:cr}(hA:A.handled=bn)(h:sM b s.heap it t i)(ht:gT b s.heap t items)(hx:items[i]?=bn)
  (q:∀(h':mo) (e:cr),Fw it s.heap h'->(∃o,h'.get? e=ap o/\o.cls=.type "StopIteration")->E (.ref e) {s with heap:=h'}):ev (f8 prog w) A (Builtin.SmallTypes.nextOf (.ref it)) Q E s:=by
 cases b with
 | true=>exact wpAny_nextOf_list_end hA h ht hx λh' e a b=>q h' e a b
 | false=>exact g9 hA h ht hx q
def Kg:Bool->String
 | true=>"list_iterator"
 | false=>"tuple_iterator"
def uo(h:gT b s.heap a xs)(q:Q (.ref s.heap.objs.size) {s with heap:=s.heap.push {cls:=.type (Kg b),data:=.fields #[.ref a,.int 0 0]}}):ev (f8 prog w) A (pyIter (.ref a)) Q E s:=by
 cases b with
 | true=>exact C2 h q
 | false=>exact DZ h q
def Ib(e:h.get? it=ap {cls:=.type (Kg b),data:=.fields #[.ref a,.int 0 0]}):sM b h it a 0:=by
 cases b with
 | true=>exact(show h.IsListIter it a 0 from⟨_,e,rfl,rfl⟩)
 | false=>exact(show h.IsTupleIter it a 0 from⟨_,e,rfl,rfl⟩)
end
structure jt(b1 b2:Bool)(h:mo)(z TI TO i1 i2 a1 a2:cr)(f0:ce)(k1 k2:Nat):Prop where
 zip:IsZip h z TI TO f0
 ti:IsPair h TI (.ref i1) (.ref i2)
 to:∃a b,IsPair h TO a b
 it1:sM b1 h i1 a1 k1
 it2:sM b2 h i2 a2 k2
def qj{E:ce->db->Prop}{b2:Bool}{TI TO:cr}{y:ce}(hA:ZipApart z TI TO i1 i2 a1 a2)
  (hz:jt b1 b2 s.heap z TI TO i1 i2 a1 a2 .none k1 k2) (Tn:gT b1 s.heap a1 xs) (GU:gT b2 s.heap a2 ys) (hx:xs[k1]?=ap x) (hy:ys[k2]?=ap y)
  (q:∀h':mo,jt b1 b2 h' z TI TO i1 i2 a1 a2 (t0 s.heap.objs.size) (k1+1) (k2+1)->IsPair h' s.heap.objs.size x y->(∀c o,c≠z->c≠TO->c≠i1->c≠i2->s.heap.get? c=ap o->h'.get? c=ap o)->Q (.ref s.heap.objs.size) {s with heap:=h'}) :
  ev (f8 prog w) A (wP.«zip.__next__» {pos:=[.ref z]}) (λfin s'=>∃v,fin=Fz (Fy v)/\Q v s') E s:=by
 obtain⟨hz,Rt,⟨ta,tb,Č⟩,ô,Zl⟩:=hz;show ev _ _ (field (.ref z) 2 >>= λr=>_) _ _ s;refine Aa (AZ hz rfl rfl ?_);refine Aa (AZ hz rfl rfl ?_);refine Aa (Bx Rt rfl ?_);refine Aa ?_;refine Aa (AZ hz rfl rfl ?_);refine Af ?_;refine Aa (CD ?_);refine Aa (AZ hz rfl rfl ?_);show ev _ _ (wv (.ref z) 0 .ellipsis >>= λr=>_) _ _ s;refine Aa (Be hz (show 0 < 5 by decide) λh1 z1 b1=>?_);show ev _ _ ((forIn [(Ax i1,0),(Ax i2,1)] _ _) >>= λr=>_) _ _ _;refine Aa ?_;rw[BX];have tN:=b1.2;refine Aa ?_;refine Aa (Ee ?_);refine Aa (jP (ô.move λo e=>(tN _ hA.i1z).trans e) (Tn.move λo e=>(tN _ hA.l1z).trans e) hx λh2 j2 b2=>Af ?_);have NN:∀b,b≠z->b≠i1->h2.get? b=s.heap.get? b:=λb n1 n2=>(b2.2 b n2).trans (tN b n1);have ß:=(NN _ hA.TOz hA.TOi1).trans Č;refine Aa (Bx ß rfl ?_);refine Aa (Ds ß λh3 t3 b3=>?_);have Ë:∀b,b≠z->b≠i1->b≠TO->h3.get? b=s.heap.get? b:=λb n1 n2 n3=>(b3.2 b n3).trans (NN b n1 n2);refine Aa (Du (Af ?_));show ev _ _ (forIn [(Ax i2,1)] _ _) _ _ _;rw[BX];refine Aa ?_;refine Aa (Ee ?_);refine Aa (jP (Zl.move λo e=>(Ë _ hA.i2z hA.i12.symm hA.TOi2.symm).trans e) (GU.move λo e=>(Ë _ hA.l2z hA.l2i1 hA.l2TO).trans e) hy λh4 j4 b4=>Af ?_);have to4:=(b4.2 _ hA.TOi2).trans t3;refine Aa (Bx to4 rfl ?_);refine Aa (Ds to4 λh5 t5 b5=>?_);have to5:=t5;refine Aa (Du (Af ?_));refine Af ?_;refine Aa (Bx to5 rfl ?_);have ā:=b5.1.trans (b4.1.trans (b3.1.trans (b2.1.trans b1.1)));refine Aa (CF ?_ (by show 2<=sizeLine;decide));have Zw:∀b,b≠z->b≠i1->b≠TO->b≠i2->h5.get? b=s.heap.get? b:=λb n1 n2 n3 n4=>(b5.2 b n3).trans ((b4.2 b n4).trans (Ë b n1 n2 n3));have z5:h5.get? z=ap {cls:=.type "zip",data:=.fields #[.ellipsis,.bool false,.bool false,.ref TI,.ref TO]}:=(b5.2 _ hA.TOz.symm).trans ((b4.2 _ hA.i2z.symm).trans ((b3.2 _ hA.TOz.symm).trans ((b2.2 _ hA.i1z.symm).trans z1)));have kp:∀b o,h5.get? b=ap o->(h5.push {cls:=.type "tuple",data:=.seq #[x,y]}).get? b=ap o:=λb o e=>Ah _ e;have ab9:(h5.push {cls:=.type "tuple",data:=.seq #[x,y]}).get? h5.objs.size=ap {cls:=.type "tuple",data:=.seq #[x,y]}:=Ap _ rfl;refine Aa ?_;show ev _ _ (wv (.ref z) 0 (t0 h5.objs.size) >>= λ_=>wv (.ref z) 1 (.bool false)) _ _ _;refine Aa (Be (kp _ _ z5) (show 0 < 5 by decide) λh7 z7 b7=>?_);refine Be z7 (show 1 < 5 by decide) λh8 z8 b8=>?_;have Kt:∀b,b≠z->h8.get? b=(h5.push {cls:=.type "tuple",data:=.seq #[x,y]}).get? b:=λb n=>(b8.2 b n).trans (b7.2 b n);have nz:s.heap.objs.size≠z:=λe=>by have:=Aq hz;rw[<- e]at this;exact A2 _ this
 refine Af ⟨.ref h5.objs.size,rfl,?_⟩;rw[ā];refine q h8 ⟨?_,?_,?_,?_,?_⟩ ?_ ?_
 ·rw[<- ā];exact z8
 ·rw[IsPair,Kt _ hA.TIz];exact kp _ _ ((Zw _ hA.TIz hA.TIi1 hA.TITO hA.TIi2).trans Rt)
 ·exact⟨x,y,by rw[IsPair,Kt _ hA.TOz];exact kp _ _ to5⟩
 ·refine j2.move λo e=>?_;rw[Kt _ hA.i1z];exact kp _ _ ((b5.2 _ hA.TOi1.symm).trans ((b4.2 _ hA.i12).trans ((b3.2 _ hA.TOi1.symm).trans e)))
 ·refine j4.move λo e=>?_;rw[Kt _ hA.i2z];exact kp _ _ ((b5.2 _ hA.TOi2.symm).trans e)
 ·rw[IsPair,Kt _ nz,<- ā];exact ab9
 ·intro c o n1 n2 n3 n4 e;rw[Kt _ n1];exact kp _ _ ((Zw _ n1 n3 n2 n4).trans e)
def sT{b2:Bool}{TI TO:cr}{Q:PySem.Fin->db->Prop}(hh:A.handled=bn)(hA:ZipApart z TI TO i1 i2 a1 a2)
  (hz:jt b1 b2 s.heap z TI TO i1 i2 a1 a2 .none k1 k2) (Tn:gT b1 s.heap a1 xs) (GU:gT b2 s.heap a2 ys) (hx:xs[k1]?=bn\/ys[k2]?=bn)
  (q:∀(h':mo) (e:cr),(∀c o,c≠z->c≠TO->c≠i1->c≠i2->s.heap.get? c=ap o->h'.get? c=ap o)->(∃o,h'.get? e=ap o/\o.cls=.type "StopIteration")->E (.ref e) {s with heap:=h'}) :
  ev (f8 prog w) A (wP.«zip.__next__» {pos:=[.ref z]}) Q E s:=by
 obtain⟨hz,Rt,⟨ta,tb,Č⟩,ô,Zl⟩:=hz;show ev _ _ (field (.ref z) 2 >>= λr=>_) _ _ s;refine Aa (AZ hz rfl rfl ?_);refine Aa (AZ hz rfl rfl ?_);refine Aa (Bx Rt rfl ?_);refine Aa ?_;refine Aa (AZ hz rfl rfl ?_);refine Af ?_;refine Aa (CD ?_);refine Aa (AZ hz rfl rfl ?_);show ev _ _ (wv (.ref z) 0 .ellipsis >>= λr=>_) _ _ s;refine Aa (Be hz (show 0 < 5 by decide) λh1 z1 b1'=>?_);show ev _ _ ((forIn [(Ax i1,0),(Ax i2,1)] _ _) >>= λr=>_) _ _ _;refine Aa ?_;rw[BX];have tN:=b1'.2;refine Aa ?_;refine Aa (Ee ?_);have fin:∀{h2:mo}{e:cr}{R:ce->db->Prop},h2.get? z=ap {cls:=.type "zip",data:=.fields #[.ellipsis,.bool false,.bool false,.ref TI,.ref TO]}->(∃o,h2.get? e=ap o/\o.cls=.type "StopIteration")->(∀c o,c≠z->c≠TO->c≠i1->c≠i2->s.heap.get? c=ap o->h2.get? c=ap o)->ev (f8 prog w) A (wv (.ref z) 0 .none) (λ_ s'=>E (.ref e) s') R {s with heap:=h2}:=λ{h2 e R} z2 ex k=>by
  refine Be z2 (show 0 < 5 by decide) λh3 z3 b3=>?_;refine q h3 e (λc o n1 n2 n3 n4 ec=>?_) ?_
  ·rw[b3.2 _ n1];exact k c o n1 n2 n3 n4 ec
  ·obtain⟨o,eo,hc⟩:=ex;by_cases he:e=z
   ·subst he;rw[z2]at eo;cases eo;exact absurd (show Cr "zip"=Cr "StopIteration" from hc) ⋯
   ·exact⟨o,(b3.2 _ he).trans eo,hc⟩
 cases hx1:xs[k1]? with
 | none=>
  refine Aa (qH hh (ô.move λo e=>(tN _ hA.i1z).trans e) (Tn.move λo e=>(tN _ hA.l1z).trans e) hx1 λh2 e k ex=>?_);exact fin (k _ _ hA.i1z.symm z1) ex λc o n1 n2 n3 n4 ec=>k _ _ n3 ((tN _ n1).trans ec)
 | some x=>
  have hy:ys[k2]?=bn:=by
   rcases hx with h | h
   ·rw[hx1]at h;cases h
   ·exact h
  refine Aa (jP (ô.move λo e=>(tN _ hA.i1z).trans e) (Tn.move λo e=>(tN _ hA.l1z).trans e) hx1 λh2 j2 b2'=>Af ?_);have NN:∀b,b≠z->b≠i1->h2.get? b=s.heap.get? b:=λb n1 n2=>(b2'.2 b n2).trans (tN b n1);have ß:=(NN _ hA.TOz hA.TOi1).trans Č;refine Aa (Bx ß rfl ?_);refine Aa (Ds ß λh3 t3 b3=>?_);have Ë:∀b,b≠z->b≠i1->b≠TO->h3.get? b=s.heap.get? b:=λb n1 n2 n3=>(b3.2 b n3).trans (NN b n1 n2);refine Aa (Du (Af ?_));refine Aa ?_;refine Aa (Ee ?_);show ev _ _ (Builtin.SmallTypes.nextOf (.ref i2) >>= λv=>pure (ap v)) _ _ _;refine Aa (qH hh (Zl.move λo e=>(Ë _ hA.i2z hA.i12.symm hA.TOi2.symm).trans e) (GU.move λo e=>(Ë _ hA.l2z hA.l2i1 hA.l2TO).trans e) hy λh4 e k ex=>?_);exact fin (k _ _ hA.i2z.symm ((b3.2 _ hA.TOz.symm).trans ((b2'.2 _ hA.i1z.symm).trans z1))) ex λc o n1 n2 n3 n4 ec=>k _ _ n4 ((Ë _ n1 n3 n2).trans ec)
def nW{b2:Bool}{TI TO:cr}{y:ce}{Q:Option ce->db->Prop}(hA:ZipApart z TI TO i1 i2 a1 a2)
  (hz:jt b1 b2 s.heap z TI TO i1 i2 a1 a2 .none k1 k2) (Tn:gT b1 s.heap a1 xs) (GU:gT b2 s.heap a2 ys) (hx:xs[k1]?=ap x) (hy:ys[k2]?=ap y)
  (q:∀h':mo,jt b1 b2 h' z TI TO i1 i2 a1 a2 (t0 s.heap.objs.size) (k1+1) (k2+1)->IsPair h' s.heap.objs.size x y->(∀c o,c≠z->c≠TO->c≠i1->c≠i2->s.heap.get? c=ap o->h'.get? c=ap o)->Q (ap (.ref s.heap.objs.size)) {s with heap:=h'}) :
  ev (f8 prog w) A (pyNext (.ref z)) Q E s:=by
 have ty:s.TypeIs (.ref z) "zip":=⟨_,hz.zip,rfl⟩;refine Aa (CP (AR ty Dw (A9 Dw ty F.entry_zip_next ?_ (F.args_zip_next_1 _))));exact qj hA hz Tn GU hx hy λh' a b c=>Af (q h' a b c)
def pz{b2:Bool}{TI TO:cr}{Q:Option ce->db->Prop}(hh:A.handled=bn)(hA:ZipApart z TI TO i1 i2 a1 a2)
  (hz:jt b1 b2 s.heap z TI TO i1 i2 a1 a2 .none k1 k2) (Tn:gT b1 s.heap a1 xs) (GU:gT b2 s.heap a2 ys) (hx:xs[k1]?=bn\/ys[k2]?=bn)
  (q:∀h':mo,(∀c o,c≠z->c≠TO->c≠i1->c≠i2->s.heap.get? c=ap o->h'.get? c=ap o)->Q bn {s with heap:=h'}) :
  ev (f8 prog w) A (pyNext (.ref z)) Q E s:=by
 have ty:s.TypeIs (.ref z) "zip":=⟨_,hz.zip,rfl⟩;refine Aa (CP (AR ty Dw (A9 Dw ty F.entry_zip_next ?_ (F.args_zip_next_1 _))));refine sT (A:=A.in1) hh hA hz Tn GU hx λh' e k ex=>?_;obtain⟨o,eo,hc⟩:=ex;refine Aa (Dh (T:="StopIteration") ⟨o,eo,hc⟩ isSubtype_stop ?_);exact Af (q h' k)
def qK(b1 b2:Bool)(a1 a2:cr)(xs ys:Array ce):Meets (wP.«zip.__new__» {pos:=[.type "zip",.ref a1,.ref a2]}) (λ_ R s=>gT b1 s.heap a1 xs/\gT b2 s.heap a2 ys/\
  ∀h':mo,jt b1 b2 h' (s.heap.objs.size+4) (s.heap.objs.size+2) (s.heap.objs.size+3) s.heap.objs.size (s.heap.objs.size+1) a1 a2 .none 0 0->(∀b o,s.heap.get? b=ap o->h'.get? b=ap o)->R (.ok (.ret (.ref (s.heap.objs.size+4)))) {s with heap:=h'}):=
 .of_wp λprog w A R s h=>by
  obtain⟨h1,h2,q⟩:=h;refine Aa ?_;refine Aa (Cp (a:=true) rfl ?_);refine Aa (Cp sub_zip ?_);refine Af ?_;refine Aa ?_;refine Aa ?_;rw[BX];refine Aa ?_;refine Aa (A6 (uo h1 (Af ?_)));have k1:∀b o,s.heap.get? b=ap o->(s.heap.push {cls:=.type (Kg b1),data:=.fields #[.ref a1,.int 0 0]}).get? b=ap o:=λb o e=>Ah _ e;have g1:(s.heap.push {cls:=.type (Kg b1),data:=.fields #[.ref a1,.int 0 0]}).get? s.heap.objs.size=ap {cls:=.type (Kg b1),data:=.fields #[.ref a1,.int 0 0]}:=Ap _ rfl;have z1:(s.heap.push {cls:=.type (Kg b1),data:=.fields #[.ref a1,.int 0 0]}).objs.size=s.heap.objs.size+1:=CC ..;generalize s.heap.push {cls:=.type (Kg b1),data:=.fields #[.ref a1,.int 0 0]}=wH at k1 g1 z1 ⊢;show ev _ _ (forIn [Ax a2] _ _) _ _ _;rw[BX];refine Aa ?_;refine Aa (A6 (uo (xs:=ys) (h2.move λo e=>k1 _ _ e) (Af ?_)));show ev _ _ (forIn [] _ _) _ _ _;rw[List.forIn_nil];refine Af (Af ?_);have k2:∀b o,wH.get? b=ap o->(wH.push {cls:=.type (Kg b2),data:=.fields #[.ref a2,.int 0 0]}).get? b=ap o:=λb o e=>Ah _ e;have g2:(wH.push {cls:=.type (Kg b2),data:=.fields #[.ref a2,.int 0 0]}).get? wH.objs.size=ap {cls:=.type (Kg b2),data:=.fields #[.ref a2,.int 0 0]}:=Ap _ rfl;have z2:(wH.push {cls:=.type (Kg b2),data:=.fields #[.ref a2,.int 0 0]}).objs.size=wH.objs.size+1:=CC ..;show ev _ _ (newTuple [.ref s.heap.objs.size,.ref wH.objs.size] >>= λr=>_) _ _ {s with heap:=wH.push {cls:=.type (Kg b2),data:=.fields #[.ref a2,.int 0 0]}};generalize wH.push {cls:=.type (Kg b2),data:=.fields #[.ref a2,.int 0 0]}=wG at k2 g2 z2 ⊢;refine Aa (CF ?_ (by show 2<=sizeLine;decide));have k3:∀b o,wG.get? b=ap o->(wG.push {cls:=.type "tuple",data:=.seq [Ax s.heap.objs.size,Ax wH.objs.size].toArray}).get? b=ap o:=λb o e=>Ah _ e;have g3:(wG.push {cls:=.type "tuple",data:=.seq [Ax s.heap.objs.size,Ax wH.objs.size].toArray}).get? wG.objs.size=ap {cls:=.type "tuple",data:=.seq #[.ref s.heap.objs.size,.ref wH.objs.size]}:=Ap _ rfl;have z3:(wG.push {cls:=.type "tuple",data:=.seq [Ax s.heap.objs.size,Ax wH.objs.size].toArray}).objs.size=wG.objs.size+1:=CC ..;show ev _ _ (newTuple [.none,.none] >>= λr=>_) _ _ {s with heap:=wG.push {cls:=.type "tuple",data:=.seq [Ax s.heap.objs.size,Ax wH.objs.size].toArray}};generalize wG.push {cls:=.type "tuple",data:=.seq [Ax s.heap.objs.size,Ax wH.objs.size].toArray}=Kn at k3 g3 z3 ⊢;refine Aa (CF ?_ (by show 2<=sizeLine;decide));have k4:∀b o,Kn.get? b=ap o->(Kn.push {cls:=.type "tuple",data:=.seq [AN,AN].toArray}).get? b=ap o:=λb o e=>Ah _ e;have g4:(Kn.push {cls:=.type "tuple",data:=.seq [AN,AN].toArray}).get? Kn.objs.size=ap {cls:=.type "tuple",data:=.seq #[.none,.none]}:=Ap _ rfl;have z4:(Kn.push {cls:=.type "tuple",data:=.seq [AN,AN].toArray}).objs.size=Kn.objs.size+1:=CC ..;show ev _ _ (newObj (.type "zip") (.fields #[.none,.bool false,.bool false,.ref wG.objs.size,.ref Kn.objs.size]) >>= λr=>_) _ _ {s with heap:=Kn.push {cls:=.type "tuple",data:=.seq [AN,AN].toArray}};generalize Kn.push {cls:=.type "tuple",data:=.seq [AN,AN].toArray}=W7 at k4 g4 z4 ⊢;refine Aa (Bb ?_ (by simp[sizeOk];decide));have k5:∀b o,W7.get? b=ap o->(W7.push {cls:=.type "zip",data:=.fields #[.none,.bool false,.bool false,.ref wG.objs.size,.ref Kn.objs.size]}).get? b=ap o:=λb o e=>Ah _ e;have g5:(W7.push {cls:=.type "zip",data:=.fields #[.none,.bool false,.bool false,.ref wG.objs.size,.ref Kn.objs.size]}).get? W7.objs.size=ap {cls:=.type "zip",data:=.fields #[.none,.bool false,.bool false,.ref wG.objs.size,.ref Kn.objs.size]}:=Ap _ rfl;have e1:=z1;have e2:wG.objs.size=s.heap.objs.size+2:=by rw[z2,e1]
  have e3:Kn.objs.size=s.heap.objs.size+3:=by rw[z3,e2]
  have e4:W7.objs.size=s.heap.objs.size+4:=by rw[z4,e3]
  refine Af ⟨.ref W7.objs.size,rfl,?_⟩;rw[e2,e3]at g5 k5 ⊢;rw[e4]at g5 ⊢;rw[e3]at g4;rw[e1,e2]at g3;rw[e1]at g2;refine q _ ⟨g5,k5 _ _ (k4 _ _ g3),⟨_,_,k5 _ _ g4⟩,Ib (k5 _ _ (k4 _ _ (k3 _ _ (k2 _ _ g1)))),Ib (k5 _ _ (k4 _ _ (k3 _ _ g2)))⟩ λb o e=>k5 _ _ (k4 _ _ (k3 _ _ (k2 _ _ (k1 _ _ e))))
def K5{b2:Bool}(h1:gT b1 s.heap a1 xs)(h2:gT b2 s.heap a2 ys)
  (q:∀h':mo,jt b1 b2 h' (s.heap.objs.size+4) (s.heap.objs.size+2) (s.heap.objs.size+3) s.heap.objs.size (s.heap.objs.size+1) a1 a2 .none 0 0->(∀b o,s.heap.get? b=ap o->h'.get? b=ap o)->Q (.ref (s.heap.objs.size+4)) {s with heap:=h'}) :
  ev (f8 prog w) A (call (.type "zip") [.ref a1,.ref a2]) Q E s:=
 callType_new F.called_zip ⋯ (F.typeCall_zip_2 _ _) (F.newCall_zip_2 _ _) (λo=>F.args_object_init_3 o _ _) F.entry_zip_new (qK b1 b2 a1 a2 xs ys) ⟨h1,h2,λh' z k=>⟨⟨_,z.zip,rfl⟩,q h' z k⟩⟩
def LC(b:Bool)(K:Ab)(H:Hp)(a:cr)(xs:O V):Prop:=match b with
 | true=>cT K H a xs
 | false=>dz K H a xs
def Inv.WY{xs:O V}(I:Inv X Z σ H s)(h:LC b X.K H a xs):∃ar:O ce,Vals xs ar/\gT b s.heap a ar.toArray/\xs.length<=sizeLine:=by
 cases b with
 | true=>obtain⟨ar,r,p,z⟩:=I.list (show cT X.K H a xs from h);exact⟨ar,r,p.isList,z⟩
 | false=>obtain⟨ar,r,p,z⟩:=I.tuple (show dz X.K H a xs from h);exact⟨ar,r,p,z⟩
def Inv.Ia{xs ys:O V}(I:Inv X Z σ H s)(h:LC b X.K H a xs)(h':LC b X.K H a ys):xs=ys:=by
 cases b with
 | true=>
  obtain⟨ar,k,⟨o,n,h1,h2,h3,h4⟩,_⟩:=I.list (show cT X.K H a xs from h);obtain⟨its',k',⟨o',n',eP,sQ,GX,VZ⟩,_⟩:=I.list (show cT X.K H a ys from h');rw[h1]at eP;cases eP;rw[h4]at VZ;have:ar=its':=by injection VZ with a b;simpa using a
  subst this;exact Vals.inj k k'
 | false=>exact I.kl h h'
def aaa(b1 b2:Bool)(K:Ab)(a1 a2:cr):It where
 go:=λi H=>∃xs ys x y,LC b1 K H a1 xs/\LC b2 K H a2 ys/\xs[i]?=ap x/\ys[i]?=ap y
 Sz:=λi H v H'=>∃p x y,v=.ref p/\H p=bn/\H'=upd H p (.tup [x,y])/\(∀xs,LC b1 K H a1 xs->xs[i]?=ap x)/\∀ys,LC b2 K H a2 ys->ys[i]?=ap y
 stop:=λi H=>∃xs ys,LC b1 K H a1 xs/\LC b2 K H a2 ys/\(xs.length<=i\/ys.length<=i)
theorem Jz{K:Ab}{b2:Bool}{TI TO:cr}(hA:ZipApart z TI TO i1 i2 a1 a2):Turn P w K (.Tuple Î kk pos) (aaa b1 b2 K a1 a2) [z,TI,TO,i1,i2] z (λi h=>jt b1 b2 h z TI TO i1 i2 a1 a2 .none i i) where
 mem:=by simp
 obj:=λi h st b hb=>by
  simp only[AG,Bk,or_false]at hb;rcases hb with rfl | rfl | rfl | rfl | rfl
  ·exact⟨_,st.zip,λv z=>by cases z⟩
  ·exact⟨_,st.ti,λv z=>by cases z⟩
  ·obtain⟨_,_,e⟩:=st.to;exact⟨_,e,λv z=>by cases z⟩
  ·exact st.it1.obj
  ·exact st.it2.obj
 keep:=λi h h' st k=>⟨k z (by simp) _ st.zip,k TI (by simp) _ st.ti,let ⟨a,b,e⟩:=st.to;⟨a,b,k TO (by simp) _ e⟩,st.it1.move λo e=>k i1 (by simp) _ e,st.it2.move λo e=>k i2 (by simp) _ e⟩
 item:=by
  intro X hP hw hK hc i Z s σ H E I hf st hg;subst hP hw hK;obtain⟨xs,ys,x,y,hx,hy,gx,gy⟩:=hg;obtain⟨ar,rx,tx,_⟩:=I.WY hx;obtain⟨bQ,ry,ty,_⟩:=I.WY hy;obtain⟨u,gu,ru⟩:=jE rx gx;obtain⟨v,gv,rv⟩:=jE ry gy;refine nW hA st tx ty (by simpa using gu) (by simpa using gv) λh' zt np k=>?_;refine⟨_,rfl,?_⟩;refine Aa (wpAny_load zt.zip ?_);show ev _ _ (if ((["enumerate","zip","dict_itemiterator","dict_reverseitemiterator","odict_iterator","itertools.zip_longest","itertools.pairwise"].contains "zip"&&(ap (t0 s.heap.objs.size)==ap (t0 s.heap.objs.size)))=true) then (do rule "for.unpacks-the-owned-tuple";wv (.ref z) 0 .none) else pure ()) _ _ _;rw[if_pos (by rw[beq_self_eq_true];decide)];refine Aa (CD ?_);refine Be zt.zip (show 0 < 5 by decide) λh2 z2 b2=>?_;have lt:∀b∈[z,TI,TO,i1,i2],b < s.heap.objs.size:=λb hb=>by
   simp only[AG,Bk,or_false]at hb;rcases hb with rfl | rfl | rfl | rfl | rfl
   ·exact Aq st.zip
   ·exact Aq st.ti
   ·obtain⟨_,_,e⟩:=st.to;exact Aq e
   ·obtain⟨o,e,_⟩:=st.it1.obj;exact Aq e
   ·obtain⟨o,e,_⟩:=st.it2.obj;exact Aq e
  have nz:s.heap.objs.size≠z:=λe=>A2 _ (by have:=lt z (by simp);rw[<- e]at this;exact this);have YW:∀b o,b∉[z,TI,TO,i1,i2]->s.heap.get? b=ap o->h2.get? b=ap o:=λb o hb e=>by
   have GS:b≠z:=λq=>hb (by simp[q]);rw[b2.2 b GS];exact k b o GS (λq=>hb (by simp[q])) (λq=>hb (by simp[q])) (λq=>hb (by simp[q])) e
  have YK:h2.get? s.heap.objs.size=ap {cls:=.type "tuple",data:=.seq #[u,v]}:=(b2.2 _ nz).trans np;have Zn:=I.bj.fresh (Ao s.heap.objs.size);refine⟨.ref s.heap.objs.size,upd H s.heap.objs.size (.tup [x,y]),I.qt (t':=s.toks) hf YW (Ao _) ⟨by show 2<=sizeLine;decide,[u,v],.cons ru (.cons rv .nil),⟨_,YK,rfl,_,rfl⟩⟩,rfl,⟨_,x,y,rfl,Zn,rfl,λxs' h'=>?_,λys' h'=>?_⟩,⟨z2,(b2.2 _ hA.TIz).trans zt.ti,let ⟨p,q,e⟩:=zt.to;⟨p,q,(b2.2 _ hA.TOz).trans e⟩,zt.it1.move λo e=>(b2.2 _ hA.i1z).trans e,zt.it2.move λo e=>(b2.2 _ hA.i2z).trans e⟩,λb hb=>?_⟩
  ·rw[I.Ia h' hx];exact gx
  ·rw[I.Ia h' hy];exact gy
  ·rw[au (Ay (lt b hb))];exact(hf b hb).1
 done:=by
  intro X hP hw hK hc i Z s σ H E I hf st hg;subst hP hw hK;obtain⟨xs,ys,hx,hy,hl⟩:=hg;obtain⟨ar,rx,tx,_⟩:=I.WY hx;obtain⟨bQ,ry,ty,_⟩:=I.WY hy;have el:=rx.length;have el2:=ry.length;refine pz (I.ok.hd hc) hA st tx ty ?_ λh' k=>⟨rfl,I.vd (t':=s.toks) hf λb o hb e=>k b o (λz=>hb (by simp[z])) (λz=>hb (by simp[z])) (λz=>hb (by simp[z])) (λz=>hb (by simp[z])) e⟩;rcases hl with hl | hl
  ·exact .inl (by simp;omega)
  ·exact .inr (by simp;omega)
 self:=λA i s Q E st h=>wpAny_pyIter_zip st.zip h
def Y0(K:Ab)(t1 t2:TE):TI:=λσ H R=>t1 σ H λx H1=>t2 σ H1 λy H2=>∃b1 b2 a b,x=.ref a/\y=.ref b/\(∃xs,LC b1 K H2 a xs)/\(∃ys,LC b2 K H2 b ys)/\R (aaa b1 b2 K a b) H2
def Qp(K:Ab)(hK:X.K=K){e1 e2:im}{t1 t2:TE}(hg:Gl X "zip")(hm:X.mg "zip"=bn)(h1:PE X e1 t1)(h2:PE X e2 t2)
  (zX:gl [e1,e2] X.env=(false,lc e1 X.env)::gl [e2] X.env:=by rfl) (qb:gV X e2 []:=by rfl) (dr:(FS p2 (gl [e2] X.env)).any (·.1)=false:=by rfl) :
  PI X (.Tuple Î kk tp) (.Call (.Name "zip" p1) [e1,e2] [] p2) (Y0 K t1 t2):=by
 subst hK;intro Z s σ H R I h;refine BC (iT I hg hm boot_zip ?_ ⋯ ⋯);refine Bf ?_ zX dr;rw[zX,qb];refine B8 (bp (h1 Z s σ H _ I h) λu1 s1 ⟨x,H1,I1,r1,q1⟩=>?_);refine B8 (bp (h2 Z s1 σ H1 _ I1 q1) λu2 s2 ⟨y,H2,I2,r2,b1,b2,a,b,ex,ey,⟨xs,hx⟩,⟨ys,hy⟩,q⟩=>Cz ?_);subst ex;subst ey;cases r1;cases r2;obtain⟨ar,rx,tx,_⟩:=I2.WY hx;obtain⟨bQ,ry,ty,_⟩:=I2.WY hy;have l1:=tx.lt;have l2:=ty.lt;refine K5 tx ty λh' zt k=>?_;refine wpAny_pyIter_zip zt.zip ?_;have dd:∀i j:Nat,i≠j->s2.heap.objs.size+i≠s2.heap.objs.size+j:=λi j n e=>n (Nat.add_left_cancel e);have na:∀i:Nat,a≠s2.heap.objs.size+i:=λi=>Ay (Az l1 (Bt _ _));have nb:∀i:Nat,b≠s2.heap.objs.size+i:=λi=>Ay (Az l2 (Bt _ _));have hA:ZipApart (s2.heap.objs.size+4) (s2.heap.objs.size+2) (s2.heap.objs.size+3) s2.heap.objs.size (s2.heap.objs.size+1) a b:=
  ⟨dd 2 4 ⋯,dd 3 4 ⋯,dd 0 4 ⋯,dd 1 4 ⋯,dd 2 3 ⋯,dd 2 0 ⋯,dd 2 1 ⋯,dd 3 0 ⋯,dd 3 1 ⋯,dd 0 1 ⋯,na 4,na 3,na 0,na 1,nb 4,nb 3,nb 0,nb 1⟩
 refine⟨_,_,_,_,H2,rfl,I2.kept (t':=s2.toks) k,Jz hA,zt,λc hc=>?_,q⟩;have Ú:s2.heap.objs.size<=c:=by
  simp only[AG,Bk,or_false]at hc;rcases hc with rfl | rfl | rfl | rfl | rfl
  ·exact Bt _ _
  ·exact Bt _ _
  ·exact Bt _ _
  ·exact Ao _
  ·exact Bt _ _
 exact I2.wQ Ú (I2.bj.fresh Ú)
def Yg(K:Ab):V->Option Int->Option Int->Hp->VK->Prop:=λx lo hi H Q=>∃a xs,x=.ref a/\dz K H a xs/\
 ((HT.dj xs.length 0 lo=0/\HT.dj xs.length xs.length hi=xs.length)->Q x H)/\(¬(HT.dj xs.length 0 lo=0/\HT.dj xs.length xs.length hi=xs.length)->jQ H (.tup (xk xs lo hi)) Q)
def P1(K:Ab)(hK:X.K=K):SlR X (Yg K):=by
 subst hK;intro Z s σ H x v vl vu lo hi sl Q I rx hs pl pu h;obtain⟨a,xs,rfl,hT,qw,qn⟩:=h;by_cases c:HT.dj xs.length 0 lo=0/\HT.dj xs.length xs.length hi=xs.length
 ·have q:=qw c;cases rx;obtain⟨ar,r,ht,hz⟩:=I.tuple hT;have Á:ar.toArray.size=xs.length:=by rw[Ai];exact r.length.symm
  refine⟨"tuple",_,Bh.lookup,ht.typeIs,?_⟩;obtain⟨os,Lx,Xc,RA⟩:=id hs;have Xe:s.TypeIs (.ref sl) "slice":=⟨os,Lx,Xc⟩;unfold Fk
  try with_reducible refine A6 ?_
  first | refine Aa (Af ?_) | skip
  refine Aa (D9 ht.typeIs ⋯ ?_);refine Aa (AR (name:=Cd "__getitem__") ht.typeIs Bh
   (A9 Bh ht.typeIs entry_tuple_getitem ?_ (args_tuple_getitem _ _)))
  show ev _ _ (Builtin.Tuple.tupleItemsOf (.ref a) >>= _) _ _ s;refine Aa (tupleItemsOf_ ht ?_);refine Aa (Ce Xe ?_);refine Aa (HT.gX hs pl pu ?_);show ev _ _ (if (((HT.dj ar.toArray.size 0 lo:Nat):Int)==0&&(1:Int)==1&&(HT.dj ar.toArray.size ar.toArray.size hi-HT.dj ar.toArray.size 0 lo)==ar.toArray.size)=true then _ else _) _ _ s;rw[if_pos (by rw[Á,c.1,c.2];simp)];refine Aa ?_
  first
   | refine Aa (Ce ht.typeIs (Af ?_))
   | refine Ce ht.typeIs (Af ?_)
  first
   | rw[if_pos ⋯]
   | rw[if_pos rfl]
  refine Aa (CD (Af ⟨_,rfl,?_⟩));exact Af ⟨.ref a,H,I,rfl,q⟩
 ·exact Uq Z s σ H _ v vl vu lo hi sl Q I rx hs pl pu ⟨a,xs,rfl,hT,c,λp hp=>(qn c).at p hp⟩
def Yo(K:Ab):R2:=λx y H Q=>∃a b xs ys,x=.ref a/\y=.ref b/\dz K H a xs/\dz K H b ys/\xs.length+ys.length<=sizeLine/\
 (xs=[]->Q (.ref b) H)/\(xs≠[]->ys=[]->Q (.ref a) H)/\(xs≠[]->ys≠[]->jQ H (.tup (xs++ys)) Q)
def QE(K:Ab)(hK:X.K=K):f6 X (re .Add) (Yo K):=by
 subst hK;intro Z s σ H x y v u Q I rx ry h;obtain⟨a,b,xs,ys,rfl,rfl,ha,hb,hz,q0,q1,q2⟩:=h;by_cases c:xs=[]
 ·cases rx;cases ry;obtain⟨ar,r1,p1,_⟩:=I.tuple ha;obtain⟨bQ,r2,p2,_⟩:=I.tuple hb;obtain⟨⟨cls,dd,data,sl⟩,ho,hc,n,hd⟩:=id p1;obtain⟨⟨Wy,R6,data2,O9⟩,Ko,NI,n2,Ó⟩:=id p2;simp only at hc hd NI Ó;subst hc hd NI Ó;exact concat_meets ⟨_,ho,rfl⟩ ⟨_,Ko,rfl⟩ noFill_tuple_add seq_tuple_add C1 CV (CN _ _)
   (tuple_addW0 a b ar.toArray bQ.toArray n n2 dd R6 sl O9 (by rw[r1.iG.mpr c];rfl)) ⟨ho,Ko,.ref b,H,I,rfl,q0 c⟩
 ·exact IA Z s σ H _ _ v u Q I rx ry ⟨a,b,xs,ys,rfl,rfl,ha,hb,c,hz,q1 c,λn p hp=>(q2 c n).at p hp⟩
end L2
namespace FL
section
variable[dJ]
variable{K:Ab}
section
variable{a b c:im}{w:W PV}{wm:W (O PV)}
def addW:PV->PV->W PV
 | .int i,.int j=>.ret (.int (i+j))
 | .str a,.str b=>.ff (a.length+b.length<=sizeLine) (.ret (.str (a++b)))
 | .tup a,.tup b=>.ff (a.length+b.length<=sizeLine) (.ret (.tup (a++b)))
 | _,_=>.fail
def bT(hK:X.K=K)(ha:EF X K fs a wa)(hb:EF X K fs b wb):EF X K fs (.BinOp a .Add b pos) (.bind wa λx=>.bind wb λy=>addW x y):=
 ⟨PE.imp (Ir ((QH K hK).or (QE K hK)) ha.p hb.p) λσ H Q ⟨sr,q⟩=>⟨sr,wa.mono (λx q1 u1 H1 g1 s1 v1=>⟨s1,wb.mono (λy q2 u2 H2 g2 s2 v2=>by
  have XF:=g2.vr s1 v1;cases XF with
  | int i=>
   cases v2 with
   | int j=>exact .inl ⟨_,rfl,q2 _ H2 (g1.trans g2) s2 (.int _)⟩
   | _=>exact q2.elim
  | str i=>
   cases v2 with
   | str j=>exact .inl ⟨_,rfl,q2.1,q2.2 _ H2 (g1.trans g2) s2 (.str _)⟩
   | _=>exact q2.elim
  | @tup p vs l e r=>
   cases v2 with
   | @tup p' O7 l' e' r'=>
    refine .inr ⟨p,p',vs,O7,rfl,rfl,dz.of e,dz.of e',by rw[r.length,r'.length];exact q2.1,λz=>?_,λ_ z=>?_,λ_ _ q H3 s3 h3 n3=>?_⟩
    ·have z':=(PL.aG.iG r).mp z;subst z';exact q2.2 _ H2 (g1.trans g2) s2 (.tup e' r')
    ·have z':=(PL.aG.iG r').mp z;subst z';have q2:=q2.2;rw[Cb]at q2;exact q2 _ H2 (g1.trans g2) s2 (.tup e r)
    ·exact q2.2 _ H3 ((g1.trans g2).trans (cJ.same s3)) (s2.same s3) (.tup h3 (aG.tk s3.dN (r.append r')))
   | _=>exact q2.elim
  | _=>exact q2.elim) q1⟩) q⟩⟩
theorem my:∀(l m:O PV),(eM l m).length=min l.length m.length
 | [],m=>by rw[eM];simp;intros;simp_all
 | x::l,[]=>by rw[eM];simp;intros;simp_all
 | x::l,y::m=>by rw[eM,An,my l m];simp only[An];omega
def sU(l m:O PV):W (O PV):=.ff (l.length<=sizeLine) (.ret (eM l m))
def SI(h:WN K H u l):∃(b:Bool) (a:cr) (vs:O V),u=.ref a/\aG K [] H vs l/\∀H',a7 K H H'->LC b K H' a vs:=by
 obtain⟨a,vs,e,h | h,r⟩:=h
 ·exact⟨true,a,vs,e,r,λH' t=>(t.f _ _ h).sq⟩
 ·exact⟨false,a,vs,e,r,λH' t=>dz.of (t.t _ _ h)⟩
theorem wB(hK:X.K=K)(hg:Gl X "zip")(hm:X.mg "zip"=bn)(ha:IF X K fs a wl)(hb:IF X K fs b wm)
  (zX:gl [a,b] X.env=(false,lc a X.env)::gl [b] X.env:=by rfl) (qb:gV X b []:=by rfl) (dr:(FS p2 (gl [b] X.env)).any (·.1)=false:=by rfl) :
  qi X K fs (.Tuple Î kk tp) (.Call (.Name "zip" p1) [a,b] [] p2) (.bind wl λl=>.bind wm λm=>sU l m):=
 ⟨PI.imp (Qp K hK hg hm ha.p hb.p zX qb dr) λσ H R ⟨sr,q⟩=>⟨sr,wl.mono (λl q1 u1 H1 g1 s1 v1=>⟨s1,wm.mono (λm q2 u2 H2 g2 s2 v2=>by
  obtain⟨b1,a1,vs,rfl,r1,x1⟩:=SI (v1.tk (g2.dc s1));obtain⟨b2,a2,ws,rfl,r2,x2⟩:=SI v2;have tr:a7 K H2 H2:=a7.refl H2;refine⟨b1,b2,a1,a2,rfl,rfl,⟨vs,x1 H2 tr⟩,⟨ws,x2 H2 tr⟩,q2.2 _ H2 (g1.trans g2) s2 ⟨by rw[my];have:=q2.1;omega,λH' t=>⟨λi pp hp=>?_,vs,ws,x1 H' t,x2 H' t,?_⟩⟩⟩
  ·obtain⟨x,y,hx,hy,rfl⟩:=qk hp;obtain⟨v,h3,h4⟩:=(aG.tk t r1).get hx;obtain⟨v',GX,VZ⟩:=(aG.tk t r2).get hy;refine⟨⟨vs,ws,v,v',x1 H' t,x2 H' t,h3,GX⟩,λz H3 yl=>?_⟩;obtain⟨p,x',y',rfl,hn,rfl,e1,e2⟩:=yl;have e1:=e1 vs (x1 H' t);have e2:=e2 ws (x2 H' t);rw[h3]at e1;rw[GX]at e2;cases e1;cases e2;have sm:=jM hn (.tup [v,v']);exact⟨sm,.tup aO (.cons (VR.tk sm.dN h4) (.cons (VR.tk sm.dN VZ) .nil))⟩
  ·rw[my,r1.length,r2.length];omega) q1⟩) q⟩⟩
variable{el eh:Option im}{lo:W (Option Int)}
def L8(x:PV)(i j:Option Int):W PV:=match x with
 | .tup l=>.ret (.tup (nB l i j))
 | _=>.fail
def K4{i j:Option Int}(h:HT.dj l.length 0 i=0/\HT.dj l.length l.length j=l.length):nB l i j=l:=by
 unfold nB;rw[h.1,h.2];simp
def Od(hK:X.K=K)(he:EF X K fs e w)(hl:OF X K fs el lo)(hh:OF X K fs eh hi):EF X K fs (.Subscript e (.Slice el eh bn p2) pos) (.bind w λx=>.bind lo λi=>.bind hi λj=>L8 x i j):=⟨PE.imp (MC (P1 K hK) he.p hl.p hh.p) λσ H Q ⟨sr,q⟩=>⟨sr,w.mono (λx q1 u1 H1 g1 s1 v1=>⟨s1,lo.mono (λi q2 H2 g2 s2=>⟨s2,hi.mono (λj q3 H3 g3 s3=>by
 have XF:=g3.vr s2 (g2.vr s1 v1);have gg:=(g1.trans g2).trans g3;cases XF with
 | @tup p vs l e r=>
  have Á:=r.length;refine⟨p,vs,rfl,dz.of e,λc=>?_,λc q H4 s4 h4 n4=>?_⟩
  ·rw[Á]at c;have q3:(bd (PV.tup (nB l i j))).run _:=q3;rw[K4 c]at q3;exact q3 _ H3 gg s3 (.tup e r)
  ·exact q3 _ H4 (gg.trans (cJ.same s4)) (s3.same s4) (.tup h4 (aG.tk s4.dN (r.cut i j)))
 | _=>exact q3.elim) q2⟩) q1⟩) q⟩⟩
end
end
end FL
variable{x:PL.PV}
namespace FL
section
variable[dJ]
variable{K:Ab}
section
open Classical in
noncomputable def KH(K:Ab)(H:Hp)(x:PV)(w:ce):Bool:=decide (∃p v,RelV v w/\VR K [] H v p/\jz p x=true)
open Classical in
def N9(hK:X.K=K)(I:Inv X Z σ H s){x p:PV}{v:V}{w:ce}(r:RelV v w)(h:VR K [] H v p):KH K H x w=jz p x:=by
 subst hK;cases e:jz p x with
 | true=>exact decide_eq_true ⟨p,v,r,h,e⟩
 | false=>
  refine decide_eq_false ?_;rintro⟨p',v',r',h',e'⟩;have:=Mh r r';subst this;rw[VR.LB I h h',e']at e;cases e
theorem wZ(hK:X.K=K)(I:Inv X Z σ H s):∀{vs:O V}{ar:O ce}{l:O PV},Vals vs ar->aG K [] H vs l->ar.map (KH K H x)=l.map λy=>jz y x
 | _,_,_,.nil,.nil=>rfl
 | _,_,_,.cons r t,.cons q z=>by rw[Au,Au,N9 hK I r q,wZ hK I t z]
def Rp(x:PV)(l:O PV):Prop:=PV.ic x=true/\eK l=true/\du l<=150
theorem rS(hK:X.K=K)(I:Inv X Z σ H s){v:V}{w:ce}(hx:VR K [] H v x)(rx:RelV v w)(dx:PV.ic x=true)(hu:A.units+150+1 < pc) :
  ∀{vs:O V}{ar:O ce}{l:O PV},Vals vs ar->aG K [] H vs l->eK l=true->du l<=150->∀u∈ar,De A s u w (KH K H x u)
 | _,_,_,.nil,.nil,_,_,u,hu=>by cases hu
 | _,_,_,.cons r t,.cons q z,d,dd,u,hm=>by
  rw[eK,Aw]at d;rw[du]at dd;rcases AG.mp hm with rfl | hm
  ·rw[N9 hK I r q];exact(Wx hK I 150 _ x A _ v _ w ∅ d.1 dx q hx r rx hu).eq
  ·exact rS hK I hx rx dx hu t z d.2 ∅ u hm
end
def oB(x:PV)(l:O PV):Bool:=l.any λy=>jz y x
def Qd(K:Ab)(neg:Bool):R2:=λx y H Q=>∃p vs l xp,y=.ref p/\(cT K H p vs\/dz K H p vs)/\aG K [] H vs l/\VR K [] H x xp/\Rp xp l/\Q (.bl (if neg then !oB xp l else oB xp l)) H
section
theorem any_map'(f:α->Bool):∀l:List α,l.any f=(l.map f).any id
 | []=>rfl
 | x::l=>by rw[B5,Au,B5,any_map' f l];rfl
theorem Va(K:Ab)(hK:X.K=K)(hu:X.A.units+200 < pc):f6 X (kw .In) (Qd K false):=by
 intro Z s σ H x y v u Q I rx ry h;obtain⟨p,vs,l,xp,rfl,hq,hl,hx,ok,q⟩:=h;cases ry;have Y9:X.A.in1.units+150+1 < pc:=by show X.A.units+1+150+1 < _;omega
 have fin:∀{ar:O ce},Vals vs ar->ar.toArray.any (KH K H xp)=oB xp l:=λ{ar} r=>by
  rw[show ar.toArray.any (KH K H xp)=ar.any (KH K H xp) by simp,any_map',wZ hK I r hl,<- any_map'];rfl
 rcases hq with hq | hq
 ·obtain⟨ar,r,pl,hz⟩:=I.list (show cT X.K H p vs by rw[hK];exact hq);refine SeqAt.in_listAt (KH K H xp) pl.isList (λw hw=>rS hK I hx rx ok.1 Y9 r hl ok.2.1 ok.2.2 w (by simpa using hw)) ⟨.bl _,H,I,rfl,?_⟩;rw[fin r];exact q
 ·obtain⟨ar,r,pl,hz⟩:=I.tuple (show dz X.K H p vs by rw[hK];exact hq);refine SeqAt.in_tupleAt (KH K H xp) pl (λw hw=>rS hK I hx rx ok.1 Y9 r hl ok.2.1 ok.2.2 w (by simpa using hw)) ⟨.bl _,H,I,rfl,?_⟩;rw[fin r];exact q
theorem QB(K:Ab)(hK:X.K=K)(hu:X.A.units+200 < pc):f6 X (kw .NotIn) (Qd K true):=by
 intro Z s σ H x y v u Q I rx ry h;obtain⟨p,vs,l,xp,rfl,hq,hl,hx,ok,q⟩:=h;cases ry;have Y9:X.A.in1.units+150+1 < pc:=by show X.A.units+1+150+1 < _;omega
 have fin:∀{ar:O ce},Vals vs ar->ar.toArray.any (KH K H xp)=oB xp l:=λ{ar} r=>by
  rw[show ar.toArray.any (KH K H xp)=ar.any (KH K H xp) by simp,any_map',wZ hK I r hl,<- any_map'];rfl
 rcases hq with hq | hq
 ·obtain⟨ar,r,pl,hz⟩:=I.list (show cT X.K H p vs by rw[hK];exact hq);refine SeqAt.notIn_listAt (KH K H xp) pl.isList (λw hw=>rS hK I hx rx ok.1 Y9 r hl ok.2.1 ok.2.2 w (by simpa using hw)) ⟨.bl _,H,I,rfl,?_⟩;rw[fin r];exact q
 ·obtain⟨ar,r,pl,hz⟩:=I.tuple (show dz X.K H p vs by rw[hK];exact hq);refine SeqAt.notIn_tupleAt (KH K H xp) pl (λw hw=>rS hK I hx rx ok.1 Y9 r hl ok.2.1 ok.2.2 w (by simpa using hw)) ⟨.bl _,H,I,rfl,?_⟩;rw[fin r];exact q
end
end
section
variable[dJ]
variable{K:Ab}
section
variable{a b c:im}
def rm(neg:Bool)(x:PV)(l:O PV):W Bool:=.ff (Rp x l) (.ret (if neg then !oB x l else oB x l))
def Xo(b:Bool):W PV:=.ret (.bl b)
def We:∀σ H Q,fE K fs (.bind wa λx=>.bind wl λl=>.bind (rm neg x l) Xo) σ H Q->SE (Qd K neg) (fE K fs wa) (fQ K fs wl) σ H Q:=λσ H Q ⟨sr,q⟩=>
 ⟨sr,wa.mono (λx q1 u1 H1 g1 s1 v1=>⟨s1,wl.mono (λl q2 u2 H2 g2 s2 v2=>by
  obtain⟨ad,vs,rfl,h,rs⟩:=v2.sq s2;exact⟨ad,vs,l,x,rfl,h,rs,g2.vr s1 v1,q2.1,q2.2 _ H2 (g1.trans g2) s2 (.bl _)⟩) q1⟩) q⟩
def Wb:∀σ H Q,fT K fs (.bind wa λx=>.bind wl λl=>rm neg x l) σ H Q->SE (Qd K neg) (fE K fs wa) (fQ K fs wl) σ H λx H'=>∃k,x=.bl k/\Q k H':=λσ H Q ⟨sr,q⟩=>
 ⟨sr,wa.mono (λx q1 u1 H1 g1 s1 v1=>⟨s1,wl.mono (λl q2 u2 H2 g2 s2 v2=>by
  obtain⟨ad,vs,rfl,h,rs⟩:=v2.sq s2;exact⟨ad,vs,l,x,rfl,h,rs,g2.vr s1 v1,q2.1,_,rfl,q2.2 H2 (g1.trans g2) s2⟩) q1⟩) q⟩
def Jg(hK:X.K=K)(hu:X.A.units+200 < pc)(ha:EF X K fs a wa)(hb:QF X K fs b wl)(hk:nn .In b=false:=by rfl):EF X K fs (.Compare a [.In] [b] pos) (.bind wa λx=>.bind wl λl=>.bind (rm false x l) Xo):=⟨PE.imp (vE (Va K hK hu) ha.p hb.p hk) (We (neg:=false))⟩
def vg(hK:X.K=K)(hu:X.A.units+200 < pc)(ha:EF X K fs a wa)(hb:QF X K fs b wl)(hk:nn .NotIn b=false:=by rfl):TF X K fs (.Compare a [.NotIn] [b] pos) (.bind wa λx=>.bind wl λl=>rm true x l):=⟨PT.imp (vt (QB K hK hu) ha.p hb.p hk) (Wb (neg:=true))⟩
abbrev Rr(neg:Bool)(wa:W PV)(wl:W (O PV)):W PV:=.bind wa λx=>.bind wl λl=>.bind (rm neg x l) Xo
abbrev Rq(neg:Bool)(wa:W PV)(wl:W (O PV)):W Bool:=.bind wa λx=>.bind wl λl=>rm neg x l
def sortI(ns:O Int):O Int:=ns.mergeSort (λa b=>decide (a<=b))
theorem L5(h1:ms.Perm ns)(h2:ms.Pairwise (·<=·)):ms=sortI ns:=by
 have h3:(sortI ns).Perm ns:=CJ ns _;have h4:(sortI ns).Pairwise (λa b=>decide (a<=b)=true):=Ek (λa b c=>by simp;omega) (λa b=>by simp;omega) ns;exact List.Perm.eq_of_pairwise (le:=λa b=>a<=b) (λa b _ _ h h'=>Int.le_antisymm h h') h2 (h4.imp (by simp)) (h1.trans h3.symm)
def vk(l:O PV):W (O PV):=.bind (rh l) λns=>.ff (ns.length < 64) (.ret ((sortI ns).map PV.int))
def Q5(hK:X.K=K)(hg:Gl X "sorted")(hm:X.mg "sorted"=bn)(ha:Lo X K fs e wl)(he:gV X e []:=by rfl)(dr:mr X pos []:=by rfl):LF X K fs (.Call (.Name "sorted" p) [e] [] pos) (.bind wl vk):=⟨PE.imp (fw (Ht K hK) hg hm boot_sorted (a9 ha.p cW he) ⋯ ⋯ he dr) λσ H Q ⟨sr,q⟩=>⟨sr,wl.mono (λl q1 u1 H1 g1 s1 _ v1=>by
 obtain⟨ns,el,hC,q2⟩:=oy (l:=l) q1;obtain⟨a,vs,rfl,h1,r1⟩:=v1 H1 .refl s1;rw[el]at r1;have:=m4 r1;subst this;refine⟨a,ns,rfl,h1,hC,λms a2 a3=>?_⟩;rw[L5 a2 a3];exact ID g1 s1 (m5 _ _ _) q2) q⟩⟩
end
end
section
variable[dJ]
variable{K:Ab}
section
variable{rest:O sn}{T:Type}{out:T->End}{x:Bool}
def VH(l:O PV):PV->W PV
 | .int k=>.ff (0<=k/\k < 1000) (.Ve l[k.toNat]?)
 | _=>.fail
def SF.adu(i:Nat){op:Operator}{ti:Z6}{M:M2}{k:O PV->W T}(hs:fs[i]?=ap (ap (.ol q0 l)))(hK:X.K=K)(hN:X.N[i]?=ap y)(hv:xH X.env.scope y)(hi:EF X K fs ei wi)(he:EF X K fs e we)(ho:PIp X op ti)(hM:M2.Ok K ti M)(hr:∀l',SF X K x (fs.set i (ap (.ol q0 l'))) rest (k l') out)
  (hd:ir y:=by decide) (ib:zS y:=by decide)
  (ha:∀ov iv new,augStore ei ov iv new=(do sw [new,ov,iv] (Ch ov iv new);release [new,ov,iv] [];pure .next):=by intros;rfl) :
  SF X K x fs (.AugAssign (.Subscript (.Name y p) ei jB) op e pos::rest) (.bind wi λn=>.bind (VH l n) λg=>.bind we λv=>.bind (of2 M g v) λr=>.bind (iB l n r) k) out:=
 SF.step (Ql (de hN hv hd ib) hi.p (NM K hK) he.p ho uk ha) λD σ H ⟨sr,q⟩=>by
  obtain⟨a,ws,e1,h1,r1⟩:=cG sr hs;refine⟨_,e1,sr,wi.mono (λn q1 u1 H1 g1 s1 v1=>?_) q⟩;obtain⟨a',ws1,sR,eP,xG⟩:=cG s1 hs;rw[e1]at sR;cases sR;cases v1 with
  | int kk=>
   have q1:(0<=kk/\kk < 1000)/\(W.Ve l[kk.toNat]?).run _:=q1;obtain⟨⟨b1,b2⟩,q1⟩:=q1;cases hg:l[kk.toNat]? with
   | none=>rw[hg]at q1;exact q1.elim
   | some g=>
    rw[hg]at q1;obtain⟨u,hu,ru⟩:=xG.get hg;refine⟨a,ws1,kk,u,rfl,rfl,cT.of eP,b1,b2,hu,s1,we.mono (λv q2 u2 H2 g2 s2 v2=>?_) q1⟩;refine vM hM s2 (g2.vr s1 ru) v2 ((of2 M g v).mono (λr q3 u3 H3 g3 s3 v3=>?_) q2);obtain⟨a',XE,ZU,GX,UI⟩:=cG s3 hs;rw[e1]at ZU;cases ZU;have q3:(match rf l.length kk with | some j=>bd (l.set j r) | none=>W.fail).run _:=q3;cases hj:rf l.length kk with
    | none=>rw[hj]at q3;exact q3.elim
    | some j=>
     rw[hj]at q3;refine⟨a,XE,kk,j,rfl,rfl,GX,by rw[UI.length];exact hj,λH4 sx h4=>?_⟩;obtain⟨s4,g4⟩:=iE s3 hs e1 sx h4 (UI.set v3 j);exact⟨_,k _,hr _,s4,(k _).mono (λt q4=>q4.go (((g1.trans g2).trans g3).f.trans g4) sr s4) q3⟩
  | _=>exact q1.elim
def Up(l:O PV)(i j:PV)(m:O PV):W (O PV):=match i,j with
 | .int a,.int c=>.ff (0<=a/\a<=c/\c<=l.length/\l.length+m.length<=sizeLine) (.ret (l.take a.toNat++m++l.drop c.toNat))
 | _,_=>.fail
def SF.X8(i:Nat){lo hi:im}{k:O PV->W T}(hs:fs[i]?=ap (ap (.ol q0 l)))(hN:X.N[i]?=ap y)(hv:xH X.env.scope y)(he:LF X K fs e wl)(hl:EF X K fs lo wa)(hh:EF X K fs hi wb)(hr:∀l',SF X K x (fs.set i (ap (.ol q0 l'))) rest (k l') out)
  (ha:∀v,xz (.Subscript (.Name y p) (.Slice (ap lo) (ap hi) bn p2) jB) X.env v=(do
   let ov <- sw [v] (lc (.Name y p) X.env)
   let iv <- sw [v,ov] (lc (.Slice (ap lo) (ap hi) bn p2) X.env)
   standAt jB
   sw [v,ov,iv] (Ch ov iv v)
   release [iv,v,ov] []):=by intro _;rfl)
  (hd:ir y:=by decide) (ib:zS y:=by decide)
  (Ď:zn [.Subscript (.Name y p) (.Slice (ap lo) (ap hi) bn p2) jB] e pos.line X.env=pure false:=by rfl) (hw:BT [.Subscript (.Name y p) (.Slice (ap lo) (ap hi) bn p2) jB] e X.env=pure bn:=by rfl)
  (h1:(wn [.Subscript (.Name y p) (.Slice (ap lo) (ap hi) bn p2) jB] X.env).map (·.2)=[xz (.Subscript (.Name y p) (.Slice (ap lo) (ap hi) bn p2) jB) X.env]:=by rfl) :
  SF X K x fs (.Assign [.Subscript (.Name y p) (.Slice (ap lo) (ap hi) bn p2) jB] e pos::rest) (.bind wl λm=>.bind wa λa=>.bind wb λb=>.bind (Up l a b m) k) out:=
 SF.step (FZ he.p (Mz (de hN hv hd ib) hl.p hh.p ha) Ď hw h1) λD σ H ⟨sr,q⟩=>by
  refine⟨sr,wl.mono (λm q1 b vb H1 g1 s1 nb eb rb=>?_) q⟩;obtain⟨a,ws,e1,h1,r1⟩:=cG s1 hs;refine⟨_,e1,s1,wa.mono (λi1 q2 u2 H2 g2 s2 v2=>⟨s2,wb.mono (λj1 q3 u3 H3 g3 s3 v3=>?_) q2⟩) q1⟩;obtain⟨a',XE,ZU,GX,UI⟩:=cG s3 hs;rw[e1]at ZU;cases ZU;have þ:=g3.vr s2 v2;have no:¬cI σ fs b:=sr.noOwn nb;have eb3:=(g2.trans g3).qZ eb no;have rb3:=(g2.trans g3).Ls s1 rb;have ne:a≠b:=λz=>no ⟨i,_,a,hs,rfl,e1,.inl z.symm⟩;cases þ with
  | int aa=>
   cases v3 with
   | int cc=>
    have q3:(0<=aa/\aa<=cc/\cc<=l.length/\l.length+m.length<=sizeLine)/\(k (l.take aa.toNat++m++l.drop cc.toNat)).run _:=q3;obtain⟨⟨c1,c2,c3,c4⟩,q3⟩:=q3;refine⟨a,b,XE,vb,aa,cc,rfl,rfl,rfl,rfl,GX,eb3,ne,c1,c2,by rw[UI.length];exact c3,by rw[UI.length,rb3.length];exact c4,?_⟩;have sx:nP a H3 (upd H3 a (.lst (XE.take aa.toNat++vb++XE.drop cc.toNat))):=λz o n hz=>by rw[au n];exact hz
    obtain⟨s4,g4⟩:=iE s3 hs e1 sx aO (((UI.take aa.toNat).append rb3).append (UI.drop cc.toNat));exact⟨_,k _,hr _,s4,(k _).mono (λt q4=>q4.go (((g1.trans g2).trans g3).f.trans g4) sr s4) q3⟩
   | _=>exact q3.elim
  | _=>exact q3.elim
def Uy(l:O PV)(v:PV):W (O PV):=match v with
 | .int k=>.bind (rh l) λns=>.ff (k∈ns) (.ret ((ns.erase k).map PV.int))
 | _=>.fail
theorem SF.remove(i:Nat){k:O PV->W T}(hs:fs[i]?=ap (ap (.ol q0 l)))(hK:X.K=K)(hN:X.N[i]?=ap y)(hv:xH X.env.scope y)(he:EF X K fs e we)(hr:∀l',SF X K x (fs.set i (ap (.ol q0 l'))) rest (k l') out)
  (hd:ir y:=by decide) (ib:zS y:=by decide) (fN:ss (.Name y p) "remove" X.env (lc (.Name y p) X.env)=lc (.Name y p) X.env:=by rfl)
  (wJ:HWa X cv [e]:=by rfl)
  (fM:TY Â cv:=by rfl) (zW:gV X e []:=by rfl) (iV:mr X cv []:=by rfl)
  (rq:lm (.Call (.Attribute (.Name y p) "remove" Â) [e] [] cv) bn pos.line X.env=pure false:=by rfl) :
  SF X K x fs (.Expr (.Call (.Attribute (.Name y p) "remove" Â) [e] [] cv) pos::rest) (.bind we λv=>.bind (Uy l v) k) out:=
 SF.step (pW (F2 K hK Ci PySem.F.slot_list_remove PySem.F.type_list_remove Gf (de hN hv hd ib) (a9 he.p cW zW) fN wJ fM zW iV) rq) λD σ H ⟨sr,q⟩=>by
  obtain⟨a,ws,e1,h1,r1⟩:=cG sr hs;refine⟨_,e1,.inl ⟨rfl,_,cT.of h1⟩,sr,we.mono (λv q1 u H1 g1 s1 v1=>?_) q⟩;obtain⟨a',uc,sR,eP,xG⟩:=cG s1 hs;rw[e1]at sR;cases sR;cases v1 with
  | int kk=>
   obtain⟨ns,el,hk,q2⟩:=oy (l:=l) q1;subst el;have:=m4 xG;subst this;refine⟨a,ns,kk,rfl,rfl,eP,hk,λH2 sx h2=>?_⟩;obtain⟨s2,g2⟩:=iE s1 hs e1 sx h2 (m5 _ _ (ns.erase kk));exact⟨_,k _,hr _,s2,(k _).mono (λt q3=>q3.go (g1.f.trans g2) sr s2) q2⟩
  | _=>exact q1.elim
end
end
end FL
variable{vs:O (L2.Key×L2.V)}{kvs:O (L2.Key×PL.PV)}{q:L2.Key×PL.PV}
namespace FL
section
variable[dJ]
variable{K:Ab}
abbrev w2(f:PV->PV->W PV)(wa wb:W PV):W PV:=.bind wa λx=>.bind wb λy=>f x y
def spC(K:Ab)(us:O V)(qs:O PV)(fz:O (cr×Obj))(sp:Sp):Sp:=λvs H Q E=>aG K [] H us qs/\Lq H fz/\sp vs H Q E
structure WW(P:sB)(w:ul)(K:Ab)(mg:Str->Option ce)(base:mo)(f:cr)(us:List V)(qs:List PV)(fz:List (cr×Obj))(k:Nat)(ps:List Str)(sp:Sp) where
 fd:EQ
 ok:gc P w K mg base sS k f fd ps (spC K us qs fz sp)
 bi:Binds K fd ps []
 kp:∀h:mo,K.In h->(∀b o,base.get? b=ap o->h.get? b=ap o)->(∀p∈fz,h.get? p.1=ap p.2)->PySem.W.FnAt f h
section
variable{x:Str}{R:Type}{B:(O PV->W R)->W R}{fa:cr}{us:O V}{qs:O PV}{fz:O (cr×Obj)}
def adw(hg:Gl X x)(hm:X.mg x=ap (.ref fa))(hr:AF X K fs es ks B)(hd:ir x:=by decide)(zW:gl (.Name x pos::es) X.env=(false,lc (.Name x pos) X.env)::gl es X.env:=by rfl):AF X K fs (.Name x pos::es) (.f fa [] [] []::ks) B:=by
 obtain⟨wr,hp,hB⟩:=hr.p;refine⟨wr,PA.imp (a9 (vD (v:=.ref fa) hg hm rfl hd) hp zW) λσ H Q ⟨sr,q⟩=>?_,hB⟩;exact⟨sr,wr.mono (λl q2 vs H2 g2 s2 v2=>q2 _ H2 g2 s2 (.f .nil .nil v2)) q⟩
def R0{m:O PV->W PV}{B:(O PV->W PV)->W PV}(i:Nat)(G:WW X.prog X.w X.K X.mg X.base fa us qs fz k ps (Ih K ks m))(hK:X.K=K)(hr:d7 k' X.A)(hk:k<=k')(hs:fs[i]?=ap (ap (.adr fa us qs fz)))(ha:AF X K fs (e::es) ks B)(hW:W'=B m)(hN:X.N[i]?=ap x:=by rfl)(hv:xH X.env.scope x:=by first | exact Ck rfl | exact B9 (Ck rfl) | exact B9 (B9 rfl))(hd:ir x:=by decide)(ib:zS x:=by decide)
  (he:gV X e es:=by rfl) (dr:mr X pos es:=by rfl):EF X K fs (.Call (.Name x p) (e::es) [] pos) W':=by
 subst hW hK;obtain⟨w,hp,hB⟩:=ha.p;rw[hB];refine⟨λZ s σ H Q I ⟨sr,q⟩=>?_⟩;obtain⟨u,e1,r⟩:=sr.at' i _ hs;rcases r with⟨v,e,_⟩ | ⟨a,e,r⟩
 ·cases e
 obtain⟨rfl,rv,rz⟩:a=fa/\aG X.K [] H us qs/\Lq H fz:=r;subst e;refine BC (bp (de hN hv hd ib Z s σ H (λy H1=>y=.ref a/\H1=H) I ⟨_,e1,rfl,rfl⟩) λv s1 ⟨y,H1,I1,r1,ey,eH⟩=>?_);subst ey;subst eH;cases r1;have kz:∀{σ':L2.St}{H':Hp}{s':db},Inv X Z σ' H' s'->Lq H' fz->PySem.W.FnAt a s'.heap:=λJ z=>G.kp _ J.tJ J.bk λp hp=>let ⟨u,e⟩:=z p hp;(J.bj _ _ e).1;refine PySem.W.callWith_F (kz I1 rz) (bp (hp pos Z s1 σ H1 (λvs H2=>Lq H2 fz/\spC X.K us qs fz (Ih X.K ks m) (vs++[]) H2 Q E0) I1 ⟨sr,w.mono (λl q1 vs H1' g1 P8 v1=>?_) q⟩) λus' s2 ⟨vs,H2,I2,r,z2,q2⟩=>⟨kz I2 z2,Md (dvs:=[]) (ds:=[]) (E:=E0) G.ok (hr.mono hk) G.bi .nil SV I2 r q2⟩) he dr;have z1:=rz.tk (g1.dc sr);show Lq H1' fz/\spC X.K us qs fz (Ih X.K ks m) (vs++[]) H1' Q E0;rw[Cb];exact⟨z1,aG.tk (g1.dc sr) rv,z1,P8.tb,l,v1.c P8,(m l).mono (λz q2 u H2 g2 r2=>let ⟨s2,g3⟩:=g2.caller v1 P8;q2 u H2 (g1.trans g3) s2 r2) q1⟩
end
def Gy:PV->W Key
 | .int i=>.ret (.inl i)
 | .str s=>.ret (.inr s)
 | _=>.fail
def pH(kvs:O (Key×PV))(k:Key):Bool:=kvs.any λkv=>decide (kv.1=k)
def pJ(kvs:O (Key×PV))(k:Key):Option PV:=(kvs.find? λkv=>decide (kv.1=k)).map (·.2)
def FY(kvs:O (Key×PV))(k:Key)(v:PV):O (Key×PV):=if pH kvs k=true then kvs.map (λkv=>if kv.1=k then (kv.1,v) else kv) else kvs++[(k,v)]
def cB(K:Ab)(H:Hp)(vs:O (Key×V))(kvs:O (Key×PV)):Prop:=vs.map (·.1)=kvs.map (·.1)/\aG K [] H (vs.map (·.2)) (kvs.map (·.2))
section
def cB.cons_inv{p:Key×V}(h:cB K H (p::vs) (q::kvs)):p.1=q.1/\VR K [] H p.2 q.2/\cB K H vs kvs:=by
 obtain⟨h1,h2⟩:=h;injection h1 with a b;cases h2 with
 | cons r t=>exact⟨a,r,b,t⟩
def cB.mk{p:Key×V}(e:p.1=q.1)(r:VR K [] H p.2 q.2)(h:cB K H vs kvs):cB K H (p::vs) (q::kvs):=⟨by rw[Au,Au,e,h.1],.cons r h.2⟩
theorem cB.ind{C:O (Key×V)->O (Key×PV)->Prop}(h0:C [] [])(h1:∀p q vs kvs,p.1=q.1->VR K [] H p.2 q.2->cB K H vs kvs->C vs kvs->C (p::vs) (q::kvs)):∀{vs kvs},cB K H vs kvs->C vs kvs
 | [],[],_=>h0
 | [],_::_,h=>by simp[cB]at h
 | _::_,[],h=>by simp[cB]at h
 | p::vs,q::kvs,h=>let ⟨a,b,c⟩:=h.cons_inv;h1 p q vs kvs a b c (cB.ind h0 h1 c)
def cB.has(h:cB K H vs kvs)(k:Key):(gH vs k).isSome=pH kvs k:=by
 rw[<- mz];refine cB.ind (C:=λvs kvs=>(vs.any λkv=>decide (kv.1=k))=kvs.any λkv=>decide (kv.1=k)) rfl (λp q vs kvs e _ _ ih=>?_) h;rw[B5,B5,ih,e]
def cB.get(h:cB K H vs kvs)(k:Key)(g:pJ kvs k=ap v):∃u,gH vs k=ap u/\VR K [] H u v:=by
 refine cB.ind (C:=λvs kvs=>pJ kvs k=ap v->∃u,gH vs k=ap u/\VR K [] H u v) (λg=>by simp[pJ]at g) (λp q vs kvs e r _ ih g=>?_) h g;by_cases c:p.1=k
 ·rw[jF c];have c':=e▸c;have:pJ (q::kvs) k=ap q.2:=by simp[pJ,BA,c']
  rw[this]at g;cases g;exact⟨_,rfl,r⟩
 ·rw[jG c];have c':=e▸c;have:pJ (q::kvs) k=pJ kvs k:=by simp[pJ,BA,c']
  exact ih (this▸g)
def cB.put(h:cB K H vs kvs)(k:Key)(r:VR K [] H u v):cB K H (putK vs k u) (FY kvs k v):=by
 have hh:(vs.any λkv=>decide (kv.1=k))=pH kvs k:=by rw[mz];exact h.has k
 unfold putK FY;rw[hh]
 split
 ·refine cB.ind (C:=λvs kvs=>cB K H (vs.map λkv=>if kv.1=k then (kv.1,u) else kv) (kvs.map λkv=>if kv.1=k then (kv.1,v) else kv)) ⟨rfl,.nil⟩ (λp q vs kvs e rr _ ih=>?_) h;rw[Au,Au];by_cases c:p.1=k
  ·rw[if_pos c,if_pos (e▸c)];exact cB.mk e r ih
  ·rw[if_neg c,if_neg (e▸c)];exact cB.mk e rr ih
 ·refine cB.ind (C:=λvs kvs=>cB K H (vs++[(k,u)]) (kvs++[(k,v)])) ⟨rfl,.cons r .nil⟩ (λp q vs kvs e rr _ ih=>cB.mk e rr ih) h
def cB.length(h:cB K H vs kvs):vs.length=kvs.length:=by
 have:=congrArg B4 h.1;simpa using this
end
section
variable{a:im}{rest:O sn}{T:Type}{out:T->End}{x:Bool}
def vK(sr:aR K H σ fs)(hs:fs[i]?=ap (ap (.od kvs))):∃a vs,σ[i]?=ap (ap (.ref a))/\H a=ap (.dK vs)/\cB K H vs kvs:=by
 obtain⟨u,e1,r⟩:=sr.at' i _ hs;rcases r with⟨v,e,_⟩ | ⟨a,e,vs,q1,q2,q3⟩
 ·cases e
 ·subst e;exact⟨a,vs,e1,q1,q2,q3⟩
def SF.abW{k:W T}(hN:X.N.Nodup)(hi:X.N[i]?=ap y)(hx:Loc X.env.scope y)(hr:SF X K x (fs.set i (ap (.od []))) rest k out)(hs:lm (.Dict [] [] p2) (ap (.Name y p')) pos.line X.env=pure false:=by rfl)
  (hf:O1 X y:=by first | exact .inl rfl | exact .inr rfl | assumption):SF X K x fs (.Assign [.Name y p'] (.Dict [] [] p2) pos::rest) k out:=SF.step (vz hN hi hx MF hs hf) λD σ H ⟨sr,q⟩=>λa H1 s1 e1 n1=>by
 have no:=sr.noOwn n1;have s2:=(sr.same s1).vq (t:=.od []) ⟨[],e1,rfl,.nil⟩ no i;exact⟨_,k,hr,s2,k.mono (λt q2=>q2.go (cg.vq (sr.same s1) (cg.same s1 sr) no n1 i) sr s2) q⟩
def Tc{Q:Key->Prop}(r:VR K [] H u v)(q:(Gy v).run Q):∃k,u=kV k/\Q k:=by
 cases r with
 | int i=>exact⟨.inl i,rfl,q⟩
 | str s=>exact⟨.inr s,rfl,q⟩
 | _=>exact q.elim
def Ro(i:Nat)(hs:fs[i]?=ap (ap (.od kvs)))(hN:X.N[i]?=ap y):∀σ H Q,fT K fs (.bind wa λx=>.bind (Gy x) λk=>.ret (if neg then !pH kvs k else pH kvs k)) σ H Q->(fE K fs wa) σ H λu H1=>(XM i) σ H1 λz H2=>∃a o,z=.ref a/\ub H2 a u o/\(∃b,(V.bl (if neg then !o.isSome else o.isSome))=.bl b/\Q b H2):=λσ H Q ⟨sr,q⟩=>
 ⟨sr,wa.mono (λv q1 u H1 g1 s1 v1=>by
  obtain⟨k,rfl,q2⟩:=Tc v1 q1;obtain⟨a,vs,e1,h1,r1⟩:=vK s1 hs;refine⟨_,e1,a,_,rfl,ub.k h1,_,rfl,?_⟩;rw[r1.has k];exact q2 H1 g1 s1) q⟩
theorem XJ(i:Nat)(hs:fs[i]?=ap (ap (.od kvs)))(hu:X.A.units+200 < pc)(ha:EF X K fs a wa)(hN:X.N[i]?=ap y:=by rfl)(hv:xH X.env.scope y:=by first | exact Ck rfl | exact B9 (Ck rfl) | exact B9 (B9 rfl))(hd:ir y:=by decide)(ib:zS y:=by decide)(hk:nn .In (.Name y p)=false:=by rfl) :
  TF X K fs (.Compare a [.In] [.Name y p] pos) (.bind wa λx=>.bind (Gy x) λk=>.ret (pH kvs k)):=⟨PT.imp (UN (U2 ∅ ha.p (de hN hv hd ib)) hk) (Ro (neg:=false) i hs hN)⟩
def UL(kvs:O (Key×PV))(n v:PV):W (O (Key×PV)):=.bind (Gy n) λkk=>.ff (kvs.length < sizeLine) (.ret (FY kvs kk v))
theorem SF.putD(i:Nat){k:O (Key×PV)->W T}(hs:fs[i]?=ap (ap (.od kvs)))(hu:X.A.units+200 < pc)(hN:X.N[i]?=ap y)(hv:xH X.env.scope y)(he:EF X K fs e we)(hi:EF X K fs ei wi)(hr:∀l',SF X K x (fs.set i (ap (.od l'))) rest (k l') out)
  (hd:ir y:=by decide) (ib:zS y:=by decide) (rq:lm e (ap (.Subscript (.Name y p) ei jB)) pos.line X.env=pure false:=by rfl) :
  SF X K x fs (.Assign [.Subscript (.Name y p) ei jB] e pos::rest) (.bind we λv=>.bind wi λn=>.bind (UL kvs n v) k) out:=
 SF.step (Qk ∅ (de hN hv hd ib) hi.p he.p rq) λD σ H ⟨sr,q⟩=>by
  refine⟨sr,we.mono (λv q1 u H1 g1 s1 v1=>?_) q⟩;obtain⟨a,vs,e1,h1,r1⟩:=vK s1 hs;refine⟨_,e1,s1,wi.mono (λn q2 u2 H2 g2 s2 v2=>?_) q1⟩;obtain⟨kk,rfl,hz,q3⟩:=Tc v2 q2;obtain⟨a',O7,sR,eP,xG⟩:=vK s2 hs;rw[e1]at sR;cases sR;refine⟨a,_,rfl,O3.k eP (by rw[xG.length];exact hz),?_⟩;have sx:nP a H2 (upd H2 a (.dK (putK O7 kk u))):=λz o n hz=>by rw[au n];exact hz
  obtain⟨s3,g3⟩:=lK (t':=.od (FY kvs kk v)) s2 hs rfl (by simp) e1 sx λtk=>⟨_,aO,(xG.put kk (g2.vr s1 v1)).1,aG.tk tk (xG.put kk (g2.vr s1 v1)).2⟩;exact⟨_,k _,hr _,s3,(k _).mono (λt q4=>q4.go ((g1.trans g2).f.trans g3) sr s3) q3⟩
end
end
section
variable[dJ]
variable{K:Ab}
def fAs(K:Ab)(fs:bc)(i:Nat)(w:W (O PV)):TS:=λD σ H=>aR K H σ fs/\w.run λl=>∀a vs H',cJ σ fs H H'->aR K H' σ fs->H a=bn->H' a=ap (.lst vs)->aG K [] H' vs l->D.nx (σ.set i (ap (.ref a))) H'
structure AS(X:Cx)(K:Ab)(fs:bc)(st:sn)(i:Nat)(w:W (List PV)):Prop where p:PS X st (fAs K fs i w)
section
variable{st:sn}{rest:O sn}{T:Type}{out:T->End}{x:Bool}{k:O PV->W T}
def SF.as(h:AS X K fs st i wl)(hr:∀l,SF X K x (fs.set i (ap (.ol bn l))) rest (k l) out):SF X K x fs (st::rest) (.bind wl k) out:=SF.step h.p λD σ H ⟨sr,q⟩=>⟨sr,wl.mono (λl q1 a ws H1 g1 s1 n e v1=>by
 have no:=sr.noOwn n;have s2:=s1.vq (t:=.ol bn l) ⟨by simp,ws,e,v1⟩ no i;exact⟨_,k l,hr l,s2,(k l).mono (λt q2=>q2.go (cg.vq s1 g1.f no n i) sr s2) q1⟩) q⟩
def WE(b:Nat)(hs:fs[b]?=ap (ap t))(h:AS X K (fs.set b (ap (.val t.bv))) st i wl)(hb:t.bw=true:=by rfl):AS X K fs st i (.bind wl LV):=⟨λZ s σ H D I ⟨sr,q⟩=>by
 obtain⟨a,o,ob,I2,s2,Ï⟩:=bor I sr hs hb;refine bp (h.p Z s σ _ {nx:=λσ' H1=>∃b vs l',σ'=σ.set i (ap (.ref b))/\cJ σ (fs.set _ (ap (.val t.bv))) (upd H a (.cz ob o)) H1/\aR K H1 σ (fs.set _ (ap (.val t.bv)))/\upd H a (.cz ob o) b=bn/\H1 b=ap (.lst vs)/\aG K [] H1 vs l'/\tS l'=true/\∀a vs H',cJ σ fs H H'->aR K H' σ fs->H a=bn->H' a=ap (.lst vs)->aG K [] H' vs l'->D.nx (σ.set i (ap (.ref a))) H',rt:=D.rt,bk:=D.bk,ct:=D.ct} I2 ⟨s2,wl.mono (λl' q1 b vs H1 g1 s1 n e v1=>⟨b,vs,l',rfl,g1,s1,n,e,v1,q1.1,q1.2⟩) q⟩) λf s1 q1=>?_;cases f with
 | next=>
  obtain⟨σ',H1,I1,b,vs,l',rfl,g1,P8,n,eb,v1,d,q1⟩:=q1;obtain⟨I3,g3,s3,t3,k3⟩:=Ï _ s1 H1 I1 g1 P8;have nb:b≠a:=λy=>by subst y;rw[aO]at n;cases n
  exact⟨_,_,I3,q1 b vs _ g3 s3 (by rw[au nb]at n;exact n) (k3 b vs nb eb) (aG.ny t3 v1 d)⟩
 | ret v=>exact q1
 | brk=>exact q1
 | cont=>exact q1⟩
end
section
variable{c:im}{T2:Type}{wt:PV->W T2}{cU:T2->bc}{tf:T2->W Bool}{te:T2->W PV}
def Z5(hc:X.calm=true)(hN:X.N.Nodup)(y7:X.N[i]?=ap y)(hx:X.env.scope.names.lookup y=ap .local)(S:br X.env.scope X.N sc N' ix)(hi:qi X K fs tg iter wl)(hg:∀cl C s2 H2 fp,GF (eT X sc N' cl C s2 H2 fp) K (bE ix fs) tg is wt cU)(Zm:∀cl C s2 H2 fp t,FF (eT X sc N' cl C s2 H2 fp) K (cU t) É (tf t))(he:∀cl C s2 H2 fp t,EF (eT X sc N' cl C s2 H2 fp) K (cU t) Ã (te t))
  (hf:∀p,f p=.bind (wt p) λt=>.bind (tf t) λk=>if k=true then .bind (te t) λv=>.ret (ap v) else .ret bn) (hl:t4 is (bE ix fs) cU/\∀t,gb (cU t) (bE ix fs)) (y6:∀j∈is,ix[j]?=ap bn)
  (rq:lm (.ListComp Ã [⟨tg,iter,É,0⟩] sc pos) (ap (.Name y px)) mE.line X.env=pure true:=by rfl) (hs:u9 X iter:=by intro _;rfl) :
  AS X K fs (.Assign [.Name y px] (.ListComp Ã [⟨tg,iter,É,0⟩] sc pos) mE) i (.bind wl λl=>lR l f):=
 ⟨PS.imp (yi hc hN y7 hx S hi.p (λcl C s2 H2 fp=>(hg cl C s2 H2 fp).p) (λcl C s2 H2 fp Z s σ H Q I ⟨t,q⟩=>(Zm cl C s2 H2 fp t).p Z s σ H Q I q) (λcl C s2 H2 fp Z s σ H Q I ⟨t,q⟩=>(he cl C s2 H2 fp t).p Z s σ H Q I q) rq hs) λD σ H ⟨sr,q⟩=>
  NZ (K:=K) S rfl hf hl.1 hl.2 y6 σ H _ ⟨sr,q⟩⟩
def WD{tf:PV->W Bool}{te:PV->W PV}(hc:X.calm=true)(hN:X.N.Nodup)(y7:X.N[i]?=ap y)(hx:X.env.scope.names.lookup y=ap .local)(S:br X.env.scope X.N sc N' ix)(hi:qi X K fs tg iter wl)(hg:∀cl C s2 H2 fp,PG (eT X sc N' cl C s2 H2 fp) tg (dD j))(hf:∀cl C s2 H2 fp t,TF (eT X sc N' cl C s2 H2 fp) K ((bE ix fs).set j (ap (.val t))) c (tf t))(he:∀cl C s2 H2 fp t,EF (eT X sc N' cl C s2 H2 fp) K ((bE ix fs).set j (ap (.val t))) Ã (te t))(h0:ix[j]?=ap bn)
  (rq:lm (.ListComp Ã [⟨tg,iter,[c],0⟩] sc pos) (ap (.Name y px)) mE.line X.env=pure true:=by rfl) (hs:u9 X iter:=by intro _;rfl) :
  AS X K fs (.Assign [.Name y px] (.ListComp Ã [⟨tg,iter,[c],0⟩] sc pos) mE) i (.bind wl λl=>lR l λp=>Pb (tf p) (te p)):=
 have h1:(bE ix fs)[j]?=ap bn:=by unfold bE;rw[Ak,h0];rfl
 Z5 (wt:=.ret) (tf:=tf) (te:=te) hc hN y7 hx S hi (λcl C s2 H2 fp=>V2 (hg cl C s2 H2 fp)) (λcl C s2 H2 fp t=>wX (hf cl C s2 H2 fp t)) he (λ_=>rfl) (Nd h1) (λm hj=>by rw[AX]at hj;subst hj;exact h0) rq hs
end
end
end FL
variable{kvs:O (O L2.Key×PL.PV)}
namespace FL
section
variable[dJ]
variable{K:Ab}
def nQ(K:Ab)(H:Hp)(vs:O (O Key×V))(kvs:O (O Key×PV)):Prop:=vs.map (·.1)=kvs.map (·.1)/\aG K [] H (vs.map (·.2)) (kvs.map (·.2))
def Su(K:Ab)(H:Hp)(ob:HO)(v:PV):Prop:=(∃vs kvs,ob=.dK vs/\v=dvK kvs/\cB K H vs kvs)\/∃vs kvs,ob=.dT vs/\v=Ov kvs/\nQ K H vs kvs
def fDv(K:Ab)(fs:bc)(w:W PV):TE:=λσ H Q=>aR K H σ fs/\w.run λv=>∀a ob H',cJ σ fs H H'->aR K H' σ fs->H a=bn->H' a=ap ob->Su K H' ob v->Q (.ref a) H'
structure DVF(X:Cx)(K:Ab)(fs:bc)(e:im)(w:W PV):Prop where p:PE X e (fDv K fs w)
section
variable{σ:L2.St}{fs:bc}{H:Hp}{a:cr}{ob:HO}{v:PV}
def aR.X9(s:aR K H σ fs)(n:¬cI σ fs a)(e:H a=ap ob)(n1:∀vs,ob≠.tup vs)(n2:∀o u,ob≠.cz o u)(n3:ob.nt=true)(o':HO):aR K (upd H a o') σ fs:=⟨s.len,λi t q=>by
 obtain⟨u,h1,h2⟩:=s.at' i t q;exact⟨u,h1,h2.mono (fq o' e n1 n2) (λx b o eb ow hb z _=>by subst eb;rw[au (λy:b=a=>n ⟨i,t,x,q,ow,h1,y▸hb⟩)];exact z)⟩,s.nd,s.tb.Il (λb o n z=>by rw[au n];exact z) e n3 n2⟩
def Su.cz{X:Cx}{Z:O (cr×Obj)}{s:db}{σ':L2.St}(I:Inv X Z σ' H s)(e:H a=ap ob)(d:Su K H ob v):∃u,Inv X Z σ' (upd H a u) s/\VR K [] (upd H a u) (.ref a) v/\(∀vs,ob≠.tup vs)/\(∀o u,ob≠.cz o u)/\ob.nt=true:=by
 rcases d with⟨vs,kvs,rfl,rfl,d1,d2⟩ | ⟨vs,kvs,rfl,rfl,d1,d2⟩
 ·obtain⟨o,I2⟩:=I.IZ e;exact⟨_,I2,.dk aO (Tb d1) (aG.tk (fq _ e (by simp) (by simp)) d2),by simp,by simp,rfl⟩
 ·obtain⟨o,I2⟩:=I.freeze e;exact⟨_,I2,.dt aO (Ta d1) (aG.tk (fq _ e (by simp) (by simp)) d2),by simp,by simp,rfl⟩
end
section
variable{a b c:im}{w:W PV}
def adp(h:DVF X K fs e w):EF X K fs e w:=⟨λZ s σ H Q I ⟨sr,q⟩=>by
 refine bp (h.p Z s σ H (λu H1=>∃a ob v,u=.ref a/\cJ σ fs H H1/\aR K H1 σ fs/\H a=bn/\H1 a=ap ob/\Su K H1 ob v/\∀u H',cJ σ fs H H'->aR K H' σ fs->VR K [] H' u v->Q u H') I ⟨sr,w.mono (λv q1 a ob H1 g1 s1 n e d=>⟨a,ob,v,rfl,g1,s1,n,e,d,q1⟩) q⟩) λu s1 ⟨v,H1,I1,r1,a,ob,v',e,g1,P8,n,ea,d,q1⟩=>?_;subst e;obtain⟨o',I2,vr,n1,n2,n3⟩:=d.cz I1 ea;exact⟨.ref a,_,I2,r1,q1 _ _ (g1.side n _) (P8.X9 (λz=>sr.noOwn n z) ea n1 n2 n3 _) vr⟩⟩
def Iy(kv:O Key×PV):PV:=.tup [.tup (kv.1.map kP),kv.2]
theorem Nt(H:Hp):∀k:O Key,aG K [] H (k.map kV) (k.map kP)
 | []=>.nil
 | .inl i::k=>.cons (.int i) (Nt H k)
 | .inr i::k=>.cons (.str i) (Nt H k)
theorem IM:∀{k:O Key}{vs:O V},aG K [] H vs (k.map kP)->vs=k.map kV
 | [],_,h=>by cases h;rfl
 | .inl i::k,_,h=>by
  cases h with
  | cons x t=>cases x;rw[IM t];rfl
 | .inr i::k,_,h=>by
  cases h with
  | cons x t=>cases x;rw[IM t];rfl
theorem yo:∀{kvs:O (O Key×PV)}{vs:O V},aG K [] H vs (kvs.map Iy)->∃zs:O Pz,vs=zs.map (λz=>V.ref z.pa)/\(∀z∈zs,z.At H)/\zs.map (·.k)=kvs.map (·.1)/\aG K [] H (zs.map (·.v)) (kvs.map (·.2))
 | [],_,h=>by cases h;exact⟨[],rfl,by simp,rfl,.nil⟩
 | kv::kvs,_,h=>by
  cases h with
  | cons x t=>
  obtain⟨zs,z1,z2,z3,z4⟩:=yo t;cases x with
  | @tup p ws _ e r=>
  cases r with
  | cons x1 t1=>
  cases t1 with
  | cons x2 t2=>
  cases t2;cases x1 with
  | @tup b us _ e1 r1=>
  have:=IM r1;subst this;refine⟨⟨p,kv.1,b,_⟩::zs,by rw[Au,z1],λz hz=>?_,by rw[Au,Au,z3],.cons x2 z4⟩;rcases AG.mp hz with rfl | hz
  ·exact⟨e,e1⟩
  ·exact z2 z hz
def Hq(l:O PV):W PV:=⟨λQ=>∃kvs:O (O Key×PV),l=kvs.map Iy/\(kvs.map (·.1)).Nodup/\kvs.length<=1000/\Q (Ov kvs),λf q=>q.imp λkvs h=>⟨h.1,h.2.1,h.2.2.1,f _ h.2.2.2⟩⟩
theorem R7(hK:X.K=K)(hc:X.calm=true)(hu:X.A.units+200 < pc)(hg:Gl X "dict")(hm:X.mg "dict"=bn)(ha:Lo X K fs e wl)(he:gV X e []:=by rfl)(dr:mr X pos []:=by rfl) :
  DVF X K fs (.Call (.Name "dict" p) [e] [] pos) (.bind wl Hq):=⟨PE.imp (kr (Hx K hK hc ∅) hg hm boot_dict (a9 ha.p cW he) ⋯ ⋯ he dr) λσ H Q ⟨sr,q⟩=>⟨sr,wl.mono (λl q1 u H1 g1 s1 v0 v1=>by
  obtain⟨kvs,rfl,nd,hl,q1⟩:=q1;obtain⟨a,vs,rfl,e3,e4⟩:=v1 H1 .refl s1;obtain⟨zs,rfl,z2,z3,z4⟩:=yo e4;have hzl:zs.length=kvs.length:=by have:=congrArg B4 z3;simpa using this
  refine⟨a,zs,rfl,e3,z2,by rw[z3];exact nd,by omega,λp H2 s2 h2 n2=>?_⟩;exact q1 _ _ H2 (g1.trans (cJ.same s2)) (s1.same s2) (g1.there _ n2) h2 (.inr ⟨_,_,rfl,rfl,by rw[AL,<- z3];rfl,by rw[AL];exact aG.tk s2.dN z4⟩)) q⟩⟩
def KY{Q:PV->Prop}(nd:(kvs.map (·.1)).Nodup)(hl:kvs.length<=1000)(q:Q (Ov kvs)):(Hq (kvs.map Iy)).run Q:=⟨kvs,rfl,nd,hl,q⟩
def kU(kvs:O (O Key×PV))(k:O Key):Option PV:=(kvs.find? λkv=>decide (kv.1=k)).map (·.2)
theorem nQ.get{k:O Key}:∀{vs:O (O Key×V)}{kvs:O (O Key×PV)},nQ K H vs kvs->(kU kvs k=bn->gH vs k=bn)/\∀{v},kU kvs k=ap v->∃u,gH vs k=ap u/\VR K [] H u v
 | [],[],_=>⟨λ_=>rfl,λg=>by simp[kU]at g⟩
 | [],_::_,h=>by simp[nQ]at h
 | _::_,[],h=>by simp[nQ]at h
 | p::vs,q::kvs,h=>by
  obtain⟨h1,h2⟩:=h;rw[Au,Au]at h1 h2;injection h1 with e b;cases h2 with
  | cons r t=>
  have ih:=nQ.get (k:=k) (vs:=vs) (kvs:=kvs) ⟨b,t⟩;by_cases c:p.1=k
  ·rw[jF c];have c':=e▸c;have:kU (q::kvs) k=ap q.2:=by simp[kU,BA,c']
   rw[this];refine⟨λz=>(by cases z),λ{v} z=>?_⟩;cases z;exact⟨_,rfl,r⟩
  ·rw[jG c];have c':=e▸c;have:kU (q::kvs) k=kU kvs k:=by simp[kU,BA,c']
   rw[this];exact ih
def cB.get'{k:Key}:∀{vs:O (Key×V)}{kvs:O (Key×PV)},cB K H vs kvs->(pJ kvs k=bn->gH vs k=bn)/\∀{v},pJ kvs k=ap v->∃u,gH vs k=ap u/\VR K [] H u v:=λ{vs kvs} h=>⟨λz=>by
 have:=h.has k;cases e:gH vs k with
 | none=>rfl
 | some u=>
  rw[e]at this;have h2:=this.symm;unfold pJ at z;rw[Option.map_eq_none_iff,List.find?_eq_none]at z;obtain⟨x,hx,ċ⟩:=List.any_eq_true.mp h2;exact absurd ċ (z x hx),λz=>h.get k z⟩
def Te(k:Key)(l:O PV):kP k≠.tup l:=by cases k <;> exact PV.noConfusion
def VD{a b:Key}(h:kP a=kP b):a=b:=by
 cases a <;> cases b <;> simp[kP]at h <;> rw[h]
theorem wA:∀{a b:O Key},a.map kP=b.map kP->a=b
 | [],[],_=>rfl
 | [],_::_,h=>by simp at h
 | _::_,[],h=>by simp at h
 | x::a,y::b,h=>by
  rw[Au,Au]at h;injection h with h1 h2;rw[VD h1,wA h2]
inductive zT:PV->PV->Option PV->Prop
 | k (kvs:List (Key×PV)) (k:Key):kvs≠[]->zT (dvK kvs) (kP k) (pJ kvs k)
 | t (kvs:List (List Key×PV)) (k:List Key):kvs≠[]->zT (Ov kvs) (.tup (k.map kP)) (kU kvs k)
def T8{kvs:O (Key×PV)}(h0:kvs≠[])(h:VR K [] H u (dvK kvs)):∃a o vs,u=.ref a/\H a=ap (.cz o (.dK vs))/\cB K H vs kvs:=by
 have Ý:∀{vs:O (Key×V)}{kvs:O (Key×PV)},(kvs.map λkv=>kP kv.1)=(vs.map λkv=>kP kv.1)->vs.map (·.1)=kvs.map (·.1):=λ{vs kvs} e=>by
  have e:(kvs.map (·.1)).map kP=(vs.map (·.1)).map kP:=by rw[AL,AL];exact e
  exact(wA e).symm
 cases h with
 | @dk a o vs _ _ e k r=>exact⟨a,o,vs,rfl,e,Ý k,r⟩
 | @dt a o vs _ _ e k r=>
  cases kvs with
  | nil=>exact absurd rfl h0
  | cons x l=>cases vs with
   | nil=>simp at k
   | cons y m=>simp at k;exact absurd k.1 (Te _ _)
def LP(h0:kvs≠[])(h:VR K [] H u (Ov kvs)):∃a o vs,u=.ref a/\H a=ap (.cz o (.dT vs))/\nQ K H vs kvs:=by
 have Ý:∀{vs:O (O Key×V)}{kvs:O (O Key×PV)},(kvs.map λkv=>PV.tup (kv.1.map kP))=(vs.map λkv=>PV.tup (kv.1.map kP))->vs.map (·.1)=kvs.map (·.1):=λ{vs kvs} e=>by
  induction kvs generalizing vs with
  | nil=>cases vs with
   | nil=>rfl
   | cons y m=>simp at e
  | cons x l ih=>cases vs with
   | nil=>simp at e
   | cons y m=>
    injection e with e1 e2;injection e1 with e1;rw[Au,Au,wA e1,ih e2]
 cases h with
 | @dt a o vs _ _ e k r=>exact⟨a,o,vs,rfl,e,Ý k,r⟩
 | @dk a o vs _ _ e k r=>
  cases kvs with
  | nil=>exact absurd rfl h0
  | cons x l=>cases vs with
   | nil=>simp at k
   | cons y m=>simp at k;exact absurd k.1.symm (Te _ _)
def zT.ok{z:V}{d y:PV}{r:Option PV}(h:zT d y r)(hu:VR K [] H u d)(hz:VR K [] H z y):∃a o,u=.ref a/\IsD H a/\ub H a z o/\(r=bn->o=bn)/\∀v,r=ap v->∃w,o=ap w/\VR K [] H w v:=by
 cases h with
 | k kvs k h0=>
  obtain⟨a,o,vs,rfl,e,d⟩:=T8 h0 hu;have ez:z=kV k:=by
   cases k with
   | inl i=>cases hz;rfl
   | inr i=>cases hz;rfl
  subst ez;exact⟨a,gH vs k,rfl,.inl ⟨vs,.inr ⟨o,e⟩⟩,.inl ⟨vs,k,.inr ⟨o,e⟩,rfl,rfl⟩,(cB.get' d).1,λv=>(cB.get' d).2⟩
 | t kvs k h0=>
  obtain⟨a,o,vs,rfl,e,d⟩:=LP h0 hu;cases hz with
  | @tup b us _ e1 r1=>
  have:=IM r1;subst this;exact⟨a,gH vs k,rfl,.inr ⟨vs,.inr ⟨o,e⟩⟩,.inr ⟨vs,k,b,.inr ⟨o,e⟩,rfl,e1,rfl⟩,(nQ.get d).1,λv=>(nQ.get d).2⟩
def dgW(d y:PV):W PV:=⟨λQ=>∃v,zT d y (ap v)/\Q v,λf ⟨v,a,q⟩=>⟨v,a,f _ q⟩⟩
def ZX(a b:W PV):W PV:=.bind a λx=>.bind b λy=>dgW x y
theorem Oq(hu:X.A.units+200 < pc)(ha:EF X K fs a wa)(hb:EF X K fs b wb)(hs:WQ b):EF X K fs (.Subscript a b pos) (ZX wa wb):=⟨PE.imp (Qv ∅ ha.p hb.p hs) λσ H Q ⟨sr,q⟩=>⟨sr,wa.mono (λx q1 u1 H1 g1 s1 v1=>⟨s1,wb.mono (λy q2 u2 H2 g2 s2 v2=>by
 obtain⟨v,g,q2⟩:=q2;obtain⟨a,o,rfl,_,g2',_,h⟩:=g.ok (g2.vr s1 v1) v2;obtain⟨w,rfl,vw⟩:=h v rfl;exact⟨a,w,rfl,g2',q2 _ H2 (g1.trans g2) s2 vw⟩) q1⟩) q⟩⟩
def Jk{k:O Key}{Q:PV->Prop}(h:kU kvs k=ap v)(q:Q v):(dgW (Ov kvs) (.tup (k.map kP))).run Q:=⟨v,by rw[<- h];exact .t kvs k (λz=>by subst z;simp[kU]at h),q⟩
def Nh(d:PV):W (O PV):=⟨λQ=>∃kvs:O (O Key×PV),d=Ov kvs/\kvs≠[]/\kvs.length<=1000/\Q (kvs.map λkv=>.tup (kv.1.map kP)),λf q=>q.imp λkvs h=>⟨h.1,h.2.1,h.2.2.1,f _ h.2.2.2⟩⟩
theorem Rk(h:EF X K fs e w):qi X K fs tg e (.bind w Nh):=⟨PI.imp (Mx h.p) λσ H R ⟨sr,q⟩=>⟨sr,w.mono (λx q1 u1 H1 g1 s1 v1=>by
 obtain⟨kvs,rfl,h0,hl,q1⟩:=q1;obtain⟨a,o,vs,rfl,e,d1,d2⟩:=LP h0 v1;have len:vs.length=kvs.length:=by have:=congrArg B4 d1;simpa using this
 refine⟨a,o,vs,rfl,e,q1 _ H1 g1 s1 ⟨ba (by simpa using hl),λH' t=>?_⟩⟩;have e':=t.z _ _ _ e;refine⟨λi p hp=>?_,vs,e',by simp[len]⟩;rw[Ak]at hp;cases z:kvs[i]? with
 | none=>rw[z]at hp;cases hp
 | some kv=>
  rw[z]at hp;have hp:=Option.some.inj hp;subst hp;have hi:=(Am.mp z).1;refine⟨⟨vs,e',by omega⟩,λy H2 yy=>?_⟩;obtain⟨rfl,yy⟩:=yy;obtain⟨b,k,v,rfl,k2,k3⟩:=yy vs e';have ek:k=kv.1:=by
   have h1:(vs.map (·.1))[i]?=ap k:=by rw[Ak,k2];rfl
   rw[d1,Ak,z]at h1;exact(Option.some.inj h1).symm
  subst ek;exact⟨jv.refl _,.tup k3 (Nt _ _)⟩) q⟩⟩
def J3{Q:O PV->Prop}(h0:kvs≠[])(hl:kvs.length<=1000)(q:Q (kvs.map λkv=>.tup (kv.1.map kP))):(Nh (Ov kvs)).run Q:=⟨kvs,rfl,h0,hl,q⟩
end
end
end FL
variable{κ:PyProof.Rows.SortKind}{vs:O A5}{p:Array Nat}
namespace L2
def dM(N:Nat)(P:α->Prop):DK α->Prop
 | .ret a=>P a
 | .ask i j k=>i < N/\j < N/\∀b,dM N P (k b)
theorem dM.mono{N:Nat}{P P':α->Prop}(h:∀a,P a->P' a):∀{t:DK α},dM N P t->dM N P' t
 | .ret a,q=>h a q
 | .ask i j k,q=>⟨q.1,q.2.1,λb=>dM.mono h (q.2.2 b)⟩
theorem dM.bind{N:Nat}{P:α->Prop}{P':β->Prop}{f:α->DK β}(hf:∀a,P a->dM N P' (f a)):∀{t:DK α},dM N P t->dM N P' (t.bind f)
 | .ret a,q=>hf a q
 | .ask i j k,q=>⟨q.1,q.2.1,λb=>dM.bind hf (q.2.2 b)⟩
theorem dM.wp{N:Nat}{P:α->Prop}{cmp:Nat->Nat->(Bool->db->Prop)->db->Prop}{Q:α->db->Prop}(hc:∀i j C,i < N->j < N->(∀b,C b s)->cmp i j C s)(hq:∀a,P a->Q a s):∀{t:DK α},dM N P t->t.kasWp cmp Q s
 | .ret a,q=>hq a q
 | .ask i j k,q=>hc i j _ q.1 q.2.1 λb=>dM.wp hc hq (q.2.2 b)
def cy(N:Nat)(p:Array Nat):Prop:=p.toList.Perm (AE N)
def cy.lt{N:Nat}(h:cy N p)(h0:0 < N)(k:Nat):p.getD k 0 < N:=by
 by_cases c:k < p.size
 ·have:p.getD k 0=p[k]:=by simp[Array.getD,c]
  rw[this];exact AO.mp (h.mem_iff.mp (by simp))
 ·have:p.getD k 0=0:=by simp[Array.getD,c]
  rw[this];exact h0
def cy.rev{N:Nat}(h:cy N p)(i j:Nat):cy N (EB p i j):=(D4.mp (mirror_perm p i j _)).trans h
def cy.bub{N:Nat}(h:cy N p)(i j:Nat):cy N (bubble p i j):=(D4.mp (bubble_perm p i j)).trans h
section
variable{N:Nat}(h0:0 < N)
include h0
theorem Nr(h:cy N p):∀f n,dM N (λ_=>True) (PySem.W.kas_asc p f n)
 | 0,n=>trivial
 | f+1,n=>⟨h.lt h0 _,h.lt h0 _,λb=>by
  cases b with
  | true=>exact trivial
  | false=>exact Nr h f (n+1)⟩
theorem wj:∀f (p:Array Nat) n q,cy N p->dM N (λr=>cy N r.1) (PySem.W.kas_desc f p n q)
 | 0,p,n,q,h=>h
 | f+1,p,n,q,h=>⟨h.lt h0 _,h.lt h0 _,λb=>by
  cases b with
  | true=>
   show dM N _ (if q > 0 then _ else _)
   split
   ·exact wj f _ _ _ (h.rev _ _)
   ·exact wj f _ _ _ h
  | false=>exact⟨h.lt h0 _,h.lt h0 _,λb=>by
    cases b with
    | true=>exact h
    | false=>exact wj f _ _ _ h⟩⟩
def Nj{m:Nat}(h:cy N p):dM N (λr=>cy N r.2) (PySem.W.kas_tail3 n m p):=by
 exact dM.bind (N:=N) (P:=λ_=>True) (P':=λr:Nat×Array Nat=>cy N r.2) (f:=λk=>.ret (k,EB p 0 n)) (λk _=>(show cy N (EB p 0 n) from h.rev _ _)) (Nr h0 (h.rev _ _) _ _)
def Nk{m:Nat}(h:cy N p):dM N (λr=>cy N r.2) (PySem.W.kas_descPart n m p):=dM.bind (λr hr=>by
 split
 ·exact Nj h0 (hr.rev _ _)
 ·exact Nj h0 hr) (wj h0 _ _ _ _ h)
def Rf{m:Nat}(h:cy N p):dM N (λr=>cy N r.2) (PySem.W.kas_count m p):=dM.bind (λn _=>by
 split
 ·exact h
 ·split
  ·exact⟨h.lt h0 _,h.lt h0 _,λb=>by
    cases b with
    | true=>exact h
    | false=>exact Nk h0 (h.rev _ _)⟩
  ·exact Nk h0 h) (Nr h0 h _ _)
theorem wg(h:cy N p)(k:Nat):∀f l r,dM N (λ_=>True) (PySem.W.kas_place p k f l r)
 | 0,l,r=>trivial
 | f+1,l,r=>by
  show dM N _ (if l≥r then _ else _)
  split
  ·exact trivial
  ·exact⟨h.lt h0 _,h.lt h0 _,λb=>by
    cases b with
    | true=>exact wg h k f _ _
    | false=>exact wg h k f _ _⟩
theorem Td:∀f (p:Array Nat) k,cy N p->dM N (cy N) (PySem.W.kas_bin f p k)
 | 0,p,k,h=>h
 | f+1,p,k,h=>dM.bind (λl _=>Td f _ _ (h.bub _ _)) (wg h0 h k _ _ _)
def VC:dM N (cy N) (Fq N):=dM.bind (λr hr=>by
 split
 ·exact Td h0 _ _ _ hr
 ·exact hr) (Rf h0 (List.Perm.refl _))
end
section
theorem Gr{P:PySem.Fin->db->Prop}(ho:s.heap.get? a=ap (tt "list" vs.toArray n))(Zu:vs.length < 64)
  (ĕ:2<=vs.length->∀h',(∀b o,b≠a->s.heap.get? b=ap o->h'.get? b=ap o)->ev (f8 prog w) A (keyKind' vs.toArray) (λk s'=>k=κ/\s'={s with heap:=h'}) (λ_ _=>False) {s with heap:=h'})
  (lq:∀h',(∀b o,b≠a->s.heap.get? b=ap o->h'.get? b=ap o)->∀i j,i < vs.length->j < vs.length->∀C:Bool->db->Prop,(∀b,C b {s with heap:=h'})->ev (f8 prog w) A (keyLt' κ (vs.getD i AN) (vs.getD j AN)) C (λ_ _=>False) {s with heap:=h'})
  (h:∀out:O ce,out.Perm vs->P (.done (.ret .none)) {s with heap:=sortedHeap s.heap a vs out.toArray}) :
  ev (f8 prog w) A (wP.«list.sort» ⟨[.ref a],[]⟩) P E s:=by
 rw[list_sort_plain];have ha:=Aq ho;refine Aa (listItems_at ho rfl ?_);refine Aa (listUpdate_at ho rfl ?_);obtain⟨e1,ho1⟩:∃e1,(s.heap.update a (Bj λ_=>#[])).get? a=ap (tt "list" #[] e1):=⟨_,get?_update_seq ho (λ_=>#[])⟩;refine Aa (seqEpoch_at ho1 rfl ?_);refine Aa (CF ?_);refine Aa (wpAny_newList ?_);refine A6 ?_;have ò:(((s.heap.update a (Bj λ_=>#[])).push (tt "tuple" vs.toArray 0)).push (tt "list" #[] 0)).get? a=ap (tt "list" #[] e1):=by
  rw[Heap.get?_push_ne _ _ _ (by rw[size_push',Eh];exact Ay (Nat.lt_succ_of_lt ha)),Heap.get?_push_ne _ _ _ (by rw[Eh];exact Ay ha)];exact ho1
 have kp:∀b o,b≠a->s.heap.get? b=ap o->(((s.heap.update a (Bj λ_=>#[])).push (tt "tuple" vs.toArray 0)).push (tt "list" #[] 0)).get? b=ap o:=λb o n e=>Ah _ (Ah _ (by rw[E5 _ _ _ _ n];exact e));dsimp only;have hsz:vs.toArray.size=vs.length:=by simp
 by_cases h2:vs.toArray.size < 2
 ·rw[if_pos h2,if_pos h2];refine Aa (Af ?_);refine Aa (Af ?_);dsimp only;refine Aa (seqEpoch_at ò rfl ?_);refine Aa (listUpdate_at ò rfl ?_ (hsz2:=by rw[Array.size_map];show(pairsOf vs).size<=_;rw[pairsOf_size,sizeLine_eq];omega));simp only[bne_self_eq_false,Ag,if_false];refine Af ?_;have e:(arrOf (SortSt.mk' general' (vs.toArray.zip vs.toArray) #[] 7 bn)).map (·.2)=vs.toArray:=by
   apply Eo.mp;simp[List.map_snd_zip]
  show P _ {s with heap:=_};rw[e];exact h vs (List.Perm.refl _)
 ·rw[if_neg h2,if_neg h2];have sQ:2<=vs.length:=by omega
  refine Aa (BH (ĕ sQ _ kp) (λk s0 hk=>?_) λ_ _ x=>x.elim);obtain⟨rfl,rfl⟩:=hk;have hw:(Fq vs.length).kasWp (PySem.W.kas_ask prog w A k vs) (λp s'=>cy vs.length p/\s'={s with heap:=((s.heap.update a (Bj λ_=>#[])).push (tt "tuple" vs.toArray 0)).push (tt "list" #[] 0)}) {s with heap:=((s.heap.update a (Bj λ_=>#[])).push (tt "tuple" vs.toArray 0)).push (tt "list" #[] 0)}:=
   dM.wp (λi j C hi hj hC=>lq _ kp i j hi hj C hC) (λp hp=>⟨hp,rfl⟩) (VC (show 0 < vs.length by omega))
  refine Aa (BH (PySem.W.kat_run (Q:=λmw s'=>∃p:Array Nat,cy vs.length p/\arrOf mw=p.map (PySem.W.kas_item (vs.toArray.zip vs.toArray))/\failedOf mw=bn/\s'={s with heap:=((s.heap.update a (Bj λ_=>#[])).push (tt "tuple" vs.toArray 0)).push (tt "list" #[] 0)})
   rfl sQ Zu (λp' mw s' a1 a2 a3 a4=>⟨p',a4.1,a2,a3,a4.2⟩) hw) ?_ λ_ _ e=>e)
  rintro⟨⟨⟩,mw⟩ s' ⟨p,hp,har,hf,rfl⟩;have acH:=PySem.W.kat_snds rfl har;have Tp:(p.toList.map λi=>vs.getD i AN).Perm vs:=by
   have e:(AE vs.length).map (λi=>vs.getD i AN)=vs:=by
    apply Cf;intro i;by_cases c:i < vs.length
    ·rw[Ak,B1 c,Ae c];show ap (vs.getD i AN)=_;rw[Ar,Ae c];rfl
    ·rw[A4 (by simp;omega),A4 ∅]
   have:=hp.map (λi=>vs.getD i AN);rw[e]at this;exact this
  rw[acH];refine Aa (seqEpoch_at ò rfl ?_);refine Aa (listUpdate_at ò rfl ?_ (hsz2:=by rw[Ai,Tp.length_eq,sizeLine_eq];omega));rw[hf];simp only[bne_self_eq_false,Ag,if_false];exact Af (h _ Tp)
def PZ{l:cr}(hl:s.heap.IsList l vs.toArray)(Zu:vs.length < 64)
  (ĕ:2<=vs.length->∀h',(∀b o,s.heap.get? b=ap o->h'.get? b=ap o)->ev (f8 prog w) A.in1.in1 (keyKind' vs.toArray) (λk s'=>k=κ/\s'={s with heap:=h'}) (λ_ _=>False) {s with heap:=h'})
  (lq:∀h',(∀b o,s.heap.get? b=ap o->h'.get? b=ap o)->∀i j,i < vs.length->j < vs.length->∀C:Bool->db->Prop,(∀b,C b {s with heap:=h'})->ev (f8 prog w) A.in1.in1 (keyLt' κ (vs.getD i AN) (vs.getD j AN)) C (λ_ _=>False) {s with heap:=h'})
  (h:∀out:O ce,out.Perm vs->Q (.ref (s.heap.objs.size+1)) {s with heap:=sortedAll s.heap vs out.toArray}) :
  ev (f8 prog w) A (call (.builtin "sorted") [.ref l]) Q E s:=by
 refine Calls.call_function_entry kind_sorted plain_sorted entry_sorted (args_sorted1 _) ?_;refine Aa (m:=checkCount "sorted" 1 1 _) (Af ?_);refine Aa (collect_list hl ?_);refine Aa (wpAny_newList ?_);have hsz:((s.heap.push (tt "list" #[] 0)).update s.heap.objs.size (Bj (·++vs.toArray))).objs.size=s.heap.objs.size+1:=by
  rw[Eh,size_push']
 have ñ:(((s.heap.push (tt "list" #[] 0)).update s.heap.objs.size (Bj (·++vs.toArray))).push (tt "list" vs.toArray 0)).get? (s.heap.objs.size+1)=ap (tt "list" vs.toArray 0):=by
  rw[<- hsz];exact Ap _ rfl
 have kp:∀b o,s.heap.get? b=ap o->b≠s.heap.objs.size+1/\(((s.heap.push (tt "list" #[] 0)).update s.heap.objs.size (Bj (·++vs.toArray))).push (tt "list" vs.toArray 0)).get? b=ap o:=λb o e=>by
  have lt:=Aq e;refine⟨Ay (Nat.lt_succ_of_lt lt),Ah _ ?_⟩;rw[E5 _ _ _ _ (Ay lt)];exact Ah _ e
 show ev _ _ _ _ _ {s with heap:=((s.heap.push (tt "list" #[] 0)).update s.heap.objs.size (Bj (·++vs.toArray))).push (tt "list" vs.toArray 0)};rw[hsz];refine Aa (A6 (A9 slot_list_sort ⟨_,ñ,rfl⟩ entry_list_sort (Gr (κ:=κ) ñ Zu (λh2 h' k=>?_) (λh' k=>?_) λout hp=>⟨_,rfl,?_⟩) (args_list_sort _)))
 ·exact ĕ h2 h' λb o e=>k b o (kp b o e).1 (kp b o e).2
 ·exact lq h' λb o e=>k b o (kp b o e).1 (kp b o e).2
 ·exact Af ⟨_,rfl,h out hp⟩
end
end L2
variable{i j:Int}{p:Cj}
namespace FL
section
variable[dJ]
variable{K:Ab}
def ox:PV->Bool
 | .tup [.str _,.tup [.int _,.int _]]=>true
 | _=>false
def GP(h:ox x=true):∃s i j,x=.tup [.str s,.tup [.int i,.int j]]:=by
 unfold ox at h
 split at h
 ·exact⟨_,_,_,rfl⟩
 ·cases h
section
def R5(I:Inv X Z σ H s){v:V}{u:ce}(hv:VR X.K [] H v x)(ru:RelV v u)(hx:ox x=true):∃(a b:cr) (st:Str) (i j:Int) (t t1 t2:Tok) (oa ob:Obj) (na nb:Nat),u=.ref a/\s.heap.get? a=ap oa/\oa.cls=.type "tuple"/\oa.data=.seq #[.str st t,.ref b] na/\s.heap.get? b=ap ob/\ob.cls=.type "tuple"/\ob.data=.seq #[.int i t1,.int j t2] nb:=by
 obtain⟨st,i,j,rfl⟩:=GP hx;cases hv with
 | @tup p vs _ e r=>
 cases ru;cases r with
 | cons r1 r2=>
 cases r1;cases r2 with
 | cons r2 r3=>
 cases r3;cases r2 with
 | @tup b ws _ e2 r4=>
 cases r4 with
 | cons r4 r5=>
 cases r4;cases r5 with
 | cons r5 r6=>
 cases r6;cases r5;obtain⟨ar,rv,⟨o,h1,h2,n,h3⟩,_⟩:=I.tuple (dz.of (K:=X.K) e);obtain⟨bQ,rv2,⟨o2,k1,k2,n2,k3⟩,_⟩:=I.tuple (dz.of (K:=X.K) e2);cases rv with
 | cons q1 q2=>
 cases q2 with
 | cons q2 q3=>
 cases q3;cases rv2 with
 | cons m1 m2=>
 cases m2 with
 | cons m2 m3=>
 cases m3;obtain⟨t,rfl⟩:=q1;cases q2;obtain⟨t1,rfl⟩:=m1;obtain⟨t2,rfl⟩:=m2;exact⟨p,b,st,i,j,t,t1,t2,o,o2,n,n2,rfl,h1,h2,h3,k1,k2,k3⟩
end
theorem R3{b a' b':cr}{st mw:Str}{i' j':Int}{t t1 t2 t' X5 X3:Tok}{oa WZ YJ:Obj}{na nb na' ą:Nat}(hu:A.units+1 < pc)
  (h1:s.heap.get? a=ap oa) (h3:oa.data=.seq #[.str st t,.ref b] na) (k1:s.heap.get? b=ap ob) (k2:ob.cls=.type "tuple") (k3:ob.data=.seq #[.int i t1,.int j t2] nb)
  (eP:s.heap.get? a'=ap WZ) (GX:WZ.data=.seq #[.str mw t',.ref b'] na') (ĉ:s.heap.get? b'=ap YJ) (Ĉ:YJ.cls=.type "tuple") (ć:YJ.data=.seq #[.int i' X5,.int j' X3] ą)
  {C:Bool->db->Prop} (hC:∀b,C b s):ev (f8 prog w) A (keyLt' (tuples' true) (.ref a) (.ref a')) C (λ_ _=>False) s:=by
 refine PySem.W.kat_lt h1 h3 eP GX (Fp (De.str_str st t mw t' prog w _ _ (PySem.W.kat_go (λ_=>PySem.W.kat_yes ?_) λ_=>PySem.W.kat_no ?_)))
 ·refine Fp ?_;have hT:s.heap.IsTuple b #[.int i t1,.int j t2]:=⟨ob,k1,k2,nb,k3⟩;have hT':s.heap.IsTuple b' #[.int i' X5,.int j' X3]:=⟨YJ,ĉ,Ĉ,ą,ć⟩;have go:∀e,PySem.W.KatGo prog w A true (decide ((#[DP st t,.ref b]:Array ce).size < (#[DP mw t',.ref b']:Array ce).size)) C (.ref b) (.ref b') [] 1 e s:=λe=>PySem.W.kat_go (λ_=>PySem.W.kat_yes (PySem.W.kat_nil (hC _))) λ_=>PySem.W.kat_no (PySem.W.kat_one _ _ (HT.Gp hT hT' (.cons i t1 (.cons j t2 .nil)) (.cons i' X5 (.cons j' X3 .nil)) ∅ (hC _)));by_cases c:b=b'
  ·subst c;exact Fx (.ref b) prog w _ _ (go _)
  ·refine Fe c (Fg (e:=λk=>if k=0 then i==i' else j==j') hT hT' ∅ λk g1 g2=>?_) prog w _ _ (go _);have:k=0\/k=1:=by simp at g1;omega
   rcases this with rfl | rfl
   ·exact DU i t1 i' X5
   ·exact DU j t2 j' X3
 ·exact oneLt_str (hC _)
section
def Uz(K:Ab):O V->Hp->VK->Prop:=λxs H Q=>∃(p:cr) (vs:O V) (l:O PV),xs=[.ref p]/\cT K H p vs/\aG K [] H vs l/\l.length < 64/\l.all ox=true/\∀m:O PV,m.Perm l->∀ws,aG K [] H ws m->jQ H (.lst ws) Q
def MB{vs:O V}{out:O ce}(r:Vals vs us)(v:aG K [] H vs l)(p:out.Perm us):∃ws m,Vals ws out/\aG K [] H ws m/\m.Perm l:=by
 induction p generalizing vs l with
 | nil=>cases r;cases v;exact⟨[],[],.nil,.nil,.refl _⟩
 | cons x p ih=>
  cases r with
  | cons r1 r2=>
  cases v with
  | cons v1 v2=>
  obtain⟨ws,m,a,b,c⟩:=ih r2 v2;exact⟨_::ws,_::m,.cons r1 a,.cons v1 b,.cons _ c⟩
 | swap x y l'=>
  cases r with
  | cons r1 r2=>
  cases r2 with
  | cons r2 r3=>
  cases v with
  | cons v1 v2=>
  cases v2 with
  | cons v2 v3=>exact⟨_::_::_,_::_::_,.cons r2 (.cons r1 r3),.cons v2 (.cons v1 v3),.swap _ _ _⟩
 | trans p1 p2 ih1 ih2=>
  obtain⟨ws,m,a,b,c⟩:=ih2 r v;obtain⟨uc,m',a',b',c'⟩:=ih1 a b;exact⟨uc,m',a',b',c'.trans c⟩
theorem Hs(hK:X.K=K)(hu:X.A.units+200 < pc):bJ X (.builtin "sorted") (Uz K):=by
 subst hK;intro Z s σ H xs us Q I r h;obtain⟨p,vs,l,rfl,hq,hv,Zu,hd,q⟩:=h;obtain⟨u,rfl,rx⟩:=vals1 r;cases rx;obtain⟨ar,r',pl,hz⟩:=I.list hq;have hl:=r'.length;have Ly:=hv.length;have el:∀i,i < ar.length->∃(a b:cr) (st:Str) (i1 j1:Int) (t t1 t2:Tok) (oa ob:Obj) (na nb:Nat),ar.getD i AN=.ref a/\s.heap.get? a=ap oa/\oa.cls=.type "tuple"/\oa.data=.seq #[.str st t,.ref b] na/\s.heap.get? b=ap ob/\ob.cls=.type "tuple"/\ob.data=.seq #[.int i1 t1,.int j1 t2] nb:=λi hi=>by
  have e1:vs[i]?=ap vs[i]:=Ae ∅;obtain⟨x,ex,vx⟩:=hv.Zv e1;have hx:=Co.mp hd x (BR ex);have ru:RelV vs[i] (ar.getD i AN):=by
   obtain⟨u,hu1,hu2⟩:=Vals.get r' e1;rw[Ar,hu1];exact hu2
  exact R5 I vx ru hx
 refine PZ (κ:=tuples' true) pl.isList ∅ (λh2 h' kp=>?_) (λh' kp i j hi hj C hC=>?_) λout hp=>?_
 ·have Þ:∀l:O ce,(∀v∈l,∃(a:cr) (x:ce) (st:Str) (t:Tok) (oa:Obj) (na:Nat),v=.ref a/\h'.get? a=ap oa/\oa.cls=.type "tuple"/\oa.data=.seq #[.str st t,x] na)->∃fs,PySem.W.KatTups h' l fs/\fs.length=l.length/\∀v∈fs,∃st t,v=DP st t:=by
   intro l
   induction l with
   | nil=>intro _;exact⟨[],trivial,rfl,by simp⟩
   | cons v l ih=>
    intro hl;obtain⟨fs,f1,f2,f3⟩:=ih λy hy=>hl y (.tail _ hy);obtain⟨a,x,st,t,oa,na,rfl,g1,g2,g3⟩:=hl v (.head _);refine⟨.str st t::fs,PySem.W.KatTups.cons g1 g2 g3 rfl f1,by simp[f2],λy hy=>?_⟩;rcases AG.mp hy with rfl | hy
    ·exact⟨st,t,rfl⟩
    ·exact f3 y hy
  obtain⟨fs,f1,f2,f3⟩:=Þ ar λv hv=>by
   obtain⟨i,hi,rfl⟩:=DH hv;obtain⟨a,b,st,i1,j1,t,t1,t2,oa,ob,na,nb,e,h1,h2,h3,_⟩:=el i hi;rw[Ar,Ae hi]at e;exact⟨a,.ref b,st,t,oa,na,e,kp _ _ h1,h2,h3⟩
  refine PySem.W.kat_kind (T:=.type "str") f1 ∅ (λv hv=>?_) ⋯ ⟨rfl,rfl⟩;obtain⟨st,t,rfl⟩:=f3 v hv;exact PySem.W.Looks.now
 ·obtain⟨a,b,st,i1,j1,t,t1,t2,oa,ob,na,nb,e,h1,h2,h3,k1,k2,k3⟩:=el i hi;obtain⟨a',b',mw,i1',j1',t',X5,X3,WZ,YJ,na',ą,e',eP,sQ,GX,ĉ,Ĉ,ć⟩:=el j hj;rw[e,e'];exact R3 (s:={s with heap:=h'}) (by show X.A.units+1+1+1 < _;omega) (kp _ _ h1) h3 (kp _ _ k1) k2 k3 (kp _ _ eP) GX (kp _ _ ĉ) Ĉ ć hC
 ·obtain⟨ws,m,a1,a2,a3⟩:=MB r' hv hp;obtain⟨e,he⟩:=sortedAll_at s.heap ar out.toArray;refine⟨.ref (s.heap.objs.size+1),_,I.laid (t':=s.toks) (λ_ _=>sortedAll_old) (EW _) (show aY X.prog X.w _ _ _ (.lst ws) from⟨?_,out,e,a1,he⟩),rfl,(q m a3 ws a2).at _ (I.bj.fresh (EW _))⟩;rw[a2.length,a3.length_eq];rw[<- Ly];exact hz
def L4(l:O PV):W (O PV):=.ff (l.length < 64/\l.all ox=true) (.any λm=>m.Perm l)
def Q4(hK:X.K=K)(hu:X.A.units+200 < pc)(hg:Gl X "sorted")(hm:X.mg "sorted"=bn)(ha:Lo X K fs e wl)(he:gV X e []:=by rfl)(dr:mr X pos []:=by rfl):LF X K fs (.Call (.Name "sorted" p) [e] [] pos) (.bind wl L4):=
 ⟨PE.imp (fw (Hs hK hu) hg hm boot_sorted (a9 ha.p cW he) ⋯ ⋯ he dr) λσ H Q ⟨sr,q⟩=>⟨sr,wl.mono (λl q1 u1 H1 g1 s1 _ v1=>by
  obtain⟨⟨c1,c2⟩,q2⟩:=q1;obtain⟨a,vs,rfl,h1,r1⟩:=v1 H1 .refl s1;exact⟨a,vs,l,rfl,h1,r1,c1,c2,λm hm ws hw=>ID g1 s1 hw (q2 m hm)⟩) q⟩⟩
end
end
section
variable[dJ]
def jC(ns:O Int):Prop:=∃g s c:Int,ns=[g,s,c]/\0<=g/\0<=s/\s < 2305843009213693951/\0<=c
def drawn(m:Int):W PV:=.any λv=>∃d:Int,v=.int d/\0<=d/\d < m
def bM:PV->W PV
 | .int m=>.ff (0 < m/\m<=2000) (drawn m)
 | _=>.fail
end
section
variable[dJ]
def n5:of2 (aI g) (.int i) (.int j)=.ret (g i j):=wT λQ=>⟨CH,λq=>⟨rfl,q⟩⟩
def pX{C:Int->Int->Prop}:of2 (WJ C g) (.int i) (.int j)=.ff (C i j) (.ret (g i j)):=wT λQ=>⟨λq=>⟨q.1,q.2.2⟩,λq=>⟨q.1,rfl,q.2⟩⟩
section
variable(i j:Int)(a:Bool)(x y:PV)(l m:O PV)(s t:Str)
@[simp] theorem lU:of2 n6 (.int i) (.int j)=.ret (.int (i-j)):=n5
@[simp] theorem N6:of2 mI (.int i) (.int j)=.ff (u8 i j) (.ret (.int (i*j))):=pX
@[simp] theorem adm:of2 oDiv (.int i) (.int j)=.ff (Sx i j) (.ret (.int (i / j))):=pX
@[simp] theorem N7:of2 oMod (.int i) (.int j)=.ff (0 < j) (.ret (.int (i % j))):=pX
@[simp] theorem Wh:of2 yu (.int i) (.int j)=.ff (O5 i j) (.ret (.int (i ^ j.toNat))):=pX
@[simp] theorem rQ:of2 oLt (.int i) (.int j)=.ret (.bl (decide (i < j))):=n5
@[simp] theorem Jb:of2 oLe (.int i) (.int j)=.ret (.bl (decide (i<=j))):=n5
@[simp] theorem TJ:of2 oGt (.int i) (.int j)=.ret (.bl (decide (j < i))):=n5
@[simp] theorem ZM:of2 oGe (.int i) (.int j)=.ret (.bl (decide (j<=i))):=n5
@[simp] theorem ZL:of2 Th (.int i) (.int j)=.ret (.int (i+j)):=n5
def uH:of2 dY x y=.ff (KG x y) (.ret (.bl (jz x y))):=wT λQ=>⟨λq=>⟨q.1,q.2.2⟩,λq=>⟨q.1,rfl,q.2⟩⟩
def N5:of2 qD x y=.ff (KG x y) (.ret (.bl (!jz x y))):=wT λQ=>⟨λq=>⟨q.1,q.2.2⟩,λq=>⟨q.1,rfl,q.2⟩⟩
@[simp] theorem oH:of2 JX x .aN=.ret (.bl x.lj):=wT λQ=>⟨CH,λq=>⟨rfl,q⟩⟩
@[simp] theorem Wm:of2 QO (.str s) (.str t)=.ret (.bl (!(Builtin.Str.occurrences t s 0 t.length 1).isEmpty)):=wT λQ=>⟨CH,λq=>⟨rfl,q⟩⟩
def Wl{c:Nat}(h:cx s.cps.toList i=ap c):of2 JW (.str s) (.int i)=.ff (s.length<=sizeLine) (.ret (.str ⟨#[c]⟩)):=wT λQ=>by
 show(s.length<=sizeLine/\match cx s.cps.toList i with | some c=>_/\_ | none=>False)↔_;rw[h];exact⟨λq=>⟨q.1,q.2.2⟩,λq=>⟨q.1,rfl,q.2⟩⟩
@[simp] theorem dG:addW (.int i) (.int j)=.ret (.int (i+j)):=(rfl)
@[simp] theorem RT:addW (.str s) (.str t)=.ff (s.length+t.length<=sizeLine) (.ret (.str (s++t))):=(rfl)
@[simp] theorem RS:addW (.tup l) (.tup m)=.ff (l.length+m.length<=sizeLine) (.ret (.tup (l++m))):=(rfl)
@[simp] theorem oE:vO (.int i)=.ret (.int (-i)):=(rfl)
@[simp] theorem aW:Xp (.bl a)=.ret a:=(rfl)
@[simp] theorem oI(w:W PV):kg (.bl true) w=w:=(rfl)
@[simp] theorem Xm(w:W PV):kg (.bl false) w=.ret (.bl false):=(rfl)
@[simp] theorem jb(w:W PV):Lf (.bl true) w=w:=(rfl)
@[simp] theorem RQ(w:W PV):Lf (.bl false) w=.ret (.bl false):=(rfl)
@[simp] theorem Wi:QS (.bl a)=.ret (.bl (!a)):=(rfl)
@[simp] theorem aU:cF (.bl a)=.ret a:=(rfl)
@[simp] theorem aa3:cF (.int i)=.ret (i != 0):=(rfl)
@[simp] theorem aa2:cF .aN=.ret false:=(rfl)
@[simp] theorem aa1:cF (.tup l)=.ret (!l.isEmpty):=(rfl)
@[simp] theorem aa4:cF (.cl l)=.ret (!l.isEmpty):=(rfl)
@[simp] theorem az:ay (.tup l)=.ret l:=(rfl)
@[simp] theorem cP:ay (.cl l)=.ret l:=(rfl)
@[simp] theorem RJ:QY (.cl l)=.ret l:=(rfl)
@[simp] theorem bf:Tg l (.int i)=.Ve (cx l i):=(rfl)
@[simp] theorem wY:v8 l=.ret (.int l.length):=(rfl)
@[simp] theorem Hb:pq l=.ret (.tup l):=(rfl)
@[simp] theorem TK:Xo a=.ret (.bl a):=(rfl)
@[simp] theorem qe:part (.int i)=.ret (ap i):=(rfl)
@[simp] theorem oD:sX (.tup [x,y])=.ret (x,y):=(rfl)
@[simp] theorem Wf(z u:PV):un4 (.tup [x,y,z,u])=.ret (x,y,z,u):=(rfl)
@[simp] theorem RP(k:Kd):cZ k (.int i)=.ret (.bl (k.is (.int i))):=(rfl)
@[simp] theorem cR(k:Kd):cZ k (.str s)=.ret (.bl (k.is (.str s))):=(rfl)
@[simp] theorem cQ(k:Kd):cZ k (.tup l)=.ret (.bl (k.is (.tup l))):=(rfl)
@[simp] theorem abc(k:Kd):cZ k (.cl l)=.ret (.bl (k.is (.cl l))):=(rfl)
@[simp] theorem Jc(k:Kd):cZ k (.bl a)=.ret (.bl (k.is (.bl a))):=(rfl)
@[simp] theorem abb(k:Kd):cZ k .aN=.ret (.bl (k.is .aN)):=(rfl)
@[simp] theorem bq:qC cS [.tup l]=.ret (.int l.length):=wT λQ=>⟨CH,λq=>⟨rfl,q⟩⟩
@[simp] theorem i7:qC cS [.cl l]=.ret (.int l.length):=wT λQ=>⟨CH,λq=>⟨rfl,q⟩⟩
@[simp] theorem RK:qC cS [.str s]=.ff (s.length<=sizeLine) (.ret (.int s.length)):=wT λQ=>⟨λq=>⟨q.1,q.2.2⟩,λq=>⟨q.1,rfl,q.2⟩⟩
@[simp] theorem Wn:qC OM [.int i]=.ret (.int (if i < 0 then -i else i)):=wT λQ=>⟨CH,λq=>⟨rfl,q⟩⟩
@[simp] theorem abd:qC xo [.int i]=.ret (.int i):=wT λQ=>⟨CH,λq=>⟨rfl,q⟩⟩
@[simp] theorem i9:qC xo [.bl a]=.ret (.int (if a then 1 else 0)):=wT λQ=>⟨CH,λq=>⟨rfl,q⟩⟩
@[simp] theorem Wk:qC OL [.int i,.int j]=.ret (.int (if j > i then j else i)):=wT λQ=>⟨CH,λq=>⟨rfl,q⟩⟩
@[simp] theorem Wj:qC OK [.int i,.int j]=.ret (.int (if j < i then j else i)):=wT λQ=>⟨CH,λq=>⟨rfl,q⟩⟩
@[simp] theorem rP(p q:Option Int):L8 (.tup l) p q=.ret (.tup (nB l p q)):=(rfl)
@[simp] theorem aa5:Gy (.int i)=.ret (.inl i):=(rfl)
@[simp] theorem RL:Gy (.str s)=.ret (.inr s):=(rfl)
@[simp] theorem i6:jN (.int j)=.ff (okN 0 j) (.ret (hZ 0 j.toNat)):=(rfl)
@[simp] theorem Ja(k:Int):Im (.int i) (.int j) (.int k)=.ff (k = -1/\okN j i) (.ret (eS i (i-j).toNat)):=(rfl)
@[simp] theorem N3:FV (.str s)=.ff (s.cps.size<=sizeLine) (.ret (s.cps.toList.map λc=>.str ⟨#[c]⟩)):=(rfl)
@[simp] theorem N4:vB (l++[x])=.ret (l,x):=by unfold vB;simp
@[simp] theorem Wg:Qb l (.int i)=.ff (-(2 ^ 63)<=i/\i < 2 ^ 63/\l.length*i.toNat<=sizeLine) (.ret (Al i.toNat l).flatten):=(rfl)
@[simp] theorem RN:Kd.is .int (.int i)=true:=(rfl)
@[simp] theorem aa9:Kd.is .int (.bl a)=true:=(rfl)
@[simp] theorem aba:Kd.is .bool (.bl a)=true:=(rfl)
@[simp] theorem RO:Kd.is .bool (.int i)=false:=(rfl)
@[simp] theorem eB:Kd.is .str (.str s)=true:=(rfl)
@[simp] theorem gD:Kd.is .str (.tup l)=false:=(rfl)
@[simp] theorem aa8:Kd.is .str (.int i)=false:=(rfl)
@[simp] theorem i8:Kd.is .tup (.tup l)=true:=(rfl)
@[simp] theorem RM:Kd.is .tup (.str s)=false:=(rfl)
@[simp] theorem aa6:Kd.is .tup (.int i)=false:=(rfl)
@[simp] theorem aa7:Kd.is .tup (.bl a)=false:=(rfl)
@[simp] theorem dE(h0:0 < i)(h1:i<=2000):bM (.int i)=drawn i:=pr ⟨h0,h1⟩
def bZ{m:Int}{Q:PV->Prop}(h:∀d:Int,0<=d->d < m->Q (.int d)):(drawn m).run Q:=λv ⟨d,e,h0,h1⟩=>e▸h d h0 h1
end
namespace W
variable{α β:Type}
def le(a b:W α):Prop:=∀Q,b.run Q->a.run Q
def le.refl(a:W α):a.le a:=λ_ h=>h
def le.of_eq{a b:W α}(h:a=b):a.le b:=h▸le.refl a
def le.ret{a:W α}{v:α}{f:α->W β}{b:W β}(h:a.le (.ret v))(hf:(f v).le b):(a.bind f).le b:=λQ q=>h _ (hf Q q)
def le.use{a:W α}{v:α}{Q:α->Prop}(h:a.le (.ret v))(q:Q v):a.run Q:=h _ q
end W
section
variable{S R:Type}
@[simp] theorem ZE(s:S)(f:PV->S->W S):di [] s f=.ret s:=(rfl)
@[simp] theorem Xg(x:PV)(r:O PV)(s:S)(f:PV->S->W S):di (x::r) s f=.bind (f x s) λs'=>di r s' f:=(rfl)
theorem rK{f:PV->S->W S}{Q:S->Prop}(I:O PV->S->Prop):∀{l:O PV}{s:S},I l s->(∀x r s,I (x::r) s->(f x s).run (I r))->(∀s,I [] s->Q s)->(di l s f).run Q
 | [],s,h0,_,he=>he s h0
 | x::r,s,h0,hs,he=>(f x s).mono (λs' h=>rK I h hs he) (hs x r s h0)
theorem zh{f:PV->S->W (Lp S R)}{Q:Lp S R->Prop}(I:O PV->S->Prop):∀{l:O PV}{s:S},I l s->(∀x r s,I (x::r) s->(f x s).run λo=>match o with | .go s'=>I r s' | .out t=>Q (.out t))->(∀s,I [] s->Q (.go s))->(FL.d6 l s f).run Q
 | [],s,h0,_,he=>he s h0
 | x::r,s,h0,hs,he=>(f x s).mono (λo h=>match o,h with
  | .go s',h=>zh I h hs he
  | .out t,h=>h) (hs x r s h0)
theorem iY{f:PV->S->W S}{Q:S->Prop}(I:Nat->S->Prop){s:S}(h0:I 0 s)(hs:∀(i:Nat) (x:PV) s,l[i]?=ap x->I i s->(f x s).run (I (i+1)))(he:∀s,I l.length s->Q s):(di l s f).run Q:=by
 refine rK (λr s=>∃i,i<=l.length/\r=l.drop i/\I i s) ⟨0,Bn _,rfl,h0⟩ (λx r s ⟨i,hi,e,h⟩=>?_) (λs ⟨i,hi,e,h⟩=>?_)
 ·have lq:i < l.length:=by
   rcases C4 i l.length with h | h
   ·exact h
   ·rw[Ey h]at e;cases e
  rw[Bo lq]at e;injection e with e1 e2;subst e1;exact(f _ s).mono (λs' h'=>⟨i+1,lq,e2,h'⟩) (hs i _ s (Ae lq) h)
 ·have:i=l.length:=by
   have:=congrArg B4 e;rw[Dj]at this;simp at this;omega
  subst this;exact he s h
theorem RH{f:PV->S->W (Lp S R)}{Q:Lp S R->Prop}(I:Nat->S->Prop){s:S}(h0:I 0 s)(hs:∀(i:Nat) (x:PV) s,l[i]?=ap x->I i s->(f x s).run λo=>match o with | .go s'=>I (i+1) s' | .out t=>Q (.out t))(he:∀s,I l.length s->Q (.go s)):(FL.d6 l s f).run Q:=by
 refine zh (λr s=>∃i,i<=l.length/\r=l.drop i/\I i s) ⟨0,Bn _,rfl,h0⟩ (λx r s ⟨i,hi,e,h⟩=>?_) (λs ⟨i,hi,e,h⟩=>?_)
 ·have lq:i < l.length:=by
   rcases C4 i l.length with h | h
   ·exact h
   ·rw[Ey h]at e;cases e
  rw[Bo lq]at e;injection e with e1 e2;subst e1;exact(f _ s).mono (λo h'=>match o,h' with
   | .go s',h'=>⟨i+1,lq,e2,h'⟩
   | .out t,h'=>h') (hs i _ s (Ae lq) h)
 ·have:i=l.length:=by
   have:=congrArg B4 e;simp at this;omega
  subst this;exact he s h
def zg{f:PV->S->W S}{Q:S->Prop}(I:Nat->S->Prop){s:S}(h0:I 0 s)(hs:∀(i:Nat) s,i < n->I i s->(f (.int (i:Int)) s).run (I (i+1)))(he:∀s,I n s->Q s):(di (hZ 0 n) s f).run Q:=
 iY I h0 (λi x s hx h=>by obtain⟨hi,rfl⟩:=oA hx;rw[Ez];exact hs i s hi h) (λs h=>he s (by rw[kK]at h;exact h))
def NT{f:PV->S->W (Lp S R)}{Q:Lp S R->Prop}(I:Nat->S->Prop){s:S}(h0:I 0 s)(hs:∀(i:Nat) s,i < n->I i s->(f (.int (i:Int)) s).run λo=>match o with | .go s'=>I (i+1) s' | .out t=>Q (.out t))(he:∀s,I n s->Q (.go s)):(FL.d6 (hZ 0 n) s f).run Q:=
 RH I h0 (λi x s hx h=>by obtain⟨hi,rfl⟩:=oA hx;rw[Ez];exact hs i s hi h) (λs h=>he s (by rw[kK]at h;exact h))
theorem lG{c:S->W Bool}{b:S->W S}{Q:S->Prop}(I:Nat->S->Prop){s:S}(h0:I n s)(hs:∀n s,I n s->(c s).run λk=>if k=true then (b s).run (λs'=>∃m,m < n/\I m s') else Q s):(qm c b s).run Q:=by
 refine⟨n+1,?_⟩;have:∀k n s,n < k->I n s->(lH c b k s).run Q:=by
  intro k
  induction k with
  | zero=>intro n s h;omega
  | succ k ih=>
   intro n s hn h;refine(c s).mono (λz q=>?_) (hs n s h);cases z with
   | true=>exact(b s).mono (λs' ⟨m,hm,h'⟩=>ih m s' ∅ h') (show(b s).run _ from q)
   | false=>exact q
 exact this (n+1) n s ∅ h0
theorem FE{c:S->W Bool}{b:S->W (Lp S R)}{Q:Lp S R->Prop}(I:Nat->S->Prop){s:S}(h0:I n s)(hs:∀n s,I n s->(c s).run λk=>if k=true then (b s).run (λo=>match o with | .go s'=>∃m,m < n/\I m s' | .out t=>Q (.out t)) else Q (.go s)):(FL.qo c b s).run Q:=by
 refine⟨n+1,?_⟩;have:∀k n s,n < k->I n s->(iu c b k s).run Q:=by
  intro k
  induction k with
  | zero=>intro n s h;omega
  | succ k ih=>
   intro n s hn h;refine(c s).mono (λz q=>?_) (hs n s h);cases z with
   | true=>exact(b s).mono (λo q=>match o,q with
    | .go s',⟨m,hm,h'⟩=>ih m s' ∅ h'
    | .out t,q=>q) (show(b s).run _ from q)
   | false=>exact q
 exact this (n+1) n s ∅ h0
theorem vQ{f:PV->W PV}{g:PV->PV}:∀{l:O PV},(∀x∈l,f x=.ret (g x))->bN l f=.ret (l.map g)
 | [],_=>rfl
 | x::r,h=>by
  show am (f x) (λy=>am (bN r f) λl=>bd (y::l))=_;rw[h x (.head _),vQ λy hy=>h y (.tail _ hy)];rfl
theorem Gw{g:PV->Option PV}:∀{l:O PV},(∀x∈l,f x=.ret (g x))->lR l f=.ret (l.filterMap g)
 | [],_=>rfl
 | x::r,h=>by
  show am (f x) (λo=>am (lR r f) λl=>bd (o.toList++l))=_;rw[h x (.head _),Gw λy hy=>h y (.tail _ hy),Bv];cases g x <;> rfl
@[simp] theorem kR(bs:O Bool):tX (bs.map PV.bl)=.ret (.bl (bs.all id)):=by unfold tX;rw[Jp];rfl
theorem all_map(f:PV->Bool)(l:O PV):tX (l.map λx=>.bl (f x))=.ret (.bl (l.all f)):=by
 have:(l.map λx=>PV.bl (f x))=(l.map f).map PV.bl:=by rw[AL];rfl
 rw[this,kR,List.all_map];rfl
end
section
variable(i j:Int)(a b:Bool)(x y:PV)(l m:O PV)(s t:Str)
@[simp] theorem Tz:jz (.int i) (.int j)=(i==j):=by rw[jz]
@[simp] theorem NY:jz (.str s) (.str t)=(s==t):=by rw[jz]
@[simp] theorem TC:jz (.bl a) (.bl b)=(a==b):=by rw[jz]
@[simp] theorem Tx:jz (.tup l) (.tup m)=eZ l m:=by rw[jz]
@[simp] theorem aeu:jz (.cl l) (.cl m)=eZ l m:=by rw[jz]
@[simp] theorem V8:eZ [] []=true:=by rw[eZ]
@[simp] theorem NX:eZ (x::l) (y::m)=(jz x y&&eZ l m):=by rw[eZ]
@[simp] theorem aaY:PV.ic (.int i)=true:=by rw[PV.ic] <;> simp
@[simp] theorem adi:PV.ic (.bl a)=true:=by rw[PV.ic] <;> simp
@[simp] theorem aaW:PV.ic (.str s)=true:=by rw[PV.ic] <;> simp
@[simp] theorem aaX:PV.ic .aN=true:=by rw[PV.ic] <;> simp
@[simp] theorem aaV:PV.ic (.tup l)=eK l:=by rw[PV.ic]
@[simp] theorem adh:PV.ic (.cl l)=eK l:=by rw[PV.ic]
@[simp] theorem ZF:eK []=true:=by rw[eK]
@[simp] theorem Xh:eK (x::l)=(PV.ic x&&eK l):=by rw[eK]
@[simp] theorem ZK:PV.f7 (.int i)=0:=by rw[PV.f7] <;> simp
@[simp] theorem aa0:PV.f7 (.bl a)=0:=by rw[PV.f7] <;> simp
@[simp] theorem ZI:PV.f7 (.str s)=0:=by rw[PV.f7] <;> simp
@[simp] theorem ZJ:PV.f7 .aN=0:=by rw[PV.f7] <;> simp
@[simp] theorem ZH:PV.f7 (.tup l)=du l+1:=by rw[PV.f7]
@[simp] theorem aaZ:PV.f7 (.cl l)=du l+1:=by rw[PV.f7]
@[simp] theorem Xj:du []=0:=by rw[du]
@[simp] theorem Wa:du (x::l)=max (PV.f7 x) (du l):=by rw[du]
def zm:KG (.int i) (.int j):=⟨by simp,by simp,by simp⟩
@[simp] theorem dF:of2 dY (.int i) (.int j)=.ret (.bl (i==j)):=by rw[uH,pr (zm i j),Tz]
@[simp] theorem oG:of2 qD (.int i) (.int j)=.ret (.bl (!(i==j))):=by rw[N5,pr (zm i j),Tz]
@[simp] theorem adl:of2 dY (.bl a) (.bl b)=.ret (.bl (a==b)):=by rw[uH,pr ⟨by simp,by simp,by simp⟩,TC]
@[simp] theorem adk:of2 qD (.bl a) (.bl b)=.ret (.bl (!(a==b))):=by rw[N5,pr ⟨by simp,by simp,by simp⟩,TC]
end
theorem j5:∀{l:O PV},eK l=true↔∀x∈l,PV.ic x=true
 | []=>by simp
 | x::l=>by rw[eK,Aw,j5 (l:=l)];simp
theorem j7:∀{l:O PV},(∀x∈l,PV.f7 x<=n)->du l<=n
 | [],_=>by simp
 | x::l,h=>by
  have h1:=h x (.head _);have h2:=j7 (l:=l) λy hy=>h y (.tail _ hy);rw[du];omega
instance (priority:=10) afh:dJ:=⟨[]⟩
end
end FL
variable{x:BU}
namespace FL
section
variable[dJ]
structure EV where
 P:sB
 w:ul
 K:Ab
 mg:Str->Option ce
 base:mo
structure DF where
 x:Str
 s:sn
 ps:List Str
 k:Nat
 sp:Ab->Sp
abbrev DF.C(d:DF)(v:EV):=Sv v.P v.w v.K v.mg v.base d.x d.k d.ps (d.sp v.K)
structure DI(v:EV)(d:DF) where
 f:cr
 fd:EQ
 fn:Pf v.K d.x d.x d.s f fd
 bi:Binds v.K fd d.ps []
 at':v.mg d.x=ap (.ref f)
abbrev DI.O{v:EV}{d:DF}(D:DI v d):Prop:=gc v.P v.w v.K v.mg v.base sS d.k D.f D.fd d.ps (d.sp v.K)
def DI.c{v:EV}{d:DF}(D:DI v d)(h:D.O):d.C v:=⟨D.f,D.fd,h,D.bi,D.fn.kp,D.at'⟩
def DI.cN{v:EV}{d:DF}(D:DI v d)(h:gc v.P v.w v.K v.mg v.base sS k D.f D.fd d.ps sp):Sv v.P v.w v.K v.mg v.base d.x k d.ps sp:=⟨D.f,D.fd,h,D.bi,D.fn.kp,D.at'⟩
def DI.cA{v:EV}{d:DF}(D:DI v d)(h:D.O):WW v.P v.w v.K v.mg v.base D.f [] [] [] d.k d.ps (d.sp v.K):=⟨D.fd,h.imp λ_ _ _ _ z=>z.2.2,D.bi,λ_ hK _ _=>let ⟨_,_,_,_,_,_,_,_,_,_,l,_⟩:=D.fn.ex;⟨_,_,_,_,hK _ _ l⟩⟩
structure DX(K:Ab)(x:Str)(st:sn):Prop where
 ex:∃f fd,AD K ga x=ap (ap (.ref f))/\Pf K x x st f fd
abbrev dnm(s:sn):Str:=match s with
 | .FunctionDef x _ _ _ _ _ _ _ _ _=>x
 | _=>""
def dx{K:Ab}{st:sn}{f:cr}{kV:ce}(a:AD K ga x=ap (ap (.ref f)))(l:K.lookup f=ap ⟨oc,od,.func (BP x x (eD st) (cE st) (aH st) .none kV Ç pm an eE ct),QA⟩)
  (c:DS K eE x=true) (k:DR K (.ref f)=true):DX K x st:=⟨f,_,a,V6 l c k⟩
def Zy{N P:O Str}(h1:sc.kind=.function:=by rfl)(h2:sc.isCoroutine=false:=by rfl)(h3:sc.isGenerator=false:=by rfl)(h4:N.Nodup:=by decide +kernel)(h5:N.take P.length=P:=by rfl)(h6:∀x∈P,sc.names.lookup x=ap .local\/sc.names.lookup x=ap .cell:=by decide +kernel)(h7:∀y∈sc.names,y.2≠.free:=by decide +kernel):da N P sc:=⟨h1,h2,h3,h4,h5,h6,h7⟩
def lcs{N:O Str}(h1:sc.kind=.function:=by rfl)(h2:∀y∈sc.names,y.2≠.cell:=by decide +kernel)(h3:∀y∈sc.names,y.2=.local->sc.names.lookup y.1=ap .local:=by decide +kernel)(h4:∀y∈sc.names,y.2=.free->(Xs.names.lookup y.1=ap .cell\/Xs.names.lookup y.1=ap .free):=by decide +kernel)(h5:N'.Nodup:=by decide +kernel)(h6:ix.length=N'.length:=by rfl)
  (h7:((ix.zip N').all λp=>match p.1 with | none=>true | some j=>decide (N[j]?=ap p.2)&&decide (sc.names.lookup p.2=ap .free))=true:=by decide +kernel):br Xs N sc N' ix:=⟨h1,h2,h3,h4,h5,h6,h7⟩
abbrev pC(l:O (Str×ww)):o0:={kind:=.function,names:=(Cd ".0",.local)::l,isGenerator:=false,isCoroutine:=false,more:=[]}
abbrev lo:ww:=.local
abbrev gi:ww:=.globalImplicit
abbrev fr:ww:=.free
def Ga:O AK->Nat
 | []=>0
 | .p _::ks=>Ga ks+1
 | _::ks=>Ga ks
theorem mK:∀{ks:O AK}{i:Nat},ks[i]?=ap (.p φ)->Ga ks≠0
 | [],i,h=>by simp at h
 | .p _::_,_,_=>Nat.succ_ne_zero _
 | .v::ks,0,h=>by simp at h
 | .f _ _ _ _::ks,0,h=>by simp at h
 | .v::ks,i+1,h=>mK (ks:=ks) (i:=i) (by simpa using h)
 | .f _ _ _ _::ks,i+1,h=>mK (ks:=ks) (i:=i) (by simpa using h)
theorem vL:∀{ks:O AK},Nat.ble (Ga ks) 1=true->HP ks
 | [],_=>λi j ⟨_,h⟩=>by simp at h
 | .v::ks,h=>λi j ⟨φ,a⟩ ⟨ψ,b⟩=>by
  cases i with | zero=>simp at a | succ i=>cases j with | zero=>simp at b | succ j=>rw[vL (ks:=ks) h i j ⟨φ,by simpa using a⟩ ⟨ψ,by simpa using b⟩]
 | .f _ _ _ _::ks,h=>λi j ⟨φ,a⟩ ⟨ψ,b⟩=>by
  cases i with | zero=>simp at a | succ i=>cases j with | zero=>simp at b | succ j=>rw[vL (ks:=ks) h i j ⟨φ,by simpa using a⟩ ⟨ψ,by simpa using b⟩]
 | .p _::ks,h=>λi j ⟨φ,a⟩ ⟨ψ,b⟩=>by
  have z:Ga ks+1<=1:=Cy h;cases i with | succ i=>exact absurd ∅ (mK (ks:=ks) (i:=i) (by simpa using a)) | zero=>cases j with | succ j=>exact absurd ∅ (mK (ks:=ks) (i:=j) (by simpa using b)) | zero=>rfl
abbrev Pa(st:sn):O Str:=((aH st).names.filter λy=>y.2==.local||y.2==.cell).map (·.1)
abbrev JQ(st:sn):O Str:=(eD st).args.map (·.arg)
abbrev nml(sc:o0):O Str:=((sc.names.tail.filter λy=>y.2==.local)++sc.names.filter λy=>y.2==.free).map (·.1)
abbrev ixl(N:O Str)(sc:o0):O (Option Nat):=((sc.names.tail.filter λy=>y.2==.local).map λ_=>bn)++(sc.names.filter λy=>y.2==.free).map λy=>ap (N.idxOf y.1)
abbrev LS(st:sn)(sc:o0):Prop:=br (aH st) (Pa st) sc (nml sc) (ixl (Pa st) sc)
def msk:Nat->bc->bc
 | _,[]=>[]
 | n,s::l=>(match n % 2 with | 0=>s | _=>bn)::msk (n / 2) l
theorem gb.m:∀(n:Nat) {fs:bc},gb fs (msk n fs)
 | _,[]=>.refl _
 | n,s::l=>by
  unfold msk
  split
  ·exact .keep (gb.m _)
  ·exact .drop (gb.m _)
def O6:(n:Nat)->(O PV->W R->Prop)->zY R n->Prop
 | 0,B,m=>B [] m
 | n+1,B,m=>∀x:PV,O6 n (λl w=>B (x::l) w) (m x)
theorem O6.all:∀{n:Nat}{B:O PV->W R->Prop}{m:zY R n},O6 n B m->∀l,l.length=n->B l (oU n m l)
 | 0,_,_,h,[],_=>h
 | n+1,_,_,h,x::l,e=>O6.all (n:=n) (h x) l (Nat.succ.inj e)
section
variable{v:EV}{st:sn}
abbrev BB{T:Type}(v:EV)(x:Str)(st:sn)(k:Nat)(ks:O AK)(f:cr)(n:Nat)(m:zY T n)(o:T->End):Prop:=∀{eE:ce}{A:wS}{outer:O Env}{s:db}{H:Hp}{E:XK},d7 k (A.deeper (Db x (aH st) s.heap.objs.size f eE))->(Pa st).Nodup->O6 n (λl w=>SF (tT sS v.P v.w v.K v.mg v.base (Pa st) x (aH st) f eE A outer s H E).SY v.K false (tW ks l (Pa st).length) (cE st) w o) m
def kS{m:zY PV n}(D:DI v ⟨x,st,JQ st,k+1,λK=>Ih K ks (oU n m)⟩)(Ì:BB v x st k ks D.f n m .rt)(VU:ks.length=(JQ st).length:=by rfl)(one:Nat.ble (Ga ks) 1=true:=by rfl)(S:da (Pa st) (JQ st) (aH st):=by exact Zy):D.O:=fnV D.fn S VU (vL one) λl e eE A outer s H E hr=>(Ì hr S.nd).all l e
def MY{m:zY (O PV) n}(D:DI v ⟨x,st,JQ st,k+1,λK=>xZ K ks (oU n m)⟩)(Ì:BB v x st k ks D.f n m .rl)(VU:ks.length=(JQ st).length:=by rfl)(one:Nat.ble (Ga ks) 1=true:=by rfl)(S:da (Pa st) (JQ st) (aH st):=by exact Zy):D.O:=fnL D.fn S VU (vL one) λl e eE A outer s H E hr=>(Ì hr S.nd).all l e
end
section
variable{K:Ab}{WL:W (O PV)}
theorem eC{m:O PV->W PV}(G:Sv X.prog X.w X.K X.mg X.base x k ps (Ih K ks m))(hr:d7 k' X.A)(ha:AF X K fs (e::es) ks B)(hk:k<=k':=by first | exact Cy rfl | exact Ao _ | omega)(hg:Gl X x:=by rfl)(hW:W'=B m:=by rfl)(m6:ir x:=by decide)
  (he:gV X e es:=by rfl) (dr:mr X pos es:=by rfl):EF X K fs (.Call (.Name x p) (e::es) [] pos) W':=RZ G hr hk hg ha hW m6 he dr
theorem lC{m:O PV->W (O PV)}{B:(O PV->W (O PV))->W (O PV)}(G:Sv X.prog X.w X.K X.mg X.base x k ps (xZ K ks m))(hr:d7 k' X.A)(ha:AF X K fs (e::es) ks B)(hk:k<=k':=by first | exact Cy rfl | exact Ao _ | omega)(hg:Gl X x:=by rfl)(hW:WL=B m:=by rfl)(m6:ir x:=by decide)
  (he:gV X e es:=by rfl) (dr:mr X pos es:=by rfl):LF X K fs (.Call (.Name x p) (e::es) [] pos) WL:=Q6 G hr hk hg ha hW m6 he dr
def dX(i:Nat)(hN:X.N.Nodup)(hi:X.N[i]?=ap x:=by rfl)(hx:Loc X.env.scope x:=by first | exact .inl rfl | exact .inr rfl)(hf:O1 X x:=by first | exact .inl rfl | exact .inr rfl | assumption):PG X (.Name x pos) (dD i):=Qq hN hi hx hf
variable{T:Type}{out:T->End}{rest:O sn}
def sv(i:Nat){k:PV->W T}(hN:X.N.Nodup)(he:EF X K fs e we)(hr:∀v,SF X K b (fs.set i (ap (.val v))) rest (k v) out)(hi:X.N[i]?=ap y:=by rfl)(hx:Loc X.env.scope y:=by first | exact .inl rfl | exact .inr rfl)(hs:lm e (ap (.Name y p')) pos.line X.env=pure false:=by rfl)
  (hf:O1 X y:=by first | exact .inl rfl | exact .inr rfl | assumption):SF X K b fs (.Assign [.Name y p'] e pos::rest) (.bind we k) out:=SF.set hN hi hx he hr hs hf
def sl(i:Nat){k:O PV->W T}(hN:X.N.Nodup)(he:LF X K fs e wl)(hr:∀l,SF X K b (fs.set i (ap (.ol bn l))) rest (k l) out)(hi:X.N[i]?=ap y:=by rfl)(hx:Loc X.env.scope y:=by first | exact .inl rfl | exact .inr rfl)(hs:lm e (ap (.Name y p')) pos.line X.env=pure false:=by rfl)
  (hf:O1 X y:=by first | exact .inl rfl | exact .inr rfl | assumption):SF X K b fs (.Assign [.Name y p'] e pos::rest) (.bind wl k) out:=SF.abV hN hi hx he hr hs hf
end
end
end FL
variable{m:PL.PV->FL.W PL.PV}{d:FL.DF}
namespace FL
section
variable[dJ]
def aah:(n:Nat)->(O ce->Prop)->Prop
 | 0,P=>P []
 | n+1,P=>∀x,aah n λl=>P (x::l)
theorem usN:∀{n:Nat}{P:O ce->Prop},aah n P->∀us:O ce,us.length=n->P us
 | 0,_,h,[],_=>h
 | n+1,_,h,x::l,e=>usN (n:=n) (h x) l (Nat.succ.inj e)
def DX.mk2{v:EV}(D:DX v.K d.x d.s)(X:v.K.In h)(G:h.Ns ga v.mg)
  (hb:∀(kV Ç pm:ce) (an:Option cr) (eE ct:ce) (us:O ce),us.length=d.ps.length->bindArgs (BP d.x d.x (eD d.s) (cE d.s) (aH d.s) .none kV Ç pm an eE ct) ⟨us,[]⟩=pure (d.ps.zip us):=by exact λ_ _ _ _ _ _=>usN (by (repeat intro _);rfl)):Nonempty (DI v d):=by
 obtain⟨f,fd,a,F⟩:=D.ex;exact⟨⟨f,fd,F,F.binds hb,BF X G a⟩⟩
def DX.go{v:EV}(D:DX v.K d.x d.s)(X:v.K.In h)(G:h.Ns ga v.mg){P:Prop}(k:∀D:DI v d,D.O)(r:d.C v->P)
  (hb:∀(kV Ç pm:ce) (an:Option cr) (eE ct:ce) (us:O ce),us.length=d.ps.length->bindArgs (BP d.x d.x (eD d.s) (cE d.s) (aH d.s) .none kV Ç pm an eE ct) ⟨us,[]⟩=pure (d.ps.zip us):=by exact λ_ _ _ _ _ _=>usN (by (repeat intro _);rfl)):P:=by
 obtain⟨D⟩:=D.mk2 X G hb;exact r (D.c (k D))
def Ig(K:Ab):Sp:=λvs H Q _=>TB H/\∃(a:cr) (ns:O Int),vs=[.ref a]/\Sr K H a (ns.map V.int)/\ns.length<=63/\∀H',Q (.bl true) H'
def RF{K:Ab}(hO:Sn H)(hS:cT K H a (ns.map V.int)):Sr K H a (ns.map V.int):=by
 rcases hS with (h | ⟨o,h⟩) | h
 ·rcases hO a with z | ⟨o,xs,z⟩
  ·rw[h]at z;cases z
  ·rw[h]at z;cases z
 ·exact .inl ⟨o,h⟩
 ·exact .inr h
def Q3{K:Ab}(ok:∀ns:O Int,ns.length<=63->(m (.cl (ns.map PV.int))).run (·=.bl true)):∀vs H Q E,Ig K vs H Q E->Ih K [.v] (oU 1 m) vs H Q E:=λvs H Q E ⟨tb,a,ns,e,fz,hl,q⟩=>by
 subst e;refine⟨tb,[.cl (ns.map PV.int)],.v (.cl fz (m5 _ _ ns)) .nil,(m (.cl (ns.map PV.int))).mono (λv e u H' _ r=>?_) (ok ns hl)⟩;subst e;cases r;exact q H'
structure aai(K:Ab)(mg:Str->Option ce)(d:DF):Prop where
 f:∀v:EV,v.K=K->v.mg=mg->∀D:DI v d,D.O
def mkAll{l:ED}{K:Ab}{fa:cr}{st:sn}(ok:∀ns:O Int,ns.length<=63->(m (.cl (ns.map PV.int))).run (·=.bl true))(X:K.In h)(G:h.Ns ga mg)(hfa:mg "law"=ap (.ref fa))(ZR:DX K "law" st)
  (hb:∀(kV Ç pm:ce) (an:Option cr) (eE ct:ce) (us:O ce),us.length=1->bindArgs (BP "law" "law" (eD st) (cE st) (aH st) .none kV Ç pm an eE ct) ⟨us,[]⟩=pure (([("_law_script":Str)]:O Str).zip us))
  (F:aai K mg ⟨"law",st,["_law_script"],k,λK=>Ih K [.v] (oU 1 m)⟩) :
  ∃fd:EQ,(∀(s:db) (v:ce),BindsTo s fd ⟨[v],[]⟩ [("_law_script",v)])/\∀base:mo,K.In base->base.Ns ga mg->gc l.prog w K mg base sS k fa fd ["_law_script"] (Ig K):=by
 obtain⟨f,fd,a,F'⟩:=ZR.ex;have e:=hfa.symm.trans (BF X G a);cases e;have fb:=F'.binds (ps:=["_law_script"]) hb;obtain⟨oc,od,kV,Ç,pm,an,eE,ct,QA,rfl,_⟩:=id F'.ex;exact⟨BP "law" "law" (eD st) (cE st) (aH st) .none kV Ç pm an eE ct,λs v=>.of_eq (hb kV Ç pm an eE ct [v] rfl),λbase _ _=>(F.f ⟨l.prog,w,K,mg,base⟩ rfl rfl ⟨_,_,F',fb,hfa⟩).imp (Q3 ok)⟩
section
variable{K:Ab}{R:Type}{B:(O PV->W R)->W R}
def av(i:Nat)(hr:AF X K fs es ks B)(hs:fs[i]?=ap (ap (.val v)):=by rfl)(hN:X.N[i]?=ap x:=by rfl)(hv:xH X.env.scope x:=by first | exact Ck rfl | exact B9 (Ck rfl) | exact B9 (B9 rfl))(hd:ir x:=by decide)(ib:zS x:=by decide)
  (h:gl (.Name x pos::es) X.env=(false,lc (.Name x pos) X.env)::gl es X.env:=by rfl):AF X K fs (.Name x pos::es) (.v::ks) (λk=>.bind (.ret v) λx=>B λl=>k (x::l)):=aj (ae i hs hN hv hd ib) hr h
end
end
end FL
namespace My
def lN(gW:PV):W (O PV):=
 []\λmm=>
 am (gW\λx3=>bd [x3]) λdU=>
 am (qm (λs4=>(s4.2\λl5=>bd (!l5.isEmpty))) (λs4=>(
 am (vB s4.2) λt7=>
 t7.2\λx9=>am (mn s4.1 x9) λml=>
 dh (iz (am (am (bd t7.2) (cZ .str)) cF)) (
 am (am (bd t7.2) ay) λl11=>am (rO t7.1 l11) λfo=>
 bd (ml,fo)) (
 bd (ml,t7.1)))) (mm,dU)) λs4=>
 (s4.1\λVw=>bd Vw.reverse)
def iL(gW:PV):W PV:=
 []\λiy=>
 []\λvV=>
 am (gW\λx3=>lN x3) λl30=>am (di l30 (iy,vV) λvF s4=>(
 am (am (am (bd vF) (cZ .str)) cF) λb=>am (if b=true then (
 vF\λxM=>am (mn s4.1 xM) λHX=>
 bd (HX,s4.2)) else (
 am (vB s4.2) λt20=>
 am (vB t20.1) λt22=>
 am (t22.2\λT7=>t20.2\λLH=>bd (.tup [T7,LH])) λPk=>am (mn s4.1 Pk) λHW=>
 bd (HW,t22.1))) λUv=>
 am (b2 n6 (am (bd Uv.1) v8) (bd (.int 1))) λPj=>am (mn Uv.2 Pj) λyG=>
 bd (Uv.1,yG))) λs4=>
 (am (bd s4.1) pq)
def cY(dB:PV):W PV:=
 (dh (am (am (bd dB) (cZ .str)) cF) (bd (.tup [])) (bd dB))
def fC(gW:PV):W PV:=
 am (gW\λx2=>iL x2) λiy=>
 am (am (am (bd iy) ay) λl4=>bN l4 λp5=>(bd .aN)) λxt=>
 am (am (am (bd iy) ay) λl6=>.ff (l6.length<=sizeLine) (.ret (c6 0 l6))) λl19=>am (di l19 xt λp8 s7=>am (sX p8) λt9=>(
 am (am (t9.2\λql=>cY ql) ay) λVv=>am (di Vv s7 λIW pw=>(
 t9.1\λlF=>IW\λlE=>am (iB pw lE lF) λzJ=>
 bd zJ)) λpw=>
 bd pw)) λs7=>
 (am (bd s7) pq)
def dZ(eA:PV)(jX:PV):W PV:=
 (dh (am (am (bu (am (bd eA) ay) (bd jX)) (cZ .str)) cF) (bu (am (bd eA) ay) (bd jX)) (bd jX))
def iM(bS:PV):W (O PV):=
 am (bS\λx2=>fC x2) λc9=>
 am (am (am (bd c9) ay) λl4=>bN l4 λp5=>(bd (.tup []))) λkH=>
 am (am (b2 n6 (c1 cS (bd c9)) (bd (.int 1))) λx6=>am (am (bd (.int 1)) vO) λx7=>am (am (bd (.int 1)) vO) λx8=>Im x6 x7 x8) λVv=>am (di Vv kH λjW s9=>(
 am (dh (t2 JX (bu (am (bd c9) ay) (bd jW)) (bd .aN)) (bd (.tup [])) (bu (bd s9) (bu (am (bd c9) ay) (bd jW)))) λzK=>
 am (w2 addW (jW\λpj=>bd (.tup [pj])) (bd zK)) λlF=>jW\λlE=>am (iB s9 lE lF) λyJ=>
 bd yJ)) λs9=>
 bd s9
def eV(vY:PV)(jX:PV):W PV:=
 (am (am (am (c1 cS (bd vY)) jN) λl2=>lR l2 λp3=>Pb (xT (Rq true (bd p3) (am (bu (am (bd vY) ay) (bd jX)) ay)) (Rq true (bd jX) (am (bu (am (bd vY) ay) (bd p3)) ay))) (bd p3)) pq)
def mO(bS:PV):W PV:=
 am (bS\λx2=>iL x2) λeJ=>
 am (bS\λx4=>iM x4) λkH=>
 (am (am (am (c1 cS (bd eJ)) jN) λl6=>bN l6 λp7=>(am (eJ\λx8=>p7\λx9=>dZ x8 x9) λql=>(.int 0)\λFl=>am (am (bu (am (bd eJ) ay) (bd p7)) λz9=>cY z9) λpj=>am ((.cl kH)\λlF=>p7\λlE=>eV lF lE) λJu=>bd (.tup [ql,Fl,pj,Ju]))) pq)
def iR(cK:PV)(k_:PV):W (O PV):=
 (.int 0)\λOC=>
 am (t2 oLt (bd k_) (c1 cS (bd cK))) λb=>am (if b=true then (
 am (c1 OM (bu (am (bd cK) ay) (bd k_))) λOB=>
 bd OB) else (
 bd OC)) λs3=>
 am (b2 mI (b2 oMod (bd s3) (b2 mI (b2 yu (bd (.int 10)) (bd (.int 60))) (b2 yu (bd (.int 10)) (bd (.int 60))))) (c1 xo (b2 oGe (bd s3) (b2 yu (bd (.int 10)) (bd (.int 18)))))) λnv=>
 (nv\λx6=>am (b2 oMod (w2 addW (w2 addW (bd s3) (b2 mI (bd (.int 104729)) (bd k_))) (bd (.int 7))) (bd (.int 2305843009213693951))) λx7=>(.int 0)\λx8=>bd [x6,x7,x8])
def eG(cL:O PV)(fx:PV):W (PV×O PV):=
 dh (t2 oGt (bu (bd cL) (bd (.int 0))) (bd (.int 0))) (
 am (b2 oMod (bu (bd cL) (bd (.int 0))) (bd fx)) λJj=>
 am (b2 oDiv (bu (bd cL) (bd (.int 0))) (bd fx)) λx3=>(.int 0)\λx4=>am (iB cL x4 x3) λlJ=>
 Jj\λx5=>bd (x5,lJ)) (
 (.int 2)\λx6=>am (VH cL x6) λx7=>(.int 1)\λx8=>am (of2 Th x7 x8) λql=>am (iB cL x6 ql) λfv=>
 am (b2 oMod (w2 addW (w2 addW (b2 mI (bu (bd fv) (bd (.int 1))) (bd (.int 69069))) (b2 mI (bd (.int 9973)) (bu (bd fv) (bd (.int 2))))) (bd (.int 5))) (bd (.int 2305843009213693921))) λqJ=>
 am (b2 oMod (b2 mI (bd qJ) (w2 addW (w2 addW (b2 oMod (bd qJ) (bd (.int 999983))) (b2 mI (bd (.int 2)) (bu (bd fv) (bd (.int 2))))) (bd (.int 3)))) (bd (.int 2305843009213693907))) λpj=>(.int 1)\λlF=>am (iB fv lF pj) λgm=>
 am (b2 oMod (b2 oDiv (bu (bd gm) (bd (.int 1))) (bd (.int 65537))) (bd fx)) λlE=>bd (lE,gm))
def iQ(fx:PV):W (O PV):=
 (.str "abcdefghijklmnopqrstuvwxyz")\λhV=>
 am ((.int 26)\λx3=>bM x3) λiZ=>
 am (bu ((.int 1)\λx5=>(.int 3)\λx6=>(.int 5)\λx7=>(.int 7)\λx8=>(.int 9)\λx9=>(.int 11)\λql=>bd [x5,x6,x7,x8,x9,ql]) ((.int 6)\λFl=>bM Fl)) λqr=>
 am (bu ((.str "")\λpj=>(.str "k")\λlF=>bd [pj,lF]) ((.int 2)\λlE=>bM lE)) λmD=>
 am ((.str "")\λxN=>(.str "q")\λxM=>(.str "zz")\λJt=>(.str "abcdef")\λLJ=>bd [xN,xM,Jt,LJ]) λRU=>
 []\λjZ=>
 am (am (bd fx) jN) λVu=>am (di Vu jZ λKf Mc=>(
 am (b2 JW (bd hV) (b2 oMod (w2 addW (bd iZ) (b2 mI (bd qr) (bd Kf))) (bd (.int 26)))) λkI=>
 am (w2 addW (w2 addW (bd mD) (bd kI)) (bu (am (bd (.cl RU)) ay) (b2 oMod (w2 addW (bd iZ) (bd Kf)) (bd (.int 4))))) λT6=>am (mn Mc T6) λnj=>
 bd nj)) λMc=>
 bd Mc
def iO(ao:PV):W PV:=
 (pO (am (bd ao) (cZ .int)) (am (am (bd ao) (cZ .bool)) QS))
def fy(ao:PV)(fx:PV):W PV:=
 (pO (am (bd ao) (cZ .tup)) (b2 dY (c1 cS (bd ao)) (bd fx)))
def kC(ao:PV):W PV:=
 dh (LU (iz (am (am (bd ao) (cZ .str)) cF)) (iz (chT oLe oLe (bd (.int 1)) (c1 cS (bd ao)) (bd (.int 8))))) (
 (bd (.bl false))) (
 (am (am (am (bd ao) FV) λl1=>bN l1 λp2=>(b2 QO (bd p2) (bd (.str "abcdefghijklmnopqrstuvwxyz")))) tX))
def iP(ao:PV)(F6:PV):W PV:=
 am (ao\λx3=>bd [x3]) λdU=>
 am (qo (λs4=>(s4.2\λl5=>bd (!l5.isEmpty))) (λs4=>(
 am (vB s4.2) λt7=>
 dh (am (t7.2\λx8=>(.int 2)\λx9=>fy x8 x9) cF) (
 am (am (bd t7.2) ay) λl11=>am (rO t7.1 l11) λfo=>
 bd (.go (s4.1,fo))) (
 dh (LU (iz (am (t7.2\λlF=>kC lF) cF)) (xT (t7.2\λz9=>am (Gy z9) λk13=>bd (pH s4.1 k13)) (iz (am (bd F6) cF)))) (
 (.bl false)\λlE=>bd (Lp.out lE)) (
 (.bl true)\λxN=>t7.2\λxM=>am (UL s4.1 xM xN) λIk=>
 bd (.go (Ik,t7.1)))))) ([],dU)) (wL (λs4=>
 (bd (.bl true))) id)
def eu(eA:PV)(cX:PV):W (O PV):=
 (am (am (am (bd eA) ay) λl1=>am (am (bd cX) ay) λl2=>sU l1 l2) λl3=>lR l3 λp4=>am (sX p4) λt5=>Pb (iz (am (am (bd t5.1) (cZ .str)) cF)) (bd t5.2))
def dq(L6:PV):W PV:=
 (bu (am (bd L6) ay) (am (c1 cS (bd L6)) λx1=>bM x1))
def gw(gh:PV):W PV:=
 am (am (bd gh) ay) λFU=>
 am ((.int 4)\λx3=>bM x3) λxO=>
 am (qm (λs4=>(t2 oGt (am (bd s4) v8) (bd (.int 1)))) (λs4=>(
 am (bu (am (am (b2 n6 (am (bd s4) v8) (bd (.int 1))) λx6=>bM x6) λx7=>am (b2 n6 (am (bd s4) v8) (bd (.int 2))) λx8=>(.int 0)\λx9=>(.int 0)\λql=>bd [x7,x8,x9,ql]) (bd xO)) λzH=>
 am (am (bu (bd s4) (bd zH)) λz9=>am (bu (bd s4) (w2 addW (bd zH) (bd (.int 1)))) λpj=>bd (.tup [z9,pj])) λIw=>
 am (xT (t2 dY (bd xO) (bd (.int 3))) (t2 dY ((.int 2)\λlF=>bM lF) (bd (.int 0)))) λb=>am (if b=true then (
 am (am (bu (bd s4) (w2 addW (bd zH) (bd (.int 1)))) λLJ=>am (bu (bd s4) (bd zH)) λPm=>bd (.tup [LJ,Pm])) λIv=>
 bd Iv) else (
 bd Iw)) λç=>
 am (ç\λLI=>bd [LI]) λl24=>zH\λLH=>am (w2 addW (bd zH) (bd (.int 2))) λPk=>am (Up s4 LH Pk l24) λIj=>
 bd Ij)) FU) λs4=>
 (bu (bd s4) (bd (.int 0)))
def aV:Nat->PV->W (O PV)
 | 0,_=>W.fail
 | n+1,cj=>
 dh (am (am (bd cj) (cZ .str)) cF) (
 (cj\λx1=>bd [x1])) (
 am (am (bu (am (bd cj) ay) (bd (.int 0))) λx3=>aV n x3) λvo=>
 am (am (bd vo) v8) λqL=>
 am (am (bu (am (bd cj) ay) (bd (.int 1))) λx5=>aV n x5) λl18=>am (di l18 vo λyc s6=>(
 am (dh (am (am (bd yc) (cZ .str)) cF) (bd yc) (am (w2 addW (bu (am (bd yc) ay) (bd (.int 0))) (bd qL)) λx9=>am (w2 addW (bu (am (bd yc) ay) (bd (.int 1))) (bd qL)) λql=>bd (.tup [x9,ql]))) λFl=>am (mn s6 Fl) λMe=>
 bd Me)) λs6=>
 (s6\λl15=>am (am (am (b2 n6 (bd qL) (bd (.int 1))) λz9=>am (b2 n6 (am (bd s6) v8) (bd (.int 1))) λpj=>bd (.tup [z9,pj])) λlF=>bd [lF]) λl16=>zF l15 l16))
def eX(gk:PV):W PV:=
 am (am ((.int 0)\λx2=>bd [x2]) λl3=>am (c1 cS (bd gk)) λx4=>Qb l3 x4) λje=>
 am (am (am (am (bd gk) ay) λl6=>.ff (l6.length<=sizeLine) (.ret (c6 0 l6))) λl7=>lR l7 λp8=>am (sX p8) λt9=>Pb (iz (am (am (bd t9.2) (cZ .str)) cF)) (bd t9.1)) λGv=>
 (.int 0)\λxi=>
 am (qm (λpw=>(pw.2.1\λVw=>bd (!Vw.isEmpty))) (λpw=>(
 am (am (am (am (bd (.cl pw.2.1)) ay) λl14=>lR l14 λYy=>Pb (xT (Rq true (bu (am (bu (am (bd gk) ay) (bd Yy)) ay) (bd (.int 0))) (am (bd (.cl pw.2.1)) ay)) (Rq true (bu (am (bu (am (bd gk) ay) (bd Yy)) ay) (bd (.int 1))) (am (bd (.cl pw.2.1)) ay))) (bd Yy)) LV) λye=>
 am ((.cl ye)\λxN=>dq xN) λrA=>
 am (w2 addW (w2 addW (bd pw.2.2) (bd (.int 1))) (am (bu ((.int 1)\λJt=>(.int 3)\λLJ=>(.int 13)\λPm=>bd [Jt,LJ,Pm]) ((.int 3)\λPl=>bM Pl)) λLI=>bM LI)) λxh=>
 xh\λLH=>rA\λPk=>am (iB pw.1 Pk LH) λlA=>
 rA\λPj=>am (Uy pw.2.1 Pj) λII=>
 bd (lA,II,xh))) (je,Gv,xi)) λpw=>
 (am (bd pw.1) pq)
def iJ(bS:PV)(cX:PV)(jo:PV):W (O PV):=
 am (bS\λx2=>fC x2) λc9=>
 []\λvH=>
 am (am (am (bd jo) ay) λl4=>.ff (l4.length<=sizeLine) (.ret (c6 0 l4))) λl19=>am (di l19 vH λp6 s5=>am (sX p6) λt7=>(
 am (am (am (bd cX) ay) λl8=>.ff (l8.length<=sizeLine) (.ret (c6 0 l8))) λVv=>am (di Vv s5 λp10 s9=>am (sX p10) λX4=>(
 dh (xT (t2 oLe (bd X4.2) (bd t7.2)) (LU (t2 JX (bu (am (bd c9) ay) (bd X4.1)) (bd .aN)) (t2 oLt (bd t7.2) (bu (am (bd cX) ay) (bu (am (bd c9) ay) (bd X4.1)))))) (
 am (X4.1\λpj=>t7.1\λlF=>bd (.tup [pj,lF])) λlE=>am (mn s9 lE) λyp=>
 bd yp) (
 bd s9))) λs9=>
 bd s9)) λs5=>
 bd s5
def kB(eA:PV)(cX:PV)(jo:PV)(mJ:PV)(MM:PV):W PV:=
 am (bu (am (bd MM) ay) (bd (.int 0))) λkL=>
 am (bu (am (bd MM) ay) (bd (.int 1))) λmV=>
 am (b2 oLt (bu (am (bd cX) ay) (bd kL)) (bu (am (bd jo) ay) (bd mV))) λuE=>
 am (dh (am (bd uE) cF) (kL\λx5=>bd (.tup [x5])) (am (bu (am (bd eA) ay) (bd kL)) λx6=>cY x6)) λbelow_4=>
 am (am (am (am (bd below_4) ay) λl8=>bN l8 λp9=>(ZX (bd mJ) (p9\λql=>am (b2 n6 (bd mV) (bd (.int 1))) λFl=>bd (.tup [ql,Fl])))) pq) λHV=>
 am (am (am (am (bd mJ) Nh) λl13=>lR l13 λYz=>Pb (xT (t2 dY (bu (am (bd Yz) ay) (bd (.int 1))) (bd mV)) (t2 qD (bu (am (bd Yz) ay) (bd (.int 0))) (bd kL))) (ZX (bd mJ) (bd Yz))) pq) λuV=>
 (am (eA\λlE=>kL\λJu=>dZ lE Ju) λxN=>mV\λxM=>HV\λJt=>uV\λLJ=>bd (.tup [xN,xM,Jt,LJ]))
def mP(bS:PV)(cX:PV):W PV:=
 am (bS\λx2=>iL x2) λeJ=>
 am (am ((.int 0)\λx4=>bd [x4]) λl7=>am (am (eJ\λx5=>cX\λx6=>eu x5 x6) vk) λl8=>zF l7 l8) λsG=>
 am (bS\λql=>cX\λFl=>(.cl sG)\λz9=>iJ ql Fl z9) λvG=>
 am (am (am (am (am (bd (.cl vG)) ay) λl14=>.ff (l14.length<=sizeLine) (.ret (c6 0 l14))) λl15=>bN l15 λp16=>am (sX p16) λĀ=>(Ā.2\λxM=>Ā.1\λJt=>bd (.tup [xM,Jt]))) Hq) λqE=>
 (am (am (am (bd (.cl vG)) ay) λYU=>bN YU λU3=>(eJ\λPl=>cX\λLI=>(.cl sG)\λT7=>qE\λLH=>U3\λPk=>kB Pl LI T7 LH Pk)) pq)
def n9(ao:PV):W PV:=
 (ao\λx1=>(.bl true)\λx2=>iP x1 x2)
def df(aJ:PV)(bz:PV):W PV:=
 (bu (am (bu (am (bd aJ) ay) (bd bz)) ay) (bd (.int 2)))
def gs(aJ:PV)(bz:PV):W PV:=
 (bu (am (bu (am (bd aJ) ay) (bd bz)) ay) (bd (.int 3)))
def kF(aJ:PV)(bz:PV)(ud:PV):W PV:=
 (pO (b2 dY (aJ\λx1=>bz\λx2=>df x1 x2) (bd (.tup []))) (b2 dY (bu (am (bu (am (bd aJ) ay) (bd bz)) ay) (bd (.int 0))) (bd ud)))
def dg(nR:PV):W PV:=
 (bu (am (bu (am (bd nR) ay) (bd (.int 0))) ay) (bd (.int 0)))
def oe(nR:PV):W PV:=
 (bu (am (bu (am (bd nR) ay) (bd (.int 0))) ay) (am (bd (.int 1)) vO))
def qN(nR:PV):W PV:=
 (am (am (am (nR\λx3=>am (am (bd (.int 2)) part) λi1=>bn\λj2=>L8 x3 i1 j2) ay) λl4=>bN l4 λp5=>(p5\λx6=>dg x6)) pq)
def gq(aL:PV)(bz:PV):W (O PV):=
 am (aL\λx2=>bz\λx3=>df x2 x3) λmB=>
 (dh (t2 dY (c1 cS (bd mB)) (bd (.int 2))) (mB\λx4=>am (am (bu (am (bd mB) ay) (bd (.int 1))) λx5=>am (bu (am (bd mB) ay) (bd (.int 0))) λx6=>bd (.tup [x5,x6])) λx7=>bd [x4,x7]) (bd []))
def iK(aL:PV)(bz:PV):W (O PV):=
 am (aL\λx2=>bz\λx3=>gs x2 x3) λsF=>
 (am (am (am (bd sF) ay) λl4=>bN l4 λp5=>(bz\λx6=>p5\λx7=>bd (.tup [x6,x7]))) λVw=>am (am (am (bd sF) ay) λl8=>bN l8 λp9=>(p9\λql=>bz\λFl=>bd (.tup [ql,Fl]))) λl13=>zF Vw l13)
def fB(aL:PV)(dB:PV)(bz:PV):W (O PV):=
 dh (am (am (bd dB) (cZ .str)) cF) (
 (dh (am (aL\λx1=>bz\λx2=>dB\λx3=>kF x1 x2 x3) cF) (am ((.str "found")\λx4=>(.tup [])\λx5=>bd (.tup [x4,x5])) λx6=>bd [x6]) (bd []))) (
 am (am (aL\λx8=>bz\λx9=>gq x8 x9) λYV=>bN YV λSW=>((.str "split")\λz9=>SW\λpj=>bd (.tup [z9,pj]))) λIc=>
 am (am (aL\λlE=>bz\λJu=>iK lE Ju) λVv=>bN Vv λp18=>((.str "over")\λJt=>p18\λLJ=>bd (.tup [Jt,LJ]))) λIz=>
 (am (am (am (am ((.str "doubled")\λPm=>am (bz\λPl=>bz\λLI=>bd (.tup [Pl,LI])) λT7=>bd (.tup [Pm,T7])) λLH=>bd [LH]) λl26=>am (am (bd (.cl Ic)) QY) λl27=>zF l26 l27) λl28=>am (am (bd (.cl Iz)) QY) λVu=>zF l28 Vu) L4))
def kD(aL:PV)(ao:PV):W PV:=
 (pO (ao\λx1=>iO x1) (chB oLe oLt (bd (.int 0)) (bd ao) (c1 cS (bd aL))))
def kE(aL:PV)(ao:PV):W PV:=
 dh (LU (iz (am (am (bd ao) (cZ .tup)) cF)) (t2 dY (c1 cS (bd ao)) (bd (.int 0)))) (
 (bd (.bl false))) (
 dh (iz (am (am (am (am (bd ao) ay) λl1=>bN l1 λp2=>(aL\λx3=>p2\λx4=>kD x3 x4)) tX) cF)) (
 (bd (.bl false))) (
 (am (am (am (am (bd ao) ay) λl8=>am (am (ao\λx7=>am (am (bd (.int 1)) part) λi5=>bn\λj6=>L8 x7 i5 j6) ay) λl9=>sU l8 l9) λYV=>bN YV λSW=>am (sX SW) λO8=>(Rr false (bd O8.2) (am (aL\λpj=>O8.1\λlF=>df pj lF) ay))) tX)))
def gr(aL:PV)(dB:PV)(ao:PV):W PV:=
 am (dh (am (am (bd dB) (cZ .str)) cF) (bd (.int 2)) (bd (.int 4))) λM4=>
 (pO (ao\λx4=>M4\λx5=>fy x4 x5) (pO (aL\λx2=>am (bu (am (bd ao) ay) (bd (.int 0))) λx3=>kE x2 x3) (am (bu (am (bd ao) ay) (bd (.int 1))) (cZ .str))))
def c7(aL:PV)(ue:PV)(ao:PV):W PV:=
 am (am (am (bd ue) ay) λl2=>bN l2 λp3=>(bd .aN)) λLO=>
 ao\λx5=>am (am (bd (.int 1)) vO) λx6=>am (iB LO x6 x5) λlI=>
 am (am (b2 n6 (c1 cS (bd ue)) (bd (.int 1))) λx7=>am (am (bd (.int 1)) vO) λx8=>am (am (bd (.int 1)) vO) λx9=>Im x7 x8 x9) λl33=>am (d6 l33 lI λku P7=>(
 am (bu (am (bd ue) ay) (bd ku)) λpY=>
 am (bu (bd P7) (bd ku)) λvc=>
 dh (iz (am (aL\λlF=>pY\λlE=>vc\λJu=>gr lF lE Ju) cF)) (
 .aN\λxN=>bd (Lp.out xN)) (
 am (am (am (pY\λxM=>cY xM) ay) λl22=>am (am (vc\λPm=>am (am (bd (.int 2)) part) λi19=>bn\λj20=>L8 Pm i19 j20) ay) λl23=>sU l22 l23) λl31=>am (di l31 P7 λp25 Uu=>am (sX p25) λÿ=>(
 ÿ.2\λPj=>ÿ.1\λx29=>am (iB Uu x29 Pj) λHQ=>
 bd HQ)) λUu=>
 bd (.go Uu)))) (wL (λP7=>
 (bd (.cl P7))) id)
def kG(aL:PV)(dB:PV)(nR:PV):W PV:=
 (Rr false (am (bu (am (bd nR) ay) (bd (.int 1))) λx1=>am (nR\λx2=>qN x2) λx3=>bd (.tup [x1,x3])) (aL\λx4=>dB\λx5=>am (nR\λx6=>oe x6) λx7=>fB x4 x5 x7))
def jR(aL:PV)(nU:PV)(ao:PV):W PV:=
 dh (iz (am (nU\λx1=>n9 x1) cF)) (
 (bd (.bl false))) (
 am (nU\λx3=>iL x3) λFO=>
 am (aL\λx5=>FO\λx6=>ao\λx7=>c7 x5 x6 x7) λlI=>
 dh (LU (t2 JX (bd lI) (bd .aN)) (t2 qD (c1 cS (bu (am (bd ao) ay) (bd (.int 0)))) (bd (.int 1)))) (
 (bd (.bl false))) (
 (am (am (am (am (bd FO) ay) λl8=>am (am (bd lI) ay) λl9=>sU l8 l9) λYV=>bN YV λSW=>am (sX SW) λO8=>(aL\λpj=>O8.1\λlF=>O8.2\λlE=>kG pj lF lE)) tX)))
def eW(aJ:PV)(bz:PV):W (O PV):=
 am (bu (am (bd aJ) ay) (bd bz)) λx1=>am (un4 x1) λt3=>
 am (am ((.str "doubled")\λx5=>bz\λx6=>bz\λx7=>bd (.tup [x5,x6,x7])) λx8=>bd [x8]) λwU=>
 am (t2 dY (c1 cS (bd t3.2.2.1)) (bd (.int 2))) λb=>am (if b=true then (
 am (am ((.str "split")\λPm=>am (bu (am (bd t3.2.2.1) ay) (bd (.int 0))) λPl=>am (bu (am (bd t3.2.2.1) ay) (bd (.int 1))) λLI=>bd (.tup [Pm,Pl,LI])) λT7=>am ((.str "split")\λLH=>am (bu (am (bd t3.2.2.1) ay) (bd (.int 1))) λPk=>am (bu (am (bd t3.2.2.1) ay) (bd (.int 0))) λT6=>bd (.tup [LH,Pk,T6])) λPj=>bd [T7,Pj]) λVu=>am (rO wU Vu) λzd=>
 bd zd) else (
 bd wU)) λYb=>
 am (am (bd t3.2.2.2) ay) λl43=>am (di l43 Yb λgZ P6=>(
 am (am ((.str "over")\λx33=>bz\λx34=>gZ\λx35=>bd (.tup [x33,x34,x35])) λx36=>am ((.str "over")\λXD=>gZ\λx38=>bz\λx39=>bd (.tup [XD,x38,x39])) λx40=>bd [x36,x40]) λl41=>am (rO P6 l41) λnh=>
 bd nh)) λP6=>
 bd P6
def dC(aJ:PV)(ao:PV):W PV:=
 (pO (am (bd ao) (cZ .int)) (pO (am (am (bd ao) (cZ .bool)) QS) (chB oLe oLt (bd (.int 0)) (bd ao) (c1 cS (bd aJ)))))
def bW(aJ:PV)(ao:PV):W PV:=
 dh (LU (iz (am (am (bd ao) (cZ .tup)) cF)) (LU (t2 dY (bd ao) (bd (.tup []))) (iz (am (am (am (am (bd ao) ay) λl1=>bN l1 λp2=>(aJ\λx3=>p2\λx4=>dC x3 x4)) tX) cF)))) (
 (bd (.bl false))) (
 (am (am (am (b2 n6 (c1 cS (bd ao)) (bd (.int 1))) jN) λl6=>bN l6 λp7=>(Rr false (bu (am (bd ao) ay) (w2 addW (bd p7) (bd (.int 1)))) (am (bu (am (bu (am (bd aJ) ay) (bu (am (bd ao) ay) (bd p7))) ay) (bd (.int 2))) ay))) tX))
def bh:Nat->PV->PV->PV->PV->W PV
 | 0,_,_,_,_=>W.fail
 | n+1,aJ,gk,dB,ao=>
 am (bu (am (bd gk) ay) (bd dB)) λum=>
 dh (LU (iz (am (am (bd ao) (cZ .tup)) cF)) (t2 qD (c1 cS (bd ao)) (bu ((.int 4)\λx2=>(.int 2)\λx3=>bd [x2,x3]) (c1 xo (am (bd um) (cZ .str)))))) (
 (bd (.bl false))) (
 dh (LU (iz (am (aJ\λx4=>am (bu (am (bd ao) ay) (bd (.int 0))) λx5=>bW x4 x5) cF)) (iz (am (am (bu (am (bd ao) ay) (bd (.int 1))) (cZ .str)) cF))) (
 (bd (.bl false))) (
 am (bu (am (bu (am (bd ao) ay) (bd (.int 0))) ay) (am (bd (.int 1)) vO)) λwd=>
 dh (am (am (bd um) (cZ .str)) cF) (
 (pO (b2 dY (bu (am (bd ao) ay) (bd (.int 1))) (bd (.str "found"))) (pO (b2 dY (bu (am (bu (am (bd aJ) ay) (bd wd)) ay) (bd (.int 2))) (bd (.tup []))) (b2 dY (bu (am (bu (am (bd aJ) ay) (bd wd)) ay) (bd (.int 0))) (bd um))))) (
 dh (LU (iz (am (aJ\λFl=>gk\λz9=>am (bu (am (bd um) ay) (bd (.int 0))) λpj=>am (bu (am (bd ao) ay) (bd (.int 2))) λlF=>bh n Fl z9 pj lF) cF)) (iz (am (aJ\λx7=>gk\λx8=>am (bu (am (bd um) ay) (bd (.int 1))) λx9=>am (bu (am (bd ao) ay) (bd (.int 3))) λql=>bh n x7 x8 x9 ql) cF))) (
 (bd (.bl false))) (
 (Rr false (am (bu (am (bd ao) ay) (bd (.int 1))) λlE=>am (bu (am (bu (am (bu (am (bd ao) ay) (bd (.int 2))) ay) (bd (.int 0))) ay) (bd (.int 0))) λJu=>am (bu (am (bu (am (bu (am (bd ao) ay) (bd (.int 3))) ay) (bd (.int 0))) ay) (bd (.int 0))) λxN=>bd (.tup [lE,Ju,xN])) (aJ\λxM=>wd\λJt=>eW xM Jt))))))
def gM(aJ:PV)(ya:PV)(ao:PV):W PV:=
 am (ya\λx2=>aV 12 x2) λnV=>
 (pO (aJ\λx3=>(.cl nV)\λx4=>am (b2 n6 (c1 cS (bd (.cl nV))) (bd (.int 1))) λx5=>ao\λx6=>bh 12 x3 x4 x5 x6) (b2 dY (c1 cS (bu (am (bd ao) ay) (bd (.int 0)))) (bd (.int 1))))
def fD(fx:PV):W (O PV):=
 (.str "abcdefghijklmnopqrstuvwxyz")\λhV=>
 am ((.int 26)\λx3=>bM x3) λiZ=>
 am (bu ((.int 1)\λx5=>(.int 3)\λx6=>(.int 5)\λx7=>(.int 7)\λx8=>(.int 9)\λx9=>(.int 11)\λql=>bd [x5,x6,x7,x8,x9,ql]) ((.int 6)\λFl=>bM Fl)) λqr=>
 am (bu ((.str "")\λpj=>(.str "k")\λlF=>bd [pj,lF]) ((.int 2)\λlE=>bM lE)) λmD=>
 am ((.str "")\λxN=>(.str "q")\λxM=>(.str "zz")\λJt=>(.str "abcdef")\λLJ=>bd [xN,xM,Jt,LJ]) λjc=>
 []\λjZ=>
 am (am (bd fx) jN) λVu=>am (di Vu jZ λKf Mc=>(
 am (b2 JW (bd hV) (b2 oMod (w2 addW (bd iZ) (b2 mI (bd qr) (bd Kf))) (bd (.int 26)))) λkI=>
 am (w2 addW (w2 addW (bd mD) (bd kI)) (bu (am (bd (.cl jc)) ay) (b2 oMod (w2 addW (bd iZ) (bd Kf)) (bd (.int 4))))) λT6=>am (mn Mc T6) λnj=>
 bd nj)) λMc=>
 bd Mc
def bU(bS:PV):W PV:=
 dh (t2 dY ((.int 2)\λx1=>bM x1) (bd (.int 0))) (
 (bS\λx2=>mO x2)) (
 (bS\λx3=>am (am (ZC (bS\λx4=>aV 12 x4)) λx5=>eX x5) λx6=>mP x3 x6))
def c8(aJ:PV)(nU:PV)(ao:PV):W PV:=
 am (nU\λx2=>aV 12 x2) λnV=>
 (pO (aJ\λx3=>(.cl nV)\λx4=>am (b2 n6 (c1 cS (bd (.cl nV))) (bd (.int 1))) λx5=>ao\λx6=>bh 12 x3 x4 x5 x6) (b2 dY (c1 cS (bu (am (bd ao) ay) (bd (.int 0)))) (bd (.int 1))))
def eI(aJ:PV)(ud:PV):W (O PV):=
 []\λwV=>
 am (am (c1 cS (bd aJ)) jN) λYU=>am (di YU wV λqu s3=>(
 am (am (qu\λx6=>bd (.tup [x6])) λx7=>(.str "found")\λx8=>bd (.tup [x7,x8])) λx9=>am (mn s3 x9) λwR=>
 dh (xT (t2 dY (bu (am (bu (am (bd aJ) ay) (bd qu)) ay) (bd (.int 0))) (bd ud)) (t2 dY (bu (am (bu (am (bd aJ) ay) (bd qu)) ay) (bd (.int 2))) (bd (.tup [])))) (
 am (am (am (c1 cS (bd aJ)) jN) λVw=>bN Vw λè=>(am (è\λlF=>qu\λlE=>bd (.tup [lF,lE])) λJu=>(.str "found")\λxN=>bd (.tup [Ju,xN]))) λl18=>am (rO wR l18) λzf=>
 bd zf) (
 bd wR))) λs3=>
 bd s3
def qM(cK:PV):W PV:=
 am (am ((.int 1)\λx3=>am (am (c1 cS (bd cK)) λx1=>(.int 3)\λx2=>qC OK [x1,x2]) λx4=>qC OL [x3,x4]) jN) λl79=>am (d6 l79 () λW4 s6=>(
 am (cK\λx9=>W4\λql=>iR x9 ql) λqB=>Ys jC qB (
 am (am (ZC (am (w2 addW (bd (.int 1)) ((.int 3)\λz9=>bM z9)) λpj=>fD pj)) λlF=>gw lF) λfP=>
 am (fP\λJu=>bU Ju) λcp=>
 am (fP\λxM=>aV 12 xM) λko=>
 am (am (am (bd (.cl ko)) ay) λYU=>lR YU λU3=>Pb (am (am (bd U3) (cZ .str)) cF) (bd U3)) λbC=>
 am ((.cl bC)\λPl=>dq Pl) λgL=>am ((.cl bC)\λLI=>dq LI) λeF=>
 (.int 0)\λvR=>
 am (cp\λT6=>gL\λPj=>eI T6 Pj) λl77=>am (d6 l77 vR λlV SN=>(
 dh (t2 qD (cp\λx31=>gL\λx32=>lV\λx33=>jR x31 x32 x33) (cp\λx34=>gL\λx35=>lV\λx36=>c8 x34 x35 x36)) (
 (.bl false)\λXD=>bd (Lp.out XD)) (
 am (cp\λx38=>eF\λx39=>eI x38 x39) λl74=>am (d6 l74 SN λp0 SM=>(
 am (am (c1 cS (bd cp)) jN) λl72=>am (d6 l72 SM λvh SK=>(
 am (am ((.str "split")\λx45=>(.str "doubled")\λx46=>(.str "over")\λx47=>bd (.tup [x45,x46,x47])) ay) λl70=>am (d6 l70 SK λJl Ut=>(
 am (am (vh\λx51=>bd (.tup [x51])) λx52=>Jl\λx53=>lV\λx54=>p0\λx55=>bd (.tup [x52,x53,x54,x55])) λFG=>
 am (cp\λx57=>am (gL\λx58=>eF\λx59=>bd (.tup [x58,x59])) λx60=>FG\λx61=>jR x57 x60 x61) λpT=>
 dh (LU (iz (am (am (bd pT) (cZ .bool)) cF)) (t2 qD (bd pT) (cp\λx62=>am (gL\λx63=>eF\λx64=>bd (.tup [x63,x64])) λx65=>FG\λx66=>c8 x62 x65 x66))) (
 (.bl false)\λx67=>bd (Lp.out x67)) (
 am (w2 addW (bd Ut) (c1 xo (bd pT))) λIH=>
 bd (.go IH)))) (wL (λUt=>
 bd (.go Ut)) Lp.out))) (wL (λSK=>
 bd (.go SK)) Lp.out))) (wL (λSM=>
 bd (.go SM)) Lp.out)))) (wL (λSN=>
 dh (xT (t2 dY (bd SN) (bd (.int 0))) (t2 oLt (c1 cS (bd (.cl bC))) (bd (.int 3)))) (
 (.bl false)\λx75=>bd (Lp.out x75)) (
 bd (.go ()))) Lp.out)))) (wL (λs6=>
 (bd (.bl true))) id)
end My
variable{Q:O PL.PV->Prop}{t:My.Tr}
namespace My
def Tr.pv:Tr->PV
 | .leaf x=>.str x
 | .node l r=>.tup [l.pv,r.pv]
def Ent.pv:Ent->PV
 | .word x=>.str x
 | .pair a b=>.tup [.int (a:Int),.int (b:Int)]
def pV{l:List α}(h:l≠[]):∃a x,l=a++[x]:=⟨l.dropLast,l.getLast h,(List.dropLast_concat_getLast h).symm⟩
def L9{a b:O Tr}(h:gY a++b=t.post):bV a+b.length=t.size:=by
 have h1:=congrArg B4 h;rw[Ad,t.jO]at h1;have h2:∀l:O Tr,(gY l).length=bV l:=by
  intro l
  induction l with
  | nil=>rfl
  | cons x l ih=>
   have e1:gY (x::l)=x.post++gY l:=rfl;have e2:bV (x::l)=x.size+bV l:=rfl;rw[e1,e2,Ad,ih,x.jO]
 rw[h2]at h1;exact h1
theorem jq{x:PV}(h:l.length < 1000):mn l x=.ret (l++[x]):=pr (by have:=ba (n:=1000) (Ao _);omega)
theorem MK(t:Tr)(hz:t.size<=900):(lN t.pv).le (.ret (t.post.map Tr.pv)):=λQ q=>by
 refine lG (λn s=>∃ts bs:O Tr,n=bV ts/\s=(bs.map Tr.pv,ts.map Tr.pv)/\gY ts++bs.reverse=t.post) ⟨[t],[],rfl,rfl,by rw[nY];simp⟩ ?_;rintro n s ⟨ts,bs,rfl,rfl,hp⟩;have hs:=L9 hp;rw[CM]at hs;by_cases he:ts=[]
 ·subst he;have hp':bs.reverse=t.post:=hp;simp;rw[<- List.map_reverse,hp'];exact q
 ·obtain⟨us,u,rfl⟩:=pV he;have Ly:=oq us;rw[bB,dW]at hs;simp;rw[jq (by rw[Aj];omega)];cases u with
  | leaf x=>
   simp[Tr.pv];refine⟨_,?_,us,rfl,bs++[.leaf x],⟨by simp[Tr.pv],rfl⟩,?_⟩
   ·rw[bB,dW];show bV us < bV us+1;omega
   ·rw[iD,nY]at hp;rw[E6,<- hp];simp[Tr.post]
  | node c d=>
   have e1:rO (us.map Tr.pv) [c.pv,d.pv]=.ret (us.map Tr.pv++[c.pv,d.pv]):=pr (ba (by
    have:(Tr.node c d).size=c.size+d.size+1:=rfl;simp;omega))
   simp[Tr.pv,e1];refine⟨_,?_,us++[c,d],rfl,bs++[.node c d],⟨by simp[Tr.pv],by simp⟩,?_⟩
   ·have e2:bV [Tr.node c d]=c.size+d.size+1:=by rw[dW];rfl
    have e3:bV [c,d]=c.size+d.size:=by simp[bV]
    rw[bB,bB,e2,e3];omega
   ·rw[iD,nY]at hp;rw[E6,<- hp,iD,JO];simp[Tr.post]
def aA(l:O Nat):O PV:=l.map λ(n:Nat)=>.int (n:Int)
@[simp] theorem cH(l:O Nat):(aA l).length=l.length:=Aj _
@[simp] theorem MX(a b:O Nat):aA (a++b)=aA a++aA b:=AY
@[simp] theorem fg(a:Nat)(l:O Nat):aA (a::l)=.int (a:Int)::aA l:=rfl
@[simp] theorem hJ:aA []=[]:=rfl
def hX(n:Nat):hZ 0 n=aA (AE n):=by
 refine CK λi _=>?_;rw[Ez]
theorem Nb{p:Nat->Bool}:∀{l:O Nat},(∀k∈l,f (.int ((k:Nat):Int))=.ret (if p k=true then ap (.int ((k:Nat):Int)) else bn))->lR (aA l) f=.ret (aA (l.filter p))
 | [],_=>rfl
 | k::l,h=>by
  show am (f _) (λo=>am (lR (aA l) f) λm=>bd (o.toList++m))=_;rw[h k (.head _),Nb λy hy=>h y (.tail _ hy),Dl];cases p k <;> rfl
theorem mN{f:PV->W PV}{g:Nat->PV}:∀{l:O Nat},(∀k∈l,f (.int ((k:Nat):Int))=.ret (g k))->bN (aA l) f=.ret (l.map g)
 | [],_=>rfl
 | k::l,h=>by
  show am (f _) (λy=>am (bN (aA l) f) λm=>bd (y::m))=_;rw[h k (.head _),mN λy hy=>h y (.tail _ hy)];rfl
def YQ(g:PV->Option PV)(h:∀x∈l,f x=.ret (g x))(q:Q (l.filterMap g)):(lR l f).run Q:=by rw[Gw h];exact q
def Gm{f:PV->W PV}(g:PV->PV)(h:∀x∈l,f x=.ret (g x))(q:Q (l.map g)):(bN l f).run Q:=by rw[vQ h];exact q
def yK{l:O Nat}(p:Nat->Bool)(h:∀k∈l,f (.int ((k:Nat):Int))=.ret (if p k=true then ap (.int ((k:Nat):Int)) else bn))(q:Q (aA (l.filter p))):(lR (aA l) f).run Q:=by rw[Nb h];exact q
def n8{l:O Nat}{f:PV->W PV}(g:Nat->PV)(h:∀k∈l,f (.int ((k:Nat):Int))=.ret (g k))(q:Q (l.map g)):(bN (aA l) f).run Q:=by rw[mN h];exact q
theorem mM(t:Tr)(hz:t.size<=900):(iL t.pv).le (.ret (.tup ((t.nd 0).map Ent.pv))):=λQ q=>by
 unfold iL;simp only[ii,ci];refine W.le.use (MK t hz) ?_;refine rK (λr s=>∃(k:O Tr) (À:O Ent) (ls:O Nat),r=k.map Tr.pv/\s=(À.map Ent.pv,aA ls.reverse)/\run k À ls=ap (t.nd 0,[t.size-1])/\À.length+k.length<=900/\ls.length<=À.length) ⟨t.post,[],[],rfl,rfl,JL t,by simp[t.jO];omega,Ao _⟩ ?_ ?_
 ·rintro x r s ⟨k,À,ls,e,rfl,h,hl,Zg⟩;cases k with
  | nil=>cases e
  | cons p k=>
   injection e with e1 e2;subst e1;subst e2;rw[An]at hl;cases p with
   | leaf x=>
    have a1:∀y,mn (aA ls.reverse) y=.ret (aA ls.reverse++[y]):=λy=>jq (by simp;omega);simp[Tr.pv,jq (l:=À.map Ent.pv) (by simp;omega),a1];refine⟨k,rfl,À++[Ent.word x],À.length::ls,⟨by simp[Ent.pv],by simp⟩,h,by simp;omega,by simp;omega⟩
   | node c d=>
    match ls,h,Zg with
    | b::a::ls,h,Zg=>
     rw[An,An]at Zg;have a0:aA (b::a::ls).reverse=(aA ls.reverse++[.int (a:Int)])++[.int (b:Int)]:=by simp
     have a1:∀y,mn (aA ls.reverse) y=.ret (aA ls.reverse++[y]):=λy=>jq (by simp;omega);rw[a0];simp only[Tr.pv,ii,cQ,gD,aU,Ag,if_false,N4];simp[jq (l:=À.map Ent.pv) (by simp;omega),a1];refine⟨k,rfl,À++[Ent.pair a b],À.length::ls,⟨by simp[Ent.pv],by simp⟩,h,by simp;omega,by simp;omega⟩
 ·rintro s ⟨k,À,ls,e,rfl,h,hl,Zg⟩;cases k with
  | nil=>
   cases h;simpa using q
  | cons p k=>cases e
end My
variable{a b d:Int}
namespace My
theorem mulL(h:-1000000000<=a/\a<=1000000000):u8 a b:=S2 ∅ ∅
theorem mulR(h:-1000000000<=b/\b<=1000000000):u8 a b:=mul_r ∅ ∅
theorem PB:∀ns l Q,jC ns->((oU 1 bM) l).run Q->((λlo l=>oU 1 (eG lo) l) (ns.map PV.int) l).run λt=>Q t.1/\∃IC:O Int,t.2=IC.map PV.int/\jC IC:=by
 rintro ns l Q ⟨g,s,c,rfl,g0,s0,s1,c0⟩ q
 match l,q with
 | [],q=>exact q.elim
 | _::_::_,q=>exact q.elim
 | [x],q=>
  show(eG _ x).run _;have q:=q;cases x with
  | int m=>
   obtain⟨⟨m0,m1⟩,q⟩:=q;have q:∀d:Int,0<=d->d < m->Q (.int d):=λd h0 h1=>q _ ⟨d,rfl,h0,h1⟩;unfold eG;generalize hA:(2305843009213693921:Int)=A;generalize hB:(2305843009213693907:Int)=B;generalize hC:(65537:Int)=C;generalize hD:(999983:Int)=D;have A0:0 < A:=by omega
   have B0:0 < B:=by omega
   have C0:0 < C:=by omega
   have D0:0 < D:=by omega
   by_cases hg:0 < g
   ·simp[cx,rf,hg,m0,iB,Sx];refine⟨by omega,q _ (BZ _ ∅) (BO _ m0),[g / m,s,c],rfl,_,_,_,rfl,Int.ediv_nonneg g0 ∅,s0,s1,c0⟩
   ·have e1:u8 s 69069:=mulR ∅;have e2:u8 9973 (c+1):=mulL ∅;have e3:u8 2 (c+1):=mulL ∅;simp[cx,rf,hg,m0,iB,VH,e1,e2,e3,A0,B0,C0,D0];generalize hM:(s*69069+9973*(c+1)+5) % A=M;have M0:0<=M:=by rw[<- hM];exact BZ _ ∅
    have M1:M < A:=by rw[<- hM];exact BO _ A0
    have e4:∀y,u8 M y:=λy=>S2 ∅ ∅;generalize hN:M*(M % D+2*(c+1)+3) % B=N;have N0:0<=N:=by rw[<- hN];exact BZ _ ∅
    have N1:N < B:=by rw[<- hN];exact BO _ B0
    refine⟨e4 _,⟨C0,by omega⟩,q _ (BZ _ ∅) (BO _ m0),[g,N,c+1],rfl,_,_,_,rfl,g0,N0,by omega,by omega⟩
  | _=>exact q.elim
theorem WI(i:Int):0<=(if i < 0 then -i else i):=by split <;> omega
theorem Qm{k:Int}(k0:0<=k)(q:∀l,(∃ms:O Int,l=ms.map PV.int/\jC ms)->Q l):(iR (.cl (ns.map PV.int)) (.int k)).run Q:=by
 unfold iR;generalize hA:(2305843009213693951:Int)=A;have A0:0 < A:=by omega
 have fin:∀x:Int,0<=x->(am (b2 mI (b2 oMod (bd (.int x)) (b2 mI (b2 yu (bd (.int 10)) (bd (.int 60))) (b2 yu (bd (.int 10)) (bd (.int 60))))) (c1 xo (b2 oGe (bd (.int x)) (b2 yu (bd (.int 10)) (bd (.int 18)))))) λnv=>
 (nv\λx6=>am (b2 oMod (w2 addW (w2 addW (bd (.int x)) (b2 mI (bd (.int 104729)) (bd (.int k)))) (bd (.int 7))) (bd (.int A))) λx7=>(.int 0)\λx8=>bd [x6,x7,x8])).run Q:=by
  intro x x0;have p1:O5 10 60:=⟨by decide,by decide,by decide⟩;have p2:O5 10 18:=⟨by decide,by decide,by decide⟩;simp only[ii,Wh,pr p1,pr p2,N6,N7,ZM,i9,dG,W.OA,W.P9,gt,pr (mulL (show -1000000000<=(104729:Int)/\(104729:Int)<=1000000000 by decide)),pr A0];refine⟨IntMulOk.of_bits (by decide +kernel) (by decide +kernel),by decide +kernel,?_,?_⟩
  ·split
   ·exact mulR ∅
   ·exact mulR ∅
  ·refine q _ ⟨[_,_,_],rfl,_,_,_,rfl,Int.mul_nonneg (BZ _ (by decide +kernel)) ?_,BZ _ ∅,by rw[hA];exact BO _ A0,CW _⟩
   split <;> decide
 by_cases lq:k < (ns.length:Int)
 ·obtain⟨v,e,e2⟩:=OO (xs:=ns.map PV.int) k0 (by rw[Aj];exact lq);rw[Ak]at e2;obtain⟨c,rfl⟩:∃c,v=.int c:=by
   cases z:ns[k.toNat]? with
   | none=>rw[z]at e2;cases e2
   | some c=>rw[z]at e2;exact⟨c,(Option.some.inj e2).symm⟩
  simp only[ii,i7,rQ,Aj,lq,decide_true,aW,if_true,cP,bf,e,ut,Wn];exact fin _ (WI _)
 ·simp only[ii,i7,rQ,Aj,lq,decide_false,aW,Ag,if_false];exact fin 0 (CW _)
theorem Gi(h0:0<=d)(h1:d < 6):∃st:Int,cx [PV.int 1,PV.int 3,PV.int 5,PV.int 7,PV.int 9,PV.int 11] d=ap (.int st)/\(st=1\/st=3\/st=5\/st=7\/st=9\/st=11):=by
 have:d=0\/d=1\/d=2\/d=3\/d=4\/d=5:=by omega
 rcases this with rfl | rfl | rfl | rfl | rfl | rfl
 ·exact⟨1,rfl,by decide⟩
 ·exact⟨3,rfl,by decide⟩
 ·exact⟨5,rfl,by decide⟩
 ·exact⟨7,rfl,by decide⟩
 ·exact⟨9,rfl,by decide⟩
 ·exact⟨11,rfl,by decide⟩
theorem Gj(h0:0<=d)(h1:d < 2):∃bg:Str,cx [PV.str "",PV.str "k"] d=ap (.str bg)/\Part bg 1:=by
 have:d=0\/d=1:=by omega
 rcases this with rfl | rfl
 ·exact⟨"",rfl,by decide +kernel,by decide +kernel⟩
 ·exact⟨"k",rfl,by decide +kernel,by decide +kernel⟩
theorem Gk(h0:0<=d)(h1:d < 4):∃bg:Str,cx [PV.str "",PV.str "q",PV.str "zz",PV.str "abcdef"] d=ap (.str bg)/\Part bg 6:=by
 have:d=0\/d=1\/d=2\/d=3:=by omega
 rcases this with rfl | rfl | rfl | rfl
 ·exact⟨"",rfl,by decide +kernel,by decide +kernel⟩
 ·exact⟨"q",rfl,by decide +kernel,by decide +kernel⟩
 ·exact⟨"zz",rfl,by decide +kernel,by decide +kernel⟩
 ·exact⟨"abcdef",rfl,by decide +kernel,by decide +kernel⟩
theorem cM(h:-1000<=i/\i<=1000/\-1000<=j/\j<=1000)(h2:j-i<=1000):okN i j:=⟨by omega,by omega,by omega,by omega,ba ∅⟩
theorem Jv{m:Int}(m0:0<=m)(m1:m<=26)(q:∀ws:O Str,ws.length=m.toNat->(∀x∈ws,Wd x)->ws.Nodup->(∃b,b<=1/\(ws.map λx=>x.cps[b]?).Nodup)->Q (ws.map PV.str)):(iQ (.int m)).run Q:=by
 unfold iQ;simp only[ii,ci,dE 26 ⋯ ⋯,dE 6 ⋯ ⋯,dE 2 ⋯ ⋯];refine bZ λd1 a1 b1=>bZ λd3 a3 b3=>?_;obtain⟨st,zW,kst⟩:=Gi a3 b3;simp only[bf,zW,ut,gt];refine bZ λd5 a5 b5=>?_;obtain⟨bg,hbg,kbg⟩:=Gj a5 b5;simp only[bf,hbg,ut,gt,i6,pr (cM (i:=0) (j:=m) ∅ ∅)];have lb:=kbg.1;refine zg (λi s=>∃ws:O Str,s=ws.map PV.str/\ws.length=i/\(∀x∈ws,Wd x)/\(ws.map λx=>x.cps[bg.length]?)=(AE i).map λk:Nat=>ap (97+((d1+st*(0+(k:Int))) % 26).toNat)) ⟨[],rfl,rfl,by simp,rfl⟩ ?_ ?_
 ·rintro i s hi ⟨ws,rfl,hl,hw,hs⟩;have e0:0<=(d1+st*(0+(i:Int))) % 26:=BZ _ ⋯;have e1:(d1+st*(0+(i:Int))) % 26 < 26:=BO _ ⋯;have e2:(d1+st*(i:Int))=d1+st*(0+(i:Int)):=by rw[Ez]
  obtain⟨en,hen,ken⟩:=Gk (d:=(d1+(i:Int)) % 4) (BZ _ ⋯) (BO _ ⋯);have le:=ken.1;have c1:u8 st (i:Int):=mulL ∅;have c2:("abcdefghijklmnopqrstuvwxyz":Str).length<=sizeLine:=by decide +kernel
  have c3:bg.length+(⟨#[97+((d1+st*(0+(i:Int))) % 26).toNat]⟩:Str).length<=sizeLine:=ba (by show bg.length+1<=1000;omega);have c4:(bg++(⟨#[97+((d1+st*(0+(i:Int))) % 26).toNat]⟩:Str)).length+en.length<=sizeLine:=ba (by rw[CY];show bg.length+1+en.length<=1000;omega);simp only[ii,ci,N6,pr c1,dG,N7,pr (show(0:Int) < 26 by decide),pr (show(0:Int) < 4 by decide),e2,Wl _ _ (J1 e0 e1),pr c2,RT,pr c3,cP,bf,hen,ut,pr c4,jq (l:=ws.map PV.str) (by rw[Aj];omega),gt];refine⟨ws++[bg++⟨#[97+((d1+st*(0+(i:Int))) % 26).toNat]⟩++en],by rw[AY];rfl,by rw[Ad,hl];rfl,?_,by rw[AY,hs,List.range_succ,AY,List.map_singleton,List.map_singleton,Jx]⟩;intro x hx;rcases Ba.mp hx with z | z
  ·exact hw x z
  ·rw[AX.mp z];exact LK kbg ken ∅ ∅
 ·rintro s ⟨ws,rfl,hl,hw,hs⟩;have nd:(ws.map λx=>x.cps[bg.length]?).Nodup:=by rw[hs];exact tG kst ∅
  exact q ws hl hw (vN (g:=λx:Str=>x.cps[bg.length]?) nd) ⟨_,by omega,nd⟩
end My
variable{ws:O BU}
namespace My
theorem WC{l:List α}(h:k+1 < l.length):∃a x y b,l=a++x::y::b/\a.length=k:=by
 refine⟨l.take k,l[k],l[k+1],l.drop (k+2),?_,by rw[Cn];omega⟩;have e1:l.drop k=l[k]::l.drop (k+1):=Bo ∅;have e2:=Bo ∅;rw[<- e2,<- e1,List.take_append_drop]
theorem LR(hw:ws≠[])(h8:ws.length<=100){Q:PV->Prop}(q:∀t:Tr,t.aq.Perm ws->Q t.pv):(gw (.cl (ws.map PV.str))).run Q:=by
 unfold gw;simp only[ii,ci,cP,gt,dE 4 ⋯ ⋯];refine bZ λw w0 w1=>?_;refine lG (λn s=>∃ts:O Tr,s=ts.map Tr.pv/\n=ts.length/\ts≠[]/\(ts.flatMap Tr.aq).Perm ws/\ts.length<=100) (n:=ws.length) ⟨ws.map Tr.leaf,by simp[Tr.pv],by simp,by simpa using hw,?_,by simpa using h8⟩ ?_
 ·rw[List.flatMap_map];have:ws.flatMap (λx=>(Tr.leaf x).aq)=ws:=by
   simp[Tr.aq,List.flatMap_singleton']
  rw[this]
 ·rintro n s ⟨ts,rfl,rfl,ND,hp,hl⟩;by_cases h1:1 < ts.length
  ·have c0:(1:Int) < (ts.length:Int):=by omega
   simp only[ii,ci,wY,Aj,TJ,c0,decide_true,aW,gt,if_true,lU,dE ((ts.length:Int)-1) ∅ ∅];refine bZ λd d0 d1=>?_;obtain⟨a,ha,a0,a1⟩:∃a:Nat,cx [PV.int d,PV.int ((ts.length:Int)-2),PV.int 0,PV.int 0] w=ap (.int (a:Int))/\0<=a/\a+1 < ts.length:=by
    have:w=0\/w=1\/w=2\/w=3:=by omega
    rcases this with rfl | rfl | rfl | rfl
    ·exact⟨d.toNat,by show ap (PV.int d)=_;rw[Int.toNat_of_nonneg d0],by omega,by omega⟩
    ·exact⟨ts.length-2,by show ap (PV.int ((ts.length:Int)-2))=_;congr 2;omega,by omega,by omega⟩
    ·exact⟨0,rfl,by omega,by omega⟩
    ·exact⟨0,rfl,by omega,by omega⟩
   obtain⟨as,x,y,bs,rfl,hk⟩:=WC a1;have i0:cx ((as++x::y::bs).map Tr.pv) (a:Int)=ap x.pv:=bo (by rw[Ak,AA ∅];simp[hk]);have i1:cx ((as++x::y::bs).map Tr.pv) ((a:Int)+1)=ap y.pv:=by
    have:((a:Int)+1)=((a+1:Nat):Int):=by push_cast;rfl
    rw[this];exact bo (by rw[Ak,AA ∅];simp[hk])
   simp only[bf,ha,ut,gt,i0,i1,dG,ii];have fin:∀p:Tr,p.aq.Perm (x.aq++y.aq)->(Up ((as++x::y::bs).map Tr.pv) (.int (a:Int)) (.int ((a:Int)+2)) [p.pv]).run λa=>∃m,m < (as++x::y::bs).length/\∃ts:O Tr,a=ts.map Tr.pv/\m=ts.length/\ts≠[]/\(ts.flatMap Tr.aq).Perm ws/\ts.length<=100:=by
    intro p đ;rw[Ad,An,An]at hl;refine⟨⟨by omega,by omega,?_,ba ?_⟩,?_⟩
    ·rw[Aj,Ad,An,An];push_cast;omega
    ·rw[Aj,Ad,An,An];simp;omega
    ·have e:((as++x::y::bs).map Tr.pv).take (a:Int).toNat++[p.pv]++((as++x::y::bs).map Tr.pv).drop ((a:Int)+2).toNat=(as++p::bs).map Tr.pv:=by
      have t1:(a:Int).toNat=as.length:=by omega
      have t2:((a:Int)+2).toNat=as.length+2:=by omega
      rw[t1,t2,<- List.map_take,<- List.map_drop,List.take_left' rfl];have:(as++x::y::bs).drop (as.length+2)=bs:=by
       rw[show as++x::y::bs=(as++[x,y])++bs by simp,List.drop_left' (by simp)]
      rw[this];simp
     show ∃m,_/\∃ts:O Tr,_;rw[e];refine⟨(as++p::bs).length,by simp,as++p::bs,rfl,rfl,by simp,?_,by simp;omega⟩;refine List.Perm.trans ?_ hp;simp only[B2,List.flatMap_cons];refine List.Perm.append_left _ ?_;rw[<- AW];exact đ.append_right _
   by_cases h3:w=3
   ·subst h3;simp only[dF,aW,beq_self_eq_true,gt,ii,if_true,ci,dE 2 ⋯ ⋯];refine bZ λd2 d20 d21=>?_;by_cases h4:d2=0
    ·subst h4;simp only[dF,aW,beq_self_eq_true,gt,ii,if_true,ci,i0,i1,bf,dG,ut];exact fin (.node y x) List.perm_append_comm
    ·have e4:(d2==0)=false:=by simpa using h4
     simp only[dF,aW,e4,gt,ii,ci,Ag,if_false];exact fin (.node x y) (List.Perm.refl _)
   ·have e3:(w==3)=false:=by simpa using h3
    simp only[dF,aW,e3,gt,ii,ci,Ag,if_false];exact fin (.node x y) (List.Perm.refl _)
  ·have c0:¬(1:Int) < (ts.length:Int):=by omega
   simp only[ii,ci,wY,Aj,TJ,c0,decide_false,aW,gt,Ag,if_false]
   match ts,ND,h1,hp with
   | [t],_,_,hp=>
    have:t.aq.Perm ws:=by simpa using hp
    exact q t this
   | _::_::_,_,h1,_=>simp at h1
structure u7(t:Tr):Prop where
 ws:t.Ws
 nd:t.aq.Nodup
 few:t.aq.length<=8
 sg:∃b,b<=1/\(t.aq.map λx=>x.cps[b]?).Nodup
end My
variable{a b i j:Nat}{ds:O Int}{m:O PL.PV}{left:O Nat}
namespace My
def tM:Ent->Bool
 | .word _=>false
 | .pair _ _=>true
structure Dt(t:Tr)(ds:List Int)(left:List Nat)(d:Int):Prop where
 len:ds.length=t.size
 zero:∀j,j < t.size->(tM (en t 0 j)=false\/j∈left)->ds.getD j 0=0
 up:∀j,j < t.size->j∉left->∀a b,en t 0 j=.pair a b->a∉left/\b∉left/\ds.getD a 0 < ds.getD j 0/\ds.getD b 0 < ds.getD j 0/\1<=ds.getD j 0/\ds.getD j 0<=d
 inj:∀i j,i < t.size->j < t.size->i∉left->j∉left->tM (en t 0 i)=true->tM (en t 0 j)=true->ds.getD i 0=ds.getD j 0->i=j
 pos:0<=d
 W3:∀j∈left,j < t.size/\tM (en t 0 j)=true
 ris:left.Pairwise (· < ·)
def gN{l:O Int}{v:Int}(h:i < l.length):(l.set i v).getD i 0=v:=by rw[Ar,Ct h];rfl
def bD{l:O Int}{v:Int}(h:i≠j):(l.set i v).getD j 0=l.getD j 0:=by rw[Ar,BS h,<- Ar]
def tm{l:O Nat}(h:l.Pairwise (· < ·)){x y:Nat}:y∈l.erase x↔y∈l/\y≠x:=by
 have nd:l.Nodup:=h.imp (λz=>Ay z);rw[nd.mem_erase_iff];exact⟨λz=>⟨z.2,z.1⟩,λz=>⟨z.2,z.1⟩⟩
theorem ig(t:Tr)(h:j < t.size)(e:en t 0 j=.pair a b):a < j/\b < j:=by
 rcases OJ t 0 j h with⟨x,e1,_⟩ | ⟨a',b',e1,e2,e3,_⟩
 ·rw[e1]at e;cases e
 ·rw[e1]at e;injection e with h1 h2;omega
theorem Dt.next{x:Int}(D:Dt t ds left d)(hj:j∈left)(e:en t 0 j=.pair a b)(ha:a∉left)(hb:b∉left)(hx:0<=x):Dt t (ds.set j (d+1+x)) (left.erase j) (d+1+x):=by
 obtain⟨hjs,hjp⟩:=D.W3 j hj;obtain⟨haj,hbj⟩:=ig t hjs e;have Xa:j < ds.length:=by rw[D.len];exact hjs
 have hm:∀y,y∈left.erase j↔y∈left/\y≠j:=λy=>tm D.ris;have Ô:∀y,y < t.size->y∉left->ds.getD y 0<=d:=λy hy í=>by
  cases ey:en t 0 y with
  | word w=>rw[D.zero y hy (.inl (by rw[ey];rfl))];exact D.pos
  | pair p q=>exact(D.up y hy í p q ey).2.2.2.2.2
 refine⟨by rw[BK];exact D.len,λy hy hc=>?_,λy hy í p q ey=>?_,λu v hu hv hul hvl pu pv Ny=>?_,by have:=D.pos;omega,λy hy=>D.W3 y ((hm y).mp hy).1,List.Pairwise.sublist List.erase_sublist D.ris⟩
 ·have Y5:j≠y:=λz=>by
   subst z;rcases hc with hc | hc
   ·rw[hjp]at hc;cases hc
   ·exact((hm j).mp hc).2 rfl
  rw[bD Y5];exact D.zero y hy (hc.imp id λz=>((hm y).mp z).1)
 ·by_cases Y5:j=y
  ·subst Y5;rw[e]at ey;injection ey with h1 h2;subst h1 h2;have la:=Ô a ∅ ha;have lb:=Ô b ∅ hb;rw[gN Xa,bD ∅,bD ∅];have:=D.pos;exact⟨λz=>ha ((hm a).mp z).1,λz=>hb ((hm b).mp z).1,by omega,by omega,by omega,by omega⟩
  ·have acu:y∉left:=λz=>í ((hm y).mpr ⟨z,BI Y5⟩);obtain⟨p1,p2,p3,p4,p5,p6⟩:=D.up y hy acu p q ey;have np:j≠p:=λz=>p1 (z▸hj);have nq:j≠q:=λz=>p2 (z▸hj);rw[bD Y5,bD np,bD nq];exact⟨λz=>p1 ((hm p).mp z).1,λz=>p2 ((hm q).mp z).1,p3,p4,p5,by omega⟩
 ·by_cases c1:j=u
  ·by_cases c2:j=v
   ·exact c1.symm.trans c2
   ·exfalso;subst c1;have VP:v∉left:=λz=>hvl ((hm v).mpr ⟨z,BI c2⟩);rw[gN Xa,bD c2]at Ny;have:=Ô v hv VP;omega
  ·have Y8:u∉left:=λz=>hul ((hm u).mpr ⟨z,BI c1⟩);by_cases c2:j=v
   ·exfalso;subst c2;rw[gN Xa,bD c1]at Ny;have:=Ô u hu Y8;omega
   ·have VP:v∉left:=λz=>hvl ((hm v).mpr ⟨z,BI c2⟩);rw[bD c1,bD c2]at Ny;exact D.inj u v hu hv Y8 VP pu pv Ny
def splits(t:Tr):O Nat:=(AE t.size).filter λj=>tM (en t 0 j)
def Dt.first(t:Tr):Dt t (Al t.size 0) (splits t) 0:=by
 have z:∀j,(Al t.size (0:Int)).getD j 0=0:=λj=>by
  rw[Ar,BE]
  split <;> rfl
 have mem:∀j,j∈splits t↔j < t.size/\tM (en t 0 j)=true:=λj=>by unfold splits;rw[A3,AO]
 refine⟨Bi,λj _ _=>z j,λj hj hn a b e=>absurd ((mem j).mpr ⟨hj,by rw[e];rfl⟩) hn,λi j hi hj hni _ pi _ _=>absurd ((mem i).mpr ⟨hi,pi⟩) hni,CW _,λj hj=>(mem j).mp hj,?_⟩;exact List.Pairwise.filter _ C7
theorem Je(t:Tr):c6 0 ((t.nd 0).map Ent.pv)=(AE t.size).map λj=>PV.tup [.int ((j:Nat):Int),(en t 0 j).pv]:=by
 have hl:(c6 0 ((t.nd 0).map Ent.pv)).length=t.size:=by rw[bX,Aj,t.aZ]
 apply Cf;intro i;by_cases hi:i < t.size
 ·have h1:(c6 0 ((t.nd 0).map Ent.pv))[i]?=ap ((c6 0 ((t.nd 0).map Ent.pv))[i]'∅):=Ae _;obtain⟨y,hy,e⟩:=fh h1;rw[Ak,kY t 0 i hi]at hy;have VN:=Option.some.inj hy;rw[h1,e,<- VN,Ak,B1 hi,AJ];rfl
 ·rw[A4 ∅,A4 (by rw[Aj,CA];omega)]
def Q1:PV->Option PV
 | .tup [_,.str _]=>bn
 | .tup [k,_]=>ap k
 | _=>bn
def Vq(t:Tr):(c6 0 ((t.nd 0).map Ent.pv)).filterMap Q1=aA (splits t):=by
 rw[Je];unfold splits;generalize AE t.size=l
 induction l with
 | nil=>rfl
 | cons j l ih=>
  rw[Au,Bv,Dl];cases e:en t 0 j with
  | word w=>exact ih
  | pair a b=>
   rw[ih];rfl
def uu(l:O Nat):aA l=(l.map λn=>((n:Nat):Int)).map PV.int:=by unfold aA;rw[AL];rfl
theorem rR(y:Nat):∀l:O Nat,(l.map λn=>((n:Nat):Int)).erase (y:Int)=(l.erase y).map λn=>((n:Nat):Int)
 | []=>rfl
 | a::l=>by
  rw[Au,List.erase_cons,List.erase_cons,rR y l];by_cases c:a=y
  ·subst c;simp
  ·have c1:(((a:Nat):Int)==(y:Int))=false:=by simp;omega
   have c2:(a==y)=false:=by simpa using c
   rw[c1,c2];simp
theorem Vl(h0:0<=d)(h1:d < 3):∃m:Int,cx [PV.int 1,PV.int 3,PV.int 13] d=ap (.int m)/\0 < m/\m<=13:=by
 have:d=0\/d=1\/d=2:=by omega
 rcases this with rfl | rfl | rfl
 ·exact⟨1,rfl,by decide,by decide⟩
 ·exact⟨3,rfl,by decide,by decide⟩
 ·exact⟨13,rfl,by decide,by decide⟩
theorem Io:∀(l:O Nat) (k n:Nat),l.Pairwise (· < ·)->(∀x∈l,k<=x/\x < n)->l.length<=n-k
 | [],_,_,_,_=>Bn _
 | a::l,k,n,h,hb=>by
  have h1:=(D3.mp h);have h2:=hb a Br;have ih:=Io l (a+1) n h1.2 λx hx=>⟨h1.1 x hx,(hb x (AM _ hx)).2⟩;rw[An];omega
def Ur(s:Nat):Ent->Ent
 | .word x=>.word x
 | .pair p q=>.pair (p+s) (q+s)
theorem Gd:∀(t:Tr) (o s:Nat),t.nd (o+s)=(t.nd o).map (Ur s)
 | .leaf _,_,_=>rfl
 | .node a b,o,s=>by
  have ha:=a.size_pos;rw[Tr.nd,Tr.nd,Gd a o s,show o+s+a.size=o+a.size+s by omega,Gd b (o+a.size) s,AY,AY];congr 2;congr 1 <;> omega
def sC(h:l.length+m.length<=1000):zF l m=.ret (l++m):=pr (ba h)
theorem hU:∀(n:Nat) (t:Tr),t.depth < n->t.size<=900->(aV n t.pv).le (.ret ((t.nd 0).map Ent.pv))
 | 0,_,h,_=>by omega
 | n+1,.leaf w,_,_=>λQ q=>by
  unfold aV;simp[Tr.pv];exact q
 | n+1,.node a b,h,hz=>λQ q=>by
  have hs:(Tr.node a b).size=a.size+b.size+1:=rfl;have hpa:=a.size_pos;have hd:a.depth < n/\b.depth < n:=by simp[Tr.depth]at h;omega
  unfold aV;have i0:cx [a.pv,b.pv] 0=ap a.pv:=rfl;have i1:cx [a.pv,b.pv] 1=ap b.pv:=rfl;simp only[Tr.pv,ii,ci,cQ,gD,aU,Ag,if_false,az,bf,i0,i1,ut];refine W.le.use (hU n a hd.1 ∅) ?_;simp only[wY,Aj,a.aZ,gt];refine W.le.use (hU n b hd.2 ∅) ?_;refine iY (λi s=>s=(a.nd 0++((b.nd 0).take i).map (Ur a.size)).map Ent.pv) (by simp) (λi x s hx hs=>?_) (λs hs=>?_)
  ·subst hs;rw[Ak]at hx;cases e:(b.nd 0)[i]? with
   | none=>rw[e]at hx;cases hx
   | some en=>
    rw[e]at hx;have ex:=Option.some.inj hx;subst ex;have hi:i < b.size:=by have:=(Am.mp e).1;rw[b.aZ]at this;exact this
    have et:(b.nd 0).take (i+1)=(b.nd 0).take i++[en]:=by rw[EX,e];rfl
    have al:∀y,mn ((a.nd 0++((b.nd 0).take i).map (Ur a.size)).map Ent.pv) y=.ret ((a.nd 0++((b.nd 0).take i).map (Ur a.size)).map Ent.pv++[y]):=λy=>jq (by simp[a.aZ];omega);cases en with
    | word w=>
     simp only[Ent.pv,ii,ci,cR,eB,aU,if_true,al,gt,et];simp[Ur,Ent.pv]
    | pair u v=>
     have j0:cx [PV.int (u:Int),PV.int (v:Int)] 0=ap (.int u):=rfl;have j1:cx [PV.int (u:Int),PV.int (v:Int)] 1=ap (.int v):=rfl;simp only[Ent.pv,ii,ci,cQ,gD,aU,Ag,if_false,az,bf,j0,j1,ut,dG,al,gt,et];simp[Ur,Ent.pv]
  ·subst hs;rw[Cs (by rw[Aj];exact Ao _)];have es:(b.nd 0).map (Ur a.size)=b.nd a.size:=by rw[<- Gd b 0 a.size,AJ]
   rw[es];simp only[ii,ci,lU,wY,Aj,Ad,a.aZ,b.aZ,gt];rw[sC (by simp[a.aZ,b.aZ];omega)];have e:(Tr.node a b).nd 0=a.nd 0++b.nd a.size++[.pair (a.size-1) (a.size+b.size-1)]:=by rw[Tr.nd];simp
   rw[e]at q;have e1:((a.size:Int)-1)=((a.size-1:Nat):Int):=by omega
   have e2:(((a.size+b.size:Nat):Int)-1)=((a.size+b.size-1:Nat):Int):=by omega
   rw[e1,e2];simpa[Ent.pv]using q
theorem pick_run(h0:l≠[])(h1:l.length<=1000){Q:PV->Prop}(q:∀x∈l,Q x):(dq (.cl l)).run Q:=by
 unfold dq;have hp:0 < l.length:=E8.mpr h0;simp only[ii,ci,cP,i7,dE (l.length:Int) ∅ ∅,gt];refine bZ λd d0 d1=>?_;obtain⟨v,hv,hv2⟩:=OO (xs:=l) d0 d1;simp only[bf,hv,ut,gt];exact q v (BR hv2)
theorem wD(k:Nat)(l:O Nat)(b:Bool):rm b (.int (k:Int)) (aA l)=.ret (if b then !decide (k∈l) else decide (k∈l)):=by
 have h1:Rp (.int (k:Int)) (aA l):=⟨by simp,j5.mpr λx hx=>by
  obtain⟨n,_,rfl⟩:=Av.mp hx;simp,j7 λx hx=>by
  obtain⟨n,_,rfl⟩:=Av.mp hx;simp⟩
 have h2:oB (.int (k:Int)) (aA l)=decide (k∈l):=by
  unfold oB aA;rw[List.any_map]
  induction l with
  | nil=>simp
  | cons a l ih=>
   have ih:=ih ⟨by simp,j5.mpr λx hx=>by
    obtain⟨n,_,rfl⟩:=Av.mp hx;simp,j7 λx hx=>by
    obtain⟨n,_,rfl⟩:=Av.mp hx;simp⟩
   rw[B5,ih];by_cases c:a=k
   ·subst c;simp
   ·have c1:(((a:Nat):Int)==(k:Int))=false:=by simp;omega
    have c2:¬k=a:=λz=>c z.symm;simp[c1,c2]
 unfold rm;rw[pr h1,h2]
def Oz(l:O Nat):tS (aA l)=true:=zC.mpr λx hx=>by
 obtain⟨n,_,rfl⟩:=Av.mp hx;rw[PV.dat] <;> simp
def cO(ds:O Int):O PV:=ds.map PV.int
@[simp] theorem fK(ds:O Int):(cO ds).length=ds.length:=Aj _
def Nw(ds:O Int)(y:Nat)(v:Int):(cO ds).set y (.int v)=cO (ds.set y v):=by unfold cO;rw[Fm]
def Qc(t:Tr)(left:O Nat)(j:Nat):Bool:=match en t 0 j with
 | .pair a b=>!decide (a∈left)&&!decide (b∈left)
 | _=>false
theorem Rj(h:k < n):rf n (k:Int)=ap k:=by
 unfold rf;rw[if_pos ∅,if_pos ∅];simp
def kn(h:k < l.length):iB l (.int (k:Int)) v=.ret (l.set k v):=by
 unfold iB;simp[Rj h]
def Ge(t:Tr)(h:j < t.size):cx ((t.nd 0).map Ent.pv) (j:Int)=ap (en t 0 j).pv:=bo (by rw[Ak,kY t 0 j h];rfl)
theorem Dt.Yf(D:Dt t ds left d)(he:left≠[]):aA (left.filter (Qc t left))≠[]:=by
 obtain⟨l0,l1,rfl⟩:∃l0 l1,left=l0::l1:=by cases left with | nil=>exact absurd rfl he | cons a l=>exact⟨a,l,rfl⟩
 have hr2:Qc t (l0::l1) l0=true:=by
  obtain⟨h1,h2⟩:=D.W3 l0 (.head _);unfold Qc;cases e:en t 0 l0 with
  | word w=>rw[e]at h2;cases h2
  | pair a b=>
   obtain⟨g1,g2⟩:=ig t h1 e;have Ô:∀y∈l0::l1,l0<=y:=λy hy=>by
    rcases AG.mp hy with rfl | hy
    ·exact Ao _
    ·exact DN ((D3.mp D.ris).1 y hy)
   have na:a∉l0::l1:=λz=>by have:=Ô a z;omega
   have nb:b∉l0::l1:=λz=>by have:=Ô b z;omega
   show(!decide _&&!decide _)=true;rw[decide_eq_false na,decide_eq_false nb];rfl
 intro z;have:=congrArg B4 z;rw[cH]at this;have m:=A3.mpr ⟨show l0∈l0::l1 from .head _,hr2⟩;rw[List.length_eq_zero_iff.mp this]at m;cases m
theorem K1(t:Tr)(hz:t.size<=900){Q:PV->Prop}(q:∀ds d,Dt t ds [] d->d<=13*((splits t).length:Int)->Q (.tup (cO ds))):(eX (.cl ((t.nd 0).map Ent.pv))).run Q:=by
 unfold eX;have e1:Qb [PV.int 0] (.int ((t.nd 0).map Ent.pv).length)=.ret (cO (Al t.size 0)):=by
  rw[Wg,pr ⟨by omega,by rw[Aj,t.aZ];omega,ba (by simp[t.aZ];omega)⟩];congr 1;rw[Aj,t.aZ,Bc]
  induction t.size with
  | zero=>rfl
  | succ n ih=>rw[Bu,BV,ih];rfl
 have e3:((t.nd 0).map Ent.pv).length<=sizeLine:=ba (by rw[Aj,t.aZ];omega);simp only[ii,i7,e1,cP,pr e3,ci];refine YQ Q1 (λx hx=>?_) ?_
 ·rw[Je]at hx;obtain⟨j,hj,rfl⟩:=Av.mp hx;cases en t 0 j with
  | word w=>simp[Ent.pv,Q1]
  | pair u v=>simp[Ent.pv,Q1]
 rw[Vq t];refine lG (λn s=>∃(ds:O Int) (left:O Nat) (d:Int),s=(cO ds,aA left,PV.int d)/\n=left.length/\Dt t ds left d/\d+13*(left.length:Int)<=13*((splits t).length:Int)) ⟨_,_,0,rfl,rfl,Dt.first t,by omega⟩ ?_;rintro n s ⟨ds,left,d,rfl,rfl,D,hd⟩;by_cases he:left=[]
 ·subst he;simp;exact q ds d D (by simpa using hd)
 ·have ee:(!(aA left).isEmpty)=true:=by cases left with | nil=>exact absurd rfl he | cons a l=>rfl
  have Zg:left.length<=t.size:=by
   have:=Io left 0 t.size D.ris λx hx=>⟨Bn _,(D.W3 x hx).1⟩;omega
  have ne:=D.Yf he;have e5:LV (aA (left.filter (Qc t left)))=.ret (aA (left.filter (Qc t left))):=pr (Oz _);simp only[gt,ee,if_true,ii,ci];refine yK (Qc t left) (λk hk=>?_) ?_
  ·obtain⟨h1,h2⟩:=D.W3 k hk;unfold Qc;cases e:en t 0 k with
   | word w=>rw[e]at h2;cases h2
   | pair a b=>
    have j0:cx [PV.int (a:Int),PV.int (b:Int)] 0=ap (.int a):=rfl;have j1:cx [PV.int (a:Int),PV.int (b:Int)] 1=ap (.int b):=rfl;simp only[ii,cP,bf,Ge t h1,e,Ent.pv,ut,az,j0,j1,wD,if_true];by_cases ca:a∈left
    ·simp[ca]
    ·simp[ca];by_cases cb:b∈left
     ·simp[cb]
     ·simp[cb]
  rw[e5];refine pick_run ne (by rw[cH];have:=BM (Qc t left) left;omega) λx hx=>?_;obtain⟨j,hj,rfl⟩:=Av.mp hx;obtain⟨VW,VV⟩:=A3.mp hj;obtain⟨js,jp⟩:=D.W3 j VW;cases ej:en t 0 j with
  | word w=>rw[ej]at jp;cases jp
  | pair a b=>
  unfold Qc at VV;rw[ej]at VV;simp at VV;simp only[dG,gt,dE 3 ⋯ ⋯];refine bZ λz z0 z1=>?_;obtain⟨m,hm,m0,m1⟩:=Vl z0 z1;simp only[bf,hm,ut,gt,dE m m0 ∅];refine bZ λy y0 y1=>?_;have ċ:Uy (aA left) (.int (j:Int))=.ret (aA (left.erase j)):=by
   show am (rh (aA left)) _=_;rw[uu,oz];show W.ff _ _=_;rw[pr (Av.mpr ⟨j,VW,rfl⟩),rR,<- uu]
  simp only[dG,gt,kn (l:=cO ds) (k:=j) (by rw[fK,D.len];exact js),ċ,Nw];refine⟨(left.erase j).length,by rw[Eg VW];have:=Ew VW;omega,_,_,_,rfl,rfl,D.next VW ej VV.1 VV.2 y0,?_⟩;rw[Eg VW];have:=Ew VW;omega
theorem u7.size(g:u7 t):t.size<=15:=by have:=t.size_eq;have:=g.few;omega
theorem u7.depth(g:u7 t):t.depth < 8:=by have:=t.sf;have:=g.few;omega
theorem Pn(h:Wd x):kC (.str x)=.ret (.bl true):=by
 unfold kC;obtain⟨h1,h2,h3⟩:=h;have c1:x.length<=sizeLine:=ba ∅;have c2:x.cps.size<=sizeLine:=c1;have c3:(1:Int)<=(x.length:Int):=by omega
 have c4:(x.length:Int)<=8:=by omega
 simp only[ii,cR,eB,aU,AU,Ag,if_false,RK,pr c1,Jb,c3,c4,decide_true,oI,aW,N3,pr c2];rw[vQ (g:=λ_=>PV.bl true) λy hy=>?_]
 ·simp only[ii];rw[all_map (λ_=>true)];congr 2;exact Co.mpr λ_ _=>rfl
 ·obtain⟨c,hc,rfl⟩:=Av.mp hy;obtain⟨k1,k2⟩:=h3 c hc;simp only[Wm,GQ k1 k2]
def Mf(l:O PV)(n:Int):fy (.tup l) (.int n)=.ret (.bl ((l.length:Int)==n)):=by
 unfold fy;simp only[ii,cQ,i8,jb,bq,dF]
def Uw(x:Str)(n:PV):fy (.str x) n=.ret (.bl false):=by
 unfold fy;simp only[ii,cR,RM,RQ]
def LL(i:Int):iO (.int i)=.ret (.bl true):=by
 unfold iO;simp
theorem NL(t:Tr)(hw:t.Ws)(b:Bool)(hd:b=true\/t.aq.Nodup)(hz:t.size<=900):(iP t.pv (.bl b)).le (.ret (.bl true)):=λQ q=>by
 unfold iP;simp only[ii,ci];refine FE (λn s=>∃(ts:O Tr) (kvs:O (Key×PV)),n=bV ts/\s=(kvs,ts.map Tr.pv)/\(∀x∈ts.flatMap Tr.aq,Wd x)/\(b=true\/(ts.flatMap Tr.aq).Nodup/\∀x∈ts.flatMap Tr.aq,pH kvs (.inr x)=false)/\bV ts+kvs.length<=900) (n:=bV [t]) ⟨[t],[],rfl,rfl,λx hx=>hw x (by simpa using hx),by rcases hd with h | h;exact .inl h;exact .inr ⟨by simpa using h,by simp[pH]⟩,by rw[dW];simpa using hz⟩ ?_;rintro n s ⟨ts,kvs,rfl,rfl,h1,h2,h3⟩;by_cases he:ts=[]
 ·subst he;exact q
 ·obtain⟨us,u,rfl⟩:=pV he;have hsu:=u.size_pos;have Ly:=oq us;rw[bB,dW]at h3;have ee:(!((us++[u]).map Tr.pv).isEmpty)=true:=by simp
  have em:(us++[u]).map Tr.pv=us.map Tr.pv++[u.pv]:=by simp
  simp only[ii,gt,ee,if_true,ci];rw[em];simp only[N4,gt];cases u with
  | leaf x=>
   have wx:Wd x:=h1 x (by simp[Tr.aq]);have c1:kvs.length < sizeLine:=uj ∅;have cb:=h2.imp id λh=>h.2 x (by simp[Tr.aq]);have ct:(if (pH kvs (.inr x))=true then (bd (!b)) else bd false)=bd false:=by
    rcases cb with h | h
    ·rw[h];split <;> rfl
    ·rw[h];rfl
   simp only[Tr.pv,Uw,aU,gt,Ag,if_false,Pn wx,AU,ii,RL,ct,UL,pr c1,ci];refine⟨bV us,by rw[bB,dW];show bV us < bV us+1;omega,us,_,rfl,rfl,λy hy=>h1 y (by simp[hy]),?_,?_⟩
   ·rcases h2 with h | ⟨h,k⟩
    ·exact .inl h
    ·right
     rw[B2]at h;have nx:x∉us.flatMap Tr.aq:=λz=>by
      have:=(C8.mp h).2.2 x z x (by simp[Tr.aq]);exact this rfl
     refine⟨(C8.mp h).1,λy hy=>?_⟩;have ky:=k y (by simp[hy]);have kx:=k x (by simp[Tr.aq]);have nyx:x≠y:=λz=>nx (z▸hy);unfold FY;rw[kx];show pH (kvs++[_]) _=false;unfold pH at ky ⊢;rw[List.any_append,ky];simp[nyx]
   ·have:(FY kvs (.inr x) (.bl true)).length<=kvs.length+1:=by
     unfold FY
     split <;> simp
    omega
  | node c d=>
   have hsz:(Tr.node c d).size=c.size+d.size+1:=rfl;have e1:rO (us.map Tr.pv) [c.pv,d.pv]=.ret (us.map Tr.pv++[c.pv,d.pv]):=pr (ba (by simp;omega));have e2:(([c.pv,d.pv].length:Int)==2)=true:=rfl;simp only[Tr.pv,Mf,e2,aU,gt,if_true,az,e1,ci];have e3:bV [c,d]=c.size+d.size:=by simp[bV]
   refine⟨bV (us++[c,d]),by rw[bB,bB,dW,e3];omega,us++[c,d],kvs,rfl,by simp,λy hy=>h1 y (by simpa[Tr.aq,B2]using hy),?_,by rw[bB,e3];omega⟩;refine h2.imp id λ⟨h,k⟩=>⟨by simpa[Tr.aq,B2]using h,λy hy=>k y (by simpa[Tr.aq,B2]using hy)⟩
def YH(t:Tr)(ds:O Int)(j:Nat):Bool:=match en t 0 j with
 | .word _=>ds.getD j 0==0
 | .pair a b=>decide (ds.getD a 0 < ds.getD j 0)&&decide (ds.getD b 0 < ds.getD j 0)&&decide (1<=ds.getD j 0)&&decide (ds.getD j 0<=99)
def Ii(t:Tr)(ds:O Int):O Int:=(splits t).map (ds.getD · 0)
def Rl(t:Tr)(ds:O Int):Bool:=decide (ds.length=t.size)&&(decide (Ii t ds).Nodup&&(AE t.size).all (YH t ds))
def int_at(h:j < ds.length):cx (cO ds) (j:Int)=ap (.int (ds.getD j 0)):=bo (by
 unfold cO;rw[Ak,Ae h,Ar,Ae h];rfl)
theorem TZ(t:Tr)(ds:O Int)(h:ds.length=t.size):eM ((t.nd 0).map Ent.pv) (cO ds)=(AE t.size).map λj=>PV.tup [(en t 0 j).pv,.int (ds.getD j 0)]:=by
 refine Cf λj=>?_;by_cases hj:j < t.size
 ·have hl:j < (eM ((t.nd 0).map Ent.pv) (cO ds)).length:=by rw[my];simp[t.aZ,h];exact hj
  obtain⟨x,y,hx,hy,e⟩:=qk (Ae hl);rw[Ak,kY t 0 j hj]at hx;have uC:=Option.some.inj hx;have Xa:j < ds.length:=by omega
  unfold cO at hy;rw[Ak,Ae Xa]at hy;have VN:=Option.some.inj hy;rw[Ae hl,e,<- uC,<- VN,Ak,B1 hj];show _=ap (PV.tup [_,.int (ds.getD j 0)]);rw[Ar,Ae Xa];rfl
 ·rw[A4 (by rw[my];simp[t.aZ,h];omega),A4 (by simp;omega)]
theorem split_le(t:Tr)(ds:O Int)(h:ds.length=t.size)(hz:t.size<=900):eu (.tup ((t.nd 0).map Ent.pv)) (.tup (cO ds))=.ret (cO (Ii t ds)):=by
 unfold eu;have c:((t.nd 0).map Ent.pv).length<=sizeLine:=ba (by rw[Aj,t.aZ];omega);simp only[ii,az,sU,pr c,TZ t ds h];rw[Gw (g:=λx=>match x with | .tup [.str _,_]=>bn | .tup [_,y]=>ap y | _=>bn) λx hx=>?_]
 ·congr 1;unfold Ii splits cO;generalize AE t.size=l
  induction l with
  | nil=>rfl
  | cons j l ih=>
   rw[Au,Bv,Dl,ih];cases e:en t 0 j with
   | word w=>rfl
   | pair a b=>rfl
 ·obtain⟨j,hj,rfl⟩:=Av.mp hx;cases en t 0 j with
  | word w=>simp[Ent.pv]
  | pair a b=>simp[Ent.pv]
end My
variable{x:PL.PV}{e:My.Ent}{es:O My.Ent}{bs:O Int}
namespace My
section
variable{α β:Type}
theorem MZ{c:α->PV}{f:PV->W PV}{g:α->PV}:∀{l:List α},(∀x∈l,(f (c x)).le (.ret (g x)))->(bN (l.map c) f).le (.ret (l.map g))
 | [],_=>W.le.refl _
 | x::r,h=>W.le.ret (h x (.head _)) (W.le.ret (MZ λy hy=>h y (.tail _ hy)) (W.le.refl _))
theorem S3{c:α->PV}{g:α->Option PV}:∀{l:List α},(∀x∈l,(f (c x)).le (.ret (g x)))->(lR (l.map c) f).le (.ret (l.filterMap g))
 | [],_=>W.le.refl _
 | x::r,h=>W.le.ret (h x (.head _)) (W.le.ret (S3 λy hy=>h y (.tail _ hy)) (W.le.of_eq (by rw[Bv];cases g x <;> rfl)))
def iI{c:α->PV}{f:PV->W PV}(g:α->PV){l:List α}(h:∀x∈l,(f (c x)).le (.ret (g x)))(q:Q (l.map g)):(bN (l.map c) f).run Q:=MZ h Q q
def Na{c:α->PV}(g:α->Option PV){l:List α}(h:∀x∈l,(f (c x)).le (.ret (g x)))(q:Q (l.filterMap g)):(lR (l.map c) f).run Q:=S3 h Q q
theorem Tw{p:α->Bool}{g:α->β}:∀l:List α,l.filterMap (λx=>if p x=true then ap (g x) else bn)=(l.filter p).map g
 | []=>rfl
 | x::l=>by
  rw[Bv,Dl,Tw l];cases p x <;> rfl
end
def Ob(c:α->PV)(l:List α)(k:Nat):c6 k (l.map c)=(l.zipIdx k).map λp=>PV.tup [.int ((p.2:Nat):Int),c p.1]:=by
 induction l generalizing k with
 | nil=>rfl
 | cons a l ih=>rw[Au,c6,ih,List.zipIdx_cons,Au]
def vp:V->PV
 | .int i=>.int i
 | .str x=>.str x
 | .bl b=>.bl b
 | _=>.aN
def Xr(t:Tr):O PV:=(ah (t.nd 0) 0 (Al t.size V.aN)).map vp
@[simp] theorem Jr(t:Tr):(Xr t).length=t.size:=by unfold Xr;rw[Aj,HA,Bi]
def Js(t:Tr)(h:j < t.size):(Xr t)[j]?=ap (vp (jD t 0 j .aN)):=by unfold Xr;rw[Ak,WH t h];rfl
def dm(t:Tr):((t.nd 0).map Ent.pv).length=t.size:=by rw[Aj,t.aZ]
theorem zI(t:Tr)(hz:t.size<=900):(fC t.pv).le (.ret (.tup (Xr t))):=λQ q=>by
 unfold fC;have c:((t.nd 0).map Ent.pv).length<=sizeLine:=ba (by rw[dm];omega);simp only[ii,ci];refine W.le.use (mM t hz) ?_;simp only[az,gt];refine Gm (λ_=>.aN) (λx hx=>rfl) ?_;simp only[pr c,gt];have e0:((t.nd 0).map Ent.pv).map (λ_=>PV.aN)=(ah ((t.nd 0).take 0) 0 (Al t.size V.aN)).map vp:=by
  rw[List.take_zero,ah,List.map_replicate,EJ,dm];rfl
 rw[e0];refine iY (λi s=>s=(ah ((t.nd 0).take i) 0 (Al t.size V.aN)).map vp) rfl (λi x s hx hs=>?_) (λs hs=>?_)
 ·subst hs;have hi:i < t.size:=by have:=(Am.mp hx).1;rw[bX,dm]at this;exact this
  obtain⟨y,hy,rfl⟩:=fh hx;have e:=kY t 0 i hi;rw[Ak,e]at hy;have hy:=Option.some.inj hy;subst hy;have et:(t.nd 0).take (i+1)=(t.nd 0).take i++[en t 0 i]:=by rw[EX,e];rfl
  have ea:ah ((t.nd 0).take (i+1)) 0 (Al t.size V.aN)=OU (ah ((t.nd 0).take i) 0 (Al t.size V.aN)) (0+i) (en t 0 i):=by
   rw[et,xu,Cn,t.aZ];congr 1;omega
  have hal:(ah ((t.nd 0).take i) 0 (Al t.size V.aN)).length=t.size:=by rw[HA,Bi]
  rw[ea];generalize hA:ah ((t.nd 0).take i) 0 (Al t.size V.aN)=A at hal ⊢;unfold cY;cases ġ:en t 0 i with
  | word w=>simp[Ent.pv,di,OU]
  | pair a b=>
   obtain⟨ha,hb⟩:=ig t hi ġ;have s1:iB (A.map vp) (.int (a:Int)) (.int ((0+i:Nat):Int))=.ret ((A.map vp).set a (.int ((0+i:Nat):Int))):=kn (by rw[Aj];omega);have s2:iB ((A.map vp).set a (.int ((0+i:Nat):Int))) (.int (b:Int)) (.int ((0+i:Nat):Int))=.ret (((A.map vp).set a (.int ((0+i:Nat):Int))).set b (.int ((0+i:Nat):Int))):=kn (by rw[BK,Aj];omega);simp only[Ent.pv,oD,gt,cQ,gD,aU,ci,Ag,if_false,az,di,ii,s1,s2];show _=FC vp ((A.set a _).set b _);rw[Fm,Fm];rfl
 ·subst hs;simp only[bX,Aj];rw[List.take_length];exact q
def zV(e:Ent)(j:Nat):PV:=match e with | .word x=>.str x | .pair _ _=>.int (j:Int)
def zU(t:Tr)(ds:O Int)(b:Int)(j:Nat):Bool:=decide (ds.getD j 0<=b)&&(match jD t 0 j .aN with | .int a=>decide (b < ds.getD a.toNat 0) | _=>true)
def xY(t:Tr)(ds:O Int)(b:Int)(n j:Nat):O (Nat×Nat):=((AE j).filter (zU t ds b)).map λk=>(k,n)
def aD(t:Tr)(ds bs:O Int):Nat->O (Nat×Nat)
 | 0=>[]
 | i+1=>aD t ds bs i++xY t ds (bs.getD i 0) i t.size
def Lv(l:O (Nat×Nat)):O PV:=l.map λp=>.tup [.int (p.1:Int),.int (p.2:Int)]
def vj(t:Tr)(ds:O Int)(b:Int)(n j:Nat):(xY t ds b n j).length<=j:=by
 unfold xY;rw[Aj];refine Bp (BM _ _) ?_;rw[CA];exact Ao _
theorem fu(t:Tr)(ds bs:O Int):∀i,(aD t ds bs i).length<=i*t.size
 | 0=>Bn _
 | i+1=>by
  rw[aD,Ad];have h1:=fu t ds bs i;have h2:=vj t ds (bs.getD i 0) i t.size;rw[Fi];omega
def L0(t:Tr)(ds:O Int)(b:Int)(n j:Nat):xY t ds b n (j+1)=xY t ds b n j++(if zU t ds b j then [(j,n)] else []):=by
 unfold xY;rw[List.range_succ,List.filter_append,AY];congr 1;by_cases c:zU t ds b j <;> simp[c]
def qY(p:Nat×Nat):O Key:=[.inl (p.1:Int),.inl (p.2:Int)]
theorem yN{p q:Nat×Nat}(h:qY p=qY q):p=q:=by
 obtain⟨a,b⟩:=p;obtain⟨c,d⟩:=q;simp[qY]at h;obtain⟨h1,h2⟩:=h;exact Prod.ext (by show a=c;omega) (by show b=d;omega)
def lL:Nat->O (Nat×Nat)->O (O Key×PV)
 | _,[]=>[]
 | k,p::l=>(qY p,.int (k:Int))::lL (k+1) l
theorem kA:∀(k:Nat) (l:O (Nat×Nat)),(lL k l).map (·.1)=l.map qY
 | _,[]=>rfl
 | k,p::l=>by rw[lL,Au,Au,kA (k+1) l]
def yw(k:Nat)(l:O (Nat×Nat)):(lL k l).length=l.length:=by have:=congrArg B4 (kA k l);simpa using this
theorem qF:∀(k:Nat) (l:O (Nat×Nat)) (p:Nat×Nat),p∈l->kU (lL k l) (qY p)=ap (.int ((k+l.idxOf p:Nat):Int))
 | k,q::l,p,h=>by
  rw[List.idxOf_cons];by_cases c:q=p
  ·subst c;simp[lL,kU]
  ·have hp:p∈l:=(AG.mp h).elim (λz=>absurd z.symm c) id;have ih:=qF (k+1) l p hp;have c2:qY q≠qY p:=λz=>c (yN z);have c3:(q==p)=false:=by simpa using c
   have e:kU (lL k (q::l)) (qY p)=kU (lL (k+1) l) (qY p):=by simp[lL,kU,c2]
   rw[e,ih,c3];congr 2;show((k+1+l.idxOf p:Nat):Int)=((k+(l.idxOf p+1):Nat):Int);omega
def uW(e:Ent)(j:Nat)(d b:Int):O Nat:=if d < b then [j] else match e with | .word _=>[] | .pair x y=>[x,y]
def Sa(l:O (Nat×Nat))(j n:Nat):O Nat:=(l.filter λp=>decide (p.2=n)&&!decide (p.1=j)).map λp=>l.idxOf p
def Ji(e:Ent)(l:O (Nat×Nat))(j n:Nat)(d b:Int):PV:=.tup [zV e j,.int (n:Int),.tup (aA ((uW e j d b).map λx=>l.idxOf (x,n-1))),.tup (aA (Sa l j n))]
def IG{f:α->β}(hf:∀x y,f x=f y->x=y){l:List α}(h:l.Nodup):(l.map f).Nodup:=List.Pairwise.map f (λa b n z=>n (hf a b z)) h
def JE(t:Tr)(ds:O Int)(b:Int)(n j:Nat):(xY t ds b n j).Nodup:=by
 exact IG (λx y h=>(Prod.mk.inj h).1) (List.Pairwise.filter _ List.nodup_range)
theorem ft:∀{i:Nat}{p:Nat×Nat},p∈aD t ds bs i->p.2 < i/\p.1 < t.size
 | 0,_,h=>by simp[aD]at h
 | i+1,p,h=>by
  rw[aD]at h;rcases Ba.mp h with h | h
  ·have:=ft h;omega
  ·obtain⟨k,hk,rfl⟩:=Av.mp h;have:=AO.mp (A3.mp hk).1;exact⟨Di _,this⟩
theorem iA(t:Tr)(ds bs:O Int):∀i,(aD t ds bs i).Nodup
 | 0=>EY
 | i+1=>by
  rw[aD];refine C8.mpr ⟨iA t ds bs i,JE _ _ _ _ _,λa ha b hb z=>?_⟩;subst z;have h1:=(ft ha).1;obtain⟨k,_,rfl⟩:=Av.mp hb;exact A2 _ h1
def jU(h:l[k]?=ap v):Tg l (.int (k:Int))=.ret v:=by
 rw[bf,bo h];rfl
def zp(ds:O Int)(h:(c6 0 (cO ds))[i]?=ap x):i < ds.length/\x=.tup [.int (i:Int),.int (ds.getD i 0)]:=by
 have hi:i < ds.length:=by have:=(Am.mp h).1;rw[bX,fK]at this;exact this
 obtain⟨y,hy,rfl⟩:=fh h;unfold cO at hy;rw[Ak,Ae hi]at hy;have hy:=Option.some.inj hy;subst hy;refine⟨hi,?_⟩;rw[AJ,Ar,Ae hi];rfl
theorem xX(t:Tr)(ds bs:O Int)(hd:ds.length=t.size)(hz:t.size<=100)(hb:bs.length*t.size<=900)(hb2:bs.length<=900):(iJ t.pv (.tup (cO ds)) (.cl (cO bs))).le (.ret (Lv (aD t ds bs bs.length))):=λQ q=>by
 unfold iJ;have c1:(cO bs).length<=sizeLine:=ba (by rw[fK];omega);have c2:(cO ds).length<=sizeLine:=ba (by rw[fK];omega);simp only[ii,ci];refine W.le.use (zI t ∅) ?_;simp only[cP,gt,pr c1];refine iY (λi s=>s=Lv (aD t ds bs i)) rfl (λi x s hx hs=>?_) (λs hs=>?_)
 ·subst hs;obtain⟨hi,rfl⟩:=zp bs hx;simp only[oD,gt,ci,az,pr c2];have hl:=fu t ds bs i;have hm:i*t.size+t.size<=900:=by
   have:(i+1)*t.size<=bs.length*t.size:=Nat.mul_le_mul_right _ hi;rw[Fi]at this;omega
  refine iY (λj s=>s=Lv (aD t ds bs i++xY t ds (bs.getD i 0) i j)) (by simp[xY]) (λj x s hx hs=>?_) (λs hs=>?_)
  ·subst hs;obtain⟨hj,rfl⟩:=zp ds hx;have Ly:=vj t ds (bs.getD i 0) i j;simp only[oD,gt,ci];rw[L0];have W9:j < t.size:=by omega
   have ý:zU t ds (bs.getD i 0) j=true->(mn (Lv (aD t ds bs i++xY t ds (bs.getD i 0) i j)) (PV.tup [.int (j:Int),.int (i:Int)])).run λs=>s=Lv (aD t ds bs i++(xY t ds (bs.getD i 0) i j++if zU t ds (bs.getD i 0) j=true then [(j,i)] else [])):=λc=>by
    rw[jq (by unfold Lv;rw[Aj,Ad];omega),if_pos c];unfold Lv;rw[<- AW,AY (l₂:=[(j,i)])];rfl
   have no:zU t ds (bs.getD i 0) j=false->Lv (aD t ds bs i++xY t ds (bs.getD i 0) i j)=Lv (aD t ds bs i++(xY t ds (bs.getD i 0) i j++if zU t ds (bs.getD i 0) j=true then [(j,i)] else [])):=λc=>by rw[c];simp
   generalize eb:bs.getD i 0=b at ý no ⊢;generalize ed:ds.getD j 0=d at *;simp only[ii,ci,Jb,gt,aW,az,jU (Js t W9)];by_cases c:d<=b
   ·simp only[c,decide_true,if_true,ci,gt];rcases qp t 0 j .aN [] W9 with⟨_,e,_⟩ | ⟨a,_,ha,e,_⟩
    ·have sb:zU t ds b j=true:=by unfold zU;rw[e,ed];simp[c]
     rw[e];simp only[vp,oH,gt,aW,PV.lj,if_true];exact ý sb
    ·rw[AJ]at e;have sb:zU t ds b j=decide (b < ds.getD a 0):=by unfold zU;rw[e,ed];simp[c]
     rw[e];have i2:cx (cO ds) (a:Int)=ap (.int (ds.getD a 0)):=int_at ∅;simp only[vp,oH,gt,aW,PV.lj,Ag,if_false,bf,i2,ut,rQ,ii];by_cases c2:b < ds.getD a 0
     ·rw[decide_eq_true c2]at sb ⊢;exact ý sb
     ·rw[decide_eq_false c2]at sb ⊢;exact no sb
   ·have sb:zU t ds b j=false:=by unfold zU;rw[ed];simp[c]
    simp only[c,decide_false,Ag,if_false,gt];exact no sb
  ·subst hs;rw[bX,fK,hd];rfl
 ·subst hs;rw[bX,fK];exact q
def QQ{l:O (Nat×Nat)}(h:l≠[])(k:Nat):lL k l≠[]:=by cases l with | nil=>exact absurd rfl h | cons a l=>simp[lL]
def F9(k:Nat)(l:O (Nat×Nat)):((lL k l).map λkv=>PV.tup (kv.1.map kP))=l.map λp=>PV.tup [.int (p.1:Int),.int (p.2:Int)]:=by
 have:=congrArg (FC λx:O Key=>PV.tup (x.map kP)) (kA k l);rw[AL,AL]at this;exact this
theorem PQ{l:O (Nat×Nat)}(h1:es[j]?=ap e)(h2:j < ds.length)(h3:n < bs.length)(hl:l.length<=1000)(h0:l≠[])
  (hb:∀x∈uW e j (ds.getD j 0) (bs.getD n 0),1<=n/\(x,n-1)∈l) :
  (kB (.tup (es.map Ent.pv)) (.tup (cO ds)) (.cl (cO bs)) (Ov (lL 0 l)) (.tup [.int (j:Int),.int (n:Int)])).le (.ret (Ji e l j n (ds.getD j 0) (bs.getD n 0))):=λQ q=>by
 unfold kB;have i0:cx [PV.int (j:Int),PV.int (n:Int)] 0=ap (.int j):=rfl;have i1:cx [PV.int (j:Int),PV.int (n:Int)] 1=ap (.int n):=rfl;have i2:cx (cO ds) (j:Int)=ap (.int (ds.getD j 0)):=int_at h2;have i3:cx (cO bs) (n:Int)=ap (.int (bs.getD n 0)):=int_at h3;have i4:cx (es.map Ent.pv) (j:Int)=ap e.pv:=bo (by rw[Ak,h1];rfl);simp only[ii,ci,az,cP,bf,i0,i1,i2,i3,i4,ut,gt,rQ,aU];generalize hdj:ds.getD j 0=d at *;generalize hbn:bs.getD n 0=b at *;have below:∀{R:PV->Prop},R (.tup (aA (uW e j d b)))->(if decide (d < b)=true then bd (PV.tup [PV.int (j:Int)]) else cY e.pv).run R:=λ{R} r=>by
  unfold uW at r;unfold cY;by_cases c:d < b
  ·rw[if_pos c]at r;simpa[c]using r
  ·cases e with
   | word w=>simpa[c,Ent.pv]using r
   | pair a b=>simpa[c,Ent.pv]using r
 refine below ?_;refine iI (λx=>.int ((l.idxOf (x,n-1):Nat):Int)) (λk hk=>?_) ?_
 ·obtain⟨g1,g2⟩:=hb k hk;intro R r;have en1:(n:Int)-1=((n-1:Nat):Int):=by omega
  simp only[ZX,ii,ci,lU,gt,en1];rw[show PV.tup [.int (k:Int),.int ((n-1:Nat):Int)]=.tup ((qY (k,n-1)).map kP) from rfl];refine Jk (qF 0 l (k,n-1) g2) ?_;rw[AJ];exact r
 simp only[ci,Hb,gt];refine J3 (QQ h0 0) (by rw[yw];exact hl) ?_;rw[F9];refine Na (λp=>if (decide (p.2=n)&&!decide (p.1=j))=true then ap (.int ((l.idxOf p:Nat):Int)) else bn) (λp hp=>?_) ?_
 ·intro R r;obtain⟨u,v⟩:=p;have j0:cx [PV.int (u:Int),PV.int (v:Int)] 0=ap (.int u):=rfl;have j1:cx [PV.int (u:Int),PV.int (v:Int)] 1=ap (.int v):=rfl;simp only[ZX,ii,ci,az,bf,j0,j1,ut,gt,dF,oG,aW];have get:∀{R:PV->Prop},R (.int ((l.idxOf (u,v):Nat):Int))->(dgW (Ov (lL 0 l)) (PV.tup [.int (u:Int),.int (v:Int)])).run R:=λ{R} r=>by
   refine Jk (qF 0 l (u,v) hp) ?_;rw[AJ];exact r
  by_cases c1:v=n
  ·subst c1;by_cases c2:u=j
   ·subst c2;simp only[beq_self_eq_true,AU,if_true,gt,Ag,if_false];simpa using r
   ·have c3:((u:Int)==(j:Int))=false:=by simp;omega
    simp only[beq_self_eq_true,c3,E1,if_true,gt,ci];refine get ?_;simpa[c2]using r
  ·have c3:((v:Int)==(n:Int))=false:=by simp;omega
   simp only[c3,Ag,if_false,gt];simpa[c1]using r
 rw[Tw];have nm:∀{R:PV->Prop},R (zV e j)->(dZ (.tup (es.map Ent.pv)) (.int (j:Int))).run R:=λ{R} r=>by
  unfold dZ;simp only[ii,ci,az,bf,i4,ut,gt];cases e with
  | word w=>simpa[Ent.pv,zV]using r
  | pair a b=>simpa[Ent.pv,zV]using r
 refine nm ?_;have e1:(l.filter λp=>decide (p.2=n)&&!decide (p.1=j)).map (λp=>PV.int ((l.idxOf p:Nat):Int))=aA (Sa l j n):=by
  unfold aA Sa;rw[AL];rfl
 have e2:(uW e j d b).map (λx=>PV.int ((l.idxOf (x,n-1):Nat):Int))=aA ((uW e j d b).map λx=>l.idxOf (x,n-1)):=by
  unfold aA;rw[AL];rfl
 rw[e1,e2];exact q
def Xn(t:Tr)(ds bs:O Int):O PV:=(aD t ds bs bs.length).map λp=>Ji (en t 0 p.1) (aD t ds bs bs.length) p.1 p.2 (ds.getD p.1 0) (bs.getD p.2 0)
def okD(t:Tr)(ds bs:O Int):Prop:=∀p∈aD t ds bs bs.length,∀x∈uW (en t 0 p.1) p.1 (ds.getD p.1 0) (bs.getD p.2 0),1<=p.2/\(x,p.2-1)∈aD t ds bs bs.length
theorem qG:∀(k:Nat) (l:O (Nat×Nat)),(l.zipIdx k).map (λp=>PV.tup [PV.tup [.int (p.1.1:Int),.int (p.1.2:Int)],.int ((p.2:Nat):Int)])=(lL k l).map Iy
 | _,[]=>rfl
 | k,p::l=>by rw[List.zipIdx_cons,Au,qG (k+1) l];rfl
def aE(t:Tr)(ds:O Int):O Int:=0::sortI (Ii t ds)
def PY(t:Tr)(ds:O Int):(Ii t ds).length<=t.size:=by
 unfold Ii splits;rw[Aj];have:=BM (λj=>tM (en t 0 j)) (AE t.size);rw[CA]at this;exact this
def uv{x:Int}{l:O Int}:x∈sortI l↔x∈l:=(CJ l _).mem_iff
def nT(l:O Int):(sortI l).length=l.length:=(CJ l _).length_eq
theorem Oy(t:Tr)(ds:O Int)(hd:ds.length=t.size)(hz:t.size<=25)(h0:aD t ds (aE t ds) (aE t ds).length≠[])(ok:okD t ds (aE t ds)):(mP t.pv (.tup (cO ds))).le (.ret (.tup (Xn t ds (aE t ds)))):=λQ q=>by
 unfold mP;simp only[ii,ci];refine W.le.use (mM t ∅) ?_;have hs:=PY t ds;have hl:(aE t ds).length<=t.size+1:=by unfold aE;rw[An,nT];omega
 have e2:vk (cO (Ii t ds))=.ret (cO (sortI (Ii t ds))):=by
  unfold vk cO;rw[oz];show W.ff _ _=_;rw[pr ∅]
 have e3:zF [PV.int 0] (cO (sortI (Ii t ds)))=.ret (cO (aE t ds)):=by
  rw[sC (by rw[fK,nT];simp;omega)];rfl
 simp only[split_le t ds hd ∅,gt,e2,e3];have hb:(aE t ds).length*t.size<=900:=by
  have:(aE t ds).length*t.size<=26*25:=EU ∅ hz;omega
 refine W.le.use (xX t ds (aE t ds) hd ∅ hb ∅) ?_;generalize hL:aD t ds (aE t ds) (aE t ds).length=L at *;have hLl:L.length<=900:=by rw[<- hL];exact Bp (fu _ _ _ _) hb
 have hLm:∀p∈L,p.2 < (aE t ds).length/\p.1 < t.size:=λp hp=>ft (hL▸hp);have c:(Lv L).length<=sizeLine:=ba (by unfold Lv;rw[Aj];omega);simp only[cP,gt,pr c,ii];unfold Lv;rw[Ob];refine iI (λp:(Nat×Nat)×Nat=>PV.tup [PV.tup [.int (p.1.1:Int),.int (p.1.2:Int)],.int ((p.2:Nat):Int)]) (λp _ R r=>by simpa using r) ?_;rw[qG];refine KY ?_ (by rw[yw];omega) ?_
 ·rw[kA];exact IG (λ_ _ h=>yN h) (hL▸iA t ds _ _)
 refine iI (λp:Nat×Nat=>Ji (en t 0 p.1) L p.1 p.2 (ds.getD p.1 0) ((aE t ds).getD p.2 0)) (λp hp=>?_) ?_
 ·obtain⟨g1,g2⟩:=hLm p hp;refine PQ (kY t 0 p.1 g2) ∅ g1 ∅ h0 λx hx=>?_;have:=ok p (by rw[hL];exact hp) x hx;rw[hL]at this;exact this
 ·have:Xn t ds (aE t ds)=L.map λp:Nat×Nat=>Ji (en t 0 p.1) L p.1 p.2 (ds.getD p.1 0) ((aE t ds).getD p.2 0):=by unfold Xn;rw[hL]
  rw[<- this];exact q
end My
variable{l:O Int}
namespace My
theorem fZ:∀(t:Tr) (o x:Nat) (p:V),x < t.size->(x=t.size-1/\jD t o x p=p)\/∃a u v,x < a/\a < t.size/\jD t o x p=.int ((o+a:Nat):Int)/\en t o a=.pair u v/\(u=o+x\/v=o+x)
 | .leaf _,o,x,p,h=>.inl ⟨by have:x < 1:=h;show x=0;omega,rfl⟩
 | .node l r,o,x,p,h=>by
  have es:(Tr.node l r).size=l.size+r.size+1:=rfl;have top:en (.node l r) o (l.size+r.size)=.pair (o+l.size-1) (o+l.size+r.size-1):=by rw[en,if_neg ∅,if_neg ∅]
  by_cases c1:x < l.size
  ·rw[show jD (.node l r) o x p=jD l o x (.int (o+l.size+r.size:Nat)) by rw[jD,if_pos c1]];rcases fZ l o x (.int (o+l.size+r.size:Nat)) c1 with⟨h1,h2⟩ | ⟨a,u,v,h1,h2,h3,h4,h5⟩
   ·exact .inr ⟨l.size+r.size,_,_,by omega,by omega,by rw[h2,A7],top,.inl ∅⟩
   ·exact .inr ⟨a,u,v,h1,by omega,h3,by rw[en,if_pos h2];exact h4,h5⟩
  ·by_cases c2:x < l.size+r.size
   ·rw[show jD (.node l r) o x p=jD r (o+l.size) (x-l.size) (.int (o+l.size+r.size:Nat)) by rw[jD,if_neg c1,if_pos c2]];rcases fZ r (o+l.size) (x-l.size) (.int (o+l.size+r.size:Nat)) ∅ with⟨h1,h2⟩ | ⟨a,u,v,h1,h2,h3,h4,h5⟩
    ·exact .inr ⟨l.size+r.size,_,_,by omega,by omega,by rw[h2,A7],top,.inr ∅⟩
    ·refine .inr ⟨l.size+a,u,v,by omega,by omega,by rw[h3,A7],?_,by omega⟩;rw[en,if_neg ∅,if_pos ∅,Cm];exact h4
   ·exact .inl ⟨by omega,by rw[jD,if_neg c1,if_neg c2]⟩
theorem Hd:∀(t:Tr) (o j:Nat) (p:V) (a b:Nat),j < t.size->en t o j=.pair a b->o<=a/\o<=b/\a < o+j/\b < o+j/\a < b/\jD t o (a-o) p=.int ((o+j:Nat):Int)/\jD t o (b-o) p=.int ((o+j:Nat):Int)
 | .leaf _,o,j,p,a,b,h,e=>by rw[en]at e;cases e
 | .node l r,o,j,p,a,b,h,e=>by
  have es:(Tr.node l r).size=l.size+r.size+1:=rfl;have lp:=l.size_pos;have rp:=r.size_pos;by_cases c1:j < l.size
  ·rw[en,if_pos c1]at e;obtain⟨h1,h2,h3,h4,h5,h6,h7⟩:=Hd l o j (.int (o+l.size+r.size:Nat)) a b c1 e;refine⟨h1,h2,h3,h4,h5,?_,?_⟩
   ·rw[jD,if_pos ∅];exact h6
   ·rw[jD,if_pos ∅];exact h7
  ·by_cases c2:j < l.size+r.size
   ·rw[en,if_neg c1,if_pos c2]at e;obtain⟨h1,h2,h3,h4,h5,h6,h7⟩:=Hd r (o+l.size) (j-l.size) (.int (o+l.size+r.size:Nat)) a b ∅ e;refine⟨by omega,by omega,by omega,by omega,h5,?_,?_⟩
    ·rw[jD,if_neg ∅,if_pos ∅,Nat.sub_sub,h6,show o+l.size+(j-l.size)=o+j by omega]
    ·rw[jD,if_neg ∅,if_pos ∅,Nat.sub_sub,h7,show o+l.size+(j-l.size)=o+j by omega]
   ·rw[en,if_neg c1,if_neg c2]at e;injection e with e1 e2;subst e1;subst e2;have hj:j=l.size+r.size:=by omega
    subst hj;have à:∀(t:Tr) (o:Nat) (p:V),jD t o (t.size-1) p=p:=λt o p=>by
     have tp:=t.size_pos;rcases fZ t o (t.size-1) p ∅ with⟨_,h⟩ | ⟨a,_,_,h1,h2,_⟩
     ·exact h
     ·omega
    refine⟨by omega,by omega,by omega,by omega,by omega,?_,?_⟩
    ·rw[jD,if_pos ∅,show o+l.size-1-o=l.size-1 by omega,à,A7]
    ·rw[jD,if_neg ∅,if_pos ∅,show o+l.size+r.size-1-o-l.size=r.size-1 by omega,à,A7]
structure DD(t:Tr)(ds:List Int):Prop where
 len:ds.length=t.size
 leaf:∀j w,j < t.size->en t 0 j=.word w->ds.getD j 0=0
 pair:∀j a b,j < t.size->en t 0 j=.pair a b->ds.getD a 0 < ds.getD j 0/\ds.getD b 0 < ds.getD j 0/\1<=ds.getD j 0
 nd:(Ii t ds).Nodup
def DD.of(h:Rl t ds=true):DD t ds:=by
 unfold Rl at h;rw[Aw,Aw,decide_eq_true_iff,decide_eq_true_iff]at h;obtain⟨h1,h2,h3⟩:=h;have h4:∀j,j < t.size->YH t ds j=true:=λj hj=>Co.mp h3 j (AO.mpr hj);refine⟨h1,λj w hj e=>?_,λj a b hj e=>?_,h2⟩
 ·have:=h4 j hj;unfold YH at this;rw[e]at this;exact eq_of_beq this
 ·have:=h4 j hj;unfold YH at this;rw[e]at this;rw[Aw,Aw,Aw,decide_eq_true_iff,decide_eq_true_iff,decide_eq_true_iff,decide_eq_true_iff]at this;exact⟨this.1.1.1,this.1.1.2,this.1.2⟩
def DD.mem(D:DD t ds)(hj:j < t.size):ds.getD j 0∈aE t ds:=by
 cases e:en t 0 j with
 | word w=>rw[D.leaf j w hj e];exact .head _
 | pair a b=>
  refine AM _ (uv.mpr ?_);exact Av.mpr ⟨j,A3.mpr ⟨AO.mpr hj,by rw[e];rfl⟩,rfl⟩
theorem L3(l:O Int):(sortI l).Pairwise (·<=·):=(Ek (le:=λa b=>decide (a<=b)) (λa b c=>by simp;omega) (λa b=>by simp;omega) l).imp (by simp)
theorem DD.inc(D:DD t ds):(aE t ds).Pairwise (· < ·):=by
 unfold aE;refine D3.mpr ⟨λx hx=>?_,?_⟩
 ·have hx:=uv.mp hx;unfold Ii splits at hx;obtain⟨j,hj,rfl⟩:=Av.mp hx;obtain⟨h1,h2⟩:=A3.mp hj;cases e:en t 0 j with
  | word w=>rw[e]at h2;cases h2
  | pair a b=>have:=(D.pair j a b (AO.mp h1) e).2.2;omega
 ·have nd:(sortI (Ii t ds)).Nodup:=(CJ _ _).nodup_iff.mpr D.nd;exact(List.Pairwise.and (L3 _) nd).imp λ⟨h1,h2⟩=>Int.lt_iff_le_and_ne.mpr ⟨h1,h2⟩
theorem rj(h:l.Pairwise (· < ·))(hn:n < l.length){x:Int}(hx:x∈l)(lt:x < l.getD n 0):1<=n/\x<=l.getD (n-1) 0:=by
 obtain⟨i,hi,rfl⟩:=DH hx;have gd:∀{k} (hk:k < l.length),l.getD k 0=l[k]:=λ{k} hk=>by rw[Ar,Ae hk];rfl
 rw[gd hn]at lt;have c:i < n:=by
  rcases C4 i n with c | c
  ·exact c
  ·rcases D2 c with c | c
   ·subst c;omega
   ·have:=BL.mp h _ _ hn hi c;omega
 refine⟨by omega,?_⟩;rw[gd ∅];rcases D2 (show i<=n-1 by omega) with c2 | c2
 ·subst c2;exact CW _
 ·have:=BL.mp h _ _ hi ∅ c2;omega
theorem wC(h:l.Pairwise (· < ·))(hn:n < l.length)(hi:i < n):l.getD i 0 < l.getD n 0:=by
 have gd:∀{k} (hk:k < l.length),l.getD k 0=l[k]:=λ{k} hk=>by rw[Ar,Ae hk];rfl
 rw[gd hn,gd ∅];exact BL.mp h _ _ ∅ hn hi
theorem bF{t:Tr}{ds bs:O Int}:∀{m:Nat}{j n:Nat},(j,n)∈aD t ds bs m↔n < m/\j < t.size/\zU t ds (bs.getD n 0) j=true
 | 0,j,n=>by simp[aD]
 | m+1,j,n=>by
  rw[aD,Ba,bF];unfold xY;rw[Av]
  constructor
  ·rintro (⟨h1,h2,h3⟩ | ⟨k,hk,e⟩)
   ·exact⟨by omega,h2,h3⟩
   ·obtain⟨h1,h2⟩:=A3.mp hk;injection e with e1 e2;subst e1;subst e2;exact⟨by omega,AO.mp h1,h2⟩
  ·rintro⟨h1,h2,h3⟩;by_cases c:n=m
   ·subst c;exact .inr ⟨j,A3.mpr ⟨AO.mpr h2,h3⟩,rfl⟩
   ·exact .inl ⟨by omega,h2,h3⟩
theorem d8{b:Int}(hj:j < t.size):zU t ds b j=true↔ds.getD j 0<=b/\∀a,jD t 0 j .aN=.int ((a:Nat):Int)->b < ds.getD a 0:=by
 unfold zU;rw[Aw,decide_eq_true_iff];rcases fZ t 0 j .aN hj with⟨_,e⟩ | ⟨a,u,v,_,ha,e,_,_⟩
 ·rw[e];exact⟨λh=>⟨h.1,λa z=>by cases z⟩,λh=>⟨h.1,rfl⟩⟩
 ·rw[AJ]at e;rw[e];refine⟨λh=>⟨h.1,λa' z=>?_⟩,λh=>⟨h.1,?_⟩⟩
  ·injection z with z;have:a=a':=by omega
   subst this;simpa using h.2
  ·simpa using h.2 a rfl
theorem DD.ok(D:DD t ds):okD t ds (aE t ds):=by
 rintro⟨j,n⟩ hp x hx;obtain⟨hn,hj,hs⟩:=bF.mp hp;obtain⟨zX,qb⟩:=(d8 hj).mp hs;have inc:=D.inc;show 1<=n/\(x,n-1)∈_;unfold uW at hx;by_cases c:ds.getD j 0 < (aE t ds).getD n 0
 ·rw[if_pos c]at hx;have:x=j:=by simpa using hx
  subst this;obtain⟨g1,g2⟩:=rj inc hn (D.mem hj) c;have lt:=wC inc hn (show n-1 < n by omega);exact⟨g1,bF.mpr ⟨by omega,hj,(d8 hj).mpr ⟨g2,λa e=>by have:=qb a e;omega⟩⟩⟩
 ·rw[if_neg c]at hx;cases e:en t 0 j with
  | word w=>rw[e]at hx;cases hx
  | pair a b=>
   rw[e]at hx;obtain⟨p1,p2,p3⟩:=D.pair j a b hj e;obtain⟨_,_,a1,a2,_,a3,a4⟩:=Hd t 0 j .aN a b hj e;rw[AJ,Fj]at *;have hx:x=a\/x=b:=by simpa using hx
   have key:x < t.size/\ds.getD x 0 < ds.getD j 0/\jD t 0 x .aN=.int ((j:Nat):Int):=by
    rcases hx with rfl | rfl
    ·exact⟨by omega,p1,a3⟩
    ·exact⟨by omega,p2,a4⟩
   obtain⟨k1,k2,k3⟩:=key;obtain⟨g1,g2⟩:=rj inc hn (D.mem k1) ∅;have lt:=wC inc hn (show n-1 < n by omega);refine⟨g1,bF.mpr ⟨by omega,k1,(d8 k1).mpr ⟨g2,λa' e'=>?_⟩⟩⟩;rw[k3]at e';injection e' with e';have:j=a':=by omega
   subst this;omega
theorem Jf:∀(t:Tr) (o:Nat),∃w,en t o 0=.word w
 | .leaf w,o=>⟨w,rfl⟩
 | .node l r,o=>by rw[en,if_pos (show 0 < l.size from l.size_pos)];exact Jf l o
theorem DD.ne(D:DD t ds):aD t ds (aE t ds) (aE t ds).length≠[]:=by
 intro z;have:(0,0)∈aD t ds (aE t ds) (aE t ds).length:=by
  obtain⟨w,e⟩:=Jf t 0;refine bF.mpr ⟨by simp[aE],t.size_pos,(d8 t.size_pos).mpr ⟨?_,λa ea=>?_⟩⟩
  ·rw[D.leaf 0 w t.size_pos e];exact CW _
  ·rcases fZ t 0 0 .aN t.size_pos with⟨_,e⟩ | ⟨a',u,v,_,ha,e,ep,_⟩
   ·rw[e]at ea;cases ea
   ·rw[e,AJ]at ea;injection ea with ea;have:a'=a:=by omega
    subst this;have:=(D.pair a' u v ha ep).2.2;show(0:Int) < _;omega
 rw[z]at this;cases this
def Ox(D:DD t ds)(hz:t.size<=25):(mP t.pv (.tup (cO ds))).le (.ret (.tup (Xn t ds (aE t ds)))):=Oy t ds D.len hz D.ne D.ok
def Ua(t:Tr):O PV:=(AE t.size).map λj=>.tup (aA (up t 0 j []))
@[simp] theorem Pt(t:Tr):(Ua t).length=t.size:=by unfold Ua;simp
def HU(t:Tr)(h:j < t.size):(Ua t)[j]?=ap (.tup (aA (up t 0 j []))):=by unfold Ua;simp[h]
theorem T9(t:Tr):∀(k j:Nat),j+k+1=t.size->(up t 0 j []).length<=k+1:=λk=>by
 induction k using DC with
 | ind k ih=>
  intro j hj;rcases qp t 0 j .aN [] ∅ with⟨q1,q2,q3⟩ | ⟨a,q1,q2,q3,q4⟩
  ·rw[q3];show 1<=k+1;omega
  ·rw[q4,An];have:=ih (t.size-a-1) ∅ a ∅;omega
theorem XG(t:Tr)(h:j < t.size):(up t 0 j []).length<=t.size:=by
 have:=T9 t (t.size-j-1) j ∅;omega
def FH(t:Tr)(i:Nat):O PV:=(AE t.size).map λj=>if j+i < t.size then .tup [] else .tup (aA (up t 0 j []))
def pS(t:Tr)(i:Nat):(FH t i).length=t.size:=by unfold FH;simp
def HS(t:Tr)(i:Nat)(h:j < t.size)(c:¬j+i < t.size):(FH t i)[j]?=ap (.tup (aA (up t 0 j []))):=by unfold FH;simp[h,c]
theorem Pq(t:Tr)(i j:Nat)(h:j+i+1=t.size):(FH t i).set j (.tup (aA (up t 0 j [])))=FH t (i+1):=by
 apply Cf;intro k;by_cases hk:k < t.size
 ·by_cases e:j=k
  ·subst e;rw[Ct (by rw[pS];exact hk),HS t (i+1) hk ∅]
  ·rw[BS e];unfold FH;simp only[Ak,B1 hk,Cu];by_cases c:k+i < t.size
   ·rw[if_pos c,if_pos ∅]
   ·rw[if_neg c,if_neg ∅]
 ·rw[A4 (by rw[BK,pS];omega),A4 (by rw[pS];omega)]
def XH(t:Tr):FH t 0=Al t.size (.tup []):=by
 apply Cf;intro k;unfold FH;by_cases hk:k < t.size
 ·simp[hk]
 ·simp[hk]
theorem Pr(t:Tr):FH t t.size=Ua t:=by
 apply CK;intro j _;rw[if_neg ∅]
theorem M9(t:Tr)(hz:t.size<=900):(iM t.pv).le (.ret (Ua t)):=λQ q=>by
 unfold iM;simp only[ii,ci];refine W.le.use (zI t hz) ?_;simp only[az,gt];refine Gm (λ_=>.tup []) (λx hx=>rfl) ?_;have e0:(Xr t).map (λ_=>PV.tup [])=FH t 0:=by rw[EJ,Jr,XH]
 have en:(((t.size:Nat):Int)-1 - -1).toNat=t.size:=by omega
 rw[e0];simp only[bq,Jr,ii,lU,gt,oE,Ja,en];refine⟨⟨trivial,cM ∅ ∅⟩,?_⟩;show(di _ _ _).run _;refine iY (λi s=>s=FH t i) rfl (λi x s hx hs=>?_) (λs hs=>?_)
 ·subst hs;obtain⟨hi,rfl⟩:=uN hx;obtain⟨j,hj⟩:∃j:Nat,j=t.size-1-i:=⟨_,rfl⟩;have ej:(((t.size:Nat):Int)-1-(i:Int))=(j:Int):=by omega
  rw[ej];have W9:j < t.size:=by omega
  have fin:∀l:O PV,l.length<=900->.int (j:Int)::l=aA (up t 0 j [])->(am (addW (.tup [.int (j:Int)]) (.tup l)) λx=>iB (FH t i) (.int (j:Int)) x).run λs=>s=FH t (i+1):=λl hl he=>by
   rw[RS,pr (ba (by simp;omega))];show(iB _ _ (.tup (.int (j:Int)::l))).run _;rw[he,kn (by rw[pS];exact W9),Pq t i j ∅];rfl
  simp only[ii,ci,jU (Js t W9),gt];rcases qp t 0 j .aN [] W9 with⟨_,e,e2⟩ | ⟨a,ha1,ha,e,e2⟩
  ·rw[e];simp only[vp,oH,PV.lj,aW,gt,if_true];have:=fin [] (by simp) (by rw[e2,AJ];rfl);simpa using this
  ·rw[AJ]at e;rw[e];have i2:Tg (FH t i) (.int (a:Int))=.ret (.tup (aA (up t 0 a []))):=jU (HS t i ha ∅);simp only[vp,oH,PV.lj,aW,gt,Ag,if_false,i2,ii];have ua:=XG t ha;have:=fin (aA (up t 0 a [])) (by rw[cH];omega) (by rw[e2];simp);simpa using this
 ·subst hs;have el:(eS (((t.size:Nat):Int)-1) t.size).length=t.size:=by unfold eS;simp
  rw[el,Pr];exact q
def Xq(t:Tr)(j:Nat):O Nat:=(AE t.size).filter λk=>!decide (k∈up t 0 j [])&&!decide (j∈up t 0 k [])
theorem OQ(t:Tr)(hz:t.size<=900)(hj:j < t.size):(eV (.cl (Ua t)) (.int (j:Int))).le (.ret (.tup (aA (Xq t j)))):=λQ q=>by
 unfold eV;simp only[ii,ci,i7,Pt,i6,pr (cM (i:=0) (j:=(t.size:Int)) ∅ ∅),gt,Bc,hX];refine yK (λk=>!decide (k∈up t 0 j [])&&!decide (j∈up t 0 k [])) (λk hk=>?_) q;have hk:=AO.mp hk;simp only[ii,cP,jU (HU t hj),jU (HU t hk),az,wD,if_true];by_cases c1:k∈up t 0 j []
 ·simp[c1]
 ·by_cases c2:j∈up t 0 k []
  ·simp[c1,c2]
  ·simp[c1,c2]
def Km:Ent->O Nat
 | .word _=>[]
 | .pair a b=>[a,b]
def uD(e:Ent):cY e.pv=.ret (.tup (aA (Km e))):=by
 unfold cY;cases e with
 | word w=>simp[Ent.pv,Km]
 | pair a b=>simp[Ent.pv,Km]
def QT(h:es[j]?=ap e):dZ (.tup (es.map Ent.pv)) (.int (j:Int))=.ret (zV e j):=by
 have i1:Tg (es.map Ent.pv) (.int (j:Int))=.ret e.pv:=jU (by rw[Ak,h];rfl);unfold dZ;cases e with
 | word w=>simp only[ii,az,i1];rfl
 | pair a b=>simp only[ii,az,i1];rfl
def grS(t:Tr)(j:Nat):PV:=.tup [zV (en t 0 j) j,.int 0,.tup (aA (Km (en t 0 j))),.tup (aA (Xq t j))]
def grL(t:Tr):O PV:=(AE t.size).map (grS t)
theorem Ks(t:Tr)(hz:t.size<=900):(mO t.pv).le (.ret (.tup (grL t))):=λQ q=>by
 unfold mO;simp only[ii,ci];refine W.le.use (mM t hz) ?_;refine W.le.use (M9 t hz) ?_;simp only[bq,dm,gt,i6,pr (cM (i:=0) (j:=(t.size:Int)) ∅ ∅),Bc,hX];unfold aA;refine iI (grS t) (λj hj R r=>?_) q;have hj:=AO.mp hj;have i1:Tg ((t.nd 0).map Ent.pv) (.int (j:Int))=.ret (en t 0 j).pv:=jU (by rw[Ak,kY t 0 j hj];rfl);simp only[QT (kY t 0 j hj),ii,az,i1,uD,ci,gt];exact W.le.use (OQ t hz hj) r
structure Sy where
 nm:PV
 lv:Nat
 un:List Nat
 be:List Nat
def Sy.pv(s:Sy):PV:=.tup [s.nm,.int (s.lv:Int),.tup (aA s.un),.tup (aA s.be)]
def iW(g:O Sy):PV:=.tup (g.map Sy.pv)
def sy(g:O Sy)(i:Nat):Sy:=g.getD i ⟨.aN,0,[],[]⟩
def FQ{g:O Sy}(h:i < g.length):g[i]?=ap (sy g i):=by
 unfold sy;rw[Ar,Ae h];rfl
def Kv{g:O Sy}(h:i < g.length):Tg (g.map Sy.pv) (.int (i:Int))=.ret (sy g i).pv:=jU (by rw[Ak,FQ h];rfl)
def yY(w:Str):PV->Bool
 | .str s=>s==w
 | _=>false
def hm(g:O Sy)(i:Nat)(w:Str):Bool:=(sy g i).un.isEmpty&&yY w (sy g i).nm
inductive OZ(g:List Sy):Nat->Nat->Prop
 | refl (i:Nat):OZ g i i
 | step {i u j:Nat}:u∈(sy g i).un->OZ g u j->OZ g i j
structure WG(g:List Sy)(ws:List Str):Prop where
 pos:0 < g.length
 len:g.length<=300
 dn:∀i,i < g.length->∀u∈(sy g i).un,u < i
 sX:∀i,i < g.length->(sy g i).un.length<=2
 be:∀i,i < g.length->∀u∈(sy g i).be,u < g.length
 WB:∀i,i < g.length->(sy g i).be.length<=30
 nm:∀i,i < g.length->(∃s,(sy g i).nm=.str s)\/∃n,(sy g i).nm=.int n
 VS:∀w∈ws,∃i,i < g.length/\OZ g (g.length-1) i/\hm g i w=true
 rch:∀i,i < g.length->OZ g (g.length-1) i
def qq{g:O Sy}(h:i < g.length):df (iW g) (.int (i:Int))=.ret (.tup (aA (sy g i).un)):=by
 unfold df iW;simp only[ii,az,Kv h];rfl
def Ld{g:O Sy}(h:i < g.length):gs (iW g) (.int (i:Int))=.ret (.tup (aA (sy g i).be)):=by
 unfold gs iW;simp only[ii,az,Kv h];rfl
theorem eq_nil(l:O Nat)(h:l.length<=1000):of2 dY (.tup (aA l)) (.tup [])=.ret (.bl l.isEmpty):=by
 have fk:eK (aA l)=true:=j5.mpr λx hx=>by
  obtain⟨n,_,rfl⟩:=Av.mp hx;simp
 have fd:du (aA l)<=1:=j7 λx hx=>by
  obtain⟨n,_,rfl⟩:=Av.mp hx;simp
 rw[uH,pr ⟨by simp[fk],by simp,by simp;omega⟩];cases l with
 | nil=>simp
 | cons a l=>simp[eZ]
def Jd(h:(∃s,x=.str s)\/∃n,x=.int n)(w:Str):of2 dY x (.str w)=.ret (.bl (yY w x)):=by
 rcases h with⟨s,rfl⟩ | ⟨n,rfl⟩
 ·rw[uH,pr ⟨by simp,by simp,by simp⟩,NY];rfl
 ·rw[uH,pr ⟨by simp,by simp,by simp⟩];simp[jz,yY]
theorem Rx{g:O Sy}(G:WG g ws)(h:i < g.length)(w:Str):kF (iW g) (.int (i:Int)) (.str w)=.ret (.bl (hm g i w)):=by
 unfold kF;have l2:=G.sX i h;have i0:cx [(sy g i).nm,PV.int ((sy g i).lv:Int),.tup (aA (sy g i).un),.tup (aA (sy g i).be)] 0=ap (sy g i).nm:=rfl;simp only[ii,qq h,eq_nil _ (show(sy g i).un.length<=1000 by omega)];unfold iW hm;cases e:(sy g i).un.isEmpty with
 | false=>simp
 | true=>simp only[jb,az,ii,Kv h,Sy.pv,bf,i0,ut,Jd (G.nm i h) w,Bs]
abbrev Dd:=Str×Nat×Nat
def d3(d:Dd):PV:=.tup [.str d.1,.int (d.2.1:Int),.int (d.2.2:Int)]
def d2(d:Dd):PV:=.tup [.str d.1,.tup [.int (d.2.1:Int),.int (d.2.2:Int)]]
abbrev dbl(i:Nat):Dd:=("doubled",i,i)
abbrev ovr(i o:Nat):O Dd:=[("over",i,o),("over",o,i)]
def Lu:O Nat->O Dd
 | [a,b]=>[("split",a,b),("split",b,a)]
 | _=>[]
def K0(g:O Sy)(i:Nat):O Dd:=dbl i::(Lu (sy g i).un++(sy g i).be.flatMap (ovr i))
theorem zj(i:Nat):∀l:O Nat,(l.flatMap (ovr i)).length=2*l.length
 | []=>rfl
 | a::l=>by rw[List.flatMap_cons,Ad,zj i l];simp;omega
def Ie(l:O Nat):(Lu l).length<=2:=by unfold Lu;split <;> simp
theorem J2{g:O Sy}(G:WG g ws)(h:i < g.length):(eW (iW g) (.int (i:Int))).le (.ret ((K0 g i).map d3)):=λQ q=>by
 unfold eW iW;have l1:=Ie (sy g i).un;have l3:=G.WB i h;have i1:∀a b:Nat,cx [PV.int (a:Int),PV.int (b:Int)] 1=ap (.int (b:Int)):=λ_ _=>rfl;simp only[ii,ci,az,Kv h,gt,Sy.pv,Wf,bq,cH,dF,aW];have fin:∀s:O PV,s=(dbl i::Lu (sy g i).un).map d3->(di (aA (sy g i).be) s λgZ P6=>am (rO P6 [.tup [.str "over",.int (i:Int),gZ],.tup [.str "over",gZ,.int (i:Int)]]) λnh=>bd nh).run Q:=λs hs=>by
  refine iY (λk s=>s=(dbl i::(Lu (sy g i).un++((sy g i).be.take k).flatMap (ovr i))).map d3) (by rw[hs];simp) (λk x s hx hs=>?_) (λs hs=>?_)
  ·subst hs;unfold aA at hx;rw[Ak]at hx;cases eo:(sy g i).be[k]? with
   | none=>rw[eo]at hx;cases hx
   | some o=>
   rw[eo]at hx;have ex:=Option.some.inj hx;subst ex;have et:(sy g i).be.take (k+1)=(sy g i).be.take k++[o]:=by rw[EX,eo];rfl
   unfold rO;rw[pr (ba (by simp only[Aj,An,Ad,zj];simp;omega))];rw[et,B2];simp[d3]
  ·subst hs;rw[cH,List.take_length];exact q
 have hu:=G.sX i h;revert fin hu;generalize (sy g i).un=l;intro fin hu
 match l,hu with
 | [],_=>
  exact fin _ rfl
 | [a],_=>
  exact fin _ rfl
 | [a,b],_=>
  refine⟨ba (by simp),?_⟩;exact fin _ rfl
def fa(F:O (O Bool))(j i:Nat):Bool:=(F.getD j []).getD i false
end My
variable{g:O My.Sy}
namespace My
def ac8(h:i < g.length):cx (g.map Sy.pv) (i:Int)=ap (sy g i).pv:=bo (by rw[Ak,FQ h];rfl)
def LZ(s:Sy):cx [s.nm,PV.int (s.lv:Int),.tup (aA s.un),.tup (aA s.be)] 2=ap (.tup (aA s.un)):=(rfl)
def pZ(q:O Nat)(l:Nat):cx (aA (q++[l])) (-1)=ap (.int (l:Int)):=by rw[MX];exact OP _ _
def Wv(l:O PV)(h:a<=l.length):nB l (ap (a:Int)) bn=l.drop a:=by
 unfold nB;rw[HT.Mb,HT.P5,Nat.min_eq_left h,Cs (by simp)]
theorem PR(h:i < g.length):kD (iW g) (.int (i:Int))=.ret (.bl true):=by
 unfold kD iW;have c1:(0:Int)<=(i:Int):=by omega
 have c2:(i:Int) < (g.length:Int):=by omega
 simp only[ii,LL,jb,Jb,bq,Aj,rQ,c1,c2,decide_true,oI]
def dl(g:O Sy)(i:Nat):O Dd:=dbl i::(Lu (sy g i).un++((sy g i).be.map (λo=>(("over",i,o):Dd))++(sy g i).be.map (λo=>(("over",o,i):Dd))))
def Wu{d:Dd}(h:d∈K0 g i):d∈dl g i:=by
 rcases AG.mp h with rfl | h
 ·exact .head _
 refine AM _ ?_;rcases Ba.mp h with h | h
 ·exact BD _ h
 ·obtain⟨o,ho,h⟩:=El.mp h;refine AB _ ?_;simp at h;rcases h with rfl | rfl
  ·exact BD _ (Av.mpr ⟨o,ho,rfl⟩)
  ·exact AB _ (Av.mpr ⟨o,ho,rfl⟩)
theorem Wq(G:WG g ws)(h:i < g.length):(dl g i).length<=63:=by
 unfold dl;simp only[An,Ad,Aj];have:=Ie (sy g i).un;have:=G.WB i h;omega
theorem R4(d:Dd):ox (d2 d)=true:=rfl
def V7(d:Dd):PV.ic (d2 d)=true:=by simp[d2]
def RI(d:Dd):PV.f7 (d2 d)<=2:=by simp[d2]
def Kl(p:Nat×Nat):PV:=.tup [.int (p.1:Int),.int (p.2:Int)]
def L1(G:WG g ws)(h:i < g.length):gq (iW g) (.int (i:Int))=.ret ((Lu (sy g i).un).map λd=>Kl (d.2.1,d.2.2)):=by
 unfold gq;simp only[ii,qq h];have hu:=G.sX i h;revert hu;generalize (sy g i).un=l;intro hu
 match l,hu with
 | [],_=>simp only[bq,fg,hJ,An,A1,dF,ii,aW];rfl
 | [a],_=>simp only[bq,fg,hJ,An,A1,dF,ii,aW];rfl
 | [a,b],_=>
  have i0:cx [PV.int (a:Int),PV.int (b:Int)] 0=ap (.int (a:Int)):=rfl;have i1:cx [PV.int (a:Int),PV.int (b:Int)] 1=ap (.int (b:Int)):=rfl;simp only[bq,fg,hJ,An,A1,dF,ii,aW,az,bf,i0,i1,ut];rfl
theorem Qz(G:WG g ws)(h:i < g.length):iK (iW g) (.int (i:Int))=.ret ((sy g i).be.map (λo=>Kl (i,o))++(sy g i).be.map (λo=>Kl (o,i))):=by
 unfold iK;have l3:=G.WB i h;simp only[ii,Ld h,az];rw[mN (g:=λo=>Kl (i,o)) λk hk=>rfl];rw[mN (g:=λo=>Kl (o,i)) λk hk=>rfl];simp only[ii];rw[sC (by simp;omega)]
theorem KZ(G:WG g ws)(h:i < g.length)(q:∀m:O PV,m.Perm ((dl g i).map d2)->Q m):(fB (iW g) (Ent.pair a b).pv (.int (i:Int))).run Q:=by
 have l63:=Wq G h;unfold fB;simp only[Ent.pv,ii,ci,cQ,gD,aU,gt,Ag,if_false,L1 G h,Qz G h];refine iI (λd:Dd=>.tup [.str "split",Kl (d.2.1,d.2.2)]) (λd _ R r=>r) ?_;have em:(sy g i).be.map (λo=>Kl (i,o))++(sy g i).be.map (λo=>Kl (o,i))=((sy g i).be.map (λo=>((i,o):Nat×Nat))++(sy g i).be.map (λo=>(o,i))).map Kl:=by
  rw[AY,AL,AL];rfl
 rw[em];refine iI (λp:Nat×Nat=>.tup [.str "over",Kl p]) (λp _ R r=>r) ?_;simp only[gt,RJ,ii];have es:(Lu (sy g i).un).map (λd=>PV.tup [.str "split",Kl (d.2.1,d.2.2)])=(Lu (sy g i).un).map d2:=by
  refine CK λd hd=>?_;have:d.1=("split":Str):=by
   revert hd;generalize (sy g i).un=l;intro hd;unfold Lu at hd
   split at hd
   ·simp at hd;rcases hd with rfl | rfl <;> rfl
   ·cases hd
  unfold d2 Kl;rw[this]
 have eo:((sy g i).be.map (λo=>((i,o):Nat×Nat))++(sy g i).be.map (λo=>(o,i))).map (λp=>PV.tup [.str "over",Kl p])=((sy g i).be.map (λo=>(("over",i,o):Dd))++(sy g i).be.map (λo=>(("over",o,i):Dd))).map d2:=by
  simp only[AY,AL];rfl
 rw[es,eo];have ll:(dl g i).length=1+(Lu (sy g i).un).length+((sy g i).be.map (λo=>(("over",i,o):Dd))++(sy g i).be.map (λo=>(("over",o,i):Dd))).length:=by
  unfold dl;simp only[An,Ad];omega
 rw[sC (by simp only[Aj,An,A1];omega)];simp only[gt];rw[sC (by simp only[Aj,Ad,An,A1]at *;omega)];have e:([PV.tup [.str "doubled",.tup [.int (i:Int),.int (i:Int)]]]++(Lu (sy g i).un).map d2)++((sy g i).be.map (λo=>(("over",i,o):Dd))++(sy g i).be.map (λo=>(("over",o,i):Dd))).map d2=(dl g i).map d2:=by
  unfold dl;simp only[Au,AY,AW];rfl
 simp only[gt];rw[e];refine⟨⟨by rw[Aj];omega,Co.mpr λx hx=>?_⟩,λm hm=>q m hm⟩;obtain⟨d,_,rfl⟩:=Av.mp hx;exact R4 d
def Px(hw:t.Ws)(hz:t.size<=900):(n9 t.pv).le (.ret (.bl true)):=λQ q=>by
 exact NL t hw true (.inl rfl) hz Q q
theorem Dt.isD(D:Dt t ds [] d)(h:d<=99):Rl t ds=true:=by
 unfold Rl;rw[Aw,Aw,decide_eq_true_iff,decide_eq_true_iff];refine⟨D.len,?_,Co.mpr λj hj=>?_⟩
 ·unfold Ii;have hp:(splits t).Pairwise (· < ·):=by unfold splits;exact List.Pairwise.filter _ C7
  rw[List.nodup_iff_pairwise_ne,Eb];refine List.Pairwise.imp_of_mem (λ{x y} hx hy lt e=>?_) hp;obtain⟨x1,x2⟩:=A3.mp hx;obtain⟨y1,y2⟩:=A3.mp hy;have:=D.inj x y (AO.mp x1) (AO.mp y1) (by simp) (by simp) x2 y2 e;omega
 ·have hj':=AO.mp hj;unfold YH;cases e:en t 0 j with
  | word w=>
   rw[D.zero j hj' (.inl (by rw[e];rfl))];rfl
  | pair a b=>
   obtain⟨_,_,h1,h2,h3,h4⟩:=D.up j hj' (by simp) a b e;show(decide (ds.getD a 0 < ds.getD j 0)&&decide (ds.getD b 0 < ds.getD j 0)&&decide (1<=ds.getD j 0)&&decide (ds.getD j 0<=99))=true;rw[decide_eq_true h1,decide_eq_true h2,decide_eq_true h3,decide_eq_true ∅];rfl
theorem sA:∀(t:Tr) (o:Nat),(t.nd o).countP tM+1=t.aq.length
 | .leaf _,_=>rfl
 | .node l r,o=>by
  have h1:=sA l o;have h2:=sA r (o+l.size);rw[Tr.nd,List.countP_append,List.countP_append];show _+(List.countP tM [Ent.pair _ _])+1=(l.aq++r.aq).length;simp[tM];omega
theorem Vj(t:Tr):t.nd 0=(AE t.size).map (en t 0):=by
 refine Cf λj=>?_;by_cases h:j < t.size
 ·rw[kY t 0 j h,Ak,B1 h];rfl
 ·rw[A4 (by rw[t.aZ];omega),A4 (by simp;omega)]
def FT(t:Tr):(splits t).length+1=t.aq.length:=by
 rw[<- sA t 0,Vj t,List.countP_map];unfold splits;rw[<- List.countP_eq_length_filter];rfl
def OZ.snoc{u:Nat}(r:OZ g i j)(hu:u∈(sy g j).un):OZ g i u:=by
 induction r with
 | refl i=>exact .step hu (.refl _)
 | step h _ ih=>exact .step h (ih hu)
def gS(t:Tr):O Sy:=(AE t.size).map λj=>⟨zV (en t 0 j) j,0,Km (en t 0 j),Xq t j⟩
def o4(t:Tr)(h:j < t.size):sy (gS t) j=⟨zV (en t 0 j) j,0,Km (en t 0 j),Xq t j⟩:=by
 unfold sy gS;rw[Ar,Ak,B1 h];rfl
@[simp] theorem gP(t:Tr):(gS t).length=t.size:=by unfold gS;simp
def Zx(t:Tr):iW (gS t)=.tup (grL t):=by
 unfold iW gS grL;rw[AL];congr 1
def S0(e:Ent)(j:Nat):(∃s,zV e j=.str s)\/∃n,zV e j=.int n:=by
 cases e with
 | word w=>exact .inl ⟨w,rfl⟩
 | pair a b=>exact .inr ⟨_,rfl⟩
def VQ(e:Ent):(Km e).length<=2:=by cases e <;> simp[Km]
theorem kJ:∀(s:Tr) (t:Tr) (o:Nat) (w:Str),(∀k,k < s.size->en t 0 (o+k)=en s o k)->o+s.size<=t.size->w∈s.aq->∃i,i < t.size/\OZ (gS t) (o+s.size-1) i/\en t 0 i=.word w
 | .leaf x,t,o,w,hs,hz,hw=>by
  have e0:en t 0 o=.word x:=hs 0 (by show 0 < 1;decide);have hz:o+1<=t.size:=hz;have:w=x:=by simpa[Tr.aq]using hw
  subst this;exact⟨o,by omega,.refl _,e0⟩
 | .node l r,t,o,w,hs,hz,hw=>by
  have es:(Tr.node l r).size=l.size+r.size+1:=rfl;have er:en t 0 (o+(l.size+r.size))=.pair (o+l.size-1) (o+l.size+r.size-1):=by rw[hs _ ∅,en,if_neg ∅,if_neg ∅]
  have ei:o+(Tr.node l r).size-1=o+(l.size+r.size):=by omega
  have hl:∀k,k < l.size->en t 0 (o+k)=en l o k:=λk hk=>by rw[hs k ∅,en,if_pos hk]
  have hr:∀k,k < r.size->en t 0 (o+l.size+k)=en r (o+l.size) k:=λk hk=>by rw[A7,hs _ ∅,en,if_neg ∅,if_pos ∅,Cm]
  have un:(sy (gS t) (o+(l.size+r.size))).un=[o+l.size-1,o+l.size+r.size-1]:=by rw[o4 t ∅,er];rfl
  rw[ei];rcases Ba.mp (show w∈l.aq++r.aq from hw) with hw | hw
  ·obtain⟨i,h1,h2,h3⟩:=kJ l t o w hl ∅ hw;exact⟨i,h1,.step (by rw[un];simp) h2,h3⟩
  ·obtain⟨i,h1,h2,h3⟩:=kJ r t (o+l.size) w hr ∅ hw;exact⟨i,h1,.step (by rw[un];simp) h2,h3⟩
theorem Jy(hz:t.size<=30):WG (gS t) t.aq:=by
 have tp:=t.size_pos;have Ñ:∀k i,i+k+1=t.size->OZ (gS t) (t.size-1) i:=λk=>by
  induction k using DC with
  | ind k ih=>
   intro i hk;rcases fZ t 0 i .aN ∅ with⟨e,_⟩ | ⟨a,u,v,ia,ha,_,ep,Ny⟩
   ·rw[<- e];exact .refl _
   ·refine(ih (t.size-a-1) ∅ a ∅).snoc ?_;rw[o4 t ha,ep];rw[AJ]at Ny;rcases Ny with rfl | rfl <;> simp[Km]
 refine⟨by rw[gP];omega,by rw[gP];omega,λi hi u hu=>?_,λi hi=>?_,λi hi u hu=>?_,λi hi=>?_,λi hi=>?_,λw hw=>?_,λi hi=>by rw[gP]at hi ⊢;exact Ñ (t.size-i-1) i ∅⟩
 ·rw[gP]at hi;rw[o4 t hi]at hu;cases e:en t 0 i with
  | word w=>rw[e]at hu;cases hu
  | pair a b=>
   rw[e]at hu;have:=ig t hi e;have hu:u=a\/u=b:=by simpa[Km]using hu
   omega
 ·rw[gP]at hi;rw[o4 t hi];exact VQ _
 ·rw[gP]at hi ⊢;rw[o4 t hi]at hu;exact AO.mp (A3.mp hu).1
 ·rw[gP]at hi;rw[o4 t hi];have:=BM (λk=>!decide (k∈up t 0 i [])&&!decide (i∈up t 0 k [])) (AE t.size);rw[CA]at this;show(Xq t i).length<=30;unfold Xq;omega
 ·rw[gP]at hi;rw[o4 t hi];exact S0 _ _
 ·obtain⟨i,h1,h2,h3⟩:=kJ t t 0 w (λk hk=>by rw[AJ]) ∅ hw;rw[AJ]at h2;refine⟨i,by rw[gP];exact h1,by rw[gP];exact h2,?_⟩;unfold hm;rw[o4 t h1,h3];simp[Km,zV,yY]
def dS(t:Tr)(ds bs:O Int):O Sy:=(aD t ds bs bs.length).map λp=>⟨zV (en t 0 p.1) p.1,p.2,(uW (en t 0 p.1) p.1 (ds.getD p.1 0) (bs.getD p.2 0)).map λx=>(aD t ds bs bs.length).idxOf (x,p.2-1),Sa (aD t ds bs bs.length) p.1 p.2⟩
def ZY(t:Tr)(ds bs:O Int):iW (dS t ds bs)=.tup (Xn t ds bs):=by
 unfold iW dS Xn;rw[AL];congr 1
@[simp] theorem Hr(t:Tr)(ds bs:O Int):(dS t ds bs).length=(aD t ds bs bs.length).length:=by unfold dS;rw[Aj]
theorem oV(t:Tr)(ds bs:O Int):∀m,(aD t ds bs m).Pairwise λp q=>p.2<=q.2
 | 0=>.nil
 | m+1=>by
  rw[aD];have JG:∀p∈xY t ds (bs.getD m 0) m t.size,p.2=m:=λp hp=>by
   obtain⟨k,_,rfl⟩:=Av.mp hp;rfl
  refine List.pairwise_append.mpr ⟨oV t ds bs m,?_,λa ha b hb=>?_⟩
  ·exact BL.mpr λi j hi hj _=>by rw[JG _ (Dk hi),JG _ (Dk hj)];exact Ao _
  ·have h1:=(ft ha).1;rw[JG b hb];omega
theorem uw(t:Tr)(ds bs:O Int)(n:Nat):∀m,((aD t ds bs m).filter λp=>decide (p.2=n)).length<=t.size
 | 0=>Bn _
 | m+1=>by
  rw[aD,List.filter_append,Ad];have ih:=uw t ds bs n m;by_cases c:n=m
  ·subst c;have z:(aD t ds bs n).filter (λp=>decide (p.2=n))=[]:=by
    rw[Ex];intro p hp;have:=(ft hp).1;simp;omega
   rw[z];have h1:=BM (λp:Nat×Nat=>decide (p.2=n)) (xY t ds (bs.getD n 0) n t.size);have h2:=vj t ds (bs.getD n 0) n t.size;simp only[A1];omega
  ·have z:(xY t ds (bs.getD m 0) m t.size).filter (λp=>decide (p.2=n))=[]:=by
    rw[Ex];intro p hp;obtain⟨k,_,rfl⟩:=Av.mp hp;simp;omega
   rw[z];simpa using ih
section
theorem DD.above(D:DD t ds)(h:(j,n)∈aD t ds (aE t ds) (aE t ds).length)(hn:n+1 < (aE t ds).length):∃a,(a,n+1)∈aD t ds (aE t ds) (aE t ds).length/\j∈uW (en t 0 a) a (ds.getD a 0) ((aE t ds).getD (n+1) 0):=by
 obtain⟨hnl,hj,hs⟩:=bF.mp h;obtain⟨s1,s2⟩:=(d8 hj).mp hs;have inc:=D.inc;have lt:=wC inc hn (show n < n+1 by omega);have Ù:(∀a,jD t 0 j .aN=.int ((a:Nat):Int)->(aE t ds).getD (n+1) 0 < ds.getD a 0)->∃a,(a,n+1)∈aD t ds (aE t ds) (aE t ds).length/\j∈uW (en t 0 a) a (ds.getD a 0) ((aE t ds).getD (n+1) 0):=λhx=>
  ⟨j,bF.mpr ⟨hn,hj,(d8 hj).mpr ⟨by omega,hx⟩⟩,by unfold uW;rw[if_pos ∅];exact .head _⟩
 rcases fZ t 0 j .aN hj with⟨_,e⟩ | ⟨a,u,v,ja,ha,e,ep,Ny⟩
 ·exact Ù λa z=>by rw[e]at z;cases z
 ·rw[AJ]at e Ny;by_cases c:(aE t ds).getD (n+1) 0 < ds.getD a 0
  ·refine Ù λa' z=>?_;rw[e]at z;injection z with z;have:a=a':=by omega
   subst this;exact c
  ·have sa:=s2 a e;have eq:ds.getD a 0=(aE t ds).getD (n+1) 0:=by
    rcases Int.lt_or_eq_of_le (show ds.getD a 0<=(aE t ds).getD (n+1) 0 by omega) with c2 | c2
    ·have:=(rj inc hn (D.mem ha) c2).2;rw[Nat.add_sub_cancel]at this;omega
    ·exact c2
   refine⟨a,bF.mpr ⟨hn,ha,(d8 ha).mpr ⟨by omega,λa2 e2=>?_⟩⟩,?_⟩
   ·rcases fZ t 0 a .aN ha with⟨_,e3⟩ | ⟨a3,u3,v3,_,h3,e3,ep3,Y7⟩
    ·rw[e3]at e2;cases e2
    ·rw[e3]at e2;injection e2 with e2;rw[AJ]at e2 Y7;have:a3=a2:=by omega
     subst this;have:=D.pair a3 u3 v3 h3 ep3;rcases Y7 with rfl | rfl <;> omega
   ·unfold uW;rw[if_neg ∅,ep];rcases Ny with rfl | rfl <;> simp
theorem DD.last(D:DD t ds)(h:(j,n)∈aD t ds (aE t ds) (aE t ds).length)(hn:n+1=(aE t ds).length):j=t.size-1:=by
 obtain⟨hnl,hj,hs⟩:=bF.mp h;obtain⟨s1,s2⟩:=(d8 hj).mp hs;rcases fZ t 0 j .aN hj with⟨e,_⟩ | ⟨a,u,v,ja,ha,e,ep,Ny⟩
 ·exact e
 ·exfalso;rw[AJ]at e;have sa:=s2 a e;have inc:=D.inc;obtain⟨i,hi,ei⟩:=DH (D.mem ha);have gd:(aE t ds).getD i 0=ds.getD a 0:=by rw[Ar,Ae hi];exact ei
  rcases C4 i n with c | c
  ·have:=wC inc hnl c;omega
  ·have:i=n:=by omega
   subst this;omega
def GR[BEq α][LawfulBEq α]{l:List α}(nd:l.Nodup){x:α}(h:l[i]?=ap x):l.idxOf x=i:=by
 obtain⟨hi,e⟩:=Am.mp h;rw[<- e];exact nd.idxOf_getElem i hi
def sH[BEq α][LawfulBEq α]{l:List α}{x:α}(h:x∈l):l[l.idxOf x]?=ap x:=by
 have:=Bg h;rw[Ae this,List.getElem_idxOf this]
theorem LN(D:DD t ds)(hz:t.size<=15)(hb:(aE t ds).length<=16):WG (dS t ds (aE t ds)) t.aq:=by
 have nd:=iA t ds (aE t ds) (aE t ds).length;have Ă:=oV t ds (aE t ds) (aE t ds).length;have lay:=λn=>uw t ds (aE t ds) n (aE t ds).length;have ok:=D.ok;have ne:=D.ne;have ll:=fu t ds (aE t ds) (aE t ds).length;have above:=λj n=>D.above (j:=j) (n:=n);have last:=λj n=>D.last (j:=j) (n:=n);have Ċ:=@bF t ds (aE t ds) (aE t ds).length;unfold okD at ok;have hS:∀i p,(aD t ds (aE t ds) (aE t ds).length)[i]?=ap p->sy (dS t ds (aE t ds)) i=⟨zV (en t 0 p.1) p.1,p.2,(uW (en t 0 p.1) p.1 (ds.getD p.1 0) ((aE t ds).getD p.2 0)).map λx=>(aD t ds (aE t ds) (aE t ds).length).idxOf (x,p.2-1),Sa (aD t ds (aE t ds) (aE t ds).length) p.1 p.2⟩:=λi p hp=>by
  unfold sy dS;rw[Ar,Ak,hp];rfl
 have hL:(dS t ds (aE t ds)).length=(aD t ds (aE t ds) (aE t ds).length).length:=Hr t ds _;have hmul:=EU hb hz;generalize aD t ds (aE t ds) (aE t ds).length=L at *;have get:∀i,i < (dS t ds (aE t ds)).length->∃p,L[i]?=ap p/\p∈L:=λi hi=>by
  rw[hL]at hi;exact⟨L[i],Ae hi,Dk hi⟩
 have pos:=E8.mpr ne;have Ô:∀(i a:Nat) (p r:Nat×Nat),L[i]?=ap p->L[a]?=ap r->r.2 < p.2->a < i:=λi a p r h1 h2 lt=>by
  rcases C4 a i with c | c
  ·exact c
  ·exfalso;obtain⟨g1,e1⟩:=Am.mp h1;obtain⟨g2,e2⟩:=Am.mp h2;rcases D2 c with c | c
   ·subst c;rw[h1]at h2;cases h2;omega
   ·have:=BL.mp Ă i a g1 g2 c;rw[e1,e2]at this;omega
 have Ñ:∀k i,i+k+1=L.length->OZ (dS t ds (aE t ds)) (L.length-1) i:=λk=>by
  induction k using DC with
  | ind k ih=>
   intro i hk;obtain⟨⟨j,n⟩,hp,hm⟩:=get i (by rw[hL];omega);have nl:=(Ċ.mp hm).1;by_cases c:n+1 < (aE t ds).length
   ·obtain⟨a,ha,hb⟩:=above j n hm c;have ia:=sH ha;have lt:=Ô _ i (a,n+1) (j,n) ia hp (by show n < n+1;omega);have il:=Bg ha;have r:=ih (L.length-L.idxOf (a,n+1)-1) ∅ (L.idxOf (a,n+1)) ∅;refine r.snoc ?_;rw[hS _ _ ia];refine Av.mpr ⟨j,hb,?_⟩;exact GR nd hp
   ·have hj:=last j n hm ∅;have:i=L.length-1:=by
     obtain⟨⟨j2,n2⟩,wG,W8⟩:=get (L.length-1) (by rw[hL];omega);have n2l:=(Ċ.mp W8).1;rcases C4 n2 n with c2 | c2
     ·have:=Ô i (L.length-1) _ _ hp wG c2;omega
     ·have en2:n2=n:=by omega
      have VV:=last j2 n2 W8 ∅;subst en2;rw[VV,<- hj]at wG;exact(GR nd hp).symm.trans (GR nd wG)
    rw[this];exact .refl _
 refine⟨by rw[hL];exact pos,by rw[hL];omega,λi hi u hu=>?_,λi hi=>?_,λi hi u hu=>?_,λi hi=>?_,λi hi=>?_,λw hw=>?_,λi hi=>by rw[hL]at hi ⊢;exact Ñ (L.length-i-1) i ∅⟩
 ·obtain⟨p,hp,hm⟩:=get i hi;rw[hS i p hp]at hu;obtain⟨x,hx,rfl⟩:=Av.mp hu;obtain⟨n1,xm⟩:=ok p hm x hx;exact Ô i _ p (x,p.2-1) hp (sH xm) (by show p.2-1 < p.2;omega)
 ·obtain⟨p,hp,hm⟩:=get i hi;rw[hS i p hp];unfold uW
  split
  ·simp
  ·cases en t 0 p.1 <;> simp
 ·obtain⟨p,hp,hm⟩:=get i hi;rw[hS i p hp]at hu;unfold Sa at hu;obtain⟨x,hx,rfl⟩:=Av.mp hu;rw[hL];exact Bg (A3.mp hx).1
 ·obtain⟨p,hp,hm⟩:=get i hi;rw[hS i p hp];unfold Sa;rw[Aj];have h1:=lay p.2;have h2:(L.filter λq=>decide (q.2=p.2)&&!decide (q.1=p.1)).length<=(L.filter λq=>decide (q.2=p.2)).length:=by
   have e:L.filter (λq=>decide (q.2=p.2)&&!decide (q.1=p.1))=(L.filter λq=>decide (q.2=p.2)).filter λq=>!decide (q.1=p.1):=by
    rw[List.filter_filter];refine congrArg (λf=>L.filter f) (funext λq=>Bool.and_comm _ _)
   rw[e];exact BM _ _
  omega
 ·obtain⟨p,hp,hm⟩:=get i hi;rw[hS i p hp];exact S0 _ _
 ·obtain⟨j,hj,_,ej⟩:=kJ t t 0 w (λk hk=>by rw[AJ]) ∅ hw;have b0:(aE t ds).getD 0 0=0:=rfl;have mem:(j,0)∈L:=Ċ.mpr ⟨by simp[aE],hj,(d8 hj).mpr ⟨by rw[D.leaf j w hj ej,b0];exact CW _,λa ea=>by
   rcases fZ t 0 j .aN hj with⟨_,e⟩ | ⟨a',u,v,_,ha,e,ep,_⟩
   ·rw[e]at ea;cases ea
   ·rw[e,AJ]at ea;injection ea with ea;have:a'=a:=by omega
    subst this;have:=(D.pair a' u v ha ep).2.2;rw[b0];omega⟩⟩
  have il:=Bg mem;refine⟨L.idxOf (j,0),by rw[hL];exact il,by rw[hL];exact Ñ (L.length-L.idxOf (j,0)-1) _ ∅,?_⟩;unfold hm;rw[hS _ _ (sH mem)];unfold uW;rw[b0,D.leaf j w hj ej,if_neg ∅,ej];simp[zV,yY]
end
inductive WT where
 | lf (p:List Nat) (i:Nat)
 | nd (p:List Nat) (i:Nat) (nm:Str) (a b:WT)
end My
variable{p:O Nat}
namespace My
inductive XT where
 | lf (p:List Nat) (d:Str)
 | nd (p:List Nat) (d:Str) (a b:XT)
namespace XT
def path:XT->O Nat
 | .lf p _=>p
 | .nd p _ _ _=>p
def pv:XT->PV
 | .lf p d=>.tup [.tup (aA p),.str d]
 | .nd p d a b=>.tup [.tup (aA p),.str d,a.pv,b.pv]
def post:XT->O XT
 | .lf p d=>[.lf p d]
 | .nd p d a b=>a.post++(b.post++[.nd p d a b])
def pI(g:O Sy)(p:O Nat):Prop:=(∀x∈p,x < g.length)/\p.length<=900
def In(P:O Nat->Prop):XT->Prop
 | .lf p _=>P p
 | .nd p _ a b=>P p/\a.In P/\b.In P
def lk(g:O Sy):O Nat->Bool
 | i::k::r=>decide (k∈(sy g i).un)&&lk g (k::r)
 | _=>true
def pk(g:O Sy)(p:O Nat):Bool:=!p.isEmpty&&lk g p
def hd(u:XT):Nat:=u.path.headD 0
def sh(g:O Sy):XT->Ent->Bool
 | .lf p _,.word _=>pk g p
 | .nd p _ _ _,.pair _ _=>pk g p
 | _,_=>false
def dk(g:O Sy):XT->Ent->Bool
 | .lf p d,.word w=>d=="found"&&hm g (p.getLastD 0) w
 | .nd p d a b,_=>decide ((d,a.hd,b.hd)∈K0 g (p.getLastD 0))
 | _,_=>false
def fm(g:O Sy):XT->Tr->Bool
 | .lf p _,.leaf _=>pk g p
 | .nd p _ a b,.node l r=>pk g p&&(fm g b r&&fm g a l)
 | _,_=>false
def dn(g:O Sy):XT->Tr->Bool
 | .lf p d,.leaf w=>d=="found"&&hm g (p.getLastD 0) w
 | .nd p d a b,.node l r=>dn g a l&&(dn g b r&&decide ((d,a.hd,b.hd)∈K0 g (p.getLastD 0)))
 | _,_=>false
def In.path{P:O Nat->Prop}{u:XT}(h:u.In P):P u.path:=by
 cases u with
 | lf=>exact h
 | nd=>exact h.1
def yf(u:XT):∃l,u.pv=.tup (.tup (aA u.path)::l):=by cases u <;> exact⟨_,rfl⟩
def yk(h:pk g p=true):∃q i,p=q++[i]:=pV λz=>by subst z;cases h
end XT
open XT
theorem ur:∀{p:O Nat},(∀x∈p,x < g.length)->∃bs:O Bool,bs.all id=lk g p/\(bN (eM (aA p) (aA (p.drop 1))) λSW=>am (sX SW) λO8=>am (am (df (iW g) O8.1) ay) λl=>am (rm false O8.2 l) Xo).le (.ret (bs.map PV.bl))
 | [],h=>⟨[],rfl,λQ q=>by
  have e:eM (aA []) (aA (([]:O Nat).drop 1))=[]:=rfl;rw[e];exact q⟩
 | [i],h=>⟨[],rfl,λQ q=>by
  have e:eM (aA [i]) (aA ([i].drop 1))=[]:=by show eM [PV.int (i:Int)] []=[];rw[eM];simp
  rw[e];exact q⟩
 | i::k::r,h=>by
  obtain⟨bs,h1,h2⟩:=ur (p:=k::r) λx hx=>h x (.tail _ hx);refine⟨decide (k∈(sy g i).un)::bs,by rw[Fb,h1];rfl,λQ q=>?_⟩;have e:eM (aA (i::k::r)) (aA ((i::k::r).drop 1))=.tup [.int (i:Int),.int (k:Int)]::eM (aA (k::r)) (aA ((k::r).drop 1)):=by show eM (_::_) (_::_)=_;rw[eM];rfl
  rw[e];show(am (am (sX _) _) λy=>am (bN _ _) λm=>bd (y::m)).run Q;simp only[oD,ii,qq (h i (.head _)),az,wD,Ag,if_false,TK,ci];exact W.le.use h2 q
theorem Iu(h:pI g p):(kE (iW g) (.tup (aA p))).le (.ret (.bl (pk g p))):=λQ q=>by
 obtain⟨h,hl⟩:=h;unfold kE;cases p with
 | nil=>
  have q:Q (.bl false):=q;simpa[hJ]using q
 | cons a p=>
 have c0:(((a::p).length:Int)==0)=false:=beq_eq_false_iff_ne.mpr (by simp;omega);simp only[ii,ci,cQ,i8,aU,gt,AU,Ag,if_false,bq,cH,dF,aW,c0,az];refine n8 (λ_=>.bl true) (λk hk=>PR (h k hk)) ?_;have e1:(a::p).map (λ_=>PV.bl true)=((a::p).map λ_=>true).map PV.bl:=by rw[AL];rfl
 have e2:((a::p).map λ_=>true).all id=true:=by simp
 rw[e1,kR,e2];have e3:nB (aA (a::p)) (ap 1) bn=aA ((a::p).drop 1):=by
  have:=Wv (aA (a::p)) (a:=1) (by rw[cH];simp);rw[show((1:Nat):Int)=1 from rfl]at this;rw[this];unfold aA;rw[List.map_drop]
 simp only[gt,aU,AU,Ag,if_false,qe,rP,e3,az,ci];refine⟨ba (by rw[cH];omega),?_⟩;show(bN _ _).run _;obtain⟨bs,b1,b2⟩:=ur h;refine W.le.use b2 ?_;rw[kR,b1];exact q
def KD{u:XT}(hu:u.In (pI g))(e:Ent):(gr (iW g) e.pv u.pv).le (.ret (.bl (sh g u e))):=λQ q=>by
 have i0:∀(a:PV) (l:O PV),cx (a::l) 0=ap a:=λ_ _=>bo (j:=0) rfl;have i1:∀(a b:PV) (l:O PV),cx (a::b::l) 1=ap b:=λ_ _ _=>bo (j:=1) rfl;have hp:=hu.path;unfold gr;cases u <;> cases e <;> simp only[XT.pv,Ent.pv,ii,cR,cQ,eB,gD,aU,if_true,Ag,if_false,Mf,An,A1]
 ·show(Lf (.bl true) _).run Q;simp only[jb,az,ii,bf,i0,i1,ut,ci,cR,eB];refine W.le.use (Iu hp) ?_;revert q;simp only[sh,XT.path];cases pk g _ <;> exact id
 ·exact q
 ·exact q
 ·show(Lf (.bl true) _).run Q;simp only[jb,az,ii,bf,i0,i1,ut,ci,cR,eB];refine W.le.use (Iu hp) ?_;revert q;simp only[sh,XT.path];cases pk g _ <;> exact id
theorem zi{S T:Type}(f:PV->S->W (Lp S T)):∀(a b:O PV) (s:S),d6 (a++b) s f=.bind (d6 a s f) λo=>match o with | .go s'=>d6 b s' f | .out t=>.ret (.out t)
 | [],b,s=>rfl
 | x::a,b,s=>by
  show am (f x s) (λo=>match o with | .go s'=>d6 (a++b) s' f | .out t=>.ret (.out t))=am (f x s) λo=>am (match o with | .go s'=>d6 a s' f | .out t=>.ret (.out t)) _;congr 1;funext o;cases o with
  | go s'=>exact zi f a b s'
  | out t=>rfl
theorem jd(lz:Int)(n:Nat):eS lz (n+1)=.int lz::eS (lz-1) n:=by
 unfold eS;rw[C6,Au,AL];refine congr (congrArg _ (by simp)) (CK λi _=>?_);show PV.int (lz-((i+1:Nat):Int))=_;congr 1;push_cast;omega
theorem uO(m:Nat):∀(lz:Int) (n:Nat),eS lz (n+m)=eS lz n++eS (lz-n) m
 | lz,0=>by simp[eS]
 | lz,n+1=>by
  rw[show n+1+m=(n+m)+1 by omega,jd,jd,uO m (lz-1) n,List.cons_append];congr 3;push_cast;omega
def SH(g:O Sy)(S:O PV):XT->Ent->Lp (O PV) PV
 | .lf p _,.word _=>if pk g p=true then .go S else .out .aN
 | .nd p _ a b,.pair x y=>if pk g p=true then .go ((S.set x a.pv).set y b.pv) else .out .aN
 | _,_=>.out .aN
theorem rM:∀{u:XT}{s:Tr},fm g u s=true->u.post.length=s.size
 | .lf _ _,.leaf _,_=>rfl
 | .nd _ _ a b,.node l r,h=>by
  rw[fm,Aw,Aw]at h;show(a.post++(b.post++[_])).length=l.size+r.size+1;rw[Ad,Ad,rM h.2.1,rM h.2.2];rfl
def vn{A R:List α}{x v:α}(h:n=A.length):(A++x::R).set n v=A++v::R:=by subst h;simp
theorem R8:∀{M:List α}{n:Nat},n < M.length->∃A x R,M=A++x::R/\A.length=n
 | M,n,h=>⟨M.take n,M[n],M.drop (n+1),by simp,by simp;omega⟩
theorem vW{f:PV->O PV->W (Lp (O PV) PV)}(hf:∀(j:Nat) (S:O PV) (u:XT),j < t.size->S.length=t.size->S[j]?=ap u.pv->u.In (pI g)->(f (.int (j:Int)) S).le (.ret (SH g S u (en t 0 j)))) :
  ∀(s:Tr) (o:Nat),(∀k,k < s.size->en t 0 (o+k)=en s o k)->∀(u:XT),u.In (pI g)->∀A M B:O PV,A.length=o->M.length+1=s.size->A.length+(M.length+1+B.length)=t.size->
  (d6 (eS (((o+M.length:Nat):Int)) s.size) (A++(M++u.pv::B)) f).le (.ret (if fm g u s=true then .go (A++(u.post.map XT.pv++B)) else .out .aN))
 | .leaf w,o,hs,u,hu,A,M,B,ha,hm,hz=>λQ q=>by
  have e1:(Tr.leaf w).size=0+1:=rfl;have e0:M=[]:=Cq ∅;subst e0;have en0:en t 0 o=.word w:=hs 0 ∅;rw[e1,jd];show(am (f _ _) _).run Q;simp only[ci,A1,Nat.add_zero,EI]at *;refine W.le.use (hf o _ u ∅ (by simp;omega) (by rw[AA ∅,ha,Nat.sub_self];rfl) hu) ?_;rw[en0];cases u with
  | lf p d=>
   have q:Q (if pk g p=true then _ else _):=q;cases c:pk g p <;> rw[c]at q <;> simp only[SH,c] <;> exact q
  | nd=>exact q
 | .node l r,o,hs,u,hu,A,M,B,ha,hm,hz=>λQ q=>by
  have es:(Tr.node l r).size=l.size+r.size+1:=rfl;have lp:=l.size_pos;have rp:=r.size_pos;have er:en t 0 (o+(l.size+r.size))=.pair (o+l.size-1) (o+l.size+r.size-1):=by rw[hs _ ∅,en,if_neg ∅,if_neg ∅]
  have hl:∀k,k < l.size->en t 0 (o+k)=en l o k:=λk hk=>by rw[hs k ∅,en,if_pos hk]
  have hr:∀k,k < r.size->en t 0 (o+l.size+k)=en r (o+l.size) k:=λk hk=>by rw[A7,hs _ ∅,en,if_neg ∅,if_pos ∅,Cm]
  rw[es,jd];show(am (f _ _) _).run Q;rw[ci,show o+M.length=o+(l.size+r.size) by omega];refine W.le.use (hf (o+(l.size+r.size)) _ u ∅ (by simp;omega) (by rw[<- AW,AA (by simp;omega)];simp[show o+(l.size+r.size)-(A.length+M.length)=0 by omega]) hu) ?_;rw[er];cases u with
  | lf p d=>exact q
  | nd p d a b=>
  have q:Q (if (pk g p&&(fm g b r&&fm g a l))=true then _ else _):=q;cases c:pk g p with
  | false=>
   rw[c]at q;simp only[SH,c];exact q
  | true=>
  rw[c,Bs]at q;simp only[SH,c,if_true];obtain⟨M1,x,M2,rfl,h1⟩:=R8 (M:=M) (n:=l.size-1) ∅;have h2:M1.length+(M2.length+1)=l.size+r.size:=by simp at hm;omega
  obtain⟨M3,y,rfl⟩:=pV (l:=M2) λz=>by subst z;simp at h2;omega
  simp at h2;have e1:((A++((M1++x::(M3++[y]))++(XT.nd p d a b).pv::B)).set (o+l.size-1) a.pv).set (o+l.size+r.size-1) b.pv=(A++(M1++[a.pv]))++(M3++b.pv::((XT.nd p d a b).pv::B)):=by
   rw[show A++((M1++x::(M3++[y]))++(XT.nd p d a b).pv::B)=(A++M1)++x::(M3++y::(XT.nd p d a b).pv::B) by simp,vn (by simp;omega),
    show(A++M1)++a.pv::(M3++y::(XT.nd p d a b).pv::B)=(A++(M1++a.pv::M3))++y::(XT.nd p d a b).pv::B by simp,vn (by simp;omega)]
   simp
  rw[e1,Nat.add_comm l.size r.size,uO,zi,ci,show(((o+(r.size+l.size):Nat):Int)-1)=((o+l.size+M3.length:Nat):Int) by omega];refine W.le.use (vW hf r (o+l.size) hr b hu.2.2 (A++(M1++[a.pv])) M3 ((XT.nd p d a b).pv::B) (by simp;omega) ∅ (by simp;simp at hz;omega)) ?_;cases cb:fm g b r with
  | false=>
   rw[cb]at q;exact q
  | true=>
  rw[cb,Bs]at q;have e2:(A++(M1++[a.pv]))++(b.post.map XT.pv++(XT.nd p d a b).pv::B)=A++(M1++a.pv::(b.post.map XT.pv++(XT.nd p d a b).pv::B)):=by simp
  simp only[if_true];rw[e2,show((o+l.size+M3.length:Nat):Int)-(r.size:Int)=((o+M1.length:Nat):Int) by omega];have e3:A++(a.post.map XT.pv++(b.post.map XT.pv++(XT.nd p d a b).pv::B))=A++((XT.nd p d a b).post.map XT.pv++B):=by simp[XT.post]
  have bl:(b.post.map XT.pv).length=r.size:=by rw[Aj];exact rM cb
  refine vW hf l o hl a hu.2.1 A M1 (b.post.map XT.pv++(XT.nd p d a b).pv::B) ha ∅ (by rw[Ad,bl];simp;simp at hz;omega) Q ?_;rw[e3];exact q
theorem Po(hz:t.size<=900){u:XT}(hu:u.In (pI g)):(c7 (iW g) (.tup ((t.nd 0).map Ent.pv)) u.pv).le (.ret (if fm g u t=true then .cl (u.post.map XT.pv) else .aN)):=λQ q=>by
 have tp:=t.size_pos;unfold c7;simp only[ii,ci,az];refine Gm (λ_=>.aN) (λx hx=>rfl) ?_;have e0:((t.nd 0).map Ent.pv).map (λ_=>PV.aN)=Al (t.size-1) PV.aN++[PV.aN]:=by
  rw[EJ,dm,<- List.replicate_succ',Nat.sub_add_cancel tp]
 have ei:rf t.size (-1)=ap (t.size-1):=by
  unfold rf;rw[if_neg ∅,if_pos ∅];congr 1;omega
 have es:∀v,iB (Al (t.size-1) PV.aN++[.aN]) (.int (-1)) v=.ret (Al (t.size-1) PV.aN++[v]):=λv=>by
  show(match rf (Al (t.size-1) PV.aN++[PV.aN]).length (-1) with | some j=>_ | none=>_)=_;rw[Ad,Bi,Dc,Nat.sub_add_cancel tp,ei];show bd _=_;rw[vn (by simp)]
 have ġ:(((t.size:Nat):Int)-1 - -1).toNat=t.size:=by omega
 rw[e0];simp only[oE,gt,es,bq,dm,lU,Ja,ġ];refine⟨⟨trivial,cM ∅ ∅⟩,?_⟩;show(d6 _ _ _).run _;rw[show(((t.size:Nat):Int)-1)=((0+(Al (t.size-1) PV.aN).length:Nat):Int) by simp;omega];refine vW (g:=g) (t:=t) (λj S v hj hS hv hi R r=>?_) t 0 (λk _=>by rw[AJ]) u hu [] _ [] rfl (by simp;omega) (by simp;omega) _ ?_
 ·have û:cx S (j:Int)=ap v.pv:=bo hv;simp only[bf,Ge t hj,ut,gt,û,ci,az,ii];refine W.le.use (KD hi _) ?_;cases c:sh g v (en t 0 j) with
  | false=>
   have:SH g S v (en t 0 j)=.out PV.aN:=by
    revert c;cases v <;> cases en t 0 j <;> simp[sh,SH]
   rw[this]at r;exact r
  | true=>
   simp only[aU,gt,AU,Ag,if_false,ci,uD,az,qe];cases e:en t 0 j with
   | word w=>
    cases v with
    | nd=>rw[e]at c;cases c
    | lf p d=>
     have ec:nB [PV.tup (aA p),.str d] (ap 2) bn=[]:=rfl;have ez:sU [] []=.ret []:=by unfold sU;rw[pr (ba (by simp))];congr 1
     rw[e]at c r;have c:pk g p=true:=c;simp only[SH,c]at r;simp only[XT.pv,rP,ec,gt,az,Km,hJ,ez];exact r
   | pair x y=>
    cases v with
    | lf=>rw[e]at c;cases c
    | nd p d a b=>
     have ec:nB [PV.tup (aA p),.str d,a.pv,b.pv] (ap 2) bn=[a.pv,b.pv]:=rfl;obtain⟨ha,hb⟩:=ig t hj e;have ez:sU [PV.int (x:Int),PV.int (y:Int)] [a.pv,b.pv]=.ret [.tup [.int (x:Int),a.pv],.tup [.int (y:Int),b.pv]]:=by
      unfold sU;rw[pr (ba (by simp))];congr 1
     rw[e]at c r;have c:pk g p=true:=c;simp only[SH,c]at r;simp only[XT.pv,rP,ec,gt,az,Km,fg,hJ,ez,di,oD,ii,ci,kn (show x < S.length by omega),kn (l:=S.set x a.pv) (show y < (S.set x a.pv).length by rw[BK];omega)];exact r
 ·cases c:fm g u t with
  | false=>rw[c]at q;exact q
  | true=>rw[c]at q;simpa using q
def Wr{d:Dd}(h:d∈dl g i):d∈K0 g i:=by
 unfold dl at h;unfold K0;rcases AG.mp h with rfl | h
 ·exact .head _
 refine AM _ ?_;rcases Ba.mp h with h | h
 ·exact BD _ h
 ·refine AB _ (El.mpr ?_);rcases Ba.mp h with h | h <;> obtain⟨o,ho,rfl⟩:=Av.mp h <;> exact⟨o,ho,by simp⟩
theorem V9(d e:Dd):jz (d2 d) (d2 e)=decide (d=e):=by
 obtain⟨n,x,y⟩:=d;obtain⟨m,u,v⟩:=e;rw[CT];simp[d2];intro _;omega
def Kr(d f:Str):oB (.tup [.str d,.tup []]) [PV.tup [.str f,.tup []]]=(d==f):=by
 unfold oB;rw[B5,List.any_nil,Bool.or_false,Tx,NX,NY,NX,Tx,V8,CS,CS,CT,beq_iff_eq,beq_iff_eq];exact eq_comm
def NK{c:Dd->PV}(fk:∀d,PV.ic (c d)=true)(fd:∀d,PV.f7 (c d)<=2)(fe:∀d e,jz (c d) (c e)=decide (d=e)){l:O Dd}(d:Dd)(hp:m.Perm (l.map c)):rm false (c d) m=.ret (decide (d∈l)):=by
 have hm:∀x∈m,∃k∈l,c k=x:=λx hx=>Av.mp (hp.mem_iff.mp hx);have h1:Rp (c d) m:=⟨fk d,j5.mpr λx hx=>by
  obtain⟨k,_,rfl⟩:=hm x hx;exact fk k,Bp (j7 (n:=2) λx hx=>by
  obtain⟨k,_,rfl⟩:=hm x hx;exact fd k) ⋯⟩
 have h2:oB (c d) m=decide (d∈l):=by
  unfold oB;rw[CT,List.any_eq_true];refine⟨λ⟨y,hy,e⟩=>?_,λh=>⟨c d,hp.mem_iff.mpr (Av.mpr ⟨d,by simpa using h,rfl⟩),zk _ (fk d)⟩⟩;obtain⟨k,hk,rfl⟩:=hm y hy;rw[fe]at e;have e:k=d:=by simpa using e
  simpa[<- e]using hk
 unfold rm;rw[pr h1,h2];rfl
def zD{u:XT}{x:Nat}{r:O Nat}(h:u.path=x::r):dg u.pv=.ret (.int (x:Int)):=by
 obtain⟨l,e⟩:=u.yf;have k0:∀(x:PV) (l:O PV),cx (x::l) 0=ap x:=λ_ _=>bo (j:=0) rfl;unfold dg;rw[e,h];simp only[ii,az,bf,fg,k0,ut]
def qc{u:XT}(h:u.path≠[]):∃r,u.path=u.hd::r:=by
 unfold XT.hd;cases e:u.path with
 | nil=>exact absurd e h
 | cons a r=>exact⟨r,rfl⟩
def gd(g:O Sy):XT->Prop
 | .lf _ _=>True
 | .nd _ _ a b=>a.path≠[]/\b.path≠[]
def R1(G:WG g ws){u:XT}(hu:pI g u.path)(hs:sh g u e=true)(hg:gd g u):(kG (iW g) e.pv u.pv).le (.ret (.bl (dk g u e))):=λQ q=>by
 have i0:∀(a:PV) (l:O PV),cx (a::l) 0=ap a:=λ_ _=>bo (j:=0) rfl;have i1:∀(a b:PV) (l:O PV),cx (a::b::l) 1=ap b:=λ_ _ _=>bo (j:=1) rfl;have hl:∃p i,u.path=p++[i]:=by cases u <;> cases e <;> first | cases hs;done | exact yk hs
 obtain⟨p,i,e0⟩:=hl;have hi:i < g.length:=hu.1 i (by rw[e0];simp);unfold kG qN oe;cases u with
 | lf p' d=>
  cases e with
  | pair=>cases hs
  | word w=>
   have e0:p'=p++[i]:=e0;subst e0;have ec:nB [PV.tup (aA (p++[i])),.str d] (ap 2) bn=[]:=rfl;have em:∀f,bN [] f=.ret []:=λ_=>rfl;have q:Q (.bl (d=="found"&&hm g ((p++[i]).getLastD 0) w)):=q;rw[show(p++[i]).getLastD 0=i by simp]at q;simp only[XT.pv,ii,ci,az,bf,i0,i1,ut,gt,qe,rP,ec,em,Hb,oE,pZ];unfold fB;simp only[Ent.pv,ii,ci,cR,eB,aU,gt,if_true,Rx G hi];cases c:hm g i w with
   | false=>
    rw[c,CG]at q;exact⟨⟨by simp,by simp,by simp⟩,q⟩
   | true=>
    rw[c]at q;refine⟨⟨by simp,by simp,by simp⟩,?_⟩;show(Xo (oB _ _)).run Q;rw[Kr];rw[CS]at q;exact q
 | nd p' d a b=>
  cases e with
  | word=>cases hs
  | pair x y=>
   have e0:p'=p++[i]:=e0;subst e0;obtain⟨r1,h1⟩:=qc hg.1;obtain⟨r2,h2⟩:=qc hg.2;have ec:nB [PV.tup (aA (p++[i])),.str d,a.pv,b.pv] (ap 2) bn=[a.pv,b.pv]:=rfl;have em:bN [a.pv,b.pv] (λp5=>dg p5)=.ret [.int (a.hd:Int),.int (b.hd:Int)]:=by
    show am (dg a.pv) (λu=>am (am (dg b.pv) λv=>[]\λm=>bd (v::m)) λm=>bd (u::m))=_;rw[zD h1,zD h2];rfl
   have q:Q (.bl (decide ((d,a.hd,b.hd)∈K0 g ((p++[i]).getLastD 0)))):=q;rw[show(p++[i]).getLastD 0=i by simp]at q;simp only[XT.pv,ii,ci,az,bf,i0,i1,ut,gt,qe,rP,ec,em,Hb,oE,pZ];refine KZ G hi λm hm=>?_;have:=NK V7 RI V9 (d,a.hd,b.hd) hm;have e6:d2 (d,a.hd,b.hd)=.tup [.str d,.tup [.int (a.hd:Int),.int (b.hd:Int)]]:=rfl;rw[e6]at this;rw[this];have e7:decide ((d,a.hd,b.hd)∈dl g i)=decide ((d,a.hd,b.hd)∈K0 g i):=by
    rw[CT];simp only[decide_eq_true_eq];exact⟨Wr,Wu⟩
   rw[e7];exact q
theorem xJ(a:α->PV)(b:β->PV):∀(l:List α) (m:List β),eM (l.map a) (m.map b)=(l.zip m).map λp=>.tup [a p.1,b p.2]
 | [],m=>by cases m <;> rfl
 | x::l,[]=>by simp[eM]
 | x::l,y::m=>by rw[Au,Au,eM,xJ a b l m];rfl
def qd{u:XT}{s:Tr}(h:fm g u s=true):u.path≠[]:=by
 cases u <;> cases s <;> first | cases h;done | skip
 ·obtain⟨q,i,e⟩:=yk h;show _≠_;rw[XT.path,e];simp
 ·rw[fm,Aw]at h;obtain⟨q,i,e⟩:=yk h.1;rw[XT.path,e];simp
theorem Ha:∀{u:XT}{s:Tr} (o:Nat),u.In (pI g)->fm g u s=true->(∀p∈(s.nd o).zip u.post,pI g p.2.path/\sh g p.2 p.1=true/\gd g p.2)/\(((s.nd o).zip u.post).map λp=>dk g p.2 p.1).all id=dn g u s
 | .lf p d,.leaf w,o,hi,h=>⟨λx hx=>by
   have:x=(.word w,.lf p d):=by simpa[Tr.nd,XT.post]using hx
   subst this;exact⟨hi,h,trivial⟩,by simp[Tr.nd,XT.post,dk,dn]⟩
 | .nd p d a b,.node l r,o,hi,h=>by
  rw[fm,Aw,Aw]at h;obtain⟨a1,a2⟩:=Ha o hi.2.1 h.2.2;obtain⟨b1,b2⟩:=Ha (o+l.size) hi.2.2 h.2.1;have e:((Tr.node l r).nd o).zip (XT.nd p d a b).post=(l.nd o).zip a.post++((r.nd (o+l.size)).zip b.post++[(.pair (o+l.size-1) (o+l.size+r.size-1),.nd p d a b)]):=by
   show(l.nd o++r.nd (o+l.size)++[_]).zip (a.post++(b.post++[_]))=_;rw[AW,List.zip_append (by rw[l.aZ,rM h.2.2]),List.zip_append (by rw[r.aZ,rM h.2.1])];rfl
  rw[e];refine⟨λx hx=>?_,?_⟩
  ·simp only[Ba,AX]at hx;rcases hx with hx | hx | rfl
   ·exact a1 x hx
   ·exact b1 x hx
   ·exact⟨hi.1,h.1,qd h.2.2,qd h.2.1⟩
  ·rw[AY,AY,List.all_append,List.all_append,a2,b2];simp[dn,dk]
def wy(g:O Sy)(u:XT)(t:Tr):Bool:=fm g u t&&((u.path.length:Int)==1&&dn g u t)
theorem yX(G:WG g ws)(hw:t.Ws)(hz:t.size<=900){u:XT}(hu:u.In (pI g)):(jR (iW g) t.pv u.pv).le (.ret (.bl (wy g u t))):=λQ q=>by
 unfold jR;simp only[ii,ci];refine W.le.use (Px hw hz) ?_;simp only[aU,gt,AU,Ag,if_false,ci];refine W.le.use (mM t hz) ?_;refine W.le.use (Po hz hu) ?_;unfold wy at q;cases c:fm g u t with
 | false=>
  rw[c]at q;simp only[Ag,if_false,oH,PV.lj,aW,gt,if_true];exact q
 | true=>
 rw[c,Bs]at q;obtain⟨l,el⟩:=u.yf;have k0:cx (PV.tup (aA u.path)::l) 0=ap (.tup (aA u.path)):=bo (j:=0) rfl;rw[el];simp only[if_true,oH,PV.lj,aW,gt,Ag,if_false,az,bf,k0,ut,bq,cH,oG,ii,ci];cases c1:(u.path.length:Int)==1 with
 | false=>
  rw[c1]at q;simpa using q
 | true=>
  rw[c1,Bs]at q;obtain⟨f1,f2⟩:=Ha 0 hu c;simp only[AU,Ag,if_false,cP,ci,gt];refine⟨ba (by rw[dm];omega),?_⟩;show(bN _ _).run _;rw[xJ];refine iI (λp=>.bl (dk g p.2 p.1)) (λp hp R r=>?_) ?_
  ·obtain⟨h1,h2,h3⟩:=f1 p hp;simp only[oD,ii];exact R1 G h1 h2 h3 R r
  ·rw[show((t.nd 0).zip u.post).map (λp=>PV.bl (dk g p.2 p.1))=(((t.nd 0).zip u.post).map λp=>dk g p.2 p.1).map PV.bl by rw[AL];rfl,kR,f2];exact q
def QZ(g:O Sy):XT->Tr->Bool
 | .lf p d,.leaf w=>pk g p&&(d=="found"&&hm g (p.getLastD 0) w)
 | .nd p d a b,.node l r=>pk g p&&(QZ g a l&&(QZ g b r&&decide ((d,a.hd,b.hd)∈K0 g (p.getLastD 0))))
 | _,_=>false
theorem yH:∀(u:XT) (s:Tr),QZ g u s=(fm g u s&&dn g u s)
 | .lf _ _,.leaf _=>rfl
 | .lf _ _,.node _ _=>rfl
 | .nd _ _ _ _,.leaf _=>rfl
 | .nd p d a b,.node l r=>by
  rw[QZ,fm,dn,yH a l,yH b r];cases pk g p <;> cases fm g a l <;> cases fm g b r <;> cases dn g a l <;> rfl
theorem M5(h:i < g.length):dC (iW g) (.int (i:Int))=.ret (.bl true):=by
 unfold dC iW;have c1:(0:Int)<=(i:Int):=by omega
 have c2:(i:Int) < (g.length:Int):=by omega
 simp only[ii,RP,RN,RO,Wi,E1,jb,Jb,bq,Aj,rQ,c1,c2,decide_true,oI]
theorem M6(g:O Sy):∀(p:O Nat),((AE (p.length-1)).map λk=>decide (p.getD (k+1) 0∈(sy g (p.getD k 0)).un)).all id=lk g p
 | []=>rfl
 | [_]=>rfl
 | i::k::r=>by
  show((AE (r.length+1)).map _).all id=_;rw[C6,Au,AL,Fb,lk,<- M6 g (k::r)];rfl
def eq_str(a b:Str):of2 dY (.str a) (.str b)=.ret (.bl (a==b)):=by rw[uH,pr ⟨by simp,by simp,by simp⟩,NY]
def MW(h:k < p.length):cx (aA p) (k:Int)=ap (.int ((p.getD k 0:Nat):Int)):=bo (by
 unfold aA;rw[Ak,Ar,Ae h];rfl)
theorem yF(h:pI g p):(bW (iW g) (.tup (aA p))).le (.ret (.bl (pk g p))):=λQ q=>by
 obtain⟨h,hl⟩:=h;unfold bW;simp only[ii,ci,cQ,i8,aU,gt,AU,Ag,if_false,eq_nil p ∅,aW,az];cases p with
 | nil=>exact q
 | cons a p=>
 simp only[List.isEmpty_cons,Ag,if_false,ci];refine n8 (λ_=>.bl true) (λk hk=>M5 (h k hk)) ?_;have e1:(a::p).map (λ_=>PV.bl true)=((a::p).map λ_=>true).map PV.bl:=by rw[AL];rfl
 have e2:((a::p).map λ_=>true).all id=true:=by simp
 rw[e1,kR,e2];have e3:(((aA (a::p)).length:Int)-1)=(((a::p).length-1:Nat):Int):=by rw[cH];simp
 simp only[gt,aU,AU,Ag,if_false,bq,lU,e3,i6,pr (cM (i:=0) (j:=(((a::p).length-1:Nat):Int)) ∅ ∅),Bc,ci,hX];refine n8 (λk=>.bl (decide ((a::p).getD (k+1) 0∈(sy g ((a::p).getD k 0)).un))) (λk hk=>?_) ?_
 ·have hk:k < (a::p).length-1:=AO.mp hk;have at0:=MW (show k < (a::p).length by omega);have û:=MW (show k+1 < (a::p).length by omega);rw[show((k+1:Nat):Int)=(k:Int)+1 from rfl]at û;have hg:(a::p).getD k 0 < g.length:=h _ (by
   rw[Ar,Ae (show k < (a::p).length by omega)];exact Dk _)
  simp only[dG,ii,bf,at0,û,ut,iW,az,ac8 hg,Sy.pv,LZ,wD,Ag,if_false,TK]
 ·have e4:(AE ((a::p).length-1)).map (λk=>PV.bl (decide ((a::p).getD (k+1) 0∈(sy g ((a::p).getD k 0)).un)))=((AE ((a::p).length-1)).map λk=>decide ((a::p).getD (k+1) 0∈(sy g ((a::p).getD k 0)).un)).map PV.bl:=by rw[AL];rfl
  rw[e4,kR,M6];exact q
theorem qU(G:WG g ws):∀(s:Tr) (o n:Nat),(∀k,k < s.size->en t 0 (o+k)=en s o k)->o+s.size<=t.size->s.depth < n->∀u:XT,u.In (pI g)->(bh n (iW g) (.cl ((t.nd 0).map Ent.pv)) (.int ((o+s.size-1:Nat):Int)) u.pv).le (.ret (.bl (QZ g u s)))
 | s,o,0,_,_,hd,_,_=>absurd hd (Nat.not_lt_zero _)
 | s,o,n+1,hs,hz,hd,u,hu=>λQ q=>by
  have sp:=s.size_pos;have i0:∀(a:PV) (l:O PV),cx (a::l) 0=ap a:=λ_ _=>bo (j:=0) rfl;have i1:∀(a b:PV) (l:O PV),cx (a::b::l) 1=ap b:=λ_ _ _=>bo (j:=1) rfl;have i2:∀(a b c d:PV),cx [a,b,c,d] 2=ap c:=λ_ _ _ _=>rfl;have i3:∀(a b c d:PV),cx [a,b,c,d] 3=ap d:=λ_ _ _ _=>rfl;have j0:cx [PV.int 4,.int 2] 0=ap (.int 4):=rfl;have j1:cx [PV.int 4,.int 2] 1=ap (.int 2):=rfl;have hp:=hu.path;unfold bh;simp only[ii,ci,cP,bf,Ge t (show o+s.size-1 < t.size by omega),ut,gt];cases s with
  | leaf w=>
   have e:en t 0 (o+(Tr.leaf w).size-1)=.word w:=hs 0 (by exact Nat.one_pos);rw[e];cases u with
   | nd p d a b=>
    simp only[XT.pv,Ent.pv,ii,cR,cQ,eB,i8,aU,AU,Ag,if_false,gt,i9,if_true,bf,j1,ut,bq,An,A1,oG,aW,ci];exact q
   | lf p d=>
    have q:Q (.bl (pk g p&&(d=="found"&&hm g (p.getLastD 0) w))):=q;simp only[XT.pv,Ent.pv,ii,cR,cQ,eB,i8,aU,AU,Ag,if_false,gt,i9,if_true,bf,j1,ut,bq,An,A1,oG,aW,ci,az,i0,i1];show(am (bW (iW g) (.tup (aA p))) _).run _;rw[ci];refine W.le.use (yF hp) ?_;cases c:pk g p with
    | false=>rw[c]at q;exact q
    | true=>
    rw[c,Bs]at q;obtain⟨x,i,rfl⟩:=yk c;rw[show(x++[i]).getLastD 0=i by simp]at q;have hi:i < g.length:=hp.1 i (by simp[XT.path]);have l2:=G.sX i hi;have k0:cx [(sy g i).nm,PV.int ((sy g i).lv:Int),.tup (aA (sy g i).un),.tup (aA (sy g i).be)] 0=ap (sy g i).nm:=rfl;have k2:cx [(sy g i).nm,PV.int ((sy g i).lv:Int),.tup (aA (sy g i).un),.tup (aA (sy g i).be)] 2=ap (.tup (aA (sy g i).un)):=rfl;simp only[aU,gt,AU,Ag,if_false,ci,oE,pZ,ut,eq_str,cR,eB,iW,az,ii,Kv hi,Sy.pv,bf,k0,k2,eq_nil _ (show(sy g i).un.length<=1000 by omega),Jd (G.nm i hi) w];unfold hm at q;cases c1:d==("found":Str) <;> rw[c1]at q
    ·exact q
    rw[Bs]at q;cases c2:(sy g i).un.isEmpty <;> rw[c2]at q
    ·exact q
    ·exact q
  | node l r=>
   have lp:=l.size_pos;have rp:=r.size_pos;have es:(Tr.node l r).size=l.size+r.size+1:=rfl;have er:en t 0 (o+(Tr.node l r).size-1)=.pair (o+l.size-1) (o+l.size+r.size-1):=by rw[show o+(Tr.node l r).size-1=o+(l.size+r.size) by omega,hs _ ∅,en,if_neg ∅,if_neg ∅]
   have hl:∀k,k < l.size->en t 0 (o+k)=en l o k:=λk hk=>by rw[hs k ∅,en,if_pos hk]
   have hr:∀k,k < r.size->en t 0 (o+l.size+k)=en r (o+l.size) k:=λk hk=>by rw[A7,hs _ ∅,en,if_neg ∅,if_pos ∅,Cm]
   have RB:max l.depth r.depth+1 < n+1:=hd;rw[er];cases u with
   | lf p d=>
    simp only[XT.pv,Ent.pv,ii,cR,cQ,gD,i8,aU,AU,Ag,if_false,gt,i9,bf,j0,ut,bq,An,A1,oG,aW,ci];exact q
   | nd p d a b=>
    have q:Q (.bl (pk g p&&(QZ g a l&&(QZ g b r&&decide ((d,a.hd,b.hd)∈K0 g (p.getLastD 0)))))):=q;have hp:pI g p:=hp;simp only[XT.pv,Ent.pv,ii,cR,cQ,gD,i8,aU,AU,Ag,if_false,gt,i9,bf,j0,ut,bq,An,A1,oG,aW,ci,az,i0,i1,i2,i3];show(am (bW (iW g) (.tup (aA p))) _).run _;rw[ci];refine W.le.use (yF hp) ?_;cases c:pk g p with
    | false=>rw[c]at q;exact q
    | true=>
    rw[c,Bs]at q;obtain⟨x,i,rfl⟩:=yk c;rw[show(x++[i]).getLastD 0=i by simp]at q;have hi:i < g.length:=hp.1 i (by simp);simp only[aU,gt,AU,Ag,if_false,ci,oE,bf,pZ,ut,cR,eB];refine W.le.use (qU G l o n hl ∅ ∅ a hu.2.1) ?_;cases ca:QZ g a l with
    | false=>rw[ca]at q;exact q
    | true=>
    rw[ca,Bs]at q;simp only[aU,gt,AU,Ag,if_false,ci];refine W.le.use (qU G r (o+l.size) n hr ∅ ∅ b hu.2.2) ?_;cases cb:QZ g b r with
    | false=>rw[cb]at q;exact q
    | true=>
    rw[cb,Bs]at q;have la:a.path≠[]:=by rw[yH,Aw]at ca;exact qd ca.1
    have lb:b.path≠[]:=by rw[yH,Aw]at cb;exact qd cb.1
    obtain⟨r1,h1⟩:=qc la;obtain⟨r2,h2⟩:=qc lb;obtain⟨l1,g1⟩:=a.yf;obtain⟨l2,g2⟩:=b.yf;rw[g1,g2,h1,h2];simp only[aU,gt,AU,Ag,if_false,ci,az,ii,bf,i0,fg,ut];refine W.le.use (J2 G hi) ?_;have:=NK (c:=d3) (λd=>by simp[d3]) (λd=>by simp[d3]) (λd e=>by
     obtain⟨n,x,y⟩:=d;obtain⟨m,u,v⟩:=e;rw[CT];simp[d3];intro _;omega) (d,a.hd,b.hd) (.refl ((K0 g i).map d3))
    have e6:d3 (d,a.hd,b.hd)=.tup [.str d,.int (a.hd:Int),.int (b.hd:Int)]:=rfl;rw[e6]at this;rw[this];exact q
theorem M7(G:WG g ws)(hz:t.size<=900)(hd:t.depth < 12){u:XT}(hu:u.In (pI g)):(gM (iW g) t.pv u.pv).le (.ret (.bl (wy g u t))):=λQ q=>by
 have tp:=t.size_pos;unfold gM;simp only[ii,ci];refine W.le.use (hU 12 t hd hz) ?_;have e1:((((t.nd 0).map Ent.pv).length:Int)-1)=((0+t.size-1:Nat):Int):=by rw[dm];omega
 simp only[i7,lU,gt,e1];refine W.le.use (qU G t 0 12 (λk _=>by rw[AJ]) ∅ hd u hu) ?_;rw[yH];unfold wy at q;cases c:fm g u t with
 | false=>rw[c]at q;exact q
 | true=>
 rw[c,Bs]at q;cases c2:dn g u t with
 | false=>rw[c2,CG]at q;exact q
 | true=>
 rw[c2,CS]at q;obtain⟨l,el⟩:=u.yf;have k0:cx (PV.tup (aA u.path)::l) 0=ap (.tup (aA u.path)):=bo (j:=0) rfl;rw[el];simp only[CS,jb,az,ii,bf,k0,ut,bq,cH,dF];exact q
def pf(f:Nat->Nat):O Nat->Nat->O Nat
 | [],_=>[]
 | x::r,i=>if f x=f (r.headD i) then pf f r i else f x::pf f r i
def wm(f:Nat->Nat):WT->WT
 | .lf p i=>.lf (pf f p i) (f i)
 | .nd p i nm a b=>.nd (pf f p i) (f i) nm (wm f a) (wm f b)
def wdO:Ent->Option PV
 | .word w=>ap (.str w)
 | _=>bn
theorem qI:∀(t:Tr) (o:Nat),(t.nd o).filterMap wdO=t.aq.map PV.str
 | .leaf w,o=>rfl
 | .node l r,o=>by
  rw[Tr.nd,EM,EM,qI l,qI r];show _++_++[]=(l.aq++r.aq).map _;rw[Cb,AY]
section
def TR{p:Nat×Nat}(hp:(aD t ds (aE t ds) (aE t ds).length)[i]?=ap p):sy (dS t ds (aE t ds)) i=⟨zV (en t 0 p.1) p.1,p.2,(uW (en t 0 p.1) p.1 (ds.getD p.1 0) ((aE t ds).getD p.2 0)).map λx=>(aD t ds (aE t ds) (aE t ds).length).idxOf (x,p.2-1),Sa (aD t ds (aE t ds) (aE t ds).length) p.1 p.2⟩:=by
 unfold sy dS;rw[Ar,Ak,hp];rfl
end
def WR(G:O Sy)(ws:O Str):Prop:=∀w∈ws,∀w'∈ws,∃i i',i < G.length/\i' < G.length/\hm G i w=true/\hm G i' w'=true/\(i=i'\/i'∈(sy G i).be)
def pR(w:Str):yY w (.str w)=true:=by unfold yY;simp
theorem yz:∀(t:Tr),t.aq.length<=2->WR (gS t) t.aq
 | .leaf a,_,w,hw,w',VO=>by
  rw[AX.mp hw,AX.mp VO];have:hm (gS (.leaf a)) 0 a=true:=pR a;exact⟨0,0,Nat.zero_lt_one,Nat.zero_lt_one,this,this,.inl rfl⟩
 | .node (.leaf a) (.leaf b),_,w,hw,w',VO=>by
  have h0:hm (gS (.node (.leaf a) (.leaf b))) 0 a=true:=pR a;have h1:hm (gS (.node (.leaf a) (.leaf b))) 1 b=true:=pR b;have e0:(sy (gS (.node (.leaf a) (.leaf b))) 0).be=[1]:=rfl;have e1:(sy (gS (.node (.leaf a) (.leaf b))) 1).be=[0]:=rfl;have l:(gS (.node (.leaf a) (.leaf b))).length=3:=rfl;have hw:w=a\/w=b:=by simpa[Tr.aq]using hw
  have VO:w'=a\/w'=b:=by simpa[Tr.aq]using VO
  rcases hw with rfl | rfl <;> rcases VO with rfl | rfl
  ·exact⟨0,0,by omega,by omega,h0,h0,.inl rfl⟩
  ·exact⟨0,1,by omega,by omega,h0,h1,.inr (by rw[e0];exact .head _)⟩
  ·exact⟨1,0,by omega,by omega,h1,h0,.inr (by rw[e1];exact .head _)⟩
  ·exact⟨1,1,by omega,by omega,h1,h1,.inl rfl⟩
 | .node (.node l m) r,h,_,_,_,_=>by
  have e:(Tr.node (.node l m) r).aq.length=l.aq.length+m.aq.length+r.aq.length:=by show((l.aq++m.aq)++r.aq).length=_;simp;omega
  have:=l.ck;have:=m.ck;have:=r.ck;omega
 | .node (.leaf a) (.node l m),h,_,_,_,_=>by
  have e:(Tr.node (.leaf a) (.node l m)).aq.length=1+(l.aq.length+m.aq.length):=by show([a]++(l.aq++m.aq)).length=_;simp;omega
  have:=l.ck;have:=m.ck;omega
theorem Gb(D:DD t ds):WR (dS t ds (aE t ds)) t.aq:=λw hw w' VO=>by
 have mem:∀j w,j < t.size->en t 0 j=.word w->(j,0)∈aD t ds (aE t ds) (aE t ds).length:=λj w hj e=>bF.mpr ⟨by simp[aE],hj,(d8 hj).mpr ⟨by rw[D.leaf j w hj e];exact CW _,λa ea=>by
  rcases fZ t 0 j .aN hj with⟨_,h⟩ | ⟨a',u,v,_,ha,h,ep,_⟩
  ·rw[h]at ea;cases ea
  ·rw[h,AJ]at ea;injection ea with ea;have:a'=a:=by omega
   subst this;have:=(D.pair a' u v ha ep).2.2;show(0:Int) < _;omega⟩⟩
 obtain⟨j,hj,_,e⟩:=kJ t t 0 w (λk _=>by rw[AJ]) ∅ hw;obtain⟨k,hk,_,e'⟩:=kJ t t 0 w' (λk _=>by rw[AJ]) ∅ VO;have mj:=mem j w hj e;have mk:=mem k w' hk e';have sj:=TR (sH mj);have sk:=TR (sH mk);have hl:(dS t ds (aE t ds)).length=(aD t ds (aE t ds) (aE t ds).length).length:=Hr t ds _;have VS:∀j w,en t 0 j=.word w->∀i,sy (dS t ds (aE t ds)) i=⟨zV (en t 0 j) j,0,(uW (en t 0 j) j (ds.getD j 0) ((aE t ds).getD 0 0)).map λx=>(aD t ds (aE t ds) (aE t ds).length).idxOf (x,0-1),Sa (aD t ds (aE t ds) (aE t ds).length) j 0⟩->j < t.size->hm (dS t ds (aE t ds)) i w=true:=λj w e i es hj=>by
  unfold hm;rw[es,e];have:uW (.word w) j (ds.getD j 0) ((aE t ds).getD 0 0)=[]:=by
   unfold uW;rw[if_neg (by rw[D.leaf j w hj e];exact Int.lt_irrefl _)]
  rw[this];exact pR w
 refine⟨_,_,by rw[hl];exact Bg mj,by rw[hl];exact Bg mk,VS j w e _ sj hj,VS k w' e' _ sk hk,?_⟩;by_cases c:j=k
 ·subst c;exact .inl rfl
 ·refine .inr ?_;rw[sj];refine Av.mpr ⟨(k,0),A3.mpr ⟨mk,?_⟩,rfl⟩;have:¬k=j:=λz=>c z.symm;simp[this]
theorem OS(g:u7 t)(h3:t.aq.length<=3){Q:PV->Prop}(q:∀s,WG s t.aq->s.length<=20->(t.aq.length < 3->WR s t.aq)->Q (iW s)):(bU t.pv).run Q:=by
 have hz:=g.size;have hs:=t.size_eq;have hdp:=g.depth;unfold bU;simp only[ii,ci,dE 2 ⋯ ⋯];refine bZ λd _ _=>?_;simp only[dF,aW,gt];cases c:d==0 with
 | true=>
  simp only[if_true];refine Ks t ∅ Q ?_;rw[<- Zx];exact q _ (Jy ∅) (by unfold gS;rw[Aj,CA];omega) λh=>yz t ∅
 | false=>
  simp only[Ag,if_false,ci];refine W.le.use (hU 12 t ∅ ∅) ?_;refine K1 t ∅ λds d D agH=>?_;have Ru:=FT t;have ģ:=DD.of (D.isD ∅);have hb:(aE t ds).length<=3:=by
   unfold aE Ii;rw[An,nT,Aj];omega
  refine Ox ģ ∅ Q ?_;rw[<- ZY];refine q _ (LN ģ hz ∅) ?_ λ_=>Gb ģ;have hl:(dS t ds (aE t ds)).length=(aD t ds (aE t ds) (aE t ds).length).length:=Hr t ds _;rw[hl];refine Bp (fu _ _ _ _) ?_;have:(aE t ds).length*t.size<=3*5:=EU hb ∅;omega
def Jw:fD=iQ:=(rfl)
def Kh:c8=gM:=(rfl)
open XT in
theorem zq{g:O Sy}{ws:O Str}(G:WG g ws)(ĝ:g.length<=20){w:Str}{Q:O PV->Prop}(q:∀E:O XT,(∀u∈E,u.In (pI g))->(∀i,i < g.length->XT.lf [i] "found"∈E)->Q (E.map XT.pv)):(eI (iW g) (.str w)).run Q:=by
 unfold eI;have e1:qC cS [iW g]=.ret (.int (g.length:Int)):=by unfold iW;rw[bq,Aj]
 have c1:okN 0 (g.length:Int):=cM ∅ ∅;simp only[ii,ci,e1,gt,i6,pr c1,Bc];refine zg (λk s=>∃E:O XT,s=E.map XT.pv/\E.length<=k*21/\(∀u∈E,u.In (pI g))/\∀i,i < k->XT.lf [i] "found"∈E) ⟨[],rfl,Bn _,λ_ h=>(nomatch h),λ_ h=>absurd h (Nat.not_lt_zero _)⟩ (λi s hi hI=>?_) (λs ⟨E,hE,_,h1,h2⟩=>by subst hE;exact q E h1 h2);obtain⟨E,rfl,hl,h1,h2⟩:=hI;have agz:E.length<=400:=by omega
 have k0:∀(x:PV) (l:O PV),cx (x::l) 0=ap x:=λ_ _=>bo (j:=0) rfl;have u0:(XT.lf [i] "found").In (pI g):=⟨λx hx=>by rw[AX.mp hx];exact hi,by simp⟩;have sX:=G.sX i hi;simp only[ii,jq (show(E.map XT.pv).length < 1000 by simp;omega),ci,gt];simp only[iW,az,ii,Kv hi,Sy.pv,bf,k0,LZ,ut,Jd (G.nm i hi) w,eq_nil _ (show(sy g i).un.length<=1000 by omega),aW,gt];have snoc:∀l:O XT,(∀u∈l,u.In (pI g))->l.length<=20->∃E':O XT,(E.map XT.pv++[PV.tup [.tup [.int (i:Int)],.str "found"]])++l.map XT.pv=E'.map XT.pv/\E'.length<=(i+1)*21/\(∀u∈E',u.In (pI g))/\∀k,k < i+1->XT.lf [k] "found"∈E':=λl hl' hn=>by
  refine⟨E++[.lf [i] "found"]++l,by simp[XT.pv],by simp;omega,λu hu=>?_,λk hk=>?_⟩
  ·rcases Ba.mp hu with hu | hu
   ·rcases Ba.mp hu with hu | hu
    ·exact h1 u hu
    ·rw[AX.mp hu];exact u0
   ·exact hl' u hu
  ·refine BD _ ?_;by_cases c:k < i
   ·exact BD _ (h2 k c)
   ·have:k=i:=by omega
    subst this;exact AB _ (.head _)
 have no:∃E':O XT,(E.map XT.pv++[PV.tup [.tup [.int (i:Int)],.str "found"]])=E'.map XT.pv/\E'.length<=(i+1)*21/\(∀u∈E',u.In (pI g))/\∀k,k < i+1->XT.lf [k] "found"∈E':=by
  obtain⟨E',e,r⟩:=snoc [] (λ_ h=>(nomatch h)) (by simp);rw[Eu,Cb]at e;exact⟨E',e,r⟩
 have gi:cx (g.map Sy.pv) (i:Int)=ap (.tup [(sy g i).nm,.int ((sy g i).lv:Int),.tup (aA (sy g i).un),.tup (aA (sy g i).be)]):=bo (by rw[Ak,FQ hi];rfl);simp only[gi,ut,gt,az,k0,Jd (G.nm i hi) w,aW];have em:bN (hZ 0 g.length) (λè=>bd (PV.tup [.tup [è,.int (i:Int)],.str "found"]))=.ret (((AE g.length).map λo=>XT.lf [o,i] "found").map XT.pv):=by
  rw[hX,AL];exact mN λo _=>rfl
 cases c:yY w (sy g i).nm with
 | false=>simp only[Ag,if_false,gt];exact no
 | true=>
  cases c2:(sy g i).un.isEmpty with
  | false=>simp only[if_true,Ag,if_false,gt];exact no
  | true=>
   simp only[if_true,gt,em,ii];have ex:∀l m:O PV,l.length+m.length<=1000->rO l m=.ret (l++m):=λl m h=>pr (ba h);rw[ex _ _ (by simp;omega)];simp only[ii,gt];refine snoc _ (λu hu=>?_) (by simp;omega);obtain⟨o,ho,rfl⟩:=Av.mp hu;have ho:=AO.mp ho;refine⟨λx hx=>?_,by simp⟩;have hx:x=o\/x=i:=by simpa using hx
   rcases hx with rfl | rfl <;> assumption
theorem j3{f:PV->PV->W (Lp PV PV)}{h:PV->Prop}:∀{l:O PV}{n0:Nat}{Q:Lp PV PV->Prop},(∀x∈l,∀n:Nat,(f x (.int (n:Int))).run λo=>∃n':Nat,o=.go (.int (n':Int))/\n<=n'/\(h x->n+1<=n'))->(∀n:Nat,n0<=n->((∃x∈l,h x)->n0+1<=n)->Q (.go (.int (n:Int))))->(FL.d6 l (.int (n0:Int)) f).run Q
 | [],n0,Q,_,q=>q n0 (Ao _) λ⟨x,hx,_⟩=>(nomatch hx)
 | x::l,n0,Q,hf,q=>by
  rw[FL.d6,ci];refine(f x (.int (n0:Int))).mono (λo ⟨n',e,h1,h2⟩=>?_) (hf x (.head _) n0);subst e;refine j3 (λy hy=>hf y (.tail _ hy)) λn hn hh=>q n ∅ λ⟨y,hy,hy2⟩=>?_;rcases AG.mp hy with rfl | hy
  ·have:=h2 hy2;omega
  ·have:=hh ⟨y,hy,hy2⟩;omega
open XT in
theorem law21_ok:∀ns:O Int,ns.length<=63->(qM (.cl (ns.map PV.int))).run (·=.bl true):=λns hn=>by
 unfold qM;simp only[ii,ci,i7,Aj,Wj,Wk,gt];obtain⟨k,hk,k1⟩:∃k:Nat,(if (if (3:Int) < (ns.length:Int) then (3:Int) else (ns.length:Int)) > 1 then (if (3:Int) < (ns.length:Int) then (3:Int) else (ns.length:Int)) else 1)=(k:Int)/\k<=3:=by
  refine⟨(if (if (3:Int) < (ns.length:Int) then (3:Int) else (ns.length:Int)) > 1 then (if (3:Int) < (ns.length:Int) then (3:Int) else (ns.length:Int)) else 1).toNat,?_,?_⟩ <;> split <;> split <;> omega
 rw[hk];simp only[i6,pr (cM (i:=0) (j:=(k:Int)) ∅ ∅),gt,Bc];refine NT (λ_ _=>True) trivial (λi _ hi _=>?_) (λ_ _=>rfl);simp only[ci];refine Qm ∅ λl hl=>⟨hl,?_⟩;simp only[ci,ii,dE 3 ⋯ ⋯,Jw,Kh];refine bZ λd d0 d1=>?_;simp only[dG,gt];refine Jv ∅ ∅ λws Tj hw hd ⟨b,b1,hb⟩=>?_;refine LR (λz=>by rw[z]at Tj;simp at Tj;omega) ∅ λt ht=>?_;have g:u7 t:=⟨λx hx=>hw x (ht.mem_iff.mp hx),ht.nodup_iff.mpr hd,by rw[ht.length_eq,Tj];omega,b,b1,(ht.map _).nodup_iff.mpr hb⟩;have h3:t.aq.length<=3:=by rw[ht.length_eq,Tj];omega
 have hz:=g.size;have hdp:=g.depth;have lp:=t.ck;refine OS g h3 λs G ĝ Ą=>?_;refine W.le.use (hU 12 t ∅ ∅) ?_;simp only[cP,gt];refine Na wdO (λe _ R r=>?_) ?_
 ·cases e with
  | word w=>simpa[Ent.pv,wdO]using r
  | pair a b=>simpa[Ent.pv,wdO]using r
 rw[qI];refine pick_run (λz=>by rw[E7.mp z]at lp;simp at lp) (by simp;omega) λx hx=>?_;obtain⟨w1,m1,rfl⟩:=Av.mp hx;refine pick_run (λz=>by rw[E7.mp z]at lp;simp at lp) (by simp;omega) λx hx=>?_;obtain⟨w2,m2,rfl⟩:=Av.mp hx;have wW:∀w∈t.aq,(Tr.leaf w).Ws:=λw hw x hx=>by
  rw[AX.mp hx];exact g.ws w hw
 have pW2:(Tr.node (.leaf w1) (.leaf w2)).Ws:=λx hx=>by
  have hx:x=w1\/x=w2:=by simpa[Tr.aq]using hx
  rcases hx with rfl | rfl
  ·exact g.ws _ m1
  ·exact g.ws _ m2
 have bb:∀x:Bool,of2 qD (.bl x) (.bl x)=.ret (.bl false):=λx=>by
  rw[N5,pr ⟨by simp,by simp,by simp⟩];cases x <;> simp[jz]
 have e1:qC cS [iW s]=.ret (.int (s.length:Int)):=by unfold iW;rw[bq,Aj]
 have c1:okN 0 (s.length:Int):=cM ∅ ∅;refine zq G ĝ λE hE hE2=>?_;refine j3 (h:=λx=>∃i i',i < s.length/\i' < s.length/\x=(XT.lf [i] "found").pv/\hm s i w1=true/\hm s i' w2=true/\(i=i'\/i'∈(sy s i).be)) (n0:=0) (λx hx n=>?_) (λn _ hh=>?_)
 ·obtain⟨u,hu,rfl⟩:=Av.mp hx;have uI:=hE u hu;simp only[ci];refine W.le.use (yX (t:=.leaf w1) G (wW w1 m1) (show 1<=900 by decide) uI) ?_;refine W.le.use (M7 (t:=.leaf w1) G (show 1<=900 by decide) (show 0 < 12 by decide) uI) ?_;simp only[bb,gt,aW,Ag,if_false,ci];refine zq G ĝ λF hF hF2=>?_;refine j3 (h:=λy=>∃i i',i < s.length/\i' < s.length/\u.pv=(XT.lf [i] "found").pv/\y=(XT.lf [i'] "found").pv/\hm s i w1=true/\hm s i' w2=true/\(i=i'\/i'∈(sy s i).be)) (n0:=n) (λy hy n=>?_) (λn' h1 h2=>?_)
  ·obtain⟨v,hv,rfl⟩:=Av.mp hy;have vI:=hF v hv;simp only[ci,e1,gt,i6,pr c1,Bc,hX];refine j3 (h:=λz=>∃j:Nat,z=.int (j:Int)/\∃d,(d="split"\/d="doubled"\/d="over")/\wy s (.nd [j] d u v) (.node (.leaf w1) (.leaf w2))=true) (n0:=n) (λz hz n=>?_) (λn' h1 h2=>?_)
   ·obtain⟨j,hj,rfl⟩:=Av.mp hz;have hj:=AO.mp hj;simp only[az,ii,ci];refine j3 (h:=λy=>∃d:Str,y=.str d/\wy s (.nd [j] d u v) (.node (.leaf w1) (.leaf w2))=true) (n0:=n) (λy hy n=>?_) (λn' h1 h2=>?_)
    ·obtain⟨d,rfl⟩:∃d:Str,y=.str d:=by
      simp only[AG,Bk,or_false]at hy;rcases hy with rfl | rfl | rfl <;> exact⟨_,rfl⟩
     have nI:(XT.nd [j] d u v).In (pI s):=⟨⟨λx hx=>by rw[AX.mp hx];exact hj,by simp⟩,uI,vI⟩;have i1:=yX (t:=.node (.leaf w1) (.leaf w2)) G pW2 (show 3<=900 by decide) nI;have i2:=M7 (t:=.node (.leaf w1) (.leaf w2)) G (show 3<=900 by decide) (show 1 < 12 by decide) nI;rw[ci];refine W.le.use i1 ?_;cases hb:wy s (XT.nd [j] d u v) (.node (.leaf w1) (.leaf w2)) with
     | false=>
      rw[hb]at i2;simp only[ci,Jc,gt,aU,Kd.is,AU,Ag,if_false];refine W.le.use i2 ?_;simp only[bb,gt,aW,Ag,if_false,i9,dG,ci,ii];exact⟨n,by simp,Ao _,λ⟨d',e,hw⟩=>by cases e;rw[hb]at hw;cases hw⟩
     | true=>
      rw[hb]at i2;simp only[ci,Jc,gt,aU,Kd.is,AU,Ag,if_false];refine W.le.use i2 ?_;simp only[bb,gt,aW,Ag,if_false,i9,dG,ci,ii,if_true];exact⟨n+1,by simp,by omega,λ_=>Ao _⟩
    ·refine⟨n',rfl,h1,λ⟨j',e,d,hd,hw⟩=>h2 ⟨.str d,?_,d,rfl,?_⟩⟩
     ·rcases hd with rfl | rfl | rfl <;> simp
     ·have:j'=j:=by injection e with e;omega
      subst this;exact hw
   ·refine⟨n',rfl,h1,λ⟨i,i',a1,a2,a3,a3',a4,a5,a6⟩=>h2 ⟨.int (i:Int),Av.mpr ⟨i,AO.mpr a1,rfl⟩,i,rfl,?_⟩⟩;have inj:∀{u:XT}{i:Nat},u.pv=(XT.lf [i] "found").pv->u=.lf [i] "found":=λ{u i} e=>by
     cases u with
     | nd p d a b=>simp[XT.pv]at e
     | lf p d=>
      simp[XT.pv]at e;obtain⟨e1,rfl⟩:=e;have:p=[i]:=by
       match p,e1 with
       | [],e1=>simp at e1
       | [x],e1=>
        have e1:(PV.int (x:Int))=.int (i:Int):=by simpa using e1
        injection e1 with e1;have:x=i:=by omega
        rw[this]
       | x::y::r,e1=>simp at e1
      rw[this]
    rw[inj a3,inj a3'];have f2:(("found":Str)=="found")=true:=beq_self_eq_true _;have fin:∀d:Str,(d,i,i')∈K0 s i->wy s (.nd [i] d (.lf [i] "found") (.lf [i'] "found")) (.node (.leaf w1) (.leaf w2))=true:=λd hd=>by
     have e1:fm s (.nd [i] d (.lf [i] "found") (.lf [i'] "found")) (.node (.leaf w1) (.leaf w2))=true:=rfl;have e2:dn s (.nd [i] d (.lf [i] "found") (.lf [i'] "found")) (.node (.leaf w1) (.leaf w2))=true:=by
      show(((("found":Str)=="found")&&hm s i w1)&&(((("found":Str)=="found")&&hm s i' w2)&&decide ((d,i,i')∈K0 s i)))=true;rw[f2,a4,a5,decide_eq_true hd];rfl
     unfold wy;rw[e1,e2];rfl
    rcases a6 with rfl | a6
    ·exact⟨"doubled",.inr (.inl rfl),fin _ (.head _)⟩
    ·refine⟨"over",.inr (.inr rfl),fin _ ?_⟩;exact .tail _ (AB _ (El.mpr ⟨i',a6,.head _⟩))
  ·refine⟨n',rfl,h1,λ⟨i,i',a1,a2,a3,a4,a5,a6⟩=>h2 ⟨(XT.lf [i'] "found").pv,Av.mpr ⟨_,hF2 i' a2,rfl⟩,i,i',a1,a2,a3,rfl,a4,a5,a6⟩⟩
 ·simp only[V0,dF,ii,aW,rQ,ci,gt,Aj];by_cases c:t.aq.length < 3
  ·have n1:1<=n:=by
    obtain⟨i,i',a1,a2,a3,a4,a5⟩:=Ą c w1 m1 w2 m2;have:=hh ⟨_,Av.mpr ⟨_,hE2 i a1,rfl⟩,i,i',a1,a2,rfl,a3,a4,a5⟩;omega
   have c0:((n:Int)==0)=false:=by simp;omega
   simp only[c0,Ag,if_false,gt]
  ·have c3:decide ((t.aq.length:Int) < 3)=false:=decide_eq_false ∅;cases hc:((n:Int)==0) with
   | false=>simp only[Ag,if_false,gt]
   | true=>simp only[c3,if_true,gt,Ag,if_false]
end My
variable{jL uf HY xU LY H0 HZ LX ug:PySem.Tok}
namespace My
section
def top(i:Nat):sn:=PySem.Challenge.pw_treewithin_k21_little_ways_put_together.main.body.getD i (.Pass ⟨0,0,0,0⟩)
abbrev dV(i k:Nat)(ks:O AK)(n:Nat)(m:zY PV n):DF:=⟨dnm (top i),top i,JQ (top i),k,λK=>Ih K ks (oU n m)⟩
abbrev dL(i k:Nat)(ks:O AK)(n:Nat)(m:zY (O PV) n):DF:=⟨dnm (top i),top i,JQ (top i),k,λK=>xZ K ks (oU n m)⟩
abbrev dv(i k n:Nat)(m:zY PV n):DF:=dV i k (Al n .v) n m
abbrev tw:o0:=pC [("sign",lo),("LETTERS",gi)]
def mT:LS (top 6) tw:=lcs
abbrev qT:o0:=pC [("node",lo)]
def lh:LS (top 12) qT:=lcs
abbrev qQ:o0:=pC [("house",lo)]
def k7:LS (top 21) qQ:=lcs
abbrev oj:o0:=pC [("far",lo),("house",fr),("lines",fr)]
def jw:LS (top 22) oj:=lcs
abbrev vU:o0:=pC [("house",lo),("name_of",gi),("halves",gi),("apart_from",gi),("houses",fr),("lines",fr)]
def oY:LS (top 23) vU:=lcs
abbrev vT:o0:=pC [("half",lo),("comes_in",gi)]
def oX:LS (top 31) vT:=lcs
abbrev qP:o0:=pC [("far",lo),("stay",fr)]
abbrev qO:o0:=pC [("far",lo),("stay",fr)]
def k6:LS (top 33) qP:=lcs
def kZ:LS (top 33) qO:=lcs
abbrev qS:o0:=pC [("ins",lo),("SPLIT",gi)]
abbrev qR:o0:=pC [("ins",lo),("OVER",gi)]
def lg:LS (top 34) qS:=lcs
def k8:LS (top 34) qR:=lcs
abbrev tE:o0:=pC [("stay",lo),("is_stay",gi),("ground",fr)]
abbrev tD:o0:=pC [("stay",lo),("below",lo),("under_at",gi),("ground",fr)]
def mU:LS (top 36) tE:=lcs
def iU:LS (top 36) tD:=lcs
abbrev kT:o0:=pC [("node",lo)]
def fH:LS (top 38) kT:=lcs
abbrev vS:o0:=pC [("node",lo),("way",lo),("is_done",gi),("ground",fr)]
def jS:LS (top 40) vS:=lcs
abbrev mQ:o0:=pC [("house",lo),("date",lo),("isinstance",gi),("str",gi)]
def d4:LS (top 42) mQ:=lcs
abbrev tu:o0:=pC [("each",lo),("layer",fr),("numbers",fr)]
abbrev tq:o0:=pC [("far",lo),("house",fr),("layer",fr),("numbers",fr)]
def mS:LS (top 44) tu:=lcs
def mR:LS (top 44) tq:=lcs
abbrev yE:o0:=pC [("number",lo),("pair",lo)]
abbrev yD:o0:=pC [("pair",lo),("stay_of",gi),("begins",fr),("dates",fr),("houses",fr),("numbers",fr)]
def lQ:LS (top 45) yE:=lcs
def qV:LS (top 45) yD:=lcs
def iC:da (Pa (top 48)) (JQ (top 48)) (aH (top 48)):=Zy
def d9:da (Pa (top 52)) (JQ (top 52)) (aH (top 52)):=Zy
abbrev oo:o0:=pC [("_law_house",lo),("_law_row",lo),("isinstance",gi),("str",gi)]
abbrev om:o0:=pC [("_law_house",lo),("_law_left",fr),("_law_rows",fr)]
def eO:LS (top 53) oo:=lcs
def jx:LS (top 53) om:=lcs
abbrev lP:o0:=pC [("_law_one",lo),("_law_is_stay",gi),("_law_stays",fr)]
abbrev lO:o0:=pC [("_law_k",lo),("_law_stays",fr),("_law_thing",fr)]
def gA:LS (top 57) lP:=lcs
def gz:LS (top 57) lO:=lcs
def gJ:da (Pa (top 58)) (JQ (top 58)) (aH (top 58)):=Zy
abbrev pB:o0:=pC [("_law_other",lo),("_law_stay",fr)]
def jT:LS (top 60) pB:=lcs
abbrev JZ:o0:=pC [("_law_row",lo),("isinstance",gi),("str",gi)]
def yL:LS (top 61) JZ:=lcs
structure NB(v:EV):Prop where
 isinstance:v.mg "isinstance"=bn
 bool:v.mg "bool"=bn
 int:v.mg "int"=bn
 len:v.mg "len"=bn
 tuple:v.mg "tuple"=bn
 str:v.mg "str"=bn
 all:v.mg "all"=bn
 list:v.mg "list"=bn
 reversed:v.mg "reversed"=bn
 enumerate:v.mg "enumerate"=bn
 range:v.mg "range"=bn
 sorted:v.mg "sorted"=bn
 zip:v.mg "zip"=bn
 dict:v.mg "dict"=bn
 abs:v.mg "abs"=bn
 min:v.mg "min"=bn
 max:v.mg "max"=bn
variable{v:EV}
abbrev ma:DF:=dv 1 1 1 iO
def GG(D:DI v ma)(q:NB v):D.O:=
 kS D λhr nd ao=>
 (SF.bK (j9 (cu rfl .int rfl q.isinstance (ae 0) rfl q.int boot_int) (o7 (TL (cu rfl .bool rfl q.isinstance (ae 0) rfl q.bool boot_bool)))) λ_=>rfl)
abbrev nA:DF:=dv 2 1 2 fy
def Nm(D:DI v nA)(q:NB v):D.O:=
 kS D λhr nd ao fx=>
 (SF.bK (j9 (cu rfl .tup rfl q.isinstance (ae 0) rfl q.tuple boot_tuple) (o7 (ly (dP rfl (aP hr)) (cD rfl rfl q.len (ae 0)) (ae 1)))) λ_=>rfl)
abbrev ik:DF:=dv 6 1 1 kC
def uy(D:DI v ik)(q:NB v)(b9:v.mg "LONGEST_WORD"=ap (.int 8 jL))(fi:v.mg "LETTERS"=ap (.str "abcdefghijklmnopqrstuvwxyz" uf)):D.O:=
 kS D λhr nd ao=>
 (SF.yZ (ph.t (jJ (dA (bH rfl (cu rfl .str rfl q.isinstance (ae 0) rfl q.str r9) (λ_=>rfl))) (gI (dA (PF yW yW ak (cD rfl rfl q.len (ae 0)) (w5 b9 rfl))))))
 (SF.bK j8 λ_=>rfl)
 (SF.bK (uL rfl rfl rfl q.all (cV (fJ rfl mT (VI (ae 0)) (λ_ _ _ _ _=>(dX 0 mT.nd)) (λ_ _ _ _ _ p2=>(ly (VE rfl) (ae 0) (rX fi rfl))) rfl))) λ_=>rfl))
abbrev md(fV:cr):DF:=dV 7 2 [.v,.f fV [] [] [],.v] 2 iP
theorem GH{fV:cr}(D:DI v (md fV))(GY:WW v.P v.w v.K v.mg v.base fV [] [] [] ik.k ik.ps (ik.sp v.K))(rE:nA.C v):D.O:=
 kS D λhr nd ao F6=>
 (SF.abW (i:=3) nd rfl (Ck rfl)
 (sl 4 nd (a8 (n:=1) (av 0 ai) rfl) λdU=>
 (SF.qo (hd:=(λ(s4:O (Key×PV)×O PV)=>([ap (.val ao),ap (.adr fV [] [] []),ap (.val F6),ap (.od s4.1),ap (.ol bn s4.2),bn]:bc))) (s0:=([],dU)) (inj:=id) AH (.refl _) (λs4=>(SA rfl (cq 4) (λ_=>rfl))) (λ_=>trivial) (λs4=>
 (SF.vC 4 5 rfl ⋯ rfl rfl (.inl rfl) nd rfl (Ck rfl) λt7=>
 (SF.W5 (bH rfl (eC rE hr (av 5 (aj ak ai))) (λ_=>rfl))
 (SF.extend 4 rfl rfl rfl (.inl rfl) (aw (ae 5)) λfo=>
 (SF.eN rfl (.m 32)))
 (SF.W5 (ph.t (jJ (dA (bH rfl (R0 1 GY rfl hr (by first | exact Cy rfl | omega) rfl (av 5 ai) rfl) (λ_=>rfl))) (gI (ph.t (jK (XJ 3 rfl (aP hr) (ae 5)) (gj (dA (bH rfl (ae 2) (λ_=>rfl)))))))))
 (SF.ret (k:=λlE=>(Lp.out lE)) j8 λ_=>rfl)
 (SF.putD 3 rfl (aP hr) rfl (.inl rfl) j8 (ae 5) λIk=>
 (SF.eN rfl (.m 32))))))) λs4=>
 (SF.bK j8 λ_=>rfl))))
abbrev oM:DF:=dv 8 3 1 n9
def J8(D:DI v oM){rN:cr}(Lg:v.mg "is_word"=ap (.ref rN))(G5:(md rN).C v):D.O:=
 kS D λhr nd ao=>
 (SF.bK (eC G5 hr (av 0 (adw rfl Lg (aj j8 ai)))) λ_=>rfl)
abbrev lX:DF:=dL 9 1 [.v] 1 lN
def GB(D:DI v lX)(q:NB v):D.O:=
 MY D λhr nd gW=>
 (sl 1 nd (a8 (n:=0) ai rfl) λmm=>
 (sl 2 nd (a8 (n:=1) (av 0 ai) rfl) λdU=>
 (SF.LM (hd:=(λ(s4:O PV×O PV)=>([ap (.val gW),ap (.ol bn s4.1),ap (.ol bn s4.2),bn]:bc))) (s0:=(mm,dU)) AH (.refl _) (λs4=>(SA rfl (cq 2) (λ_=>rfl))) (λs4=>
 (SF.vC 2 3 rfl ⋯ rfl rfl (.inl rfl) nd rfl (Ck rfl) λt7=>
 (SF.append 1 rfl rfl rfl (.inl rfl) (ae 3) λml=>
 (SF.W5 (dA (bH rfl (cu rfl .str rfl q.isinstance (ae 3) rfl q.str r9) (λ_=>rfl)))
 (SF.extend 2 rfl rfl rfl (.inl rfl) (aw (ae 3)) λfo=>
 (SF.eN rfl (.m 8)))
 (SF.eN rfl (.m 8)))))) λs4=>
 (SF.mG (YR rfl rfl rfl q.list rfl q.reversed (FX 1)) λ_=>rfl))))
abbrev kN:DF:=dv 10 2 1 iL
def Rb(D:DI v kN)(q:NB v)(G0:lX.C v):D.O:=
 kS D λhr nd gW=>
 (sl 1 nd (a8 (n:=0) ai rfl) λiy=>
 (sl 2 nd (a8 (n:=0) ai rfl) λvV=>
 (SF.G9 (hd:=(λ(s4:O PV×O PV)=>([ap (.val gW),ap (.ol bn s4.1),ap (.ol bn s4.2),bn,bn,bn]:bc))) (s0:=(iy,vV)) AH rfl (bR rfl (uB (lC G0 hr (av 0 ai)))) (.refl _) (dX 3 nd) (λs4 vF=>
 (SF.ifS (out1:=λ(Uv:O PV×O PV)=>.nx ([ap (.val gW),ap (.ol bn Uv.1),ap (.ol bn Uv.2),ap (.val vF),bn,bn]:bc)) (bH rfl (cu rfl .str rfl q.isinstance (ae 3) rfl q.str r9) (λ_=>rfl))
 (SF.append 1 rfl rfl rfl (.inl rfl) (ae 3) λHX=>
 (SF.nil rfl (.refl _)))
 (SF.vC 2 4 rfl ⋯ rfl rfl (.inl rfl) nd rfl (Ck rfl) λt20=>
 (SF.vC 2 5 rfl ⋯ rfl rfl (.inl rfl) nd rfl (Ck rfl) λt22=>
 (SF.append 1 rfl rfl rfl (.inl rfl) (aK (n:=2) (av 5 (av 4 ai)) rfl) λHW=>
 (SF.nil rfl (.m 48)))))
 λUv=>(SF.append 2 rfl rfl rfl (.inl rfl) (lx (oJ rfl rfl q.len (cq 1)) ak) λyG=>
 (SF.eN rfl (.m 8))))) λs4=>
 (SF.bK (fc rfl rfl q.tuple (cq 1)) λ_=>rfl))))
abbrev ip:DF:=dv 11 1 1 cY
def Np(D:DI v ip)(q:NB v):D.O:=
 kS D λhr nd dB=>
 (SF.bK (KS (bH rfl (cu rfl .str rfl q.isinstance (ae 0) rfl q.str r9) (λ_=>rfl)) (aK (n:=0) ai rfl) (ae 0)) λ_=>rfl)
abbrev jh:DF:=dv 12 3 1 fC
def GK(D:DI v jh)(q:NB v)(iX:kN.C v)(fU:ip.C v):D.O:=
 kS D λhr nd gW=>
 (sv 1 nd (eC iX hr (av 0 ai)) λiy=>
 (SF.mF (i:=3) rfl nd rfl rfl lh (bR rfl (bI (ae 1))) (λ_ _ _ _ _=>(dX 0 lh.nd)) (λ_ _ _ _ _ p5=>uK) rfl λxt=>
 (SF.RG (hd:=(λ(s7:O PV)=>([ap (.val gW),ap (.val iy),bn,ap (.ol bn s7),bn,bn]:bc))) (s0:=xt) AH rfl (mZ rfl rfl q.enumerate (bI (ae 1))) (.refl _) (λ_=>(RE rfl (gK rfl (aX (dX 4 nd) (aX (dX 2 nd) eg))))) (λs7 t9=>
 (SF.G9 (hd:=(λ(pw:O PV)=>([ap (.val gW),ap (.val iy),ap (.val t9.2),ap (.ol bn pw),ap (.val t9.1),bn]:bc))) (s0:=s7) AH rfl (bR rfl (bI (eC fU hr (av 2 ai)))) (.refl _) (dX 5 nd) (λpw IW=>
 (SF.FW 3 rfl rfl (.inl rfl) (ae 4) (ae 5) λzJ=>
 (SF.eN rfl (.m 32)))) λpw=>
 (SF.eN rfl (.m 20)))) λs7=>
 (SF.bK (fc rfl rfl q.tuple (cq 3)) λ_=>rfl))))
abbrev fW:DF:=dv 17 1 2 df
def Gz(D:DI v fW)(nC:v.mg "UNDER"=ap (.int 2 HY)):D.O:=
 kS D λhr nd aJ bz=>
 (SF.bK (aF rfl (aw (aF rfl (aw (ae 0)) (ae 1))) (w5 nC rfl)) λ_=>rfl)
abbrev kd:DF:=dv 18 1 2 gs
def yQ(D:DI v kd)(kh:v.mg "BESIDE"=ap (.int 3 xU)):D.O:=
 kS D λhr nd aJ bz=>
 (SF.bK (aF rfl (aw (aF rfl (aw (ae 0)) (ae 1))) (w5 kh rfl)) λ_=>rfl)
abbrev oQ:DF:=dv 19 2 3 kF
def Kb(D:DI v oQ)(sE:v.mg "NAME"=ap (.int 0 LY))(fR:fW.C v):D.O:=
 kS D λhr nd aJ bz ud=>
 (SF.bK (j9 (ly (dP rfl (aP hr)) (eC fR hr (av 0 (av 1 ai))) (aK (n:=0) ai rfl)) (o7 (ly (dP rfl (aP hr)) (aF rfl (aw (aF rfl (aw (ae 0)) (ae 1))) (w5 sE rfl)) (ae 2)))) λ_=>rfl)
abbrev kO:DF:=dv 20 1 2 dZ
def J7(D:DI v kO)(q:NB v):D.O:=
 kS D λhr nd eA jX=>
 (SF.bK (KS (bH rfl (cu rfl .str rfl q.isinstance (aF rfl (aw (ae 0)) (ae 1)) rfl q.str r9) (λ_=>rfl)) (aF rfl (aw (ae 0)) (ae 1)) (ae 1)) λ_=>rfl)
abbrev lZ:DF:=dL 21 4 [.v] 1 iM
def GD(D:DI v lZ)(q:NB v)(lT:jh.C v):D.O:=
 MY D λhr nd bS=>
 (sv 1 nd (eC lT hr (av 0 ai)) λc9=>
 (SF.mF (i:=3) rfl nd rfl rfl k7 (bR rfl (bI (ae 1))) (λ_ _ _ _ _=>(dX 0 k7.nd)) (λ_ _ _ _ _ p5=>(aK (n:=0) ai rfl)) rfl λkH=>
 (SF.G9 (hd:=(λ(s9:O PV)=>([ap (.val bS),ap (.val c9),bn,ap (.ol bn s9),bn]:bc))) (s0:=kH) AH rfl (IQ rfl q.range (lx (cD rfl rfl q.len (ae 1)) ak) (rV ak) (rV ak)) (.refl _) (dX 2 nd) (λs9 jW=>
 (sv 4 nd (KS (cn GN (aF rfl (aw (ae 1)) (ae 2)) uK) (aK (n:=0) ai rfl) (aF rfl (cq 3) (aF rfl (aw (ae 1)) (ae 2)))) λzK=>
 (SF.FW 3 rfl rfl (.inl rfl) (bT rfl (aK (n:=1) (av 2 ai) rfl) (ae 4)) (ae 2) λyJ=>
 (SF.eN rfl (.m 20))))) λs9=>
 (SF.Mg 3 rfl rfl))))
abbrev jg:DF:=dv 22 1 2 eV
def wo(D:DI v jg)(q:NB v):D.O:=
 kS D λhr nd vY jX=>
 (SF.bK (fc rfl rfl q.tuple (eR (S9 rfl jw (gB rfl q.range (cD rfl rfl q.len (ae 0))) (λ_ _ _ _ _=>(dX 0 jw.nd)) (λ_ _ _ _ _ p3=>(ph.t (jK (vg rfl (aP hr) (ae 0) (aw (aF rfl (aw (ae 2)) (ae 1)))) (gj (vg rfl (aP hr) (ae 1) (aw (aF rfl (aw (ae 2)) (ae 0)))))))) (λ_ _ _ _ _ p3=>(ae 0)) rfl))) λ_=>rfl)
abbrev su:DF:=dv 23 5 1 mO
def Nq(D:DI v su)(q:NB v)(iX:kN.C v)(G3:lZ.C v)(oC:kO.C v)(fU:ip.C v)(wM:jg.C v):D.O:=
 kS D λhr nd bS=>
 (sv 1 nd (eC iX hr (av 0 ai)) λeJ=>
 (sl 2 nd (lC G3 hr (av 0 ai)) λkH=>
 SF.cz 2 rfl (SF.bK (fc rfl rfl q.tuple (eR (fJ rfl oY (gB rfl q.range (cD rfl rfl q.len (ae 1))) (λ_ _ _ _ _=>(dX 0 oY.nd)) (λ_ _ _ _ _ p7=>(aK (n:=4) (aj (eC oC hr (av 1 (av 0 ai))) (aj ak (aj (eC fU hr (aj (aF rfl (aw (ae 1)) (ae 0)) ai)) (aj (eC wM hr (av 2 (av 0 ai))) ai)))) rfl)) rfl))) λ_=>rfl)))
abbrev mf:DF:=dv 29 1 1 dg
def GJ(D:DI v mf):D.O:=
 kS D λhr nd nR=>
 (SF.bK (aF rfl (aw (aF rfl (aw (ae 0)) ak)) ak) λ_=>rfl)
abbrev oT:DF:=dv 30 1 1 oe
def Ke(D:DI v oT):D.O:=
 kS D λhr nd nR=>
 (SF.bK (aF rfl (aw (aF rfl (aw (ae 0)) ak)) (rV ak)) λ_=>rfl)
abbrev so:DF:=dv 31 2 1 qN
def Nn(D:DI v so)(q:NB v)(G7:mf.C v):D.O:=
 kS D λhr nd nR=>
 (SF.bK (fc rfl rfl q.tuple (eR (fJ rfl oX (bR rfl (bI (Od rfl (ae 0) (F7 ak) F8))) (λ_ _ _ _ _=>(dX 0 oX.nd)) (λ_ _ _ _ _ p5=>(eC G7 hr (av 0 ai))) rfl))) λ_=>rfl)
abbrev ka:DF:=dL 32 2 [.v,.v] 2 gq
def yO(D:DI v ka)(q:NB v)(fR:fW.C v):D.O:=
 MY D λhr nd aL bz=>
 (sv 2 nd (eC fR hr (av 0 (av 1 ai))) λmB=>
 (SF.mG (YT (cn (dP rfl (aP hr)) (cD rfl rfl q.len (ae 2)) ak) (a8 (n:=2) (av 2 (aj (aK (n:=2) (aj (aF rfl (aw (ae 2)) ak) (aj (aF rfl (aw (ae 2)) ak) ai)) rfl) ai)) rfl) (a8 (n:=0) ai rfl)) λ_=>rfl))
abbrev lY:DF:=dL 33 2 [.v,.v] 2 iK
def GC(D:DI v lY)(zb:kd.C v):D.O:=
 MY D λhr nd aL bz=>
 (sv 2 nd (eC zb hr (av 0 (av 1 ai))) λsF=>
 (SF.mG (yM rfl (cV (fJ rfl k6 (bR rfl (bI (ae 2))) (λ_ _ _ _ _=>(dX 0 k6.nd)) (λ_ _ _ _ _ p5=>(aK (n:=2) (av 1 (av 0 ai)) rfl)) rfl)) (cV (fJ rfl kZ (bR rfl (bI (ae 2))) (λ_ _ _ _ _=>(dX 0 kZ.nd)) (λ_ _ _ _ _ p9=>(aK (n:=2) (av 0 (av 1 ai)) rfl)) rfl))) λ_=>rfl))
abbrev me:DF:=dL 34 3 [.v,.v,.v] 3 fB
def GI(D:DI v me)(q:NB v)(nG:v.mg "FOUND"=ap (.str "found" H0))(nF:v.mg "SPLIT"=ap (.str "split" HZ))(sD:v.mg "OVER"=ap (.str "over" LX))(iq:v.mg "DOUBLED"=ap (.str "doubled" ug))(Kz:oQ.C v)(y8:ka.C v)(G1:lY.C v):D.O:=
 MY D λhr nd aL dB bz=>
 (SF.yZ (bH rfl (cu rfl .str rfl q.isinstance (ae 1) rfl q.str r9) (λ_=>rfl))
 (SF.mG (YT (bH rfl (eC Kz hr (av 0 (av 2 (av 1 ai)))) (λ_=>rfl)) (a8 (n:=1) (aj (aK (n:=2) (aj (rX nG rfl) (aj (aK (n:=0) ai rfl) ai)) rfl) ai) rfl) (a8 (n:=0) ai rfl)) λ_=>rfl)
 (SF.mF (i:=3) rfl nd rfl rfl lg (bR rfl (uB (lC y8 hr (av 0 (av 2 ai))))) (λ_ _ _ _ _=>(dX 0 lg.nd)) (λ_ _ _ _ _ SW=>(aK (n:=2) (aj (rX nF rfl) (av 0 ai)) rfl)) rfl λIc=>
 SF.cz 3 rfl (SF.mF (i:=4) rfl nd rfl rfl k8 (bR rfl (uB (lC G1 hr (av 0 (av 2 ai))))) (λ_ _ _ _ _=>(dX 0 k8.nd)) (λ_ _ _ _ _ p18=>(aK (n:=2) (aj (rX sD rfl) (av 0 ai)) rfl)) rfl λIz=>
 SF.cz 4 rfl (SF.mG (Q4 rfl (aP hr) rfl q.sorted (cV (yM rfl (cV (yM rfl (cV (a8 (n:=1) (aj (aK (n:=2) (aj (rX iq rfl) (aj (aK (n:=2) (av 2 (av 2 ai)) rfl) ai)) rfl) ai) rfl)) (Mp (ae 3)))) (Mp (ae 4))))) λ_=>rfl))))
abbrev oO:DF:=dv 35 2 2 kD
def J9(D:DI v oO)(q:NB v)(G4:ma.C v):D.O:=
 kS D λhr nd aL ao=>
 (SF.bK (j9 (eC G4 hr (av 1 ai)) (o7 (Jh yW uz ak (ae 1) (cD rfl rfl q.len (ae 0))))) λ_=>rfl)
abbrev oP:DF:=dv 36 3 2 kE
def Ka(D:DI v oP)(q:NB v)(Kx:oO.C v)(fR:fW.C v):D.O:=
 kS D λhr nd aL ao=>
 (SF.yZ (ph.t (jJ (dA (bH rfl (cu rfl .tup rfl q.isinstance (ae 1) rfl q.tuple boot_tuple) (λ_=>rfl))) (gI (cn (dP rfl (aP hr)) (cD rfl rfl q.len (ae 1)) ak))))
 (SF.bK j8 λ_=>rfl)
 (SF.yZ (dA (bH rfl (uL rfl rfl rfl q.all (cV (fJ rfl mU (bR rfl (bI (ae 1))) (λ_ _ _ _ _=>(dX 0 mU.nd)) (λ_ _ _ _ _ p2=>(eC Kx hr (av 1 (av 0 ai)))) rfl))) (λ_=>rfl)))
 (SF.bK j8 λ_=>rfl)
 (SF.bK (uL rfl rfl rfl q.all (cV (Gx rfl iU (wB rfl rfl q.zip (bI (ae 1)) (bI (Od rfl (ae 1) (F7 ak) F8))) (λ_ _ _ _ _=>(RE rfl (gK rfl (aX (dX 0 iU.nd) (aX (dX 1 iU.nd) eg))))) (λ_ _ _ _ _ O8=>(Jg rfl (aP hr) (ae 1) (aw (eC fR hr (av 2 (av 0 ai)))))) (Nc rfl rfl ⋯) ⋯))) λ_=>rfl)))
abbrev kc:DF:=dv 37 4 3 gr
def yP(D:DI v kc)(q:NB v)(Ky:oP.C v)(rE:nA.C v):D.O:=
 kS D λhr nd aL dB ao=>
 (sv 3 nd (KS (bH rfl (cu rfl .str rfl q.isinstance (ae 1) rfl q.str r9) (λ_=>rfl)) ak ak) λM4=>
 (SF.bK (j9 (eC rE hr (av 2 (av 3 ai))) (j9 (eC Ky hr (av 0 (aj (aF rfl (aw (ae 2)) ak) ai))) (o7 (cu rfl .str rfl q.isinstance (aF rfl (aw (ae 2)) ak) rfl q.str r9)))) λ_=>rfl))
abbrev eQ:DF:=dv 38 5 3 c7
def pF(D:DI v eQ)(q:NB v)(za:kc.C v)(fU:ip.C v):D.O:=
 kS D λhr nd aL ue ao=>
 (SF.mF (i:=4) rfl nd rfl rfl fH (bR rfl (bI (ae 1))) (λ_ _ _ _ _=>(dX 0 fH.nd)) (λ_ _ _ _ _ p3=>uK) rfl λLO=>
 (SF.FW 4 rfl rfl (.inl rfl) (ae 2) (rV ak) λlI=>
 (SF.uF (hd:=(λ(P7:O PV)=>([ap (.val aL),ap (.val ue),ap (.val ao),bn,ap (.ol bn P7),bn,bn,bn,bn]:bc))) (s0:=lI) (inj:=id) AH rfl (IQ rfl q.range (lx (cD rfl rfl q.len (ae 1)) ak) (rV ak) (rV ak)) (.refl _) (dX 5 nd) (λ_=>trivial) (λP7 ku=>
 (sv 3 nd (aF rfl (aw (ae 1)) (ae 5)) λpY=>
 (sv 6 nd (aF rfl (cq 4) (ae 5)) λvc=>
 (SF.yZ (dA (bH rfl (eC za hr (av 0 (av 3 (av 6 ai)))) (λ_=>rfl)))
 (SF.ret (k:=λxN=>(Lp.out xN)) uK λ_=>rfl)
 (SF.RG (hd:=(λ(Uu:O PV)=>([ap (.val aL),ap (.val ue),ap (.val ao),ap (.val pY),ap (.ol bn Uu),ap (.val ku),ap (.val vc),bn,bn]:bc))) (s0:=P7) AH rfl (wB rfl rfl q.zip (bI (eC fU hr (av 3 ai))) (bI (Od rfl (ae 6) (F7 ak) F8))) (.refl _) (λ_=>(RE rfl (gK rfl (aX (dX 7 nd) (aX (dX 8 nd) eg))))) (λUu ÿ=>
 (SF.FW 4 rfl rfl (.inl rfl) (ae 8) (ae 7) λHQ=>
 (SF.eN rfl (.m 384)))) λUu=>
 (SF.eN rfl (.m 104))))))) λP7=>
 (SF.cz 4 rfl (SF.bK (ae 4) λ_=>rfl)))))
abbrev oS:DF:=dv 39 4 3 kG
def Kc(D:DI v oS)(NP:so.C v)(G6:me.C v)(KC:oT.C v):D.O:=
 kS D λhr nd aL dB nR=>
 (SF.bK (Jg rfl (aP hr) (aK (n:=2) (aj (aF rfl (aw (ae 2)) ak) (aj (eC NP hr (av 2 ai)) ai)) rfl) (eR (lC G6 hr (av 0 (av 1 (aj (eC KC hr (av 2 ai)) ai)))))) λ_=>rfl)
abbrev si:DF:=dv 40 6 3 jR
def Nl(D:DI v si)(q:NB v)(Kw:oM.C v)(iX:kN.C v)(pK:eQ.C v)(KA:oS.C v):D.O:=
 kS D λhr nd aL nU ao=>
 (SF.yZ (dA (bH rfl (eC Kw hr (av 1 ai)) (λ_=>rfl)))
 (SF.bK j8 λ_=>rfl)
 (sv 3 nd (eC iX hr (av 1 ai)) λFO=>
 (sv 4 nd (eC pK hr (av 0 (av 3 (av 2 ai)))) λlI=>
 (SF.yZ (ph.t (jJ (cn GN (ae 4) uK) (gI (cn (yV rfl (aP hr)) (cD rfl rfl q.len (aF rfl (aw (ae 2)) ak)) ak))))
 (SF.bK j8 λ_=>rfl)
 (SF.bK (uL rfl rfl rfl q.all (cV (Gx rfl jS (wB rfl rfl q.zip (bI (ae 3)) (bI (ae 4))) (λ_ _ _ _ _=>(RE rfl (gK rfl (aX (dX 0 jS.nd) (aX (dX 1 jS.nd) eg))))) (λ_ _ _ _ _ O8=>(eC KA hr (av 2 (av 0 (av 1 ai))))) (Nc rfl rfl ⋯) ⋯))) λ_=>rfl)))))
abbrev gQ:DF:=dL 42 1 [.v,.v] 2 eu
def tH(D:DI v gQ)(q:NB v):D.O:=
 MY D λhr nd eA cX=>
 (SF.mG (S8 rfl d4 (wB rfl rfl q.zip (bI (ae 0)) (bI (ae 1))) (λ_ _ _ _ _=>(RE rfl (gK rfl (aX (dX 0 d4.nd) (aX (dX 1 d4.nd) eg))))) (λ_ _ _ _ _ t5=>(dA (bH rfl (cu rfl .str rfl q.isinstance (ae 0) rfl q.str r9) (λ_=>rfl)))) (λ_ _ _ _ _ t5=>(ae 1)) (Nc rfl rfl ⋯) ⋯) λ_=>rfl)
abbrev lW:DF:=dL 43 4 [.v,.v,.v] 3 iJ
def GA(D:DI v lW)(q:NB v)(lT:jh.C v):D.O:=
 MY D λhr nd bS cX jo=>
 (sv 3 nd (eC lT hr (av 0 ai)) λc9=>
 (sl 4 nd (a8 (n:=0) ai rfl) λvH=>
 (SF.RG (hd:=(λ(s5:O PV)=>([ap (.val bS),ap (.val cX),ap (.val jo),ap (.val c9),ap (.ol bn s5),bn,bn,bn,bn]:bc))) (s0:=vH) AH rfl (mZ rfl rfl q.enumerate (bI (ae 2))) (.refl _) (λ_=>(RE rfl (gK rfl (aX (dX 5 nd) (aX (dX 6 nd) eg))))) (λs5 t7=>
 (SF.RG (hd:=(λ(s9:O PV)=>([ap (.val bS),ap (.val cX),ap (.val jo),ap (.val c9),ap (.ol bn s9),ap (.val t7.1),ap (.val t7.2),bn,bn]:bc))) (s0:=s5) AH rfl (mZ rfl rfl q.enumerate (bI (ae 1))) (.refl _) (λ_=>(RE rfl (gK rfl (aX (dX 7 nd) (aX (dX 8 nd) eg))))) (λs9 X4=>
 (SF.W5 (ph.t (jK (cn yW (ae 8) (ae 6)) (gj (ph.t (jJ (cn GN (aF rfl (aw (ae 3)) (ae 7)) uK) (gI (cn uz (ae 6) (aF rfl (aw (ae 1)) (aF rfl (aw (ae 3)) (ae 7))))))))))
 (SF.append 4 rfl rfl rfl (.inl rfl) (aK (n:=2) (av 7 (av 5 ai)) rfl) λyp=>
 (SF.eN rfl (.m 384)))
 (SF.eN rfl (.m 384)))) λs9=>
 (SF.eN rfl (.m 96)))) λs5=>
 (SF.Mg 4 rfl rfl))))
abbrev oK:DF:=dv 44 2 5 kB
def J6(D:DI v oK)(q:NB v)(fU:ip.C v)(oC:kO.C v):D.O:=
 kS D λhr nd eA cX jo mJ MM=>
 (sv 5 nd (aF rfl (aw (ae 4)) ak) λkL=>
 (sv 6 nd (aF rfl (aw (ae 4)) ak) λmV=>
 (sv 7 nd (ly uz (aF rfl (aw (ae 1)) (ae 5)) (aF rfl (aw (ae 2)) (ae 6))) λuE=>
 (sv 8 nd (KS (bH rfl (ae 7) (λ_=>rfl)) (aK (n:=1) (av 5 ai) rfl) (eC fU hr (aj (aF rfl (aw (ae 0)) (ae 5)) ai))) λbelow_4=>
 (sv 9 nd (fc rfl rfl q.tuple (eR (fJ rfl mS (bR rfl (bI (ae 8))) (λ_ _ _ _ _=>(dX 0 mS.nd)) (λ_ _ _ _ _ p9=>(Oq (aP hr) (ae 2) (aK (n:=2) (av 0 (aj (lx (ae 1) ak) ai)) rfl) (λ_ _=>rfl))) rfl))) λHV=>
 (sv 10 nd (fc rfl rfl q.tuple (eR (S9 rfl mR (Rk (ae 3)) (λ_ _ _ _ _=>(dX 0 mR.nd)) (λ_ _ _ _ _ Yz=>(ph.t (jK (cn (dP rfl (aP hr)) (aF rfl (aw (ae 0)) ak) (ae 2)) (gj (cn (yV rfl (aP hr)) (aF rfl (aw (ae 0)) ak) (ae 1)))))) (λ_ _ _ _ _ Yz=>(Oq (aP hr) (ae 3) (ae 0) (λ_ _=>rfl))) rfl))) λuV=>
 (SF.bK (aK (n:=4) (aj (eC oC hr (av 0 (av 5 ai))) (av 6 (av 9 (av 10 ai)))) rfl) λ_=>rfl)))))))
abbrev xj:DF:=dv 45 5 2 mP
def Rc(D:DI v xj)(q:NB v)(iX:kN.C v)(tP:gQ.C v)(GZ:lW.C v)(Ku:oK.C v):D.O:=
 kS D λhr nd bS cX=>
 (sv 2 nd (eC iX hr (av 0 ai)) λeJ=>
 (sl 3 nd (yM rfl (cV (a8 (n:=1) (aj ak ai) rfl)) (cV (Q5 rfl rfl q.sorted (cV (lC tP hr (av 2 (av 1 ai))))))) λsG=>
 SF.cz 3 rfl (sl 4 nd (lC GZ hr (av 0 (av 1 (av 3 ai)))) λvG=>
 SF.cz 4 rfl (sv 5 nd (adp (R7 rfl rfl (aP hr) rfl q.dict (cV (Gx rfl lQ (mZ rfl rfl q.enumerate (bI (ae 4))) (λ_ _ _ _ _=>(RE rfl (gK rfl (aX (dX 0 lQ.nd) (aX (dX 1 lQ.nd) eg))))) (λ_ _ _ _ _ Ā=>(aK (n:=2) (av 1 (av 0 ai)) rfl)) (Nc rfl rfl ⋯) ⋯)))) λqE=>
 (SF.bK (fc rfl rfl q.tuple (eR (fJ rfl qV (bR rfl (bI (ae 4))) (λ_ _ _ _ _=>(dX 0 qV.nd)) (λ_ _ _ _ _ U3=>(eC Ku hr (av 3 (av 2 (av 1 (av 4 (av 0 ai))))))) rfl))) λ_=>rfl)))))
abbrev mh:DF:=dL 47 1 [.v,.v] 2 iR
def GL(D:DI v mh)(q:NB v):D.O:=
 MY D λhr nd cK k_=>
 (sv 2 nd ak λOC=>
 (SF.ifS (out1:=λ(s3:PV)=>.nx ([ap (.val cK),ap (.val k_),ap (.val s3),bn]:bc)) (cn uz (ae 1) (cD rfl rfl q.len (ae 0)))
 (sv 2 nd (ZT rfl q.abs (aF rfl (aw (ae 0)) (ae 1))) λOB=>
 (SF.nil rfl (.refl _)))
 (SF.nil rfl (.refl _))
 λs3=>(sv 3 nd (o8 (nr (ae 2) (o8 (Oe ak ak) (Oe ak ak))) (w4 rfl q.int (ly YY (ae 2) (Oe ak ak)))) λnv=>
 (SF.mG (a8 (n:=3) (av 3 (aj (nr (bT rfl (bT rfl (ae 2) (o8 ak (ae 1))) ak) ak) (aj ak ai))) rfl) λ_=>rfl))))
abbrev cf:DF:=dV 48 1 [.p (ki jC),.v] 1 bM
def yS(D:DI v cf):D.O:=
 UR (n:=1) (fnO (n:=1) (m:=eG) D.fn iC rfl λad cL l hl=>match l,hl with | [fx],_=>λ_ _ _ _ _ _ hr=>show SF _ _ _ [ap (.ol (ap ad) cL),ap (.val fx),bn,bn] _ (eG cL fx) _ from
 (SF.yZ (cn Tf (aF rfl (cq 0) ak) ak)
 (sv 2 iC.nd (nr (aF rfl (cq 0) ak) (ae 1)) λJj=>
 (SF.FW 0 rfl rfl (.inl rfl) (TN (aF rfl (cq 0) ak) (ae 1)) ak λlJ=>
 (SF.Ye 0 (k:=λx5=>(x5,lJ)) rfl (ae 2) λ_=>rfl)))
 (SF.adu 0 rfl rfl rfl (.inl rfl) ak ak VJ YZ λfv=>
 (sv 3 iC.nd (nr (bT rfl (bT rfl (o8 (aF rfl (cq 0) ak) ak) (o8 ak (aF rfl (cq 0) ak))) ak) ak) λqJ=>
 (SF.FW 0 rfl rfl (.inl rfl) (nr (o8 (ae 3) (bT rfl (bT rfl (nr (ae 3) ak) (o8 ak (aF rfl (cq 0) ak))) ak)) ak) ak λgm=>
 (SF.Ye 0 (k:=λlE=>(lE,gm)) rfl (nr (TN (aF rfl (cq 0) ak) ak) (ae 1)) λ_=>rfl)))))) PB
abbrev gF:DF:=dV 49 2 [.p (ki jC),.v] 1 dq
def yT(D:DI v gF)(q:NB v)(aQ:cf.C v):D.O:=
 kS D λhr nd L6=>
 (SF.bK (aF rfl (aw (ae 1)) (eC aQ hr (dR 0 (aj (cD rfl rfl q.len (ae 1)) ai)))) λ_=>rfl)
abbrev jk:DF:=dL 50 2 [.p (ki jC),.v] 1 fD
def wq(D:DI v jk)(q:NB v)(aQ:cf.C v):D.O:=
 MY D λhr nd fx=>
 (sv 2 nd dQ λhV=>
 (sv 3 nd (eC aQ hr (dR 0 (aj ak ai))) λiZ=>
 (sv 4 nd (aF rfl (eR (a8 (n:=6) (aj ak (aj ak (aj ak (aj ak (aj ak (aj ak ai)))))) rfl)) (eC aQ hr (dR 0 (aj ak ai)))) λqr=>
 (sv 5 nd (aF rfl (eR (a8 (n:=2) (aj dQ (aj dQ ai)) rfl)) (eC aQ hr (dR 0 (aj ak ai)))) λmD=>
 (sl 6 nd (a8 (n:=4) (aj dQ (aj dQ (aj dQ (aj dQ ai)))) rfl) λjc=>
 SF.cz 6 rfl (sl 7 nd (a8 (n:=0) ai rfl) λjZ=>
 (SF.G9 (hd:=(λ(Mc:O PV)=>([ap (.kq (ki jC)),ap (.val fx),ap (.val hV),ap (.val iZ),ap (.val qr),ap (.val mD),ap (.val (.cl jc)),ap (.ol bn Mc),bn,bn]:bc))) (s0:=jZ) AH rfl (gB rfl q.range (ae 1)) (.refl _) (dX 8 nd) (λMc Kf=>
 (sv 9 nd (ZS (ae 2) (nr (bT rfl (ae 3) (o8 (ae 4) (ae 8))) ak) (λ_ _=>rfl)) λkI=>
 (SF.append 7 rfl rfl rfl (.inl rfl) (bT rfl (bT rfl (ae 5) (ae 9)) (aF rfl (aw (ae 6)) (nr (bT rfl (ae 3) (ae 8)) ak))) λnj=>
 (SF.eN rfl (.m 768))))) λMc=>
 (SF.Mg 7 rfl rfl))))))))
abbrev ke:DF:=dV 51 2 [.p (ki jC),.v] 1 gw
def yR(D:DI v ke)(q:NB v)(aQ:cf.C v):D.O:=
 kS D λhr nd gh=>
 (sl 2 nd (Vr rfl rfl q.list (aw (ae 1))) λFU=>
 (sv 3 nd (eC aQ hr (dR 0 (aj ak ai))) λxO=>
 (SF.LM (hd:=(λ(s4:O PV)=>([ap (.kq (ki jC)),ap (.val gh),ap (.ol bn s4),ap (.val xO),bn,bn]:bc))) (s0:=FU) AH (.refl _) (λs4=>(cn Tf (oJ rfl rfl q.len (cq 2)) ak)) (λs4=>
 (sv 4 nd (aF rfl (eR (a8 (n:=4) (aj (eC aQ hr (dR 0 (aj (lx (oJ rfl rfl q.len (cq 2)) ak) ai))) (aj (lx (oJ rfl rfl q.len (cq 2)) ak) (aj ak (aj ak ai)))) rfl)) (ae 3)) λzH=>
 (sv 5 nd (aK (n:=2) (aj (aF rfl (cq 2) (ae 4)) (aj (aF rfl (cq 2) (bT rfl (ae 4) ak)) ai)) rfl) λIw=>
 (SF.ifS (out1:=λ(ç:PV)=>.nx ([ap (.kq (ki jC)),ap (.val gh),ap (.ol bn s4),ap (.val xO),ap (.val zH),ap (.val ç)]:bc)) (ph.t (jK (cn (dP rfl (aP hr)) (ae 3) ak) (gj (cn (dP rfl (aP hr)) (eC aQ hr (dR 0 (aj ak ai))) ak))))
 (sv 5 nd (aK (n:=2) (aj (aF rfl (cq 2) (bT rfl (ae 4) ak)) (aj (aF rfl (cq 2) (ae 4)) ai)) rfl) λIv=>
 (SF.nil rfl (.refl _)))
 (SF.nil rfl (.refl _))
 λç=>(SF.X8 2 rfl rfl (.inl rfl) (a8 (n:=1) (av 5 ai) rfl) (ae 4) (bT rfl (ae 4) ak) λIj=>
 (SF.eN rfl (.m 48))))))) λs4=>
 (SF.bK (aF rfl (cq 2) ak) λ_=>rfl))))
abbrev dH:DF:=dL 52 12 [.v] 1 (aV 12)
theorem mW(D:DI v dH)(q:NB v):∀n,gc v.P v.w v.K v.mg v.base sS (n+0) D.f D.fd (JQ (top 52)) (xZ v.K [.v] (oU 1 (aV n)))
 | 0=>Tv (PX λl Q hl=>match l,hl with | [cj],_=>λh=>h.elim)
 | n+1=>have bP:=D.cN (mW D q n)
  fnL (k:=n+0) (n:=1) (m:=aV (n+1)) D.fn d9 rfl (yt IB) λl hl=>match l,hl with | [cj],_=>λ_ _ _ _ _ _ hr=>show SF _ _ _ [ap (.val cj),bn,bn,bn] _ (aV (n+1) cj) _ from
 (SF.yZ (bH rfl (cu rfl .str rfl q.isinstance (ae 0) rfl q.str r9) (λ_=>rfl))
 (SF.mG (a8 (n:=1) (av 0 ai) rfl) λ_=>rfl)
 (sl 1 d9.nd (lC bP hr (aj (aF rfl (aw (ae 0)) ak) ai)) λvo=>
 (sv 2 d9.nd (oJ rfl rfl q.len (cq 1)) λqL=>
 (SF.G9 (hd:=(λ(s6:O PV)=>([ap (.val cj),ap (.ol bn s6),ap (.val qL),bn]:bc))) (s0:=vo) AH rfl (bR rfl (uB (lC bP hr (aj (aF rfl (aw (ae 0)) ak) ai)))) (.refl _) (dX 3 d9.nd) (λs6 yc=>
 (SF.append 1 rfl rfl rfl (.inl rfl) (KS (bH rfl (cu rfl .str rfl q.isinstance (ae 3) rfl q.str r9) (λ_=>rfl)) (ae 3) (aK (n:=2) (aj (bT rfl (aF rfl (aw (ae 3)) ak) (ae 2)) (aj (bT rfl (aF rfl (aw (ae 3)) ak) (ae 2)) ai)) rfl)) λMe=>
 (SF.eN rfl (.m 8)))) λs6=>
 (SF.mG (yM rfl (FX 1) (cV (a8 (n:=1) (aj (aK (n:=2) (aj (lx (ae 2) ak) (aj (lx (oJ rfl rfl q.len (cq 1)) ak) ai)) rfl) ai) rfl))) λ_=>rfl)))))
abbrev jn:DF:=dV 53 3 [.p (ki jC),.v] 1 eX
def wz(D:DI v jn)(q:NB v)(gC:gF.C v)(aQ:cf.C v):D.O:=
 kS D λhr nd gk=>
 (sl 2 nd (YS (a8 (n:=1) (aj ak ai) rfl) (cD rfl rfl q.len (ae 1))) λje=>
 (sl 4 nd (S8 rfl eO (mZ rfl rfl q.enumerate (bI (ae 1))) (λ_ _ _ _ _=>(RE rfl (gK rfl (aX (dX 0 eO.nd) (aX (dX 1 eO.nd) eg))))) (λ_ _ _ _ _ t9=>(dA (bH rfl (cu rfl .str rfl q.isinstance (ae 1) rfl q.str r9) (λ_=>rfl)))) (λ_ _ _ _ _ t9=>(ae 0)) (Nc rfl rfl ⋯) ⋯) λGv=>
 (sv 5 nd ak λxi=>
 (SF.LM (hd:=(λ(pw:O PV×O PV×PV)=>([ap (.kq (ki jC)),ap (.val gk),ap (.ol bn pw.1),bn,ap (.ol bn pw.2.1),ap (.val pw.2.2),bn]:bc))) (s0:=(je,Gv,xi)) AH (.refl _) (λpw=>(XI rfl (aP hr) (FX 4))) (λpw=>
 (SF.as (WE 4 rfl (WD (i:=6) rfl nd rfl rfl jx (bR rfl (bI (ae 4))) (λ_ _ _ _ _=>(dX 0 jx.nd)) (λ_ _ _ _ _ Yy=>(ph.t (jK (vg rfl (aP hr) (aF rfl (aw (aF rfl (aw (ae 2)) (ae 0))) ak) (aw (ae 1))) (gj (vg rfl (aP hr) (aF rfl (aw (aF rfl (aw (ae 2)) (ae 0))) ak) (aw (ae 1))))))) (λ_ _ _ _ _ Yy=>(ae 0)) rfl)) λye=>
 SF.cz 6 rfl (sv 3 nd (eC gC hr (dR 0 (av 6 ai))) λrA=>
 (sv 5 nd (bT rfl (bT rfl (ae 5) ak) (eC aQ hr (dR 0 (aj (aF rfl (eR (a8 (n:=3) (aj ak (aj ak (aj ak ai))) rfl)) (eC aQ hr (dR 0 (aj ak ai)))) ai)))) λxh=>
 (SF.FW 2 rfl rfl (.inl rfl) (ae 5) (ae 3) λlA=>
 (SF.remove 4 rfl rfl rfl (.inr (.inl rfl)) (ae 3) λII=>
 (SF.eN rfl (.m 72)))))))) λpw=>
 (SF.bK (fc rfl rfl q.tuple (cq 2)) λ_=>rfl)))))
abbrev dI:DF:=dV 54 13 [.p (ki jC),.v] 1 bU
def mY(D:DI v dI)(aQ:cf.C v)(NQ:su.C v)(RD:xj.C v)(wO:jn.C v)(bP:dH.C v):D.O:=
 kS D λhr nd bS=>
 (SF.yZ (cn (dP rfl (aP hr)) (eC aQ hr (dR 0 (aj ak ai))) ak)
 (SF.bK (eC NQ hr (av 1 ai)) λ_=>rfl)
 (SF.bK (eC RD hr (av 1 (aj (eC wO hr (dR 0 (aj (Oo (lC bP hr (av 1 ai))) ai))) ai))) λ_=>rfl))
abbrev jm:DF:=dL 55 1 [.v,.v] 2 eW
def wu(D:DI v jm)(q:NB v):D.O:=
 MY D λhr nd aJ bz=>
 (SF.abU (aF rfl (aw (ae 0)) (ae 1)) (g_4 rfl (gK rfl (aX (dX 2 nd) (aX (dX 3 nd) (aX (dX 4 nd) (aX (dX 5 nd) eg)))))) λt3=>
 (sl 6 nd (a8 (n:=1) (aj (aK (n:=3) (aj dQ (av 1 (av 1 ai))) rfl) ai) rfl) λwU=>
 (SF.ifS (out1:=λ(Yb:O PV)=>.nx ([ap (.val aJ),ap (.val bz),ap (.val t3.1),ap (.val t3.2.1),ap (.val t3.2.2.1),ap (.val t3.2.2.2),ap (.ol bn Yb),bn]:bc)) (cn (dP rfl (aP hr)) (cD rfl rfl q.len (ae 4)) ak)
 (SF.extend 6 rfl rfl rfl (.inl rfl) (eR (a8 (n:=2) (aj (aK (n:=3) (aj dQ (aj (aF rfl (aw (ae 4)) ak) (aj (aF rfl (aw (ae 4)) ak) ai))) rfl) (aj (aK (n:=3) (aj dQ (aj (aF rfl (aw (ae 4)) ak) (aj (aF rfl (aw (ae 4)) ak) ai))) rfl) ai)) rfl)) λzd=>
 (SF.nil rfl (.refl _)))
 (SF.nil rfl (.refl _))
 λYb=>(SF.G9 (hd:=(λ(P6:O PV)=>([ap (.val aJ),ap (.val bz),ap (.val t3.1),ap (.val t3.2.1),ap (.val t3.2.2.1),ap (.val t3.2.2.2),ap (.ol bn P6),bn]:bc))) (s0:=Yb) AH rfl (bR rfl (bI (ae 5))) (.refl _) (dX 7 nd) (λP6 gZ=>
 (SF.extend 6 rfl rfl rfl (.inl rfl) (eR (a8 (n:=2) (aj (aK (n:=3) (aj dQ (av 1 (av 7 ai))) rfl) (aj (aK (n:=3) (aj dQ (av 7 (av 1 ai))) rfl) ai)) rfl)) λnh=>
 (SF.eN rfl (.m 128)))) λP6=>
 (SF.Mg 6 rfl rfl)))))
abbrev fX:DF:=dv 56 1 2 dC
def q8(D:DI v fX)(q:NB v):D.O:=
 kS D λhr nd aJ ao=>
 (SF.bK (j9 (cu rfl .int rfl q.isinstance (ae 1) rfl q.int boot_int) (j9 (TL (cu rfl .bool rfl q.isinstance (ae 1) rfl q.bool boot_bool)) (o7 (Jh yW uz ak (ae 1) (cD rfl rfl q.len (ae 0)))))) λ_=>rfl)
abbrev fY:DF:=dv 57 2 2 bW
def q9(D:DI v fY)(q:NB v)(rF:fX.C v):D.O:=
 kS D λhr nd aJ ao=>
 (SF.yZ (ph.t (jJ (dA (bH rfl (cu rfl .tup rfl q.isinstance (ae 1) rfl q.tuple boot_tuple) (λ_=>rfl))) (jJ (cn (dP rfl (aP hr)) (ae 1) (aK (n:=0) ai rfl)) (gI (dA (bH rfl (uL rfl rfl rfl q.all (cV (fJ rfl gA (bR rfl (bI (ae 1))) (λ_ _ _ _ _=>(dX 0 gA.nd)) (λ_ _ _ _ _ p2=>(eC rF hr (av 1 (av 0 ai)))) rfl))) (λ_=>rfl)))))))
 (SF.bK j8 λ_=>rfl)
 (SF.bK (uL rfl rfl rfl q.all (cV (fJ rfl gz (gB rfl q.range (lx (cD rfl rfl q.len (ae 1)) ak)) (λ_ _ _ _ _=>(dX 0 gz.nd)) (λ_ _ _ _ _ p7=>(Jg rfl (aP hr) (aF rfl (aw (ae 2)) (bT rfl (ae 0) ak)) (aw (aF rfl (aw (aF rfl (aw (ae 1)) (aF rfl (aw (ae 2)) (ae 0)))) ak)))) rfl))) λ_=>rfl))
abbrev jl:DF:=dv 58 14 4 (bh 12)
theorem mX(D:DI v jl)(q:NB v)(jY:fY.C v)(m9:jm.C v):∀n,gc v.P v.w v.K v.mg v.base sS (n+2) D.f D.fd (JQ (top 58)) (Ih v.K [.v,.v,.v,.v] (oU 4 (bh n)))
 | 0=>Tv (Uo λl Q hl=>match l,hl with | [aJ,gk,dB,ao],_=>λh=>h.elim)
 | n+1=>have eY:=D.cN (mX D q jY m9 n)
  fnV (k:=n+2) (n:=4) (m:=bh (n+1)) D.fn gJ rfl (yt (yt (yt (yt IB)))) λl hl=>match l,hl with | [aJ,gk,dB,ao],_=>λ_ _ _ _ _ _ hr=>show SF _ _ _ [ap (.val aJ),ap (.val gk),ap (.val dB),ap (.val ao),bn,bn] _ (bh (n+1) aJ gk dB ao) _ from
 (sv 4 gJ.nd (aF rfl (aw (ae 1)) (ae 2)) λum=>
 (SF.yZ (ph.t (jJ (dA (bH rfl (cu rfl .tup rfl q.isinstance (ae 3) rfl q.tuple boot_tuple) (λ_=>rfl))) (gI (cn (yV rfl (aP hr)) (cD rfl rfl q.len (ae 3)) (aF rfl (eR (a8 (n:=2) (aj ak (aj ak ai)) rfl)) (w4 rfl q.int (cu rfl .str rfl q.isinstance (ae 4) rfl q.str r9)))))))
 (SF.bK j8 λ_=>rfl)
 (SF.yZ (ph.t (jJ (dA (bH rfl (eC jY hr (av 0 (aj (aF rfl (aw (ae 3)) ak) ai))) (λ_=>rfl))) (gI (dA (bH rfl (cu rfl .str rfl q.isinstance (aF rfl (aw (ae 3)) ak) rfl q.str r9) (λ_=>rfl))))))
 (SF.bK j8 λ_=>rfl)
 (sv 5 gJ.nd (aF rfl (aw (aF rfl (aw (ae 3)) ak)) (rV ak)) λwd=>
 (SF.yZ (bH rfl (cu rfl .str rfl q.isinstance (ae 4) rfl q.str r9) (λ_=>rfl))
 (SF.bK (j9 (ly (dP rfl (aP hr)) (aF rfl (aw (ae 3)) ak) dQ) (j9 (ly (dP rfl (aP hr)) (aF rfl (aw (aF rfl (aw (ae 0)) (ae 5))) ak) (aK (n:=0) ai rfl)) (o7 (ly (dP rfl (aP hr)) (aF rfl (aw (aF rfl (aw (ae 0)) (ae 5))) ak) (ae 4))))) λ_=>rfl)
 (SF.yZ (ph.t (jJ (dA (bH rfl (eC eY hr (av 0 (av 1 (aj (aF rfl (aw (ae 4)) ak) (aj (aF rfl (aw (ae 3)) ak) ai))))) (λ_=>rfl))) (gI (dA (bH rfl (eC eY hr (av 0 (av 1 (aj (aF rfl (aw (ae 4)) ak) (aj (aF rfl (aw (ae 3)) ak) ai))))) (λ_=>rfl))))))
 (SF.bK j8 λ_=>rfl)
 (SF.bK (Jg rfl (aP hr) (aK (n:=3) (aj (aF rfl (aw (ae 3)) ak) (aj (aF rfl (aw (aF rfl (aw (aF rfl (aw (ae 3)) ak)) ak)) ak) (aj (aF rfl (aw (aF rfl (aw (aF rfl (aw (ae 3)) ak)) ak)) ak) ai))) rfl) (eR (lC m9 hr (av 0 (av 5 ai))))) λ_=>rfl)))))))
abbrev gR:DF:=dv 59 15 3 c8
def tI(D:DI v gR)(q:NB v)(bP:dH.C v)(eY:jl.C v):D.O:=
 kS D λhr nd aJ nU ao=>
 (sl 3 nd (lC bP hr (av 1 ai)) λnV=>
 SF.cz 3 rfl (SF.bK (j9 (eC eY hr (av 0 (av 3 (aj (lx (cD rfl rfl q.len (ae 3)) ak) (av 2 ai))))) (o7 (ly (dP rfl (aP hr)) (cD rfl rfl q.len (aF rfl (aw (ae 2)) ak)) ak))) λ_=>rfl))
abbrev kf:DF:=dL 60 1 [.v,.v] 2 eI
def yU(D:DI v kf)(q:NB v):D.O:=
 MY D λhr nd aJ ud=>
 (sl 2 nd (a8 (n:=0) ai rfl) λwV=>
 (SF.G9 (hd:=(λ(s3:O PV)=>([ap (.val aJ),ap (.val ud),ap (.ol bn s3),bn]:bc))) (s0:=wV) AH rfl (gB rfl q.range (cD rfl rfl q.len (ae 0))) (.refl _) (dX 3 nd) (λs3 qu=>
 (SF.append 2 rfl rfl rfl (.inl rfl) (aK (n:=2) (aj (aK (n:=1) (av 3 ai) rfl) (aj dQ ai)) rfl) λwR=>
 (SF.W5 (ph.t (jK (cn (dP rfl (aP hr)) (aF rfl (aw (aF rfl (aw (ae 0)) (ae 3))) ak) (ae 1)) (gj (cn (dP rfl (aP hr)) (aF rfl (aw (aF rfl (aw (ae 0)) (ae 3))) ak) (aK (n:=0) ai rfl)))))
 (SF.extend 2 rfl rfl rfl (.inl rfl) (eR (fJ rfl jT (gB rfl q.range (cD rfl rfl q.len (ae 0))) (λ_ _ _ _ _=>(dX 0 jT.nd)) (λ_ _ _ _ _ è=>(aK (n:=2) (aj (aK (n:=2) (av 0 (av 1 ai)) rfl) (aj dQ ai)) rfl)) rfl)) λzf=>
 (SF.eN rfl (.m 8)))
 (SF.eN rfl (.m 8))))) λs3=>
 (SF.Mg 2 rfl rfl)))
abbrev TQ:DF:=dv 61 16 1 qM
def YX(D:DI v TQ)(q:NB v)(G8:mh.C v)(zc:ke.C v)(wN:jk.C v)(aQ:cf.C v)(ng:dI.C v)(bP:dH.C v)(gC:gF.C v)(oZ:kf.C v)(y9:si.C v)(lu:gR.C v):D.O:=
 kS D λhr nd cK=>
 (SF.uF (hd:=(λ(s6:Unit)=>([ap (.val cK),bn,bn,bn,bn,bn,bn,bn,bn,bn,bn,bn,bn,bn,bn,bn]:bc))) (s0:=()) (inj:=id) AH rfl (gB rfl q.range (ZQ rfl rfl q.max ak (ZP rfl rfl q.min (cD rfl rfl q.len (ae 0)) ak))) (.refl _) (dX 1 nd) (λ_=>trivial) (λs6 W4=>
 (sl 2 nd (lC G8 hr (av 0 (av 1 ai))) λqB=>SF.kq 2 rfl
 (sv 3 nd (eC zc hr (dR 2 (aj (Oo (lC wN hr (dR 2 (aj (bT rfl ak (eC aQ hr (dR 2 (aj ak ai)))) ai)))) ai))) λfP=>
 (sv 4 nd (eC ng hr (dR 2 (av 3 ai))) λcp=>
 (sl 5 nd (lC bP hr (av 3 ai)) λko=>
 SF.cz 5 rfl (SF.Us (i:=6) rfl nd rfl rfl yL (bR rfl (bI (ae 5))) (λ_ _ _ _ _=>(dX 0 yL.nd)) (λ_ _ _ _ _ U3=>(bH rfl (cu rfl .str rfl q.isinstance (ae 0) rfl q.str r9) (λ_=>rfl))) (λ_ _ _ _ _ U3=>(ae 0)) rfl λbC=>
 SF.cz 6 rfl (SF.par (i:=7) (j:=8) rfl nd rfl rfl ⋯ rfl rfl (eC gC hr (dR 2 (av 6 ai))) (eC gC hr (dR 2 (av 6 ai))) λgL eF=>
 (sv 9 nd ak λvR=>
 (SF.uF (hd:=(λ(SN:PV)=>([ap (.val cK),ap (.val W4),ap (.kq (ki jC)),ap (.val fP),ap (.val cp),ap (.val (.cl ko)),ap (.val (.cl bC)),ap (.val gL),ap (.val eF),ap (.val SN),bn,bn,bn,bn,bn,bn]:bc))) (s0:=vR) (inj:=Lp.out) AH rfl (bR rfl (uB (lC oZ hr (av 4 (av 7 ai))))) (.refl _) (dX 10 nd) (λ_=>trivial) (λSN lV=>
 (SF.yZ (cn (yV rfl (aP hr)) (eC y9 hr (av 4 (av 7 (av 10 ai)))) (eC lu hr (av 4 (av 7 (av 10 ai)))))
 (SF.ret (k:=λXD=>(Lp.out XD)) j8 λ_=>rfl)
 (SF.uF (hd:=(λ(SM:PV)=>([ap (.val cK),ap (.val W4),ap (.kq (ki jC)),ap (.val fP),ap (.val cp),ap (.val (.cl ko)),ap (.val (.cl bC)),ap (.val gL),ap (.val eF),ap (.val SM),ap (.val lV),bn,bn,bn,bn,bn]:bc))) (s0:=SN) (inj:=Lp.out) AH rfl (bR rfl (uB (lC oZ hr (av 4 (av 8 ai))))) (.refl _) (dX 11 nd) (λ_=>trivial) (λSM p0=>
 (SF.uF (hd:=(λ(SK:PV)=>([ap (.val cK),ap (.val W4),ap (.kq (ki jC)),ap (.val fP),ap (.val cp),ap (.val (.cl ko)),ap (.val (.cl bC)),ap (.val gL),ap (.val eF),ap (.val SK),ap (.val lV),ap (.val p0),bn,bn,bn,bn]:bc))) (s0:=SM) (inj:=Lp.out) AH rfl (gB rfl q.range (cD rfl rfl q.len (ae 4))) (.refl _) (dX 12 nd) (λ_=>trivial) (λSK vh=>
 (SF.uF (hd:=(λ(Ut:PV)=>([ap (.val cK),ap (.val W4),ap (.kq (ki jC)),ap (.val fP),ap (.val cp),ap (.val (.cl ko)),ap (.val (.cl bC)),ap (.val gL),ap (.val eF),ap (.val Ut),ap (.val lV),ap (.val p0),ap (.val vh),bn,bn,bn]:bc))) (s0:=SK) (inj:=Lp.out) AH rfl (bR rfl (bI (aK (n:=3) (aj dQ (aj dQ (aj dQ ai))) rfl))) (.refl _) (dX 13 nd) (λ_=>trivial) (λUt Jl=>
 (sv 14 nd (aK (n:=4) (aj (aK (n:=1) (av 12 ai) rfl) (av 13 (av 10 (av 11 ai)))) rfl) λFG=>
 (sv 15 nd (eC y9 hr (av 4 (aj (aK (n:=2) (av 7 (av 8 ai)) rfl) (av 14 ai)))) λpT=>
 (SF.yZ (ph.t (jJ (dA (bH rfl (cu rfl .bool rfl q.isinstance (ae 15) rfl q.bool boot_bool) (λ_=>rfl))) (gI (cn (yV rfl (aP hr)) (ae 15) (eC lu hr (av 4 (aj (aK (n:=2) (av 7 (av 8 ai)) rfl) (av 14 ai))))))))
 (SF.ret (k:=λx67=>(Lp.out x67)) j8 λ_=>rfl)
 (sv 9 nd (bT rfl (ae 9) (w4 rfl q.int (ae 15))) λIH=>
 (SF.eN rfl (.m 57344))))))) λUt=>
 (SF.eN rfl (.m 4096)))) λSK=>
 (SF.eN rfl (.m 2048)))) λSM=>
 (SF.eN rfl (.m 1024))))) λSN=>
 (SF.W5 (ph.t (jK (cn (dP rfl (aP hr)) (ae 9) ak) (gj (cn uz (cD rfl rfl q.len (ae 6)) ak))))
 (SF.ret (k:=λx75=>(Lp.out x75)) j8 λ_=>rfl)
 (SF.eN rfl (.m 1022)))))))))))) λs6=>
 (SF.bK j8 λ_=>rfl))
end
def all_d{K:Ab}(X:K.In h)(G:h.Ns ga mg)(Hj:DX K "is_whole" (top 1))(Oi:DX K "is_row" (top 2))(KL:DX K "is_word" (top 6))(Hk:DX K "is_grown" (top 7))(KN:DX K "is_tree" (top 8))(Hg:DX K "parts_of" (top 9))(RX:DX K "nodes" (top 10))(Ol:DX K "halves" (top 11))(Hn:DX K "ahead_of" (top 12))(He:DX K "under_at" (top 17))(zv:DX K "beside_at" (top 18))(KQ:DX K "is_home" (top 19))(KJ:DX K "name_of" (top 20))(Hi:DX K "lines_up" (top 21))(w6:DX K "apart_from" (top 22))(Om:DX K "ground" (top 23))(Hm:DX K "comes_in" (top 29))(KU:DX K "done_at" (top 30))(Oj:DX K "ins_of" (top 31))(zr:DX K "split_ins" (top 32))(Hh:DX K "over_ins" (top 33))(Hl:DX K "deeds_at" (top 34))(KO:DX K "is_stay" (top 35))(KP:DX K "is_path" (top 36))(zu:DX K "is_formed" (top 37))(pM:DX K "ways_of_nodes" (top 38))(KR:DX K "is_done" (top 39))(Oh:DX K "is_way" (top 40))(tQ:DX K "split_dates" (top 42))(Hf:DX K "standing" (top 43))(KI:DX K "stay_of" (top 44))(RY:DX K "dated" (top 45))(Ho:DX K "_law_pot" (top 47))(zx:DX K "_law_take" (top 48))(zy:DX K "_law_pick" (top 49))(w9:DX K "_law_words" (top 50))(zw:DX K "_law_tree" (top 51))(xa:DX K "_law_nodes" (top 52))(xf:DX K "_law_dates" (top 53))(nu:DX K "_law_any_ground" (top 54))(xc:DX K "_law_deeds" (top 55))(rY:DX K "_law_is_stay" (top 56))(rZ:DX K "_law_is_path" (top 57))(xb:DX K "_law_looks" (top 58))(tR:DX K "_law_is_way" (top 59))(zA:DX K "_law_ends" (top 60))(b9:AD K ga "LONGEST_WORD"=ap (ap (.int 8 jL)))(fi:AD K ga "LETTERS"=ap (ap (.str "abcdefghijklmnopqrstuvwxyz" uf)))(nC:AD K ga "UNDER"=ap (ap (.int 2 HY)))(kh:AD K ga "BESIDE"=ap (ap (.int 3 xU)))(sE:AD K ga "NAME"=ap (ap (.int 0 LY)))(nG:AD K ga "FOUND"=ap (ap (.str "found" H0)))(nF:AD K ga "SPLIT"=ap (ap (.str "split" HZ)))(sD:AD K ga "OVER"=ap (ap (.str "over" LX)))(iq:AD K ga "DOUBLED"=ap (ap (.str "doubled" ug)))(va:AD K ga "isinstance"=ap bn)(T5:AD K ga "bool"=ap bn)(XA:AD K ga "int"=ap bn)(Xz:AD K ga "len"=ap bn)(Pg:AD K ga "tuple"=ap bn)(Xw:AD K ga "str"=ap bn)(XB:AD K ga "all"=ap bn)(T3:AD K ga "list"=ap bn)(zZ:AD K ga "reversed"=ap bn)(xK:AD K ga "enumerate"=ap bn)(Ph:AD K ga "range"=ap bn)(LG:AD K ga "sorted"=ap bn)(Xv:AD K ga "zip"=ap bn)(T4:AD K ga "dict"=ap bn)(XC:AD K ga "abs"=ap bn)(Xx:AD K ga "min"=ap bn)(Xy:AD K ga "max"=ap bn):aai K mg TQ:=by
 constructor
 rintro v rfl rfl D;have q:NB v:=⟨AI X G va,AI X G T5,AI X G XA,AI X G Xz,AI X G Pg,AI X G Xw,AI X G XB,AI X G T3,AI X G zZ,AI X G xK,AI X G Ph,AI X G LG,AI X G Xv,AI X G T4,AI X G XC,AI X G Xx,AI X G Xy⟩;replace b9:=BF X G b9;replace fi:=BF X G fi;replace nC:=BF X G nC;replace kh:=BF X G kh;replace sE:=BF X G sE;replace nG:=BF X G nG;replace nF:=BF X G nF;replace sD:=BF X G sD;replace iq:=BF X G iq;obtain⟨fj⟩:=KL.mk2 (d:=ik) X G;refine Hj.go (d:=ma) X G (λD=>GG D q) λHH=>?_;refine Oi.go (d:=nA) X G (λD=>Nm D q) λzN=>?_;have Lr:=fj.cA (uy fj q b9 fi);have Xt:=fj.c (uy fj q b9 fi);obtain⟨sP⟩:=Hk.mk2 (d:=(md fj.f)) X G;have HI:=sP.c (GH sP Lr zN);refine KN.go (d:=oM) X G (λD=>J8 D fj.at' HI) λLi=>?_;refine Hg.go (d:=lX) X G (λD=>GB D q) λHE=>?_;refine RX.go (d:=kN) X G (λD=>Rb D q HE) λqg=>?_;refine Ol.go (d:=ip) X G (λD=>Np D q) λnM=>?_;refine Hn.go (d:=jh) X G (λD=>GK D q qg nM) λsI=>?_;refine He.go (d:=fW) X G (λD=>Gz D nC) λmq=>?_;refine zv.go (d:=kd) X G (λD=>yQ D kh) λzP=>?_;refine KQ.go (d:=oQ) X G (λD=>Kb D sE mq) λLl=>?_;refine KJ.go (d:=kO) X G (λD=>J7 D q) λuX=>?_;refine Hi.go (d:=lZ) X G (λD=>GD D q sI) λHG=>?_;refine w6.go (d:=jg) X G (λD=>wo D q) λxw=>?_;refine Om.go (d:=su) X G (λD=>Nq D q qg HG uX nM xw) λOY=>?_;refine Hm.go (d:=mf) X G (λD=>GJ D) λHK=>?_;refine KU.go (d:=oT) X G (λD=>Ke D) λLn=>?_;refine Oj.go (d:=so) X G (λD=>Nn D q HK) λOX=>?_;refine zr.go (d:=ka) X G (λD=>yO D q mq) λzM=>?_;refine Hh.go (d:=lY) X G (λD=>GC D zP) λHF=>?_;refine Hl.go (d:=me) X G (λD=>GI D q nG nF sD iq Ll zM HF) λHJ=>?_;refine KO.go (d:=oO) X G (λD=>J9 D q HH) λLj=>?_;refine KP.go (d:=oP) X G (λD=>Ka D q Lj mq) λLk=>?_;refine zu.go (d:=kc) X G (λD=>yP D q Lk zN) λzO=>?_;refine pM.go (d:=eQ) X G (λD=>pF D q zO nM) λpP=>?_;refine KR.go (d:=oS) X G (λD=>Kc D OX HJ Ln) λLm=>?_;refine Oh.go (d:=si) X G (λD=>Nl D q Li qg pP Lm) λOW=>?_;refine tQ.go (d:=gQ) X G (λD=>tH D q) λtY=>?_;refine Hf.go (d:=lW) X G (λD=>GA D q sI) λHD=>?_;refine KI.go (d:=oK) X G (λD=>J6 D q nM uX) λLh=>?_;refine RY.go (d:=xj) X G (λD=>Rc D q qg tY HD Lh) λSk=>?_;refine Ho.go (d:=mh) X G (λD=>GL D q) λHL=>?_;refine zx.go (d:=cf) X G (λD=>yS D) λdw=>?_;refine zy.go (d:=gF) X G (λD=>yT D q dw) λpe=>?_;refine w9.go (d:=jk) X G (λD=>wq D q dw) λxx=>?_;refine zw.go (d:=ke) X G (λD=>yR D q dw) λzQ=>?_;refine xa.go (d:=dH) X G (λD=>mW D q 12) λju=>?_;refine xf.go (d:=jn) X G (λD=>wz D q pe dw) λxB=>?_;refine nu.go (d:=dI) X G (λD=>mY D dw OY Sk xB ju) λnN=>?_;refine xc.go (d:=jm) X G (λD=>wu D q) λxA=>?_;refine rY.go (d:=fX) X G (λD=>q8 D q) λsJ=>?_;refine rZ.go (d:=fY) X G (λD=>q9 D q sJ) λsL=>?_;refine xb.go (d:=jl) X G (λD=>mX D q sL xA 12) λxy=>?_;refine tR.go (d:=gR) X G (λD=>tI D q ju xy) λtZ=>?_;refine zA.go (d:=kf) X G (λD=>yU D q) λzR=>?_;exact YX D q HL zQ xx dw nN ju pe zR OW tZ
def walk{l:ED}{q:sB}{d:DefRec}{K:Params->Ab}(hn:l.most=ap 63)(Zp:d.params.defaults=[])
  (hY:∀(w:ul) (h:mo),YP w h->(K w.params).In h)
  (F:∀(w:ul) (mg:Str->Option ce) (fa:cr) (h:mo),(K w.params).In h->h.Ns ga mg->mg d.name=ap (.ref fa)->
   ∃fd:EQ,(∀(s:db) (u:ce),BindsTo s fd ⟨[u],[]⟩ [("_law_script",u)])/\∀base:mo,(K w.params).In base->base.Ns ga mg->gc l.prog w (K w.params) mg base sS 16 fa fd ["_law_script"] (Ig (K w.params))) :
  PySem.W.WalkO q Ò XP YP l.row.toRowW d [] (λf vs=>FA f vs):=
 L2.Pp (n:=63) (k:=16) (x:="_law_script") (CX:=λ_=>sS) (sp:=λw=>Ig (K w.params)) hn ⋯ Zp ⟨rfl,by decide,by decide,rfl⟩ hY F (λ_ _ a ns hl hO hS=>⟨λ_ h=>absurd h Bk,a,ns,rfl,RF hO hS,hl,λ_=>rfl⟩) λ_ _ _ _ _ z=>z
end My
end
open PySem PySem.W PyProof.Rows
structure PySem.W.Fast:Prop where(tw4149278222877023295 tw16315875567148672125 tw2926770014719985562 tw18203330045619541304 tw7669353406003865481 tw10542093240728227043 tw1620551534785588522 tw15276340815397745035 tw2305275062720204761 tw3401222893800976725 tw3295824834053619710 tw17089252956422459043 tw6870418635781503166 tw4753929691918707625 tw7759142731445378161 tw2152428969920744293 tw16885144065453067779 tw18272051302651543336 tw7389441461608553163 tw10872562248465346157 tw10909601871974999503 tw6065111535300390056 tw10715297031398944187 tw6133315956623604481 tw2007278817768617856 tw15800644926853759584 tw14422357834771515818 tw10303827502265632731 tw6141289564337211861 tw5234920611755076532 tw8015308160413964728 tw13210707441419034723 tw7353509589698719550 tw15377702101089719116 tw10794412600203031076 tw1730807033992558752 tw8126553857512195112 tw12617961805285963774 tw13113894311746622461 tw10906104846244467806 tw6312194909646029997 tw257557199389425424 tw13748789522042540504 tw7238550323704476675 tw5748726934575552482 tw8086870740310787575 tw12208988299968737540 tw15816975117307450410 tw2108954296229556004 tw4695397493748068490 tw14095022078650568312 tw16088726961463967576 tw18096928069464379724 tw17499171900432059051 tw37123357804503739 tw14739714086436145998 tw1230582155147623911 tw2350927076010502561 tw13732186250847539358 tw17676921222921134978 tw11563740921976749290 tw14030726701307733413 tw14356387210828182239 tw8462544890382707443 tw5664105513551648759 tw1557210730649864848 tw12824623420608292287 tw17852631358130057034 tw9430280456176773047 tw435914445434145635 tw18243112037638243415 tw13079699404175559979 tw13514438752331648577 tw4015810657358041673 tw8933236371169113011 tw195177468077828846 tw17863409887524449430 tw14046952503958257713 tw7777446644361646181 tw973246522034582125 tw4702053181166420623 tw12938458758612854732 tw1478967274204653321 tw9124914482161677189 tw17808921501144227044 tw505610935397816812 tw725445330579240788 tw8002233716372282378 tw11076800646181489759 tw7422381697421062599 tw3634294189573696925 tw8520587067577215842 tw14330087404950891933 tw4932771004075737864 tw16195425294222545591 tw8984153452104302761 tw16289117821616549451 tw17162875904057775447 tw6995125858861236519 tw15170884919006725080 tw11456146385580608173 tw92234827444173593 tw302366340398619562 tw13641447186700034409 tw5934565277645669507 tw5768558468297572020 tw6527822026506925915 tw12551795868195895606 tw11403839664986663670 tw12171793863555821819 tw13598578831570543652 tw8206660515428866370 tw3623247728178866056 tw11099721949228608627 tw15287596022740758185 tw11302741370283170110 tw4683327314912682457 tw4816029194433853481 tw10072844293047694969 tw12101604324931966267 tw18389980489769682948 tw14570610122584176446 tw17395138757304888728 tw11088303375845198604 tw12592188233251009330 tw9765257185592687010 tw3945459198811251085 tw8558329236718768996 tw2361482163198071215 tw10958436807965423780 tw5131721689832490037 tw2752984850031985448 tw9681213992228626183 tw10061187502698795563 tw8152819948142906556 tw17664641145301545086 tw6255930504140475173 tw4461317437553411117 tw4706056698671767986 tw11373230613346514726 tw4826942397240040627 tw13881022713436922526 tw7284942242207950196 tw8335778998469978873 tw9908467817530393427 tw12095202352919569868 tw736204418562104996 tw15057966804631217354 tw18064732743573230212 tw9980124818410652757 tw7775368674648502536 tw16635118857739697553 tw13552024373764387162 tw13298906974441451107 tw7517780805418181258 tw5687870377244147327 tw9491767202357637771 tw3064613433867256457 tw14946374438352178736 tw12978619660839142161 tw2091414649350559692 tw11488079484181150482 tw15747114316980073139 tw4105219313541233922 tw2467396811136314976 tw13545790314920925684 tw11565230618197295045 tw14480476169640159640 tw9511447201178009744 tw4078751319033257144 tw7679779973749290126 tw6259690044960610388 tw521442729527872669 tw17771000830554639735 tw7796768136575614296 tw18438017863603687919 tw10372635636246065500 tw656299593545264112 tw12337642203074860052 tw9058550010262356783 tw11022719763820612156 tw10050247642140315466 tw2972693961750791720 tw18395916361362416191 tw14856754603861957237 tw1974401771745728100 tw12400792207694035219 tw11388506371130646366 tw16180003202812200550 tw16303734160582707366 tw1386291244476965809 tw2074423182233532159 tw118224975429187239 tw6032859119570825135 tw7182985358644040505 tw8607582210930647113 tw14209542137849808122 tw6118625997888017532 tw16291240078874647825 tw10508761447430643378 tw6961157199170903614 tw9248015138224633994 tw11072529020995344266 tw5059119115184133019 tw12676602167698416330 tw3223821377310678154 tw174246958068097231 tw18348341545278287990 tw11967755183434971306 tw2084839250947871603 tw15245802888396826259 tw10430267770343914376 tw585312211422984848 tw7558718269754399698 tw5313997143669039690 tw12416204217150722148 tw12984415656079927443 tw12804093676957997056 tw9165363104622227955 tw14128389426882084321 tw2093687679710554089 tw16890275684346177976 tw932109074320497489 tw10606750189014024234 tw4241623830251781115 tw4627018533673863540 tw7275550483493599475 tw15639489838499547500 tw7067013107860549117 tw16196754501693490687 tw5761571720244107435 tw1497428152555206898 tw4235214896936205750 tw6262244028746809083 tw2399920461059699932 tw9306249131633247402 tw16623817162940313619 tw9196484828810349317 tw10906826913423990001 tw9180952272074629860 tw5602958727905723451 tw17305389378038681204 tw9121932033614373176 tw7119098236873638373 tw4714816686190957227 tw9406647833875748284 tw9062043097480224194 tw277597626117357759 tw16656478416582047779 tw4022689520604538571 tw5082651639827443397 tw945317625819041817 tw15092788994308158855 tw8761996922115516766 tw11516071229247767633 tw9609617326360637141 tw14820359831363255554 tw1267728982089079979 tw593209364985405871 tw6234993338952541622 tw3744736431795923211 tw5126746205532561167 tw8512556459394048078 tw2789919639084750215 tw15184569819833374968 tw18405974253669201316 tw3480108010090496553 tw5336362334364652739:True)
def PySem.W.Fast.tw6199710505287193937:=PySem.Challenge.pw_treewithin_k21_little_ways_put_together
theorem PySem.W.Fast.te6199710505287193937:PySem.Challenge.pw_treewithin_k21_little_ways_put_together=PySem.W.Fast.tw6199710505287193937:=rfl
set_option maxRecDepth 100000 in
set_option maxHeartbeats 0 in
theorem PySem.Challenge.cw_treewithin_k21_little_ways_put_together_holds : PySem.Challenge.rw_treewithin_k21_little_ways_put_together.Holds := by
 w_on;o_law;k_head;(case hw=>w_witness2)
 k_fill
 refine My.walk (l:=PySem.Challenge.rw_treewithin_k21_little_ways_put_together) rfl rfl (fun w h Y=>PySem.W.kIn_of Y) ?F
 case F=>
  intro w mg fa h KX G hmg;refine' FL.mkAll (st:=My.top 61) (k:=16) My.law21_ok KX G hmg ?e (fun _ _ _ _ _ _=>FL.usN fun _=>rfl) (My.all_d KX G ..)
  all_goals try first | (refine' FL.dx ?a ?l ?c ?k;(case a=>k_is);(case l=>k_is);(case c=>k_is);(case k=>k_is)) | k_is
#print axioms PySem.Challenge.cw_treewithin_k21_little_ways_put_together_holds
